import PyProof.Rows.All
import Wide.All
import OpenK.AllK
import Wide.FinOn
import HandS.ForMost
import HandS.EndTab
import HandS.Wide
import HandS.More
import HandS.Defaults
import HandS.Conv
import HandS.ForExc
import KE.KExcInit
import KE.KOpsOwn
import HandS.IsInst
import PyProof.InstNe
import KE.KExcIs
import HandS.RaiseMore
import HandS.Style
import HandS.MakeKwOnly
import HandS.NoneIn
import HandS.Small
import PySem.Challenge.RW_stepwhere_k01_contexts_told
set_option Elab.async false
set_option maxRecDepth 100000
/-! The drawing of numbers: _law_mixed, _law_begin, _law_draw. -/
namespace SW
open PySem PySem.Spec PyProof.Rows L2
def top (i : Nat) : Stmt := PySem.Challenge.pw_stepwhere_k01_contexts_told.main.body.getD i (.Pass ⟨0, 0, 0, 0⟩)
abbrev sMixed : Stmt := top 5
abbrev sBegin : Stmt := top 6
abbrev sDraw : Stmt := top 7
/-- where the drawing keeps its things: the dict, the list of what is left, the cells -/
structure RA where
  s : Addr
  l : Addr
  c : Addr
/-- none of the three -/
structure Off (a : RA) (p : Addr) : Prop where
  s : p ≠ a.s
  l : p ≠ a.l
  c : p ≠ a.c
/-- what stays but for the two objects that a draw writes -/
def But (a : RA) (H H' : Hp) : Prop := ∀ b o, H b = some o → b ≠ a.s → b ≠ a.l → H' b = some o
theorem But.refl (a : RA) (H : Hp) : But a H H := fun _ _ e _ _ => e
theorem But.trans {a : RA} {H H1 H2 : Hp} (x : But a H H1) (y : But a H1 H2) : But a H H2 := fun c o e h1 h2 => y c o (x c o e h1 h2) h1 h2
theorem Same.but {a : RA} {H H' : Hp} (x : Same H H') : But a H H' := fun c o e _ _ => x c o e
theorem But.at {a : RA} {H H' : Hp} {p : Addr} {o : HO} (x : But a H H') (f : Off a p) (e : H p = some o) : H' p = some o := x p o e f.s f.l
theorem But.free {a : RA} {H H' : Hp} {p : Addr} (x : But a H H') (f : Off a p) (h : H' p = none) : H p = none := by
  cases e : H p with
  | none => rfl
  | some o =>
    rw [x.at f e] at h
    cases h
/-- an object that was not there is written -/
theorem But.new {a : RA} {H H' : Hp} {p : Addr} {o : HO} (x : But a H H') (h : H p = none) : But a H (upd H' p o) := fun b u e h1 h2 => by
  rw [upd_ne (ne_of_none e h)]
  exact x b u e h1 h2
theorem same_new {H : Hp} {p : Addr} {o : HO} (h : H p = none) : Same H (upd H p o) := fun b u e => by
  rw [upd_ne (ne_of_none e h)]
  exact e
theorem Same.new {H H' : Hp} {p : Addr} {o : HO} (x : Same H H') (h : H p = none) : Same H (upd H' p o) := fun b u e => by
  rw [upd_ne (ne_of_none e h)]
  exact x b u e
/-- a comprehension without an if -/
theorem tyes {σ : L2.St} {H : Hp} {f g : Hp → Prop} (h : f H) : tYes σ H fun b H3 => if b = true then f H3 else g H3 := by
  show (if true = true then f H else g H)
  exact iteT h
theorem int_at {ns : List Int} {i : Nat} {y : V} (h : (ns.map V.int)[i]? = some y) : ∃ z, ns[i]? = some z ∧ y = V.int z := by
  rw [List.getElem?_map] at h
  cases e : ns[i]? with
  | none =>
    rw [e] at h
    cases h
  | some z =>
    rw [e] at h
    exact ⟨z, rfl, (Option.some.inj h).symm⟩
/-- the pairs of the dict of draws -/
def rk (c l : Addr) (n : Nat) : List (Key × V) := [(.inr "cells", .ref c), (.inr "lefts", .ref l), (.inr "at", .int (n : Int)), (.inr "room", .int 0)]
structure Rnd (H : Hp) (a : RA) (n : Nat) : Prop where
  ex : ∃ (ns ls : List Int), H a.s = some (.dK (rk a.c a.l n)) ∧ H a.c = some (.lst (ns.map V.int)) ∧ H a.l = some (.lst (ls.map V.int)) ∧ ls.length = ns.length ∧ 0 < ns.length ∧ ns.length ≤ 63 ∧ (∀ x ∈ ls, 0 ≤ x) ∧ a.c ≠ a.s ∧ a.c ≠ a.l
theorem Rnd.same {H H' : Hp} {a : RA} {n : Nat} (R : Rnd H a n) (e : Same H H') : Rnd H' a n := by
  obtain ⟨ns, ls, h1, h2, h3, r⟩ := R
  exact ⟨ns, ls, e _ _ h1, e _ _ h2, e _ _ h3, r⟩
/-- an object beside is written -/
theorem Rnd.upd {H : Hp} {a : RA} {n : Nat} {p : Addr} {o : HO} (R : Rnd H a n) (f : Off a p) : Rnd (upd H p o) a n := by
  obtain ⟨ns, ls, h1, h2, h3, r⟩ := R
  exact ⟨ns, ls, by rw [upd_ne f.s.symm]; exact h1, by rw [upd_ne f.c.symm]; exact h2, by rw [upd_ne f.l.symm]; exact h3, r⟩
/-- a new object is none of the three -/
theorem Rnd.off {H : Hp} {a : RA} {p : Addr} {n : Nat} (R : Rnd H a n) (h : H p = none) : Off a p := by
  obtain ⟨ns, ls, h1, h2, h3, r⟩ := R
  exact ⟨(ne_of_none h1 h).symm, (ne_of_none h3 h).symm, (ne_of_none h2 h).symm⟩
/-- the numbers 48271 .. are mixed: some number below 2147483629 -/
def spMixed : Sp := fun vs H Q _ => ∃ (c k : Int), vs = [.int c, .int k] ∧ 0 ≤ k ∧ k ≤ 1000000 ∧ ∀ r : Int, 0 ≤ r → r < 2147483629 → Q (.int r) H
def spBegin (K : PySem.W.Frag) : Sp := fun vs H Q _ => ∃ (x : Addr) (ns : List Int), vs = [.ref x] ∧ SqL K H x (ns.map V.int) ∧ ns.length ≤ 63 ∧
  ∀ (a : RA) (H' : Hp), Same H H' → H a.s = none → H a.l = none → Rnd H' a 0 → Q (.ref a.s) H'
/-- a draw: a number below many; the dict and the list of what is left are written -/
def spDraw : Sp := fun vs H Q _ => ∃ (a : RA) (n : Nat) (many : Int), vs = [.ref a.s, .int many] ∧ Rnd H a n ∧ n + 60 ≤ 1000000 ∧ 0 < many ∧ many.natAbs < 2 ^ 200 ∧
  ∀ (r : Int) (H' : Hp), 0 ≤ r → r < many → Rnd H' a (n + 1) → But a H H' → Q (.int r) H'
section
variable {P : Program} {w : World} {K : PySem.W.Frag} {mg : Str → Option Value} {base : Heap}
theorem scMixed : FnScope ["cell", "k"] ["cell", "k"] (defScope sMixed) := ⟨rfl, rfl, rfl, by decide +kernel, rfl, by decide +kernel, by decide +kernel⟩
theorem ok_mixed {f : Addr} {fd : FuncData} (F : Fun K "_law_mixed" "_law_mixed" sMixed f fd) (mI : mg "int" = none) : FnOk P w K mg base CX0 1 f fd ["cell", "k"] spMixed := by
  refine F.ok scMixed (fun vs H Q E h => ?_) (fun cdv A outer s H vs Q E hr h => ?_)
  · obtain ⟨c, k, rfl, _⟩ := h
    rfl
  · obtain ⟨c, k, rfl, h0, h1, q⟩ := h
    refine ⟨_, pss_cons (ps_set (i := 0) scMixed.nd rfl (Or.inl rfl) (pe_op op_mod (pe_callTy call_int1 (by rfl) mI boot_int (pa_cons (pv 0) pa_nil)) pe_int))
      (pss_one (ps_ret (pe_op op_mod (pe_op op_mul (pe_op op_mod (pe_op op_add (pe_op op_add
        (pe_op op_mul (pv 0) (pe_op op_add pe_int (pe_op op_mul (pe_op op_mul pe_int (pv 1)) (pv 1)))) (pe_op op_mul pe_int (pv 1))) pe_int) pe_int) pe_int) pe_int))), ?_⟩
    refine ⟨_, rfl, .inl ⟨c, rfl, _, _, rfl, rfl, (by show (0 : Int) < 2147483647; decide), ?_⟩⟩
    have b0 : 0 ≤ c % 2147483647 := Int.emod_nonneg _ (by decide)
    have b1 : c % 2147483647 < 2147483647 := Int.emod_lt_of_pos _ (by decide)
    refine ⟨_, rfl, _, rfl, _, _, rfl, rfl, .inl ⟨by decide, by decide⟩, _, rfl, _, _, rfl, rfl, .inl ⟨by omega, by omega⟩, _, _, rfl, rfl, _, _, rfl, rfl, .inl ⟨by omega, by omega⟩, ?_⟩
    refine ⟨_, rfl, _, _, rfl, rfl, .inl ⟨by decide, by decide⟩, _, _, rfl, rfl, _, _, rfl, rfl, _, _, rfl, rfl, (by show (0 : Int) < 2147483647; decide), _, _, rfl, rfl, .inr ⟨by decide, by decide⟩, _, _, rfl, rfl, (by show (0 : Int) < 2147483629; decide), ?_⟩
    exact q _ (Int.emod_nonneg _ (by decide)) (Int.emod_lt_of_pos _ (by decide))
/-! _law_begin -/
theorem scBegin : FnScope ["script", "cells", "cell"] ["script"] (defScope sBegin) := ⟨rfl, rfl, rfl, by decide +kernel, rfl, by decide +kernel, by decide +kernel⟩
/-- the lefts of the cells -/
def leftOf (c : Int) : Int := if 1000000000000000000 ≤ c then c else 0
theorem leftOf_nn (c : Int) : 0 ≤ leftOf c := by unfold leftOf; split <;> omega
theorem canLay_ints : ∀ ns : List Int, PyData.canLayAll0 (ns.map PyData.int) = true
  | [] => rfl
  | n :: r => by rw [List.map_cons]; simp only [PyData.canLayAll0, PyData.canLay0, canLay_ints r, Bool.and_self]
theorem depth_ints : ∀ ns : List Int, PyData.depthAll (ns.map PyData.int) = 0
  | [] => rfl
  | n :: r => by rw [List.map_cons]; simp only [PyData.depthAll, PyData.depth, depth_ints r, Nat.max_self]
theorem shaped_ints (ns : List Int) : SeqAt.shaped (.list (ns.map PyData.int)) = true := by
  unfold SeqAt.shaped
  simp only [PyData.canLay0, PyData.depth, canLay_ints, depth_ints]
  decide
theorem dpAll_ints {K : PySem.W.Frag} {H : Hp} : ∀ ns : List Int, DpAll K H (ns.map V.int) (ns.map PyData.int)
  | [] => .nil
  | n :: r => .cons (.int n) (dpAll_ints r)
end
end SW

set_option Elab.async false
set_option maxRecDepth 100000
namespace SW
open PySem PySem.Spec PyProof.Rows L2
section
variable {P : Program} {w : World} {K : PySem.W.Frag} {mg : Str → Option Value} {base : Heap}
theorem eqv_ints_nil : ∀ ns : List Int, (!PyData.eqv (.list (ns.map PyData.int)) (.list [])) = decide (ns ≠ [])
  | [] => by simp [PyData.eqv, PyData.eqvAll]
  | n :: r => by simp [PyData.eqv, PyData.eqvAll]
theorem ok_begin {f : Addr} {fd : FuncData} (F : Fun K "_law_begin" "_law_begin" sBegin f fd) (mL : mg "list" = none) : FnOk P w K mg base CX0 1 f fd ["script"] (spBegin K) := by
  refine F.ok scBegin (fun vs H Q E h => ?_) (fun cdv A outer s H vs Q E hr h => ?_)
  · obtain ⟨a, ns, rfl, _⟩ := h
    rfl
  · obtain ⟨a, ns, rfl, hS, hl, k⟩ := h
    have hu := hr.units
    refine ⟨_, C8.pss_cut (ps_set (i := 1) scBegin.nd rfl (Or.inl rfl) (pe_ifExp (pt_cmpR (op_neD hu) (pv 0) (pe_lst pa_nil) (nomark _))
        (pe_callTy call_list_of (by rfl) mL boot_list (pa_cons (pv 0) pa_nil)) (pe_lst (pa_cons pe_int pa_nil))))
      (pss_one (ps_ret (pe_disp (pps_cons pe_str (pv 1) (pps_cons pe_str
        (pe_lc (own := [("cell", 2)]) (g := gName 2) (tt := tYes) rfl scBegin.nd (pi_list (pv 1)) (blkOk_by (N := ["script", "cells", "cell"]) (sc := defScope sBegin) (by decide +kernel))
          (fun _ _ _ _ _ => pg_name (i := 2) scBegin.nd rfl (Or.inl rfl)) (fun _ _ _ _ _ => pts_nil)
          (fun _ _ _ _ _ => pe_ifExp (pt_cmpR op_ge (pv 2) (pe_op op_pow pe_int pe_int) (nomark _)) (pv 2) pe_int))
        (pps_cons pe_str pe_int (pps_cons pe_str pe_int pps_nil)))) rfl rfl (by simp) (by decide)))), ?_⟩
    refine ⟨fun σ H1 => ∃ (c : Addr) (ms : List Int), σ = [some (.ref a), some (.ref c), none] ∧ Same H H1 ∧ H1 c = some (.lst (ms.map V.int)) ∧ 0 < ms.length ∧ ms.length ≤ 63, ?_, ?_⟩
    · refine ⟨_, rfl, Nat.zero_le _, fun p hp => ?_⟩
      have s1 : Same H (upd H p (.lst [])) := fun b o e => by
        rw [upd_ne (ne_of_none e hp)]
        exact e
      refine ⟨.list (ns.map .int), .list [], .lst (s1.seq hS) (dpAll_ints ns), .lst (SqL.of upd_same) .nil, shaped_ints ns, shaped_ints [], _, rfl, ?_⟩
      rw [eqv_ints_nil]
      refine ite2 (fun h => ?_) (fun h => ?_)
      · have hn : ns ≠ [] := of_decide_eq_true h
        refine ⟨_, rfl, _, _, rfl, .inl (s1.seq hS), fun l hl' => ?_⟩
        refine ⟨l, ns, rfl, fun b o e => ?_, upd_same, List.length_pos_iff.mpr hn, hl⟩
        rw [upd_ne (ne_of_none (s1 b o e) hl')]
        exact s1 b o e
      · refine ⟨(by show 1 ≤ sizeLine; decide), fun l hl' => ?_⟩
        refine ⟨l, [0], rfl, fun b o e => ?_, upd_same, (by decide), (by decide)⟩
        rw [upd_ne (ne_of_none (s1 b o e) hl')]
        exact s1 b o e
    · rintro σ H1 ⟨c, ms, rfl, s1, hc, h0, h1⟩
      intro p hp
      have s2 : Same H1 (upd H1 p (.dK [])) := fun b o e => by
        rw [upd_ne (ne_of_none e hp)]
        exact e
      refine ⟨_, rfl, ?_⟩
      refine ⟨_, rfl, c, rfl, ⟨_, s2.seq (SqL.of hc)⟩, fun D hD => ?_⟩
      have npD : p ≠ D := ne_of_none upd_same hD
      have hD1 : H1 D = none := by
        have z := hD
        rw [upd_ne npD.symm] at z
        exact z
      refine lc_list (K := K) (a := c) (xs := ms.map V.int) (fun i H2 => H2 p = some (.dK []) ∧ Same H1 H2 ∧ H2 D = some (.lst ((ms.take i).map fun z => V.int (leftOf z))))
        ⟨by rw [upd_ne npD, upd_same], fun b o e => by rw [upd_ne (ne_of_none e hD1)]; exact s2 b o e, upd_same⟩ (fun i H2 _ ⟨_, s3, _⟩ => s3.seq (SqL.of hc)) ?_ ?_
      · rintro i y H2 hi ⟨e1, s3, e2⟩
        obtain ⟨z, hz, rfl⟩ := int_at hi
        have hil : i < ms.length := (List.getElem?_eq_some_iff.mp hz).1
        have more : ∀ v : V, v = V.int (leftOf z) → (upd H2 D (.lst ((ms.take i).map (fun z => V.int (leftOf z)) ++ [v]))) D = some (.lst ((ms.take (i + 1)).map fun z => V.int (leftOf z))) := fun v ev => by
          rw [upd_same, List.take_add_one, hz, List.map_append, ev]
          all_goals rfl
        have keep : ∀ o, Same H1 (upd H2 D o) := fun o b u e => by
          rw [upd_ne (ne_of_none e hD1)]
          exact s3 b u e
        have kp : ∀ o, (upd H2 D o) p = some (.dK []) := fun o => by
          rw [upd_ne npD]
          exact e1
        have lt : ((ms.take i).map fun z => V.int (leftOf z)).length < sizeLine := small1000 (by rw [List.length_map, List.length_take]; omega)
        refine ⟨rfl, ?_⟩
        refine tyes ?_
        refine ⟨_, rfl, _, _, rfl, rfl, ⟨by decide, by decide, by decide⟩, _, _, rfl, rfl, _, rfl, ?_⟩
        refine ite2 (fun h => ?_) (fun h => ?_)
        · have h' : (1000000000000000000 : Int) ≤ z := of_decide_eq_true h
          exact ⟨_, rfl, _, e2, lt, kp _, keep _, more _ (by unfold leftOf; rw [if_pos h'])⟩
        · have h' : ¬ (1000000000000000000 : Int) ≤ z := fun q => h (decide_eq_true q)
          exact ⟨_, e2, lt, kp _, keep _, more _ (by unfold leftOf; rw [if_neg h'])⟩
      · rintro H2 ⟨e1, s3, e2⟩
        rw [List.length_map, List.take_length] at e2
        refine ⟨e1, rk c D 0, rfl, (by show 4 ≤ 15; decide), ?_⟩
        have hp1 : H p = none := s1.free hp
        have hD0 : H D = none := s1.free hD1
        have sp : Same H1 (upd H2 p (.dK (mergeK [] (rk c D 0)))) := fun b o e => by
          rw [upd_ne (ne_of_none e hp)]
          exact s3 b o e
        refine k ⟨p, D, c⟩ _ (s1.trans sp) hp1 hD0 ⟨ms, ms.map leftOf, ?_, sp _ _ hc, ?_, by rw [List.length_map], h0, h1, fun x hx => ?_, ?_, ?_⟩
        · show (upd H2 p _) p = _
          rw [upd_same]
          all_goals rfl
        · show (upd H2 p _) D = _
          rw [upd_ne npD.symm, e2, List.map_map]
          all_goals rfl
        · obtain ⟨z, _, rfl⟩ := List.mem_map.mp hx
          exact leftOf_nn z
        · exact ne_of_none hc hp
        · exact ne_of_none hc hD1
end
end SW

set_option Elab.async false
set_option maxRecDepth 100000
namespace SW
open PySem PySem.Spec PyProof.Rows L2
theorem rk_cells (c l : Addr) (n : Nat) : valV (rk c l n) (.inr "cells") = some (.ref c) := by with_unfolding_all rfl
theorem rk_lefts (c l : Addr) (n : Nat) : valV (rk c l n) (.inr "lefts") = some (.ref l) := by with_unfolding_all rfl
theorem rk_at (c l : Addr) (n : Nat) : valV (rk c l n) (.inr "at") = some (.int (n : Int)) := by with_unfolding_all rfl
theorem rk_put (c l : Addr) (n : Nat) : putK (rk c l n) (.inr "at") (.int ((n : Int) + 1)) = rk c l (n + 1) := by
  have e : ((n + 1 : Nat) : Int) = (n : Int) + 1 := by omega
  unfold rk
  rw [e]
  with_unfolding_all rfl
section
variable {P : Program} {w : World} {K : PySem.W.Frag} {mg : Str → Option Value} {base : Heap}
theorem scDraw : FnScope ["state", "many", "at", "place", "left", "number"] ["state", "many"] (defScope sDraw) := ⟨rfl, rfl, rfl, by decide +kernel, rfl, by decide +kernel, by decide +kernel⟩
theorem ok_draw {f fM : Addr} {fd fdM : FuncData} (F : Fun K "_law_draw" "_law_draw" sDraw f fd) (GM : FnOk P w K mg base CX0 1 fM fdM ["cell", "k"] spMixed) (bM : Binds K fdM ["cell", "k"] []) (gM : mg "_law_mixed" = some (.ref fM)) (kM : PySem.W.keepIn K (.ref fM) = true)
    (mI : mg "int" = none) (mL : mg "len" = none) : FnOk P w K mg base CX0 2 f fd ["state", "many"] spDraw := by
  refine F.ok scDraw (fun vs H Q E h => ?_) (fun cdv A outer s H vs Q E hr h => ?_)
  · obtain ⟨a, n, many, rfl, _⟩ := h
    rfl
  · obtain ⟨⟨a, l, c⟩, n, many, rfl, ⟨ns, ls, hd, hc, hls, e1, e2, e3, e4, e5, e6⟩, hn, hm, hm2, k⟩ := h
    dsimp only at hd hc hls e5 e6
    have hu := hu_of hr
    have nal : a ≠ l := ne_of hd hls (by intro z; cases z)
    refine ⟨_, pss_cons (ps_set (i := 2) scDraw.nd rfl (Or.inl rfl) (pe_dget hu (pv 0) pe_str (fun _ _ => rfl)))
      (pss_cons (ps_dput hu (pv 0) pe_str (pe_op op_add (pv 2) pe_int) rfl)
      (pss_cons (ps_set (i := 3) scDraw.nd rfl (Or.inl rfl) (pe_op op_mod (pe_callTy call_int1 (by rfl) mI boot_int (pa_cons (pv 2) pa_nil)) (pe_callB call_len_seq (by rfl) mL boot_len (pa_cons (pe_dget hu (pv 0) pe_str (fun _ _ => rfl)) pa_nil))))
      (pss_cons (ps_set (i := 4) scDraw.nd rfl (Or.inl rfl) (pe_ix ix_list (pe_dget hu (pv 0) pe_str (fun _ _ => rfl)) (pv 3) (fun _ _ => rfl)))
      (pss_cons (ps_if (pt_cmpR op_gt (pv 4) pe_int (nomark _))
        (pss_cons (ps_asg (pe_op op_fdivW (pv 4) (pv 1)) (pg_sub (pe_dget hu (pv 0) pe_str (fun _ _ => rfl)) (pv 3) set_list))
        (pss_one (ps_ret (pe_op op_mod (pe_callTy call_int1 (by rfl) mI boot_int (pa_cons (pv 4) pa_nil)) (pv 1))))) pss_nil)
      (pss_cons (ps_set (i := 5) scDraw.nd rfl (Or.inl rfl) (pe_call GM hr rfl gM kM bM .nil pass0
        (pa_cons (pe_call GM hr rfl gM kM bM .nil pass0 (pa_cons (pe_ix ix_list (pe_dget hu (pv 0) pe_str (fun _ _ => rfl)) (pv 3) (fun _ _ => rfl)) (pa_cons (pv 2) pa_nil))) (pa_cons (pe_op op_add pe_int (pv 2)) pa_nil))))
      (pss_one (ps_ret (pe_op op_mod (pe_op op_fdiv (pe_callTy call_int1 (by rfl) mI boot_int
        (pa_cons (pe_op op_add (pe_op op_mul (pv 5) pe_int) (pe_call GM hr rfl gM kM bM .nil pass0 (pa_cons (pv 5) (pa_cons (pe_op op_add pe_int (pv 2)) pa_nil)))) pa_nil)) pe_int) (pv 1))))))))), ?_⟩
    -- at = state["at"]
    refine ⟨_, rfl, a, _, rfl, (rk_at c l n) ▸ DGet.k (k := Sum.inr "at") hd, ?_⟩
    -- state["at"] = at + 1
    refine ⟨_, rfl, _, _, rfl, rfl, _, rfl, a, _, rfl, DPut.k (k := Sum.inr "at") hd (small1000 (by show 4 ≤ 1000; decide)), ?_⟩
    rw [rk_put]
    have d1 : (upd H a (.dK (rk c l (n + 1)))) a = some (.dK (rk c l (n + 1))) := upd_same
    have c1 : (upd H a (.dK (rk c l (n + 1)))) c = some (.lst (ns.map V.int)) := by
      rw [upd_ne e5]
      exact hc
    have l1 : (upd H a (.dK (rk c l (n + 1)))) l = some (.lst (ls.map V.int)) := by
      rw [upd_ne nal.symm]
      exact hls
    have b1 : But ⟨a, l, c⟩ H (upd H a (.dK (rk c l (n + 1)))) := fun b o e h1 _ => by
      rw [upd_ne h1]
      exact e
    generalize upd H a (.dK (rk c l (n + 1))) = H1 at d1 c1 l1 b1 ⊢
    -- place
    have hpos : (0 : Int) < (((ns.map V.int).length : Nat) : Int) := by rw [List.length_map]; omega
    refine ⟨_, rfl, .inl ⟨(n : Int), rfl, _, rfl, a, _, rfl, (rk_cells c l (n + 1)) ▸ DGet.k (k := Sum.inr "cells") d1, c, _, rfl, .inl (SqL.of c1), _, _, rfl, rfl, hpos, ?_⟩⟩
    obtain ⟨j, hj, hjl⟩ : ∃ j : Nat, (n : Int) % (((ns.map V.int).length : Nat) : Int) = (j : Int) ∧ j < ns.length := by
      refine ⟨n % ns.length, ?_, Nat.mod_lt _ e2⟩
      rw [List.length_map]
      omega
    have hL : (ls.map V.int)[j]? = some (V.int (ls[j]'(by omega))) := by
      rw [List.getElem?_map, List.getElem?_eq_getElem (by omega)]
      all_goals rfl
    have hC : (ns.map V.int)[j]? = some (V.int (ns[j]'hjl)) := by
      rw [List.getElem?_map, List.getElem?_eq_getElem hjl]
      all_goals rfl
    have left0 : 0 ≤ ls[j]'(by omega) := e4 _ (List.getElem_mem _)
    generalize ls[j]'(by omega) = left at hL left0
    generalize ns[j]'hjl = cell at hC
    -- left
    refine ⟨_, rfl, a, _, rfl, (rk_lefts c l (n + 1)) ▸ DGet.k (k := Sum.inr "lefts") d1, _, rfl, l, _, _, _, rfl, rfl, SqL.of l1, at_of hj hL, ?_⟩
    refine ⟨_, rfl, _, _, rfl, rfl, _, rfl, ?_⟩
    refine ite2 (fun h => ?_) (fun h => ?_)
    · -- a digit of the great cell
      have hlog : CDivW left many := wide_div hm hm2 (by decide) (by decide)
      refine ⟨_, rfl, _, rfl, _, _, rfl, rfl, hlog, ?_⟩
      refine ⟨_, rfl, a, _, rfl, (rk_lefts c l (n + 1)) ▸ DGet.k (k := Sum.inr "lefts") d1, _, rfl, l, _, _, j, rfl, rfl, l1, ?_, ?_⟩
      · show ixN (ls.map V.int).length ((n : Int) % (((ns.map V.int).length : Nat) : Int)) = some j
        rw [hj, List.length_map]
        unfold ixN
        rw [if_pos (by omega), if_pos (by omega)]
        rfl
      refine ⟨_, rfl, .inl ⟨left, rfl, _, rfl, _, _, rfl, rfl, hm, ?_⟩⟩
      have e0 : 0 ≤ left / many := Int.ediv_nonneg left0 (Int.le_of_lt hm)
      refine k _ _ (Int.emod_nonneg _ (by omega)) (Int.emod_lt_of_pos _ hm) ⟨ns, ls.set j (left / many), by rw [upd_ne nal]; exact d1, by rw [upd_ne e6]; exact c1, ?_, by rw [List.length_set]; exact e1, e2, e3, fun x hx => ?_, e5, e6⟩ fun b o e h1 h2 => ?_
      · rw [upd_same, List.map_set]
      · rcases List.mem_or_eq_of_mem_set hx with z | z
        · exact e4 x z
        · rw [z]
          exact e0
      · rw [upd_ne h2]
        exact b1 b o e h1 h2
    · -- mixed
      refine ⟨_, rfl, a, _, rfl, (rk_cells c l (n + 1)) ▸ DGet.k (k := Sum.inr "cells") d1, _, rfl, c, _, _, _, rfl, rfl, SqL.of c1, at_of hj hC, _, rfl, ?_⟩
      refine ⟨cell, (n : Int), rfl, by omega, by omega, fun r1 _ _ => ?_⟩
      refine ⟨_, rfl, _, _, rfl, rfl, ?_⟩
      refine ⟨r1, (40 : Int) + (n : Int), rfl, by omega, by omega, fun r2 r20 r2l => ?_⟩
      refine ⟨_, rfl, _, _, rfl, rfl, .inl ⟨by omega, by omega⟩, _, rfl, _, rfl, _, _, rfl, rfl, ?_⟩
      refine ⟨r2, (7 : Int) + (n : Int), rfl, by omega, by omega, fun r3 _ _ => ?_⟩
      refine ⟨_, _, rfl, rfl, .inl ⟨_, rfl, _, _, rfl, rfl, ⟨by decide, by decide⟩, _, rfl, _, _, rfl, rfl, hm, ?_⟩⟩
      exact k _ _ (Int.emod_nonneg _ (by omega)) (Int.emod_lt_of_pos _ hm) ⟨ns, ls, d1, c1, l1, e1, e2, e3, e4, e5, e6⟩ b1
end
end SW

set_option Elab.async false
set_option maxRecDepth 100000
/-! Names that are drawn: _law_name. -/
namespace SW
open PySem PySem.Spec PyProof.Rows L2
abbrev sName : Stmt := top 8
/-- a word of 1 to 8 letters a to z -/
def isNmB (z : Str) : Bool := decide (1 ≤ z.length) && decide (z.length ≤ 8) && z.cps.toList.all fun c => decide (97 ≤ c) && decide (c ≤ 122)
def isNm (z : Str) : Prop := isNmB z = true
def alpha : Str := "abcdefghijklmnopqrstuvwxyz"
theorem alpha_at : ∀ i : Fin 26, ∃ c, alpha.cps.toList[i.1]? = some c ∧ 97 ≤ c ∧ c ≤ 122 := by decide +kernel
def own1 : Str := "set hold reset drop show copy within if with guard loop leave yield fail make step close"
def own2 : Str := "vars piece context token unset used empty over ended shown failed"
def few : List Str := ["x", "y", "a", "b", "c", "t", "g", "ab", "abcdefgh"]
theorem few_ok : few.all isNmB = true := by decide +kernel
def owns : List Str := Txt.split own1 " " ++ Txt.split own2 " "
theorem owns_ok : owns.all isNmB = true ∧ owns.length = 28 := by decide +kernel
theorem nm_at {l : List Str} (h : l.all isNmB = true) {i : Nat} (hi : i < l.length) : ∃ z, (l.map V.str)[i]? = some (.str z) ∧ isNm z := by
  refine ⟨l[i], ?_, ?_⟩
  · rw [List.getElem?_map, List.getElem?_eq_getElem hi]
    rfl
  · exact List.all_eq_true.mp h _ (List.getElem_mem _)
theorem at_any {α : Type} {xs : List α} {z : Int} {j : Nat} {v : α} (e : z = (j : Int)) (h : xs[j]? = some v) : atI xs z = some v := by
  subst e
  exact atI_nat h
/-- a text of one sign for each code -/
def sgn (c : Nat) : Str := ⟨#[c]⟩
theorem fold_sgn : ∀ (rest : List Nat) (acc : Array Nat), (rest.map sgn).foldl (fun (acc : Array Nat) (p : Str) => acc ++ (Str.ofString "").cps ++ p.cps) acc = acc ++ rest.toArray
  | [], acc => by simp
  | c :: r, acc => by
    rw [List.map_cons, List.foldl_cons, fold_sgn r]
    have e : (Str.ofString "").cps = #[] := by decide +kernel
    rw [e]
    apply Array.ext'
    simp [sgn]
theorem join_sgn (cs : List Nat) : Txt.join (Str.ofString "") (cs.map sgn) = ⟨cs.toArray⟩ := by
  unfold Txt.join Builtin.Str.glued
  cases cs with
  | nil => rfl
  | cons c r =>
    rw [List.map_cons, List.drop_one, List.tail_cons, fold_sgn r]
    congr 1
    apply Array.ext'
    simp [sgn]
theorem sum_sgn : ∀ cs : List Nat, ((cs.map sgn).map fun x => x.length).sum = cs.length
  | [] => rfl
  | c :: r => by
    rw [List.map_cons, List.map_cons, List.sum_cons, sum_sgn r, List.length_cons]
    show 1 + r.length = _
    omega
theorem nm_cs {cs : List Nat} (h1 : 1 ≤ cs.length) (h2 : cs.length ≤ 8) (h : ∀ c ∈ cs, 97 ≤ c ∧ c ≤ 122) : isNm ⟨cs.toArray⟩ := by
  unfold isNm isNmB
  rw [Bool.and_eq_true, Bool.and_eq_true, List.all_eq_true]
  refine ⟨⟨decide_eq_true ?_, decide_eq_true ?_⟩, fun c hc => ?_⟩
  · show 1 ≤ cs.toArray.size
    rw [List.size_toArray]
    exact h1
  · show cs.toArray.size ≤ 8
    rw [List.size_toArray]
    exact h2
  · have z := h c (by simpa using hc)
    rw [Bool.and_eq_true]
    exact ⟨decide_eq_true z.1, decide_eq_true z.2⟩
/-- a name: some word; the draws are counted -/
def spName : Sp := fun vs H Q _ => ∃ (a : RA) (n : Nat), vs = [.ref a.s] ∧ Rnd H a n ∧ n + 100 ≤ 1000000 ∧
  ∀ (z : Str) (n' : Nat) (H' : Hp), isNm z → n' ≤ n + 10 → Rnd H' a n' → But a H H' → Q (.str z) H'
section
variable {P : Program} {w : World} {K : PySem.W.Frag} {mg : Str → Option Value} {base : Heap}
theorem scName : FnScope ["state", "few", "own", "way", "k"] ["state"] (defScope sName) := ⟨rfl, rfl, rfl, by decide +kernel, rfl, by decide +kernel, by decide +kernel⟩
theorem ok_name {f fD : Addr} {fd fdD : FuncData} (F : Fun K "_law_name" "_law_name" sName f fd) (GD : FnOk P w K mg base CX0 2 fD fdD ["state", "many"] spDraw) (bD : Binds K fdD ["state", "many"] []) (gD : mg "_law_draw" = some (.ref fD)) (kD : PySem.W.keepIn K (.ref fD) = true)
    (mR : mg "range" = none) : FnOk P w K mg base CX0 3 f fd ["state"] spName := by
  refine F.ok scName (fun vs H Q E h => ?_) (fun cdv A outer s H vs Q E hr h => ?_)
  · obtain ⟨a, n, rfl, _⟩ := h
    rfl
  · obtain ⟨a, n, rfl, R, hn, k⟩ := h
    refine ⟨_, pss_cons (ps_set (i := 1) scName.nd rfl (Or.inl rfl) (pe_lst (pa_cons pe_str (pa_cons pe_str (pa_cons pe_str (pa_cons pe_str (pa_cons pe_str (pa_cons pe_str (pa_cons pe_str (pa_cons pe_str (pa_cons pe_str pa_nil)))))))))))
      (pss_cons (ps_set (i := 2) scName.nd rfl (Or.inl rfl) (pe_split pe_str pe_str))
      (C8.pss_cut (ps_set (i := 2) scName.nd rfl (Or.inl rfl) (pe_op op_cat (pv 2) (pe_split pe_str pe_str)))
      (pss_cons (ps_set (i := 3) scName.nd rfl (Or.inl rfl) (pe_call GD hr rfl gD kD bD .nil pass0 (pa_cons (pv 0) (pa_cons pe_int pa_nil))))
      (pss_cons (ps_if (pt_cmpR op_lt (pv 3) pe_int (nomark _)) (pss_one (ps_ret (pe_ifExp (pt_cmpR op_eq (pv 3) pe_int (nomark _))
          (pe_ix ix_list (pv 1) (pe_call GD hr rfl gD kD bD .nil pass0 (pa_cons (pv 0) (pa_cons pe_int pa_nil))) (fun _ _ => rfl))
          (pe_ix ix_list (pv 2) (pe_call GD hr rfl gD kD bD .nil pass0 (pa_cons (pv 0) (pa_cons pe_int pa_nil))) (fun _ _ => rfl))))) pss_nil)
      (pss_one (ps_ret (pe_join pe_str (pe_lc (own := [("k", 4)]) (g := gName 4) (tt := tYes) rfl scName.nd
          (pi_range1 rfl mR (pa_cons (pe_op op_add pe_int (pe_call GD hr rfl gD kD bD .nil pass0 (pa_cons (pv 0) (pa_cons pe_int pa_nil)))) pa_nil))
          (blkOk_by (N := ["state", "few", "own", "way", "k"]) (sc := defScope sName) (by decide +kernel))
          (fun _ _ _ _ _ => pg_name (i := 4) scName.nd rfl (Or.inl rfl)) (fun _ _ _ _ _ => pts_nil)
          (fun _ _ _ _ _ => pe_ix ix_str pe_str (pe_call GD hr rfl gD kD bD .nil pass0 (pa_cons (pv 0) (pa_cons pe_int pa_nil))) (fun _ _ => rfl)))))))))), ?_⟩
    -- few
    refine ⟨(by show 9 ≤ sizeLine; decide), fun p1 np1 => ?_⟩
    -- own
    refine ⟨⟨_, rfl⟩, _, _, rfl, rfl, by decide +kernel, by decide +kernel, fun p2 np2 => ?_⟩
    refine ⟨fun σ H4 => ∃ p1 p4, σ = [some (.ref a.s), some (.ref p1), some (.ref p4), none, none] ∧ Same H H4 ∧ H4 p1 = some (.lst (few.map V.str)) ∧ H4 p4 = some (.lst (owns.map V.str)) ∧ Off a p1 ∧ Off a p4, ?_, ?_⟩
    · refine ⟨_, rfl, ⟨_, rfl⟩, _, _, rfl, rfl, by decide +kernel, by decide +kernel, fun p3 np3 => ?_⟩
      have n23 : p2 ≠ p3 := ne_of_none upd_same np3
      refine ⟨_, _, _, _, rfl, rfl, (upd_ne n23).trans upd_same, upd_same, by decide +kernel, fun p4 np4 => ?_⟩
      refine ⟨p1, p4, rfl, ((((same_new np1).trans (same_new np2)).trans (same_new np3)).trans (same_new np4)), (((same_new np2).trans (same_new np3)).trans (same_new np4)) p1 _ upd_same, ?_, R.off np1, (R.same (((same_new np1).trans (same_new np2)).trans (same_new np3))).off np4⟩
      rw [upd_same]
      unfold owns
      rw [List.map_append]
      rfl
    rintro σ H4 ⟨p1, p4, rfl, sA, hF, hO, nF, nO⟩
    have R4 := R.same sA
    have b4 : But a H H4 := Same.but sA
    -- way
    refine ⟨_, rfl, a, n, 3, rfl, R4, by omega, by decide, by decide, fun way H5 w0 wl R5 b5 => ?_⟩
    refine ⟨_, rfl, _, _, rfl, rfl, _, rfl, ?_⟩
    refine ite2 (fun h => ?_) (fun h => ?_)
    · refine ⟨_, rfl, rfl, _, rfl, ?_⟩
      refine ite2 (fun h => ?_) (fun h => ?_)
      · refine ⟨_, rfl, _, rfl, a, n + 1, 9, rfl, R5, by omega, by decide, by decide, fun i H6 i0 il R6 b6 => ?_⟩
        obtain ⟨z, hz, nz⟩ := nm_at few_ok (i := i.toNat) (by show i.toNat < 9; omega)
        exact ⟨p1, _, _, _, rfl, rfl, SqL.of (b6.at nF (b5.at nF hF)), at_of (by omega) hz, k z _ H6 nz (by omega) R6 ((b4.trans b5).trans b6)⟩
      · refine ⟨_, rfl, _, rfl, a, n + 1, 27, rfl, R5, by omega, by decide, by decide, fun i H6 i0 il R6 b6 => ?_⟩
        obtain ⟨z, hz, nz⟩ := nm_at owns_ok.1 (i := i.toNat) (by rw [owns_ok.2]; omega)
        exact ⟨p4, _, _, _, rfl, rfl, SqL.of (b6.at nO (b5.at nO hO)), at_of (by omega) hz, k z _ H6 nz (by omega) R6 ((b4.trans b5).trans b6)⟩
    · -- any letters
      refine ⟨⟨_, rfl⟩, _, rfl, a, n + 1, 8, rfl, R5, by omega, by decide, by decide, fun m H6 m0 ml R6 b6 => ?_⟩
      refine ⟨_, _, rfl, rfl, (1 : Int) + m, rfl, by omega, by omega, fun D nD => ?_⟩
      have nD2 := R6.off nD
      have bA := (b4.trans b5).trans b6
      have nDH := bA.free nD2 nD
      refine lc_range (lo := 0) (n := ((1 : Int) + m).toNat) (fun i H7 => ∃ (cs : List Nat), H7 D = some (.lst ((cs.map sgn).map V.str)) ∧ cs.length = i ∧ (∀ c ∈ cs, 97 ≤ c ∧ c ≤ 122) ∧ Rnd H7 a (n + 1 + 1 + i) ∧ But a H H7)
        ⟨[], upd_same, rfl, fun _ h => by simp at h, R6.same (same_new nD), ((b4.trans b5).trans b6).trans (Same.but (same_new nD))⟩ ?_ ?_
      · rintro i H7 hi ⟨cs, e1, e2, e3, R7, b7⟩
        refine ⟨rfl, ?_⟩
        refine tyes ?_
        refine ⟨_, rfl, a, n + 1 + 1 + i, 26, rfl, R7, by omega, by decide, by decide, fun r H8 r0 rl R8 b8 => ?_⟩
        obtain ⟨c, hc, c1, c2⟩ := alpha_at ⟨r.toNat, by omega⟩
        have e8 := b8.at nD2 e1
        refine ⟨_, _, c, rfl, rfl, by decide +kernel, at_any (by show r = ((r.toNat : Nat) : Int); omega) hc, _, e8, small1000 (by rw [List.length_map, List.length_map]; omega), ?_⟩
        refine ⟨cs ++ [c], ?_, by rw [List.length_append, e2]; rfl, fun x hx => ?_, R8.upd nD2, (b7.trans b8).new nDH⟩
        · rw [upd_same, List.map_append, List.map_append]
          rfl
        · rcases List.mem_append.mp hx with z | z
          · exact e3 x z
          · rw [List.mem_singleton.mp z]
            exact ⟨c1, c2⟩
      · rintro H7 ⟨cs, e1, e2, e3, R7, b7⟩
        refine ⟨_, D, cs.map sgn, rfl, rfl, .inl (SqL.of e1), ?_, ?_⟩
        · have el : (Str.ofString "").length = 0 := by decide +kernel
          rw [el, Nat.mul_zero, Nat.add_zero, sum_sgn]
          omega
        · rw [join_sgn]
          exact k _ _ H7 (nm_cs (by omega) (by omega) e3) (by omega) R7 b7
end
end SW

set_option Elab.async false
set_option maxRecDepth 100000
/-! Different names: _law_names. -/
namespace SW
open PySem PySem.Spec PyProof.Rows L2
abbrev sNames : Stmt := top 9
/-- a list without repeats within another one is no longer -/
theorem nodup_le {α : Type} [BEq α] [LawfulBEq α] : ∀ {ws zs : List α}, ws.Nodup → (∀ w ∈ ws, w ∈ zs) → ws.length ≤ zs.length
  | [], _, _, _ => Nat.zero_le _
  | w :: r, zs, hn, h => by
    obtain ⟨h1, h2⟩ := List.nodup_cons.mp hn
    have hw := h w List.mem_cons_self
    have ih := nodup_le (zs := zs.erase w) h2 fun x hx => (List.mem_erase_of_ne (fun e : x = w => h1 (by rw [← e]; exact hx))).mpr (h x (List.mem_cons_of_mem _ hx))
    rw [List.length_erase_of_mem hw] at ih
    have := List.length_pos_of_mem hw
    rw [List.length_cons]
    omega
theorem some_out {α : Type} [BEq α] [LawfulBEq α] {ws zs : List α} (hn : ws.Nodup) (h : zs.length < ws.length) : ∃ w ∈ ws, w ∉ zs := by
  by_cases q : ∃ w ∈ ws, w ∉ zs
  · exact q
  · have := nodup_le hn fun w hw => Classical.byContradiction fun z => q ⟨w, hw, z⟩
    omega
def qw (j : Nat) : Str := Str.ofString "q" ++ (⟨#[97 + j]⟩ : Str)
def qs : List Str := (List.range 26).map qw
theorem qs_ok : qs.length = 26 ∧ qs.all isNmB = true ∧ qs.Nodup := by decide +kernel
theorem alpha_qs : ∀ i : Fin 26, ∃ c, alpha.cps.toList[i.1]? = some c ∧ qs[i.1]? = some (Str.ofString "q" ++ (⟨#[c]⟩ : Str)) := by decide +kernel
theorem inV_str (z : Str) : ∀ zs : List Str, inV (.str z) (zs.map V.str) = decide (z ∈ zs)
  | [] => rfl
  | y :: r => by
    have ih := inV_str z r
    unfold inV at ih ⊢
    rw [List.map_cons, List.any_cons, ih]
    show (y == z || decide (z ∈ r)) = _
    by_cases e : y = z
    · simp [e]
    · have e' : ¬ z = y := fun q => e q.symm
      simp [e, e', List.mem_cons]
theorem flat_strs : ∀ zs : List Str, (zs.map V.str).all flatV = true
  | [] => rfl
  | y :: r => by
    rw [List.map_cons, List.all_cons, flat_strs r]
    rfl
theorem str_at {zs : List Str} {i : Nat} {y : V} (h : (zs.map V.str)[i]? = some y) : ∃ z, zs[i]? = some z ∧ y = V.str z := by
  rw [List.getElem?_map] at h
  cases e : zs[i]? with
  | none =>
    rw [e] at h
    cases h
  | some z =>
    rw [e] at h
    exact ⟨z, rfl, (Option.some.inj h).symm⟩
theorem filt_pos {α : Type} {p : α → Bool} {l : List α} {x : α} (h : p x = true) : (l ++ [x]).filter p = l.filter p ++ [x] := by
  rw [List.filter_append]
  simp [List.filter, h]
theorem filt_neg {α : Type} {p : α → Bool} {l : List α} {x : α} (h : p x = false) : (l ++ [x]).filter p = l.filter p := by
  rw [List.filter_append]
  simp [List.filter, h]
/-- so many different names -/
def spNames : Sp := fun vs H Q _ => ∃ (a : RA) (n m : Nat), vs = [.ref a.s, .int (m : Int)] ∧ Rnd H a n ∧ m ≤ 6 ∧ n + 1000 ≤ 1000000 ∧
  ∀ (p : Addr) (zs : List Str) (n' : Nat) (H' : Hp), H p = none → Off a p → H' p = some (.lst (zs.map V.str)) → zs.length = m → zs.Nodup → (∀ z ∈ zs, isNm z) → n' ≤ n + 10 * m → Rnd H' a n' → But a H H' → Q (.ref p) H'
section
variable {P : Program} {w : World} {K : PySem.W.Frag} {mg : Str → Option Value} {base : Heap}
theorem scNames : FnScope ["state", "many", "found", "k", "name", "some", "j", "one"] ["state", "many"] (defScope sNames) := ⟨rfl, rfl, rfl, by decide +kernel, rfl, by decide +kernel, by decide +kernel⟩
theorem ok_names {f fN : Addr} {fd fdN : FuncData} (F : Fun K "_law_names" "_law_names" sNames f fd) (GN : FnOk P w K mg base CX0 3 fN fdN ["state"] spName) (bN : Binds K fdN ["state"] []) (gN : mg "_law_name" = some (.ref fN)) (kN : PySem.W.keepIn K (.ref fN) = true)
    (mR : mg "range" = none) (mL : mg "len" = none) : FnOk P w K mg base CX0 4 f fd ["state", "many"] spNames := by
  refine F.ok scNames (fun vs H Q E h => ?_) (fun cdv A outer s H vs Q E hr h => ?_)
  · obtain ⟨a, n, m, rfl, _⟩ := h
    rfl
  · obtain ⟨a, n, m, rfl, R, hm, hn, k⟩ := h
    refine ⟨_, pss_cons (ps_set (i := 2) scNames.nd rfl (Or.inr rfl) (pe_lst pa_nil))
      (pss_cons (ps_for PassesOwn.never rfl (pi_range1 rfl mR (pa_cons (pv 1) pa_nil)) (pg_name (i := 3) scNames.nd rfl (Or.inl rfl))
        (pss_cons (ps_set (i := 4) scNames.nd rfl (Or.inl rfl) (pe_call GN hr rfl gN kN bN .nil pass0 (pa_cons (pv 0) pa_nil)))
        (pss_cons (ps_set (i := 5) scNames.nd rfl (Or.inl rfl) (pe_op op_cat (pe_lst (pa_cons (pv 4) pa_nil))
          (pe_lc (own := [("j", 6)]) (g := gName 6) (tt := tYes) rfl scNames.nd
            (pi_range1 rfl mR (pa_cons (pe_op op_add (pe_callB call_len_seq (by rfl) mL boot_len (pa_cons (pv 2) pa_nil)) pe_int) pa_nil))
            (blkOk_by (N := ["state", "many", "found", "k", "name", "some", "j", "one"]) (sc := defScope sNames) (by decide +kernel))
            (fun _ _ _ _ _ => pg_name (i := 6) scNames.nd rfl (Or.inl rfl)) (fun _ _ _ _ _ => pts_nil)
            (fun _ _ _ _ _ => pe_op op_add_str pe_str (pe_ix ix_str pe_str (pv 6) (fun _ _ => rfl))))))
        (pss_one (ps_expr (pe_bm PySem.F.plainAttrs_list PySem.F.slot_list_append PySem.F.type_list_append mt_append (pv 2) (pa_cons
          (pe_ix ix_list (pe_lc (own := [("one", 7)]) (g := gName 7) (tt := tTest (tOp (rIn K true) (tVar 7) (tVar 2))) rfl scNames.nd (pi_list (pv 5))
            (blkOk_by (N := ["state", "many", "found", "k", "name", "some", "j", "one"]) (sc := defScope sNames) (by decide +kernel))
            (fun _ _ _ _ _ => pg_name (i := 7) scNames.nd rfl (Or.inl rfl)) (fun _ _ _ _ _ => pts_one (pt_cmpR op_notIn_seq (pv 7) (pv 2) rfl))
            (fun _ _ _ _ _ => pv 7)) pe_int (fun _ _ => rfl)) pa_nil)))))))
      (pss_one (ps_ret (pv 2)))), ?_⟩
    -- found = []
    refine ⟨Nat.zero_le _, fun p np => ?_⟩
    have fp := R.off np
    refine ⟨_, rfl, (m : Int), rfl, by omega, by omega, for_range (lo := 0) (n := ((m : Int)).toNat) (fun i σ H' => ∃ (zs : List Str) (n' : Nat) (v3 v4 v5 : Option V), σ = [some (.ref a.s), some (.int (m : Int)), some (.ref p), v3, v4, v5, none, none] ∧
        H' p = some (.lst (zs.map V.str)) ∧ zs.length = i ∧ zs.Nodup ∧ (∀ z ∈ zs, isNm z) ∧ n' ≤ n + 10 * i ∧ Rnd H' a n' ∧ But a H H')
      ⟨[], n, none, none, none, rfl, upd_same, rfl, List.nodup_nil, (fun z h => by simp at h), Nat.le_refl _, R.same (same_new np), Same.but (same_new np)⟩ ?_ ?_⟩
    · rintro i σ H1 hi ⟨zs, n', v3, v4, v5, rfl, ep, el, nd, nm, hn', R1, b1⟩
      have him : i < m := by omega
      -- name = _law_name(state)
      refine ⟨_, rfl, a, n', rfl, R1, by omega, fun z n2 H2 nz hn2 R2 b2 => ?_⟩
      have ep2 := b2.at fp ep
      -- some = [name] + [..]
      refine ⟨_, rfl, (by show 1 ≤ sizeLine; decide), fun p1 np1 => ?_⟩
      have ep3 := same_new (o := .lst [.str z]) np1 _ _ ep2
      have hlen : (((((zs.map V.str).length : Nat) : Int) + 1).toNat) = i + 1 := by rw [List.length_map, el]; omega
      refine ⟨_, rfl, p, _, rfl, .inl (SqL.of ep3), _, _, rfl, rfl, _, rfl, (by rw [List.length_map]; omega), (by rw [List.length_map]; omega), fun D nD => ?_⟩
      refine lc_range (lo := 0) (n := (((((zs.map V.str).length : Nat) : Int) + 1).toNat)) (fun j H3 => H3 D = some (.lst ((qs.take j).map V.str)) ∧ Same (upd H2 p1 (.lst [.str z])) H3) ⟨upd_same, same_new nD⟩ ?_ ?_
      · rintro j H3 hj ⟨e1, s3⟩
        rw [hlen] at hj
        obtain ⟨c, hc, hq⟩ := alpha_qs ⟨j, by omega⟩
        refine ⟨rfl, ?_⟩
        refine tyes ?_
        have lt : ((qs.take j).map V.str).length < sizeLine := small1000 (by rw [List.length_map, List.length_take]; omega)
        refine ⟨_, rfl, _, _, c, rfl, rfl, by decide +kernel, at_any (by show (0 : Int) + (j : Int) = (j : Int); omega) hc, _, _, rfl, rfl, (by show (Str.ofString "q").length + 1 ≤ sizeLine; decide +kernel), _, e1, lt, ?_, Same.new s3 nD⟩
        rw [upd_same, List.take_add_one, hq, List.map_append]
        rfl
      · rintro H3 ⟨e1, s3⟩
        rw [hlen] at e1
        refine ⟨p1, D, _, _, rfl, rfl, s3 _ _ upd_same, e1, ?_, fun p2 np2 => ?_⟩
        · rw [List.length_map, List.length_take, qs_ok.1]
          show 1 + _ ≤ sizeLine
          have h7 : 1 + min (i + 1) 26 ≤ 1000 := by omega
          exact Nat.le_of_lt (small1000 h7)
        have ep4 := same_new (o := .lst ([V.str z] ++ (qs.take (i + 1)).map V.str)) np2 _ _ (s3 _ _ ep3)
        have b4 : But a H (upd H3 p2 (.lst ([V.str z] ++ (qs.take (i + 1)).map V.str))) := (b1.trans b2).trans (Same.but (((same_new np1).trans s3).trans (same_new np2)))
        have R4 : Rnd (upd H3 p2 (.lst ([V.str z] ++ (qs.take (i + 1)).map V.str))) a n2 := R2.same (((same_new np1).trans s3).trans (same_new np2))
        have ew : (upd H3 p2 (.lst ([V.str z] ++ (qs.take (i + 1)).map V.str))) p2 = some (.lst ((z :: qs.take (i + 1)).map V.str)) := upd_same
        generalize (upd H3 p2 (.lst ([V.str z] ++ (qs.take (i + 1)).map V.str))) = H4 at ep4 b4 R4 ew ⊢
        have hws : (qs.take (i + 1)).Nodup := qs_ok.2.2.sublist (List.take_sublist _ _)
        have hwl : (qs.take (i + 1)).length = i + 1 := by rw [List.length_take, qs_ok.1]; omega
        obtain ⟨w0, hw0, hw1⟩ := some_out (zs := zs) hws (by omega)
        have wsN : ∀ y ∈ z :: qs.take (i + 1), isNm y := fun y hy => by
          rcases List.mem_cons.mp hy with e | e
          · rw [e]
            exact nz
          · exact List.all_eq_true.mp qs_ok.2.1 _ (List.mem_of_mem_take e)
        have wsO : ∃ w ∈ z :: qs.take (i + 1), w ∉ zs := ⟨w0, List.mem_cons_of_mem _ hw0, hw1⟩
        have wsL : (z :: qs.take (i + 1)).length ≤ 100 := by rw [List.length_cons, hwl]; omega
        generalize z :: qs.take (i + 1) = ws at ew wsN wsO wsL
        -- found.append([..][0])
        refine ⟨_, rfl, Or.inl ⟨rfl, _, SqL.of ep4⟩, ?_⟩
        refine ⟨_, rfl, p2, rfl, ⟨_, SqL.of ew⟩, fun D2 nD2 => ?_⟩
        refine lc_list (K := K) (a := p2) (xs := ws.map V.str) (fun j H5 => H5 D2 = some (.lst (((ws.take j).filter fun y => decide (y ∉ zs)).map V.str)) ∧ Same H4 H5) ⟨upd_same, same_new nD2⟩ (fun j H5 _ ⟨_, s5⟩ => s5.seq (SqL.of ew)) ?_ ?_
        · rintro j y H5 hj ⟨e5, s5⟩
          obtain ⟨x, hx, rfl⟩ := str_at hj
          refine ⟨rfl, _, rfl, _, rfl, p, _, rfl, .inl (SqL.of (s5 _ _ ep4)), rfl, flat_strs zs, _, rfl, ?_⟩
          show (if (!inV (.str x) (zs.map V.str)) = true then _ else _)
          rw [inV_str]
          have et : ws.take (j + 1) = ws.take j ++ [x] := by rw [List.take_add_one, hx]; rfl
          refine ite2 (fun h => ?_) (fun h => ?_)
          · have hxz : decide (x ∉ zs) = true := by simpa using h
            refine ⟨_, rfl, _, e5, small1000 ?_, ?_, Same.new s5 nD2⟩
            · rw [List.length_map]
              exact Nat.le_trans (List.length_filter_le _ _) (by rw [List.length_take]; omega)
            · rw [upd_same, et, filt_pos (p := fun y => decide (y ∉ zs)) hxz, List.map_append]
              rfl
          · have hxz : ¬ decide (x ∉ zs) = true := by simpa using h
            refine ⟨?_, s5⟩
            rw [e5, et, filt_neg (p := fun y => decide (y ∉ zs)) (by simpa using hxz)]
        · rintro H5 ⟨e5, s5⟩
          rw [List.length_map, List.take_length] at e5
          obtain ⟨w, hw, hwz⟩ := wsO
          have hne : 0 < (ws.filter fun y => decide (y ∉ zs)).length := List.length_pos_of_mem (List.mem_filter.mpr ⟨hw, decide_eq_true hwz⟩)
          obtain ⟨g, hg⟩ : ∃ g, (ws.filter fun y => decide (y ∉ zs))[0]? = some g := ⟨_, List.getElem?_eq_getElem hne⟩
          have hgm := List.mem_filter.mp (List.mem_of_getElem? hg)
          have hgz : g ∉ zs := of_decide_eq_true hgm.2
          refine ⟨D2, _, 0, .str g, rfl, rfl, SqL.of e5, at_of (j := 0) rfl (by rw [List.getElem?_map, hg]; rfl), ?_⟩
          refine ⟨p, _, _, rfl, rfl, s5 _ _ ep4, small1000 (by rw [List.length_map]; omega), ?_⟩
          refine ⟨zs ++ [g], n2, _, _, _, rfl, ?_, by rw [List.length_append, el]; rfl, nd_snoc nd hgz, fun y hy => ?_, by omega, (R4.same s5).upd fp, (b4.trans (Same.but s5)).new np⟩
          · rw [upd_same, List.map_append]
            rfl
          · rcases List.mem_append.mp hy with e | e
            · exact nm y e
            · rw [List.mem_singleton.mp e]
              exact wsN g hgm.1
    · rintro σ H1 ⟨zs, n', v3, v4, v5, rfl, ep, el, nd, nm, hn', R1, b1⟩
      exact ⟨_, rfl, k p zs n' H1 np fp ep (by omega) nd nm (by omega) R1 b1⟩
end
end SW

set_option Elab.async false
set_option maxRecDepth 100000
/-! Values that are drawn: _law_value. -/
namespace SW
open PySem PySem.Spec PyProof.Rows L2
abbrev sValue : Stmt := top 11
/-- a value: below 10 ** 60 either way -/
def Small (v : Int) : Prop := v.natAbs < 10 ^ 60
def spValue : Sp := fun vs H Q _ => ∃ (a : RA) (n : Nat), vs = [.ref a.s] ∧ Rnd H a n ∧ n + 100 ≤ 1000000 ∧
  ∀ (v : Int) (H' : Hp), Small v → Rnd H' a (n + 4) → But a H H' → Q (.int v) H'
section
variable {P : Program} {w : World} {K : PySem.W.Frag} {mg : Str → Option Value} {base : Heap}
theorem scValue : FnScope ["state", "number"] ["state"] (defScope sValue) := ⟨rfl, rfl, rfl, by decide +kernel, rfl, by decide +kernel, by decide +kernel⟩
theorem ok_value {f fD : Addr} {fd fdD : FuncData} (F : Fun K "_law_value" "_law_value" sValue f fd) (GD : FnOk P w K mg base CX0 2 fD fdD ["state", "many"] spDraw) (bD : Binds K fdD ["state", "many"] []) (gD : mg "_law_draw" = some (.ref fD)) (kD : PySem.W.keepIn K (.ref fD) = true) :
    FnOk P w K mg base CX0 3 f fd ["state"] spValue := by
  refine F.ok scValue (fun vs H Q E h => ?_) (fun cdv A outer s H vs Q E hr h => ?_)
  · obtain ⟨a, n, rfl, _⟩ := h
    rfl
  · obtain ⟨a, n, rfl, R, hn, k⟩ := h
    refine ⟨_, pss_cons (ps_set (i := 1) scValue.nd rfl (Or.inl rfl) (pe_ix ix_list (pe_lst (pa_cons pe_int (pa_cons pe_int (pa_cons pe_int
        (pa_cons (pe_call GD hr rfl gD kD bD .nil pass0 (pa_cons (pv 0) (pa_cons pe_int pa_nil)))
        (pa_cons (pe_call GD hr rfl gD kD bD .nil pass0 (pa_cons (pv 0) (pa_cons (pe_op op_pow pe_int pe_int) pa_nil))) pa_nil))))))
        (pe_call GD hr rfl gD kD bD .nil pass0 (pa_cons (pv 0) (pa_cons pe_int pa_nil))) (fun _ _ => rfl)))
      (pss_one (ps_ret (pe_ifExp (pt_cmpR op_gt (pe_call GD hr rfl gD kD bD .nil pass0 (pa_cons (pv 0) (pa_cons pe_int pa_nil))) pe_int (nomark _)) (pv 1) (pe_op op_sub pe_int (pv 1))))), ?_⟩
    refine ⟨_, rfl, a, n, 10000, rfl, R, by omega, by decide, by decide, fun r1 H1 h1 h2 R1 b1 => ?_⟩
    refine ⟨_, rfl, _, _, rfl, rfl, ⟨by decide, by decide, by decide⟩, a, n + 1, 10 ^ 60, rfl, R1, by omega, by decide, by decide, fun r2 H2 h3 h4 R2 b2 => ?_⟩
    refine ⟨(by show 5 ≤ sizeLine; decide), fun p np => ?_⟩
    have fp := R2.off np
    have b3 := (b1.trans b2).trans (Same.but (same_new (o := .lst [.int 0, .int 1, .int 5, .int r1, .int r2]) np))
    refine ⟨_, rfl, a, n + 2, 5, rfl, R2.same (same_new np), by omega, by decide, by decide, fun i H3 h5 h6 R3 b4 => ?_⟩
    obtain ⟨v, hv, sv⟩ : ∃ v : Int, [V.int 0, V.int 1, V.int 5, V.int r1, V.int r2][i.toNat]? = some (.int v) ∧ Small v := by
      have e : i.toNat = 0 ∨ i.toNat = 1 ∨ i.toNat = 2 ∨ i.toNat = 3 ∨ i.toNat = 4 := by omega
      have big : (10 : Nat) ^ 60 = 1000000000000000000000000000000000000000000000000000000000000 := by decide
      have big' : (10 : Int) ^ 60 = 1000000000000000000000000000000000000000000000000000000000000 := by decide
      rw [big'] at h4
      unfold Small
      rw [big]
      rcases e with e | e | e | e | e <;> rw [e]
      · exact ⟨0, rfl, by decide⟩
      · exact ⟨1, rfl, by decide⟩
      · exact ⟨5, rfl, by decide⟩
      · exact ⟨r1, rfl, by omega⟩
      · exact ⟨r2, rfl, by omega⟩
    refine ⟨p, _, _, _, rfl, rfl, SqL.of (b4.at fp upd_same), at_of (by omega) hv, ?_⟩
    refine ⟨_, rfl, a, n + 3, 3, rfl, R3, by omega, by decide, by decide, fun r H4 _ _ R4 b5 => ?_⟩
    refine ⟨_, _, rfl, rfl, _, rfl, ?_⟩
    refine ite2 (fun _ => ?_) (fun _ => ?_)
    · exact ⟨_, rfl, k v H4 sv R4 ((b3.trans b4).trans b5)⟩
    · exact ⟨_, rfl, _, _, rfl, rfl, k (0 - v) H4 (by unfold Small at sv ⊢; omega) R4 ((b3.trans b4).trans b5)⟩
end
end SW

set_option Elab.async false
set_option maxRecDepth 100000
/-! What a context holds, as a list of pairs. -/
namespace SW
open PySem PySem.Spec PyProof.Rows L2
abbrev Mp := List (Str × Int)
def kv (m : Mp) : List (Key × V) := m.map fun e => (.inr e.1, .int e.2)
def aget (m : Mp) (k : Str) : Option Int := (m.find? fun e => decide (e.1 = k)).map (·.2)
def aput (m : Mp) (k : Str) (v : Int) : Mp := if (m.any fun e => decide (e.1 = k)) = true then m.map (fun e => if e.1 = k then (e.1, v) else e) else m ++ [(k, v)]
def adrop (m : Mp) (k : Str) : Mp := m.filter fun e => decide (e.1 ≠ k)
def keys (m : Mp) : List Str := m.map (·.1)
theorem inr_eq (a b : Str) : ((Sum.inr a : Key) = Sum.inr b) = (a = b) := propext ⟨fun h => Sum.inr.inj h, fun h => congrArg _ h⟩
theorem valV_kv (k : Str) : ∀ m : Mp, valV (kv m) (.inr k) = (aget m k).map V.int
  | [] => rfl
  | e :: r => by
    have ih := valV_kv k r
    unfold valV kv aget at ih ⊢
    rw [List.map_cons, List.find?_cons, List.find?_cons]
    by_cases h : e.1 = k
    · simp [h]
    · simp only [inr_eq, decide_eq_false h]
      exact ih
theorem any_kv (k : Str) (m : Mp) : ((kv m).any fun e => decide (e.1 = (.inr k : Key))) = m.any fun e => decide (e.1 = k) := by
  unfold kv
  rw [List.any_map]
  congr 1
  funext e
  simp only [Function.comp, inr_eq]
theorem putK_kv (m : Mp) (k : Str) (v : Int) : putK (kv m) (.inr k) (.int v) = kv (aput m k v) := by
  unfold putK aput
  rw [any_kv]
  by_cases h : (m.any fun e => decide (e.1 = k)) = true
  · rw [if_pos h, if_pos h]
    unfold kv
    rw [List.map_map, List.map_map]
    congr 1
    funext e
    simp only [Function.comp, inr_eq]
    by_cases q : e.1 = k
    · rw [if_pos q, if_pos q]
    · rw [if_neg q, if_neg q]
  · rw [if_neg h, if_neg h]
    unfold kv
    rw [List.map_append]
    rfl
theorem dropK_kv (m : Mp) (k : Str) : dropK (kv m) (.inr k) = kv (adrop m k) := by
  unfold dropK adrop kv
  rw [List.filter_map]
  congr 1
  apply List.filter_congr
  intro e _
  simp only [Function.comp, ne_eq, inr_eq]
theorem aget_put (m : Mp) (k j : Str) (v : Int) : aget (aput m k v) j = if j = k then some v else aget m j := by
  have h := valV_put (kv m) (.inr k) (.inr j) (.int v)
  rw [putK_kv, valV_kv, valV_kv] at h
  simp only [inr_eq] at h
  by_cases q : j = k
  · rw [if_pos q] at h ⊢
    cases e : aget (aput m k v) j with
    | none => rw [e] at h; cases h
    | some x => rw [e] at h; cases h; rfl
  · rw [if_neg q] at h ⊢
    cases e : aget (aput m k v) j with
    | none =>
      rw [e] at h
      cases e' : aget m j with
      | none => rfl
      | some y => rw [e'] at h; cases h
    | some x =>
      rw [e] at h
      cases e' : aget m j with
      | none => rw [e'] at h; cases h
      | some y => rw [e'] at h; cases h; rfl
theorem aget_drop (k j : Str) : ∀ m : Mp, aget (adrop m k) j = if j = k then none else aget m j
  | [] => by simp [aget, adrop]
  | e :: r => by
    have ih := aget_drop k j r
    unfold aget adrop at ih ⊢
    by_cases h : e.1 = k
    · rw [List.filter_cons_of_neg (by simp [h]), ih, List.find?_cons]
      by_cases q : j = k
      · rw [if_pos q, if_pos q]
      · have : ¬ e.1 = j := fun z => q (z.symm.trans h)
        rw [if_neg q, if_neg q, decide_eq_false this]
    · rw [List.filter_cons_of_pos (by simp [h]), List.find?_cons, List.find?_cons]
      by_cases q : e.1 = j
      · have : ¬ j = k := fun z => h (q.trans z)
        simp [q, this]
      · simp only [decide_eq_false q]
        exact ih
theorem mem_keys {m : Mp} {k : Str} : k ∈ keys m ↔ (aget m k).isSome = true := by
  unfold keys aget
  induction m with
  | nil => simp
  | cons e r ih =>
    rw [List.map_cons, List.mem_cons, List.find?_cons]
    by_cases h : e.1 = k
    · simp [h]
    · have : ¬ k = e.1 := fun z => h z.symm
      simp only [decide_eq_false h, this, false_or]
      exact ih
theorem keys_drop (m : Mp) (k : Str) : keys (adrop m k) = (keys m).filter fun x => decide (x ≠ k) := by
  unfold keys adrop
  rw [List.filter_map]
  rfl
theorem keys_put (m : Mp) (k : Str) (v : Int) : keys (aput m k v) = if k ∈ keys m then keys m else keys m ++ [k] := by
  have ha : (m.any fun e => decide (e.1 = k)) = decide (k ∈ keys m) := by
    unfold keys
    induction m with
    | nil => rfl
    | cons e r ih =>
      rw [List.any_cons, ih, List.map_cons]
      by_cases h : e.1 = k
      · simp [h]
      · have : ¬ k = e.1 := fun z => h z.symm
        simp [h, this]
  unfold aput
  rw [ha]
  by_cases h : k ∈ keys m
  · rw [if_pos (decide_eq_true h), if_pos h]
    unfold keys
    rw [List.map_map]
    congr 1
    funext e
    simp only [Function.comp]
    by_cases q : e.1 = k
    · rw [if_pos q]
    · rw [if_neg q]
  · rw [if_neg (fun z => h (of_decide_eq_true z)), if_neg h]
    unfold keys
    rw [List.map_append]
    rfl
/-- no variable twice, all of the names ns, values below 10 ** 60 -/
structure Good (ns : List Str) (m : Mp) : Prop where
  nd : (keys m).Nodup
  sub : ∀ k ∈ keys m, k ∈ ns
  sm : ∀ e ∈ m, Small e.2
theorem Good.nil (ns : List Str) : Good ns [] := ⟨List.nodup_nil, fun _ h => by simp [keys] at h, fun _ h => by simp at h⟩
theorem mem_aput {m : Mp} {k : Str} {v : Int} {e : Str × Int} (h : e ∈ aput m k v) : e ∈ m ∨ e = (k, v) := by
  unfold aput at h
  split at h
  · obtain ⟨x, hx, rfl⟩ := List.mem_map.mp h
    by_cases q : x.1 = k
    · rw [if_pos q, q]
      exact .inr rfl
    · rw [if_neg q]
      exact .inl hx
  · rcases List.mem_append.mp h with z | z
    · exact .inl z
    · exact .inr (List.mem_singleton.mp z)
theorem Good.put {ns : List Str} {m : Mp} {k : Str} {v : Int} (g : Good ns m) (hk : k ∈ ns) (hv : Small v) : Good ns (aput m k v) := by
  refine ⟨?_, fun x hx => ?_, fun e he => ?_⟩
  · rw [keys_put]
    split
    · exact g.nd
    · rename_i h
      exact nd_snoc g.nd h
  · rw [keys_put] at hx
    split at hx
    · exact g.sub x hx
    · rcases List.mem_append.mp hx with z | z
      · exact g.sub x z
      · rw [List.mem_singleton.mp z]
        exact hk
  · rcases mem_aput he with z | z
    · exact g.sm e z
    · rw [z]
      exact hv
theorem Good.drop {ns : List Str} {m : Mp} {k : Str} (g : Good ns m) : Good ns (adrop m k) := by
  refine ⟨?_, fun x hx => ?_, fun e he => g.sm e ((List.mem_filter.mp he).1)⟩
  · rw [keys_drop]
    exact g.nd.sublist List.filter_sublist
  · rw [keys_drop] at hx
    exact g.sub x ((List.mem_filter.mp hx).1)
theorem Good.len {ns : List Str} {m : Mp} (g : Good ns m) : m.length ≤ ns.length := by
  have := nodup_le g.nd g.sub
  unfold keys at this
  rw [List.length_map] at this
  exact this
/-- the same variables set to the same values -/
def Eqm (m m' : Mp) : Prop := ∀ k, aget m k = aget m' k
theorem Eqm.put {m m' : Mp} (h : Eqm m m') (k : Str) (v : Int) : Eqm (aput m k v) (aput m' k v) := fun j => by rw [aget_put, aget_put, h j]
theorem Eqm.drop {m m' : Mp} (h : Eqm m m') (k : Str) : Eqm (adrop m k) (adrop m' k) := fun j => by rw [aget_drop, aget_drop, h j]
theorem Eqm.mem {m m' : Mp} (h : Eqm m m') {k : Str} : k ∈ keys m ↔ k ∈ keys m' := by rw [mem_keys, mem_keys, h k]
theorem Eqm.len {m m' : Mp} (h : Eqm m m') {ns ns' : List Str} (g : Good ns m) (g' : Good ns' m') : m.length = m'.length := by
  have a := nodup_le g.nd fun k hk => h.mem.mp hk
  have b := nodup_le g'.nd fun k hk => h.mem.mpr hk
  unfold keys at a b
  rw [List.length_map, List.length_map] at a b
  omega
end SW

set_option Elab.async false
set_option maxRecDepth 100000
/-! The class of contexts: what its methods promise (but those that raise). -/
namespace SW
open PySem PySem.Spec PyProof.Rows L2
/-! two sorted arrangements of the same texts are one -/
theorem perm_one {α : Type} {r : α → α → Prop} (anti : ∀ a b, r a b → r b a → a = b) : ∀ {l m : List α}, l.Perm m → l.Pairwise r → m.Pairwise r → l = m
  | [], m, h, _, _ => (List.nil_perm.mp h).symm
  | a :: t, [], h, _, _ => by
    have := h.length_eq
    simp at this
  | a :: t, b :: u, h, h1, h2 => by
    obtain ⟨x1, y1⟩ := List.pairwise_cons.mp h1
    obtain ⟨x2, y2⟩ := List.pairwise_cons.mp h2
    have e : a = b := by
      have ha : a ∈ b :: u := h.mem_iff.mp List.mem_cons_self
      have hb : b ∈ a :: t := h.mem_iff.mpr List.mem_cons_self
      rcases List.mem_cons.mp ha with e | ha
      · exact e
      · rcases List.mem_cons.mp hb with e | hb
        · exact e.symm
        · exact anti a b (x1 b hb) (x2 a ha)
    subst e
    rw [perm_one anti (List.Perm.cons_inv h) y1 y2]
def leS (a b : Str) : Prop := a.cps.toList ≤ b.cps.toList
theorem leS_anti (a b : Str) (h : leS a b) (h' : leS b a) : a = b := by
  have e : a.cps.toList = b.cps.toList := List.le_antisymm h h'
  obtain ⟨x⟩ := a
  obtain ⟨y⟩ := b
  exact congrArg Str.mk (Array.toList_inj.mp e)
theorem rising_pw : ∀ (l : List Str) (p : Str), risingS p l = true → (∀ x ∈ l, leS p x) ∧ l.Pairwise leS
  | [], _, _ => ⟨fun _ h => by simp at h, .nil⟩
  | y :: r, p, h => by
    unfold risingS at h
    rw [Bool.and_eq_true] at h
    obtain ⟨h1, h2⟩ := h
    obtain ⟨a, b⟩ := rising_pw r y h2
    have py : leS p y := by
      rw [ltCps_eq] at h1
      have z : ¬ y.cps.toList < p.cps.toList := by simpa using h1
      exact List.not_lt.mp z
    refine ⟨fun x hx => ?_, List.pairwise_cons.mpr ⟨a, b⟩⟩
    rcases List.mem_cons.mp hx with e | e
    · rw [e]
      exact py
    · exact List.le_trans py (a x e)
theorem sorted_pw {l : List Str} (h : sortedS l = true) : l.Pairwise leS := by
  cases l with
  | nil => exact .nil
  | cons p r =>
    obtain ⟨a, b⟩ := rising_pw r p h
    exact List.pairwise_cons.mpr ⟨a, b⟩
theorem sorted_one {l m : List Str} (p : l.Perm m) (h : sortedS l = true) (h' : sortedS m = true) : l = m := perm_one leS_anti p (sorted_pw h) (sorted_pw h')
/-! the object -/
abbrev cCtx : Stmt := top 3
abbrev sInit : Stmt := inClass cCtx 0
abbrev sGet : Stmt := inClass cCtx 1
abbrev sSet : Stmt := inClass cCtx 2
abbrev sHas : Stmt := inClass cCtx 3
abbrev sLen : Stmt := inClass cCtx 5
abbrev sEq : Stmt := inClass cCtx 6
abbrev sDrop : Stmt := inClass cCtx 7
abbrev sPairs : Stmt := inClass cCtx 8
abbrev sCopy : Stmt := inClass cCtx 9
abbrev sSame : Stmt := inClass cCtx 10
theorem kbh : ¬ (("is_busy" : Str) = "_held") := by decide +kernel
def flds (d : Addr) : List (Str × V) := putF "_held" (.ref d) (putF "is_busy" (.bl false) [])
theorem flds_held (d : Addr) : (flds d).lookup ("_held" : Str) = some (.ref d) := by
  unfold flds
  rw [lookup_putF, if_pos rfl]
theorem flds_busy (d : Addr) : (flds d).lookup ("is_busy" : Str) = some (.bl false) := by
  unfold flds
  rw [lookup_putF, if_neg kbh, lookup_putF, if_pos rfl]
theorem flds_no (d : Addr) {m : Str} (h1 : ¬ m = "_held") (h2 : ¬ m = "is_busy") : (flds d).lookup m = none := by
  unfold flds
  rw [lookup_putF, if_neg h1, lookup_putF, if_neg h2]
  all_goals rfl
/-- a context stands at p, its dict at d holds the pairs m -/
structure CtxAt (C : Addr) (H : Hp) (p d : Addr) (m : Mp) : Prop where
  ob : ∃ dx, H p = some (.ins C dx (flds d))
  dc : H d = some (.dK (kv m))
theorem CtxAt.ne {C : Addr} {H : Hp} {p d : Addr} {m : Mp} (c : CtxAt C H p d m) : p ≠ d := by
  obtain ⟨dx, h⟩ := c.ob
  exact ne_of h c.dc (by intro z; cases z)
/-- a tuple of pairs -/
def PairsAt (K : PySem.W.Frag) (H : Hp) (t : Addr) (prs : Mp) : Prop := ∃ ts : List Addr, SqT K H t (ts.map V.ref) ∧ Paired (fun (q : Addr) (e : Str × Int) => SqT K H q [.str e.1, .int e.2]) ts prs
def made (prs : Mp) : Mp := prs.foldl (fun m e => aput m e.1 e.2) []
theorem made_snoc (l : Mp) (e : Str × Int) : made (l ++ [e]) = aput (made l) e.1 e.2 := by
  unfold made
  rw [List.foldl_append]
  rfl
theorem aput_len (m : Mp) (k : Str) (v : Int) : (aput m k v).length ≤ m.length + 1 := by
  unfold aput
  split
  · rw [List.length_map]
    exact Nat.le_succ _
  · rw [List.length_append]
    exact Nat.le_refl _
theorem made_len (prs : Mp) (i : Nat) : (made (prs.take i)).length ≤ i := by
  induction i with
  | zero => exact Nat.le_refl _
  | succ i ih =>
    rw [List.take_add_one]
    cases e : prs[i]? with
    | none => simp only [Option.toList, List.append_nil]; omega
    | some x =>
      simp only [Option.toList, made_snoc]
      have := aput_len (made (prs.take i)) x.1 x.2
      omega
theorem kv_len (m : Mp) : (kv m).length = m.length := by
  unfold kv
  rw [List.length_map]
/-- a tuple stays where only an instance is written -/
theorem sqt_keep {K : PySem.W.Frag} {H H' : Hp} {p C dx a : Addr} {fs : List (Str × V)} {xs : List V} (hp : H p = some (.ins C dx fs)) (k : ∀ b o, H b = some o → b ≠ p → H' b = some o) (h : SqT K H a xs) : SqT K H' a xs := by
  rcases h with (h | ⟨o, h⟩) | h
  · exact .inl (.inl (k _ _ h (ne_of h hp (by intro z; cases z))))
  · exact .inl (.inr ⟨o, k _ _ h (ne_of h hp (by intro z; cases z))⟩)
  · exact .inr h
theorem pair_at {α β : Type} {F : α → β → Prop} : ∀ {l : List α} {m : List β} {i : Nat} {x : α}, Paired F l m → l[i]? = some x → ∃ y, m[i]? = some y ∧ F x y
  | _, _, _, _, .nil, h => by simp at h
  | _, _, 0, x, .cons f t, h => by
    rw [List.getElem?_cons_zero] at h
    cases h
    exact ⟨_, rfl, f⟩
  | _, _, i + 1, x, .cons f t, h => by
    rw [List.getElem?_cons_succ] at h
    obtain ⟨y, hy, fy⟩ := pair_at t h
    exact ⟨y, by rw [List.getElem?_cons_succ]; exact hy, fy⟩
theorem pair_len {α β : Type} {F : α → β → Prop} : ∀ {l : List α} {m : List β}, Paired F l m → l.length = m.length
  | _, _, .nil => rfl
  | _, _, .cons _ t => congrArg (· + 1) (pair_len t)
theorem ref_at {ts : List Addr} {i : Nat} {y : V} (h : (ts.map V.ref)[i]? = some y) : ∃ z, ts[i]? = some z ∧ y = V.ref z := by
  rw [List.getElem?_map] at h
  cases e : ts[i]? with
  | none =>
    rw [e] at h
    cases h
  | some z =>
    rw [e] at h
    exact ⟨z, rfl, (Option.some.inj h).symm⟩
def spInit (K : PySem.W.Frag) (C : Addr) : Sp := fun vs H Q _ => ∃ (p dx t : Addr) (prs : Mp), vs = [.ref p, .ref t] ∧ H p = some (.ins C dx []) ∧ PairsAt K H t prs ∧ prs.length ≤ 100 ∧
  ∀ (d : Addr) (H' : Hp), H d = none → CtxAt C H' p d (made prs) → (∀ b o, H b = some o → b ≠ p → H' b = some o) → Q .non H'
/-- what the walk asks of the class as the top has made it -/
structure TxC (K : PySem.W.Frag) (mg : Str → Option Value) (C : Addr) : Prop where
  cl : Cls K C
  nB : NoAttr K C "is_busy"
  nH : NoAttr K C "_held"
  mgC : mg "Context" = some (.ref C)
section
variable {P : Program} {w : World} {K : PySem.W.Frag} {mg : Str → Option Value} {base : Heap}
theorem scInit : FnScope ["self", "pairs", "variable", "value"] ["self", "pairs"] (defScope sInit) := ⟨rfl, rfl, rfl, by decide +kernel, rfl, by decide +kernel, by decide +kernel⟩
theorem ok_init {f C T0 : Addr} {fd : FuncData} (F : FunD K "__init__" "Context.__init__" (defArgs sInit) (defBody sInit) (defScope sInit) [.ref T0] [] f fd) (T : TxC K mg C) : FnOk P w K mg base CX0 1 f fd ["self", "pairs"] (spInit K C) := by
  refine F.ok scInit (fun vs H Q E h => ?_) (fun cdv A outer s H vs Q E hr h => ?_)
  · obtain ⟨p, dx, t, prs, rfl, _⟩ := h
    rfl
  · obtain ⟨p, dx, t, prs, rfl, hp, ⟨ts, ht, hq⟩, hl, k⟩ := h
    have hu := hu_of hr
    refine ⟨_, PSs.nox (pss_cons (ps_fld (pv 0) pe_bl rfl) (pss_cons (ps_fld (pv 0) pe_dnewK rfl)
      (pss_one (ps_for PassesOwn.never rfl (pi_tup (pv 1)) (pg_tup rfl (pgs_cons (pg_name (i := 2) scInit.nd rfl (Or.inl rfl)) (pgs_cons (pg_name (i := 3) scInit.nd rfl (Or.inl rfl)) pgs_nil)))
        (pss_one (ps_dput hu (pe_fld (pv 0) rfl) (pv 2) (pv 3) rfl)))))), ?_⟩
    refine ⟨_, rfl, p, C, dx, [], rfl, hp, T.cl, T.nB, (by show 0 < 1000; decide), ?_⟩
    intro d hd
    have npd : p ≠ d := ne_of_none upd_same hd
    refine ⟨_, rfl, p, C, dx, _, rfl, (by rw [upd_ne npd, upd_same]), T.cl, T.nH, (by show 1 < 1000; decide), ?_⟩
    have keep : ∀ b o, H b = some o → b ≠ p → (upd (upd (upd H p (.ins C dx (putF "is_busy" (.bl false) []))) d (.dK [])) p (.ins C dx (flds d))) b = some o := fun b o e hb => by
      have hdb : b ≠ d := by
        refine ne_of_none (H := upd H p (.ins C dx (putF "is_busy" (.bl false) []))) (o := o) ?_ hd
        rw [upd_ne hb]
        exact e
      rw [upd_ne hb, upd_ne hdb, upd_ne hb]
      exact e
    have hd0 : H d = none := by
      have z := hd
      rw [upd_ne npd.symm] at z
      exact z
    refine ⟨_, rfl, t, rfl, ⟨_, sqt_keep hp keep ht⟩, for_tup (K := K) (a := t) (xs := ts.map V.ref) (fun i σ H' => ∃ v2 v3 : Option V, σ = [some (.ref p), some (.ref t), v2, v3] ∧ CtxAt C H' p d (made (prs.take i)) ∧ ∀ b o, H b = some o → b ≠ p → H' b = some o)
      ⟨none, none, rfl, ⟨⟨dx, upd_same⟩, by rw [upd_ne npd.symm, upd_same]; rfl⟩, keep⟩ (fun i σ H' _ ⟨_, _, _, _, kp⟩ => sqt_keep hp kp ht) ?_ ?_⟩
    · rintro i y σ H' hi ⟨v2, v3, rfl, ⟨⟨dx', ob⟩, dc⟩, kp⟩
      obtain ⟨q, hq1, rfl⟩ := ref_at hi
      obtain ⟨e, he, hs⟩ := pair_at hq hq1
      have il : i < prs.length := (List.getElem?_eq_some_iff.mp he).1
      refine ⟨q, _, rfl, sqt_keep hp kp hs, rfl, _, _, rfl, _, _, rfl, rfl, ?_⟩
      refine ⟨_, rfl, _, rfl, p, C, dx', _, _, rfl, ob, T.cl, T.nH, flds_held d, _, rfl, d, _, rfl, DPut.k (k := Sum.inr e.1) dc (small1000 (by rw [kv_len]; have := made_len prs i; omega)), ?_⟩
      refine ⟨_, _, rfl, ⟨⟨dx', by rw [upd_ne npd]; exact ob⟩, ?_⟩, fun b o hb hbp => ?_⟩
      · rw [upd_same, putK_kv, List.take_add_one, he]
        simp only [Option.toList, made_snoc]
      · rw [upd_ne (ne_of_none hb hd0)]
        exact kp b o hb hbp
    · rintro σ H' ⟨v2, v3, rfl, c, kp⟩
      rw [List.length_map, pair_len hq, List.take_length] at c
      exact k d H' hd0 c kp
end
end SW

set_option Elab.async false
set_option maxRecDepth 100000
/-! The methods of a context that raise nothing. -/
namespace SW
open PySem PySem.Spec PyProof.Rows L2
/-! == of two dicts of texts and ints -/
def eqB (m m' : Mp) : Bool := m.length == m'.length && m.all fun e => decide (aget m' e.1 = some e.2)
theorem aget_mem {m : Mp} (nd : (keys m).Nodup) : ∀ {e : Str × Int}, e ∈ m → aget m e.1 = some e.2 := by
  induction m with
  | nil => intro e h; simp at h
  | cons x r ih =>
    intro e h
    have nd' : (x.1 :: keys r).Nodup := nd
    obtain ⟨h1, h2⟩ := List.nodup_cons.mp nd'
    unfold aget
    rw [List.find?_cons]
    rcases List.mem_cons.mp h with q | q
    · rw [q]
      simp
    · have : ¬ x.1 = e.1 := fun z => h1 (by rw [z]; exact List.mem_map.mpr ⟨e, q, rfl⟩)
      rw [decide_eq_false this]
      exact ih h2 q
theorem mem_of_aget {m : Mp} {k : Str} {v : Int} (h : aget m k = some v) : (k, v) ∈ m := by
  unfold aget at h
  cases e : m.find? fun e => decide (e.1 = k) with
  | none => rw [e] at h; cases h
  | some x =>
    rw [e] at h
    have hv : x.2 = v := Option.some.inj h
    have hk : x.1 = k := by simpa using List.find?_some e
    have hm := List.mem_of_find?_eq_some e
    rw [← hv, ← hk]
    exact hm
theorem eqB_iff {ns ns' : List Str} {m m' : Mp} (g : Good ns m) (g' : Good ns' m') : eqB m m' = true ↔ Eqm m m' := by
  unfold eqB
  rw [Bool.and_eq_true, List.all_eq_true]
  constructor
  · rintro ⟨hl, ha⟩ k
    have hl' : m.length = m'.length := by simpa using hl
    have sub : ∀ x ∈ keys m, x ∈ keys m' := fun x hx => by
      obtain ⟨e, he, rfl⟩ := List.mem_map.mp hx
      rw [mem_keys, of_decide_eq_true (ha e he)]
      rfl
    cases e : aget m k with
    | some v => exact (of_decide_eq_true (ha _ (mem_of_aget e))).symm
    | none =>
      cases e' : aget m' k with
      | none => rfl
      | some v =>
        have hk' : k ∈ keys m' := by rw [mem_keys, e']; rfl
        have hk : k ∉ keys m := by rw [mem_keys, e]; simp
        have := nodup_le (ws := k :: keys m) (zs := keys m') (List.nodup_cons.mpr ⟨hk, g.nd⟩) fun x hx => by
          rcases List.mem_cons.mp hx with z | z
          · rw [z]
            exact hk'
          · exact sub x z
        unfold keys at this
        rw [List.length_cons, List.length_map, List.length_map] at this
        omega
  · intro h
    refine ⟨by rw [h.len g g']; exact beq_self_eq_true _, fun e he => decide_eq_true ?_⟩
    rw [← h e.1, aget_mem g.nd he]
theorem eqB_alike {ns : List Str} {a b c d : Mp} (ga : Good ns a) (gb : Good ns b) (gc : Good ns c) (gd : Good ns d) (h1 : Eqm a c) (h2 : Eqm b d) : eqB a b = eqB c d := by
  have e : eqB a b = true ↔ eqB c d = true := by
    rw [eqB_iff ga gb, eqB_iff gc gd]
    exact ⟨fun h k => by rw [← h1 k, ← h2 k, h k], fun h k => by rw [h1 k, h2 k, h k]⟩
  cases x : eqB a b <;> cases y : eqB c d <;> simp [x, y] at e <;> rfl
theorem hits_kv {A : Around} {s : Shared} {m' : Mp} {vb : List (Key × Value)} (rb : KV (kv m') vb) : ∀ {m : Mp} {va : List (Key × Value)}, KV (kv m) va →
    PySem.W.KeqHits A s vb va (m.all fun e => decide (aget m' e.1 = some e.2))
  | [], _, .nil => .nil
  | e :: r, _, .cons h t => by
    obtain ⟨h1, h2⟩ := h
    rename_i q qs
    obtain ⟨k, v⟩ := q
    have h1' : (Sum.inr e.1 : Key) = k := h1
    have h2' : RelV (.int e.2) v := h2
    have rr : RelO (valV (kv m') (Sum.inr e.1)) (valueAt vb (Sum.inr e.1)) := rb.val _
    have ih := hits_kv (A := A) (s := s) rb (m := r) t
    rw [List.all_cons]
    subst h1'
    rw [valV_kv] at rr
    cases g : aget m' e.1 with
    | none =>
      rw [g] at rr
      have hn : valueAt vb (Sum.inr e.1) = none := by
        cases z : valueAt vb (Sum.inr e.1) with
        | none => rfl
        | some y => rw [z] at rr; exact rr.elim
      have ef : (decide ((none : Option Int) = some e.2) && r.all fun e => decide (aget m' e.1 = some e.2)) = false := by simp
      rw [ef]
      exact .miss hn
    | some x =>
      rw [g] at rr
      obtain ⟨y, hy, ry⟩ := rr.some_of
      refine .hit hy ?_ ih
      obtain ⟨t1, rfl⟩ := (show ∃ t, v = Value.int e.2 t from h2')
      obtain ⟨t2, rfl⟩ := (show ∃ t, y = Value.int x t from ry)
      have q := eqAt_V (A := A) (s := s) (y := .int e.2) (x := .int x) (u := .int e.2 t1) (v := .int x t2) ⟨t1, rfl⟩ ⟨t2, rfl⟩ rfl rfl
      have ev : eqV (.int e.2) (.int x) = decide (some x = some e.2) := by
        show (e.2 == x) = _
        by_cases z : e.2 = x
        · simp [z]
        · have z' : ¬ x = e.2 := fun w => z w.symm
          simp [z, z']
      rw [← ev]
      exact q
theorem fin_bool {X : Cx} {pins : List (Addr × Obj)} {σ : L2.St} {H : Hp} {s : Shared} {b c : Bool} {Q : VK} (I : Inv X pins σ H s) (e : b = c) (q : Q (.bl c) H) : EP X pins σ Q (.bool b) s := ⟨.bl c, H, I, by rw [e]; rfl, q⟩
section
variable {X : Cx}
/-- == of two dicts of texts to ints -/
theorem op_eqKv (hu : X.A.units < cLine) : OpR X (compareOp .Eq) (fun x y H Q => ∃ a b m m', x = .ref a ∧ y = .ref b ∧ H a = some (.dK (kv m)) ∧ H b = some (.dK (kv m')) ∧ Q (.bl (eqB m m')) H) := by
  intro pins s σ H x y v u Q I rx ry h
  obtain ⟨a, b, m, m', rfl, rfl, ea, eb, q⟩ := h
  obtain rfl : v = Value.ref a := rx
  obtain rfl : u = Value.ref b := ry
  obtain ⟨_, ya, va, ra, da⟩ := (show ObjOk X.prog X.w H s.heap a (.dK (kv m)) from I.hok a _ ea)
  obtain ⟨_, yb, vb, rb, db⟩ := (show ObjOk X.prog X.w H s.heap b (.dK (kv m')) from I.hok b _ eb)
  have la : va.length = m.length := by rw [← ra.length, kv_len]
  have lb : vb.length = m'.length := by rw [← rb.length, kv_len]
  refine PySem.W.keq_eq (knd := mixKind X.prog X.w) ya yb da db hu (fun _ => hits_kv rb ra) (fin_bool I ?_ q)
  unfold eqB
  rw [la, lb]
theorem op_neKv (hu : X.A.units < cLine) : OpR X (compareOp .NotEq) (fun x y H Q => ∃ a b m m', x = .ref a ∧ y = .ref b ∧ H a = some (.dK (kv m)) ∧ H b = some (.dK (kv m')) ∧ Q (.bl (!eqB m m')) H) := by
  intro pins s σ H x y v u Q I rx ry h
  obtain ⟨a, b, m, m', rfl, rfl, ea, eb, q⟩ := h
  obtain rfl : v = Value.ref a := rx
  obtain rfl : u = Value.ref b := ry
  obtain ⟨_, ya, va, ra, da⟩ := (show ObjOk X.prog X.w H s.heap a (.dK (kv m)) from I.hok a _ ea)
  obtain ⟨_, yb, vb, rb, db⟩ := (show ObjOk X.prog X.w H s.heap b (.dK (kv m')) from I.hok b _ eb)
  have la : va.length = m.length := by rw [← ra.length, kv_len]
  have lb : vb.length = m'.length := by rw [← rb.length, kv_len]
  refine PySem.W.keq_ne (knd := mixKind X.prog X.w) ya yb da db hu (fun _ => hits_kv rb ra) (fin_bool I ?_ q)
  unfold eqB
  rw [la, lb]
end
end SW

set_option Elab.async false
set_option maxRecDepth 100000
/-! The methods of a context that raise nothing: promises and bodies. -/
namespace SW
open PySem PySem.Spec PyProof.Rows L2
def spSet (C : Addr) : Sp := fun vs H Q _ => ∃ (p d : Addr) (m : Mp) (k : Str) (v : Int), vs = [.ref p, .str k, .int v] ∧ CtxAt C H p d m ∧ m.length ≤ 100 ∧ Q .non (upd H d (.dK (kv (aput m k v))))
def spHas (C : Addr) : Sp := fun vs H Q _ => ∃ (p d : Addr) (m : Mp) (k : Str), vs = [.ref p, .str k] ∧ CtxAt C H p d m ∧ Q (.bl (aget m k).isSome) H
def spLen (C : Addr) : Sp := fun vs H Q _ => ∃ (p d : Addr) (m : Mp), vs = [.ref p] ∧ CtxAt C H p d m ∧ Q (.int m.length) H
def spDrop (C : Addr) : Sp := fun vs H Q _ => ∃ (p d : Addr) (m : Mp) (k : Str), vs = [.ref p, .str k] ∧ CtxAt C H p d m ∧ (keys m).Nodup ∧
  ∀ H', H' d = some (.dK (kv (adrop m k))) → (∀ b, b ≠ d → H' b = H b) → Q .non H'
/-- the pairs of m, its variables in the order ys -/
def srt (m : Mp) (ys : List Str) : Mp := ys.map fun y => (y, (aget m y).getD 0)
def spPairs (K : PySem.W.Frag) (C : Addr) : Sp := fun vs H Q _ => ∃ (p d : Addr) (m : Mp), vs = [.ref p] ∧ CtxAt C H p d m ∧ m.length < 64 ∧
  ∀ (ys : List Str) (t : Addr) (H' : Hp), Same H H' → H t = none → ys.Perm (keys m) → sortedS ys = true → PairsAt K H' t (srt m ys) → Q (.ref t) H'
def spCopy (C : Addr) : Sp := fun vs H Q _ => ∃ (p d : Addr) (m : Mp), vs = [.ref p] ∧ CtxAt C H p d m ∧ m.length < 64 ∧ (keys m).Nodup ∧
  ∀ (p' d' : Addr) (m' : Mp) (H' : Hp), Same H H' → H p' = none → H d' = none → CtxAt C H' p' d' m' → Eqm m' m → m'.Perm m → Q (.ref p') H'
def spSame (C : Addr) : Sp := fun vs H Q _ => ∃ (p d : Addr) (m : Mp) (p' d' : Addr) (m' : Mp), vs = [.ref p, .ref p'] ∧ CtxAt C H p d m ∧ CtxAt C H p' d' m' ∧ Q (.bl (decide (p = p'))) H
/-! the mathematics of copies -/
theorem adrop_none {m : Mp} {k : Str} (h : (aget m k).isSome = false) : adrop m k = m := by
  unfold adrop
  refine List.filter_eq_self.mpr fun e he => decide_eq_true fun z => ?_
  have : k ∈ keys m := List.mem_map.mpr ⟨e, he, z⟩
  rw [mem_keys, h] at this
  cases this
theorem aput_out {m : Mp} {k : Str} {v : Int} (h : k ∉ keys m) : aput m k v = m ++ [(k, v)] := by
  unfold aput
  rw [if_neg]
  intro z
  rw [List.any_eq_true] at z
  obtain ⟨e, he, q⟩ := z
  exact h (List.mem_map.mpr ⟨e, he, of_decide_eq_true q⟩)
theorem made_self : ∀ (l acc : Mp), (keys (acc ++ l)).Nodup → l.foldl (fun m e => aput m e.1 e.2) acc = acc ++ l
  | [], acc, _ => by rw [List.append_nil]; rfl
  | e :: r, acc, h => by
    have h1 : e.1 ∉ keys acc := by
      unfold keys at h ⊢
      rw [List.map_append, List.map_cons] at h
      have := (List.nodup_append.mp h).2.2
      intro z
      exact this _ z _ List.mem_cons_self rfl
    rw [List.foldl_cons, aput_out h1, made_self r (acc ++ [(e.1, e.2)]) (by rw [List.append_assoc]; exact h), List.append_assoc]
    rfl
theorem made_nodup {l : Mp} (h : (keys l).Nodup) : made l = l := made_self l [] h
theorem keys_srt (m : Mp) (ys : List Str) : keys (srt m ys) = ys := by
  unfold keys srt
  rw [List.map_map]
  exact List.map_id ys
theorem srt_keys {m : Mp} (nd : (keys m).Nodup) : srt m (keys m) = m := by
  unfold srt keys
  rw [List.map_map]
  have : ∀ e ∈ m, ((fun y => (y, (aget m y).getD 0)) ∘ fun x => x.1) e = e := fun e he => by
    simp only [Function.comp]
    rw [aget_mem nd he]
    rfl
  exact (List.map_congr_left this).trans (List.map_id m)
theorem srt_perm {m : Mp} (nd : (keys m).Nodup) {ys : List Str} (h : ys.Perm (keys m)) : (srt m ys).Perm m := by
  have := h.map fun y => (y, (aget m y).getD 0)
  have e := srt_keys nd
  unfold srt at e ⊢
  rw [e] at this
  exact this
theorem aget_perm {m m' : Mp} (nd : (keys m).Nodup) (h : m'.Perm m) : Eqm m' m := fun k => by
  have nd' : (keys m').Nodup := (show (keys m').Perm (keys m) from h.map _).nodup_iff.mpr nd
  cases e : aget m k with
  | some v => exact aget_mem nd' (h.mem_iff.mpr (mem_of_aget e))
  | none =>
    cases e' : aget m' k with
    | none => rfl
    | some v =>
      have := aget_mem nd (h.mem_iff.mp (mem_of_aget e'))
      rw [show aget m k = some v from this] at e
      cases e
section
variable {P : Program} {w : World} {K : PySem.W.Frag} {mg : Str → Option Value} {base : Heap}
theorem scSet : FnScope ["self", "variable", "value"] ["self", "variable", "value"] (defScope sSet) := ⟨rfl, rfl, rfl, by decide +kernel, rfl, by decide +kernel, by decide +kernel⟩
theorem ok_set {f C : Addr} {fd : FuncData} (F : Fun K "__setitem__" "Context.__setitem__" sSet f fd) (T : TxC K mg C) : FnOk P w K mg base CX0 1 f fd ["self", "variable", "value"] (spSet C) := by
  refine F.ok scSet (fun vs H Q E h => ?_) (fun cdv A outer s H vs Q E hr h => ?_)
  · obtain ⟨p, d, m, k, v, rfl, _⟩ := h
    rfl
  · obtain ⟨p, d, m, k, v, rfl, ⟨⟨dx, ob⟩, dc⟩, hl, q⟩ := h
    have hu := hu_of hr
    refine ⟨_, pss_one (ps_dput hu (pe_fld (pv 0) rfl) (pv 1) (pv 2) rfl), ?_⟩
    refine ⟨_, rfl, _, rfl, p, C, dx, _, _, rfl, ob, T.cl, T.nH, flds_held d, _, rfl, d, _, rfl, DPut.k (k := Sum.inr k) dc (small1000 (by rw [kv_len]; omega)), ?_⟩
    rw [putK_kv]
    exact q
theorem scHas : FnScope ["self", "variable"] ["self", "variable"] (defScope sHas) := ⟨rfl, rfl, rfl, by decide +kernel, rfl, by decide +kernel, by decide +kernel⟩
theorem ok_has {f C : Addr} {fd : FuncData} (F : Fun K "__contains__" "Context.__contains__" sHas f fd) (T : TxC K mg C) : FnOk P w K mg base CX0 1 f fd ["self", "variable"] (spHas C) := by
  refine F.ok scHas (fun vs H Q E h => ?_) (fun cdv A outer s H vs Q E hr h => ?_)
  · obtain ⟨p, d, m, k, rfl, _⟩ := h
    rfl
  · obtain ⟨p, d, m, k, rfl, ⟨⟨dx, ob⟩, dc⟩, q⟩ := h
    have hu := hu_of hr
    refine ⟨_, pss_one (ps_ret (pe_cmp (pc_din hu (pv 1) (pe_fld (pv 0) rfl)))), ?_⟩
    refine ⟨_, rfl, _, rfl, p, C, dx, _, _, rfl, ob, T.cl, T.nH, flds_held d, d, _, rfl, DGet.k (k := Sum.inr k) dc, ?_⟩
    rw [valV_kv, Option.isSome_map]
    exact q
theorem scLen : FnScope ["self"] ["self"] (defScope sLen) := ⟨rfl, rfl, rfl, by decide +kernel, rfl, by decide +kernel, by decide +kernel⟩
theorem ok_len {f C : Addr} {fd : FuncData} (F : Fun K "__len__" "Context.__len__" sLen f fd) (T : TxC K mg C) (mL : mg "len" = none) : FnOk P w K mg base CX0 1 f fd ["self"] (spLen C) := by
  refine F.ok scLen (fun vs H Q E h => ?_) (fun cdv A outer s H vs Q E hr h => ?_)
  · obtain ⟨p, d, m, rfl, _⟩ := h
    rfl
  · obtain ⟨p, d, m, rfl, ⟨⟨dx, ob⟩, dc⟩, q⟩ := h
    refine ⟨_, pss_one (ps_ret (pe_callB call_lenD (by rfl) mL PySem.boot_len (pa_cons (pe_fld (pv 0) rfl) pa_nil))), ?_⟩
    refine ⟨_, rfl, p, C, dx, _, _, rfl, ob, T.cl, T.nH, flds_held d, d, _, rfl, dc, ?_⟩
    rw [kv_len]
    exact q
theorem scDrop : FnScope ["self", "variable"] ["self", "variable"] (defScope sDrop) := ⟨rfl, rfl, rfl, by decide +kernel, rfl, by decide +kernel, by decide +kernel⟩
theorem ok_drop {f C : Addr} {fd : FuncData} (F : Fun K "drop" "Context.drop" sDrop f fd) (T : TxC K mg C) : FnOk P w K mg base CX0 1 f fd ["self", "variable"] (spDrop C) := by
  refine F.ok scDrop (fun vs H Q E h => ?_) (fun cdv A outer s H vs Q E hr h => ?_)
  · obtain ⟨p, d, m, k, rfl, _⟩ := h
    rfl
  · obtain ⟨p, d, m, k, rfl, ⟨⟨dx, ob⟩, dc⟩, nd, q⟩ := h
    have hu := hu_of hr
    refine ⟨_, pss_one (ps_if (pt_cmp (pc_din hu (pv 1) (pe_fld (pv 0) rfl))) (pss_one (ps_ddel (pe_fld (pv 0) rfl) (pv 1))) pss_nil), ?_⟩
    refine ⟨_, rfl, _, rfl, p, C, dx, _, _, rfl, ob, T.cl, T.nH, flds_held d, d, _, rfl, DGet.k (k := Sum.inr k) dc, _, rfl, ?_⟩
    refine ite2 (fun h => ?_) (fun h => ?_)
    · refine ⟨_, rfl, p, C, dx, _, _, rfl, ob, T.cl, T.nH, flds_held d, _, rfl, d, kv m, Sum.inr k, rfl, dc, rfl, h, ?_⟩
      rw [dropK_kv]
      exact q _ upd_same fun b hb => upd_ne hb
    · rw [valV_kv, Option.isSome_map] at h
      exact q H (by rw [adrop_none (by simpa using h)]; exact dc) fun _ _ => rfl
theorem scSame : FnScope ["self", "other"] ["self", "other"] (defScope sSame) := ⟨rfl, rfl, rfl, by decide +kernel, rfl, by decide +kernel, by decide +kernel⟩
theorem ok_same {f C : Addr} {fd : FuncData} (F : Fun K "is_same" "Context.is_same" sSame f fd) : FnOk P w K mg base CX0 1 f fd ["self", "other"] (spSame C) := by
  refine F.ok scSame (fun vs H Q E h => ?_) (fun cdv A outer s H vs Q E hr h => ?_)
  · obtain ⟨p, d, m, p', d', m', rfl, _⟩ := h
    rfl
  · obtain ⟨p, d, m, p', d', m', rfl, ⟨⟨dx, ob⟩, dc⟩, ⟨⟨dx', ob'⟩, dc'⟩, q⟩ := h
    refine ⟨_, pss_one (ps_ret (pe_cmpR op_is_ref (pv 0) (pv 1) (nomark _))), ?_⟩
    exact ⟨_, rfl, _, rfl, p, p', _, _, rfl, rfl, ob, rfl, ob', rfl, q⟩
theorem scPairs : FnScope ["self", "variable"] ["self"] (defScope sPairs) := ⟨rfl, rfl, rfl, by decide +kernel, rfl, by decide +kernel, by decide +kernel⟩
theorem ok_pairs {f C : Addr} {fd : FuncData} (F : Fun K "pairs" "Context.pairs" sPairs f fd) (T : TxC K mg C) (mT : mg "tuple" = none) (mS : mg "sorted" = none) : FnOk P w K mg base CX0 1 f fd ["self"] (spPairs K C) := by
  refine F.ok scPairs (fun vs H Q E h => ?_) (fun cdv A outer s H vs Q E hr h => ?_)
  · obtain ⟨p, d, m, rfl, _⟩ := h
    rfl
  · obtain ⟨p, d, m, rfl, ⟨⟨dx, ob⟩, dc⟩, hl, q⟩ := h
    have hu := hu_of hr
    refine ⟨_, pss_one (ps_ret (pe_tupleOf (by rfl) mT (pe_lc (own := [("variable", 1)]) (g := gName 1) (tt := tYes) (te := tTup (tCons (tVar 1) (tCons (tDGet (tFld K (tVar 0) "_held") (tVar 1)) tNil))) rfl scPairs.nd
        (pi_list (pe_callB (call_sortedD rfl) (by rfl) mS boot_sorted (pa_cons (pe_fld (pv 0) rfl) pa_nil)))
        (blkOk_by (N := ["self", "variable"]) (sc := defScope sPairs) (by decide +kernel))
        (fun _ _ _ _ _ => pg_name (i := 1) scPairs.nd rfl (Or.inl rfl)) (fun _ _ _ _ _ => pts_nil)
        (fun _ _ _ _ _ => pe_tup (pa_cons (pv 1) (pa_cons (by exact pe_dget hu (pe_fld (pv 0) rfl) (pv 1) (fun _ _ => rfl)) pa_nil)))))), ?_⟩
    refine ⟨_, rfl, p, C, dx, _, _, rfl, ob, T.cl, T.nH, flds_held d, ?_⟩
    have hk : (kv m).map (·.1) = (keys m).map Sum.inr := by
      unfold kv keys
      rw [List.map_map, List.map_map]
      rfl
    refine ⟨d, kv m, keys m, rfl, .inl dc, hk, (by unfold keys; rw [List.length_map]; exact hl), fun ys l hp hs hl0 => ?_⟩
    have ysl : ys.length < 64 := by
      have := hp.length_eq
      unfold keys at this
      rw [List.length_map] at this
      omega
    refine ⟨l, rfl, ⟨_, SqL.of upd_same⟩, fun D nD => ?_⟩
    have s0 := same_new (o := .lst (ys.map V.str)) hl0
    refine lc_list (K := K) (a := l) (xs := ys.map V.str) (fun i H2 => Same (upd H l (.lst (ys.map V.str))) H2 ∧ ∃ ts : List Addr, H2 D = some (.lst (ts.map V.ref)) ∧ Paired (fun (q : Addr) (e : Str × Int) => SqT K H2 q [.str e.1, .int e.2]) ts (srt m (ys.take i)))
      ⟨same_new nD, [], upd_same, .nil⟩ (fun i H2 _ ⟨s2, _⟩ => s2.seq (SqL.of upd_same)) ?_ ?_
    · rintro i y H2 hi ⟨s2, ts, e2, pr⟩
      obtain ⟨z, hz, rfl⟩ := str_at hi
      have il : i < ys.length := (List.getElem?_eq_some_iff.mp hz).1
      have hzk : z ∈ keys m := hp.mem_iff.mp (List.mem_of_getElem? hz)
      obtain ⟨v, hv⟩ := Option.isSome_iff_exists.mp (mem_keys.mp hzk)
      refine ⟨rfl, ?_⟩
      refine tyes ?_
      have ob2 := s2 _ _ (s0 _ _ ob)
      have dc2 := s2 _ _ (s0 _ _ dc)
      refine ⟨_, rfl, _, rfl, p, C, dx, _, _, rfl, ob2, T.cl, T.nH, flds_held d, _, rfl, d, .int v, rfl, ?_, (by show 2 ≤ sizeLine; decide), fun t nt => ?_⟩
      · have g := DGet.k (H := H2) (k := Sum.inr z) dc2
        rw [valV_kv, hv] at g
        exact g
      have nDt : D ≠ t := ne_of_none e2 nt
      refine ⟨_, (upd_ne nDt).trans e2, small1000 (by rw [List.length_map, pair_len pr]; unfold srt; rw [List.length_map, List.length_take]; omega), ?_, ts ++ [t], ?_, ?_⟩
      · exact Same.new (Same.new s2 (s2.free nt)) nD
      · rw [upd_same, List.map_append]
        rfl
      · have et : srt m (ys.take (i + 1)) = srt m (ys.take i) ++ [(z, v)] := by
          unfold srt
          rw [List.take_add_one, hz, List.map_append]
          simp only [Option.toList, List.map_cons, List.map_nil, hv, Option.getD]
        rw [et]
        have keepT : ∀ (q : Addr) (xs : List V), SqT K H2 q xs → SqT K (upd (upd H2 t (.tup [.str z, .int v])) D (.lst (ts.map V.ref ++ [.ref t]))) q xs := fun q xs h => by
          rcases h with (h | ⟨o, h⟩) | h
          · have h1 : q ≠ D := ne_of h e2 (by intro z; cases z)
            have h2 : q ≠ t := ne_of_none h nt
            exact .inl (.inl (by rw [upd_ne h1, upd_ne h2]; exact h))
          · have h1 : q ≠ D := ne_of h e2 (by intro z; cases z)
            have h2 : q ≠ t := ne_of_none h nt
            exact .inl (.inr ⟨o, by rw [upd_ne h1, upd_ne h2]; exact h⟩)
          · exact .inr h
        refine Paired.snoc (L2.Paired.mapP pr fun q e h => keepT q _ h) ?_
        exact SqT.of (by rw [upd_ne nDt.symm, upd_same])
    · rintro H2 ⟨s2, ts, e2, pr⟩
      rw [List.length_map, List.take_length] at pr
      have hD : H D = none := s0.free nD
      refine Or.inl ⟨D, _, rfl, SqL.of e2, fun t nt => ?_⟩
      refine q ys t _ ((s0.trans s2).trans (same_new nt)) ((s0.trans s2).free nt) hp hs ⟨ts, SqT.of upd_same, L2.Paired.mapP pr fun q e h => ?_⟩
      rcases h with (h | ⟨o, h⟩) | h
      · exact .inl (.inl (same_new nt _ _ h))
      · exact .inl (.inr ⟨o, same_new nt _ _ h⟩)
      · exact .inr h
theorem scCopy : FnScope ["self"] ["self"] (defScope sCopy) := ⟨rfl, rfl, rfl, by decide +kernel, rfl, by decide +kernel, by decide +kernel⟩
theorem ok_copy {f fI fP C : Addr} {fd fdI fdP : FuncData} (F : Fun K "copy" "Context.copy" sCopy f fd) (T : TxC K mg C) (M : Mk K C fI) (GI : FnOk P w K mg base CX0 1 fI fdI ["self", "pairs"] (spInit K C)) (bI : Binds K fdI ["self", "pairs"] [])
    (GP : FnOk P w K mg base CX0 1 fP fdP ["self"] (spPairs K C)) (bP : Binds K fdP ["self"] []) (mP : Meth K C "pairs" fP) : FnOk P w K mg base CX0 3 f fd ["self"] (spCopy C) := by
  refine F.ok scCopy (fun vs H Q E h => ?_) (fun cdv A outer s H vs Q E hr h => ?_)
  · obtain ⟨p, d, m, rfl, _⟩ := h
    rfl
  · obtain ⟨p, d, m, rfl, c, hl, nd, q⟩ := h
    have hr1 : Room 1 _ := hr.mono (by decide)
    refine ⟨_, pss_one (ps_ret (pe_make M GI hr rfl T.mgC bI .nil pass0 (pa_cons (pe_meth0 (pv 0) T.cl mP GP hr1 bP .nil pass0) pa_nil))), ?_⟩
    obtain ⟨⟨dx, ob⟩, dc⟩ := id c
    refine ⟨_, rfl, p, dx, _, rfl, ob, flds_no d (by decide +kernel) (by decide +kernel), p, d, m, rfl, c, hl, fun ys t H1 s1 nt hp hs pr => ?_⟩
    intro x dy nx ndy nxy
    have hk : (keys (srt m ys)).Nodup := by rw [keys_srt]; exact hp.nodup_iff.mpr nd
    have pl := srt_perm nd hp
    refine ⟨x, dy, t, srt m ys, rfl, upd_same, ?_, by rw [pl.length_eq]; omega, fun d' H2 nd' c' k' => ⟨rfl, ?_⟩⟩
    · obtain ⟨ts, h1, h2⟩ := pr
      have kp : ∀ (q : Addr) (xs : List V), SqT K H1 q xs → SqT K (upd (upd H1 dy (.own x)) x (.ins C dy [])) q xs := fun q xs h => by
        rcases h with (h | ⟨o, h⟩) | h
        · exact .inl (.inl (by rw [upd_ne (ne_of_none h nx), upd_ne (ne_of_none h ndy)]; exact h))
        · exact .inl (.inr ⟨o, by rw [upd_ne (ne_of_none h nx), upd_ne (ne_of_none h ndy)]; exact h⟩)
        · exact .inr h
      exact ⟨ts, kp _ _ h1, L2.Paired.mapP h2 fun q e h => kp _ _ h⟩
    · rw [made_nodup hk] at c'
      have s2 : Same H1 (upd (upd H1 dy (.own x)) x (.ins C dy [])) := fun b o e => by
        rw [upd_ne (ne_of_none e nx), upd_ne (ne_of_none e ndy)]
        exact e
      have s3 : Same H1 H2 := fun b o e => k' b o (s2 b o e) (ne_of_none e nx)
      have hd' : H1 d' = none := s2.free nd'
      exact q x d' (srt m ys) H2 (s1.trans s3) (s1.free nx) (s1.free hd') c' (aget_perm nd pl) pl
end
end SW

set_option Elab.async false
set_option linter.all false
set_option maxRecDepth 100000
set_option maxHeartbeats 2000000
/-! An own error over RuntimeError with a field. -/
namespace PySem
namespace ReX
open PySem.W PySem.Calls PyProof.Rows PySem.HandSPX
/-! ### the text of __init__ -/
def iA (p1 p2 : Pos) : Arguments := { posonlyargs := [], args := [{ arg := "self", annotation := none, pos := p1 }, { arg := "word", annotation := none, pos := p2 }], vararg := none, kwonlyargs := [], kw_defaults := [], kwarg := none, defaults := [] }
def iB (q1 q2 q3 q4 : Pos) : List Stmt := [.Assign [.Attribute (.Name "self" q1) "word" q2] (.Name "word" q3) q4]
def iS : Scope := { kind := .function, names := [(PySem.Str.ofString "self", .local), (PySem.Str.ofString "word", .local)], isGenerator := false, isCoroutine := false, more := [] }
abbrev reTail : List Value := [.type "RuntimeError", .type "Exception", .type "BaseException", .type "object"]
/-- what the written part says of Low, at C, and of its __init__, at fI -/
structure ReTxt (K : Frag) (mg : Str → Option Value) (C fI : Addr) : Prop where
  gC : mg "Fails" = some (.ref C)
  cls : ∃ nm q N bs bm sn sub ab col dd k0 k1 k2 k3 k5, K.lookup C = some (excClassObj nm q C N bs bm true sn sub ab col dd k0 k1 k2 k3 k5 "RuntimeError.__new__") ∧ excTail reTail bm = true
  sa : findIn K (.ref C) "__setattr__" = some (some (.builtin "object.__setattr__"))
  ga : findIn K (.ref C) "__getattribute__" = some (some (.builtin "BaseException.__getattribute__"))
  gg : findIn K (.ref C) "__getattr__" = some none
  noN : findIn K (.ref C) "word" = some none
  iC : findIn K (.ref C) "__init__" = some (some (.ref fI))
  tC : typeIn K (.ref fI) = some (.type "function")
  kC : keepIn K (.ref C) = true
  exC : subIn K (.ref C) (.type "BaseException") = some true
  tyC : typeIn K (.ref C) = some (.type "type")
  hdC : hasDictIn K C = true
  te : exmOne K (.ref C) (.ref C) = some true
  fn : ∃ (oc : Value) (od : Option Addr) (doc pm : Value) (an : Option Addr) (cdv ct : Value) (osl : Array (Option Value)) (p1 p2 q1 q2 q3 q4 : Pos),
    K.lookup fI = some ⟨oc, od, .func (fnOf "__init__" "Fails.__init__" (iA p1 p2) (iB q1 q2 q3 q4) iS .none .none doc pm an cdv ct), osl⟩ ∧ codeIn K cdv "Fails.__init__" = true
theorem one_size (v : Value) : [v].length ≤ sizeLine := by
  rw [sizeLine_eq]
  exact (by decide : 1 ≤ 16777216)
theorem kept_but {K : Frag} {h h' : Heap} {x : Addr} (X : K.In h) (hx : K.lookup x = none) (k : ∀ b o, b ≠ x → h.get? b = some o → h'.get? b = some o) : K.In h' := fun a o e =>
  k a o (fun z => by rw [z, hx] at e; cases e) (X a o e)
theorem ldC {M : Model} {s : Shared} {name : Str} {scope : Scope} {L a : Addr} {cd : Value} {m : Str → Option Value} {x : Str} {pos : Pos} {v : Value} {Q : Value → Shared → Prop} {A : Around} {E : Value → Shared → Prop} (hn : s.heap.Ns L m) (hv : m x = some v) (h : Q v s)
    (hk : scope.kind = .function := by rfl) (hl : (envOfC name scope L a cd).kindOf x = some .local := by rfl) (hd : (x == ("__debug__" : Str)) = false := by decide) :
    wpAny M A (eval (.Name x pos) (envOfC name scope L a cd)) Q E s := wpAny_Name (wpAny_loadName_local hk hl hn hv h) hd
/-- what __init__ leaves of a fresh exception at x -/
structure InitEnd (h h' : Heap) (x C dx t1 : Addr) (v : Value) : Prop where
  keep : ∀ b o, b ≠ x → h.get? b = some o → h'.get? b = some o
  obj : h'.get? x = some { cls := .ref C, dict := some dx, data := .fields #[.ref t1, .none, .none, .none, .bool false, .none] }
  dbig : h.objs.size ≤ dx
  dne : dx ≠ x
  ns : h'.Ns1 dx (fun y => if y = "word" then some v else none)
/-- a made Low -/
structure OwnMade (h h' : Heap) (e C d : Addr) (v : Value) : Prop where
  keep : ∀ b o, h.get? b = some o → h'.get? b = some o
  new : h.objs.size ≤ e
  obj : ∃ oe vs, h'.get? e = some oe ∧ oe.cls = .ref C ∧ oe.dict = some d ∧ oe.data = .fields vs ∧ vs[1]? = some .none
  dbig : h.objs.size ≤ d
  dne : d ≠ e
  ns : h'.Ns1 d (fun y => if y = "word" then some v else none)
section
open Builtin Builtin.ObjectAttr
variable {prog : Program} {w : World} {A : Around} {R : Result → Shared → Prop} {hp : Heap} {g : Array GenState} {d : Drawn} {t : Nat} {os : OsState}
/-- self.name = v on an error of a class over RuntimeError that has no dict yet -/
theorem re_store {K : Frag} {name : Str} {tk : Tok} {v : Value} {x C : Addr} {fv : Array Value} {nm : Str} {bs bm : List Value} {ns : Addr} {qn : Str} {sn : List Str} {sb : List Value} {ab : Bool} {col : Option Bool}
    (X : K.In hp) (hx : hp.get? x = some { cls := .ref C, data := .fields fv })
    (hcd : clsIn K C = some { name := nm, bases := bs, mro := .ref C :: bm, ns := ns, qualname := qn, hasDict := true, slotNames := sn, subclasses := sb, abstract := ab, collection := col, hasDel := false }) (hm : excTail reTail bm = true)
    (ha : findIn K (.ref C) name = some none)
    (hq : ∀ h' tk' dx, (∀ b o, b ≠ x → hp.get? b = some o → h'.get? b = some o) → hp.objs.size ≤ dx → dx ≠ x → h'.get? x = some { cls := .ref C, dict := some dx, data := .fields fv } →
      h'.Ns1 dx (fun y => if y = name then some v else none) → R (.ok (.ret .none)) ⟨h', g, d, tk', os⟩) :
    codeAny (model prog w) A (.call (.builtin "object.__setattr__") ⟨[.ref x, .str name tk, v], []⟩) R ⟨hp, g, d, t, os⟩ := by
  have J : InstAt hp x { cls := .ref C, data := .fields fv } C none := ⟨hx, rfl, rfl, trivial⟩
  have over : excOver K C reTail = true := by
    unfold excOver
    rw [hcd]
    show (C == C && excTail reTail bm) = true
    rw [hm, beq_self_eq_true]
    rfl
  have tkr : takerIn K C name = some none := by
    unfold takerIn
    rw [ha]
    rfl
  have hxs : x ≠ hp.objs.size := Nat.ne_of_lt (Heap.lt_size hx)
  have hcls : Looks (model prog w) hp (classData C) _ := looks_clsIn X hcd
  refine osa_openX (s := ⟨hp, g, d, t, os⟩) PySem.F.store_RuntimeError X J over tkr fun b => ?_
  show wpAny _ _ (storeInOwnDict (.ref x) (.ref C) (.str name tk) name v b) _ _ _
  unfold storeInOwnDict ownDictForStores
  repeat (first | with_reducible refine store_in_new ?_ ?_ | with_reducible refine wpAny_loadPart_at hx ?_ | with_reducible refine hcls.at ?_ | wp_step)
  · exact ⟨_, #[], _, (Heap.get?_update_ne _ _ _ _ hxs.symm).trans (Heap.get?_push_at rfl rfl), rfl, fun e he => absurd he (by simp), fun _ => rfl⟩
  · intro h2 tk2 hn2 hs2
    refine hq h2 tk2 hp.objs.size (fun b o hb ho => ?_) (Nat.le_refl _) hxs.symm ?_ hn2
    · exact (hs2.2 b (Nat.ne_of_lt (Heap.lt_size ho))).trans ((Heap.get?_update_ne _ _ _ _ hb).trans (Heap.get?_push_of_some _ ho))
    · exact (hs2.2 x hxs).trans (Heap.get?_update_self _ (Heap.get?_push_of_some _ hx) rfl)
end
section
variable {prog : Program} {w : World} {A : Around} {E : Value → Shared → Prop} {R : Result → Shared → Prop} {s : Shared} {K : Frag} {mg : Str → Option Value} {C fI : Addr}
theorem re_init (T : ReTxt K mg C fI) {x t0 : Addr} {v : Value} (X : K.In s.heap) (hlim : s.heap.NoLimit) (hx : s.heap.get? x = some (excO C t0)) (hnx : K.lookup x = none) (hroom : A.depth < recursionLimit)
    (hq : ∀ h' tk dx, InitEnd s.heap h' x C dx t0 v → R (.ok (.ret .none)) { s with heap := h', toks := tk }) :
    codeAny (model prog w) A (.call (.ref fI) ⟨[.ref x, v], []⟩) R s := by
  obtain ⟨oc, od, doc, pm, an, cdv, ct, osl, p1, p2, q1, q2, q3, q4, ho, hcd⟩ := T.fn
  obtain ⟨nm, q, N, bs, bm, sn, sub, ab, col, dd, k0, k1, k2, k3, k5, hC, hbm⟩ := T.cls
  have hcl : clsIn K C = some { name := nm, bases := bs, mro := .ref C :: bm, ns := N, qualname := q, hasDict := true, slotNames := sn, subclasses := sub, abstract := ab, collection := col, hasDel := false } := by unfold clsIn; rw [hC] <;> rfl
  refine Att.call_fn (binds := [("self", .ref x), ("word", v)]) X hlim ho hcd hroom (BindsTo.of_eq (by first | rfl | with_unfolding_all rfl)) (by first | rfl | decide | with_unfolding_all rfl) (fun s₁ IC => ?_) rfl rfl rfl
  obtain ⟨h₁, tk₁, rfl⟩ := IC.toInCall.same
  have k : ∀ b o, s.heap.get? b = some o → h₁.get? b = some o := IC.toInCall.keep
  have hn := IC.toInCall.ns
  have hxL : s.heap.objs.size ≠ x := Nat.ne_of_gt (Heap.lt_size hx)
  have X₁ : K.In h₁ := X.keeps k
  have hx₁ := k _ _ hx
  -- self.by = by
  show wpAny _ _ (execs _ _) _ _ _
  refine wpAny_execs_cons (plainObj_wpAny_Assign_Attribute ?_)
  refine ldC (v := v) hn (by first | rfl | with_unfolding_all rfl | kernel_rfl) (ldC (v := .ref x) hn (by first | rfl | with_unfolding_all rfl | kernel_rfl) ?_)
  refine set_plain X₁ (ox := excO C t0) (od := none) ⟨hx₁, rfl, rfl, trivial⟩ T.sa ?_
  refine re_store X₁ hx₁ hcl hbm T.noN (fun h₃ tk₃ dx k₃ dn dne hx₃ hn₃ => ?_)
  show wpAny _ _ (execs _ _) _ _ _
  have z : s.heap.objs.size < h₁.objs.size := hn.lt
  exact wpAny_execs_nil (hq h₃ tk₃ dx ⟨fun b o hb e => k₃ b o hb (k b o e), hx₃, Nat.le_of_lt (Nat.lt_of_lt_of_le z dn), dne, hn₃⟩)
theorem re_made (T : ReTxt K mg C fI) {v : Value} (X : K.In s.heap) (hlim : s.heap.NoLimit) (hroom : A.depth + 1 < recursionLimit)
    (hq : ∀ h' tk e d, OwnMade s.heap h' e C d v → R (.ok (.ret (.ref e))) { s with heap := h', toks := tk }) :
    codeAny (model prog w) A (.call (.ref C) ⟨[v], []⟩) R s := by
  obtain ⟨nm, q, N, bs, bm, sn, sub, ab, col, dd, k0, k1, k2, k3, k5, hC, hbm⟩ := T.cls
  obtain ⟨hp, g, dr, tk, os⟩ := s
  have k : ∀ b o, hp.get? b = some o → ((hp.push (kdv_tup [v])).push (excO C hp.objs.size)).get? b = some o := fun b o e => Heap.get?_push_of_some _ (Heap.get?_push_of_some _ e)
  have hget : ((hp.push (kdv_tup [v])).push (excO C hp.objs.size)).get? (hp.objs.size + 1) = some (excO C hp.objs.size) := by heap_get
  have hnx : K.lookup (hp.objs.size + 1) = none := by
    cases e : K.lookup (hp.objs.size + 1) with
    | none => rfl
    | some o =>
      have z : hp.get? (hp.objs.size + 1) = some o := X _ _ e
      exact absurd (Nat.lt_of_succ_lt (Heap.lt_size z)) (Nat.lt_irrefl _)
  refine call_own F.excBase_RuntimeError (fun X => excTail_contains X bm hbm) (X _ _ hC) (looks_findIn X T.iC) (fun self => bind_fn X self T.tC) (one_size v) ?_
  refine re_init (s := ⟨(hp.push (kdv_tup [v])).push (excO C hp.objs.size), g, dr, tk, os⟩) T (X.keeps k) (hlim.keeps k) hget hnx ?_ fun h' tk' dx ⟨k', hx, dn, dne, hns⟩ => ?_
  · show A.depth + 1 < recursionLimit
    exact hroom
  · have old : ∀ b o, hp.get? b = some o → h'.get? b = some o := fun b o e => k' b o (Nat.ne_of_lt (Nat.lt_succ_of_lt (Heap.lt_size e))) (k b o e)
    have z : hp.objs.size + 1 + 1 ≤ dx := by
      first
        | (simpa only [Heap.size_push] using dn)
        | exact dn
        | (have q := dn; rw [Heap.size_push, Heap.size_push] at q; exact q)
    exact ⟨rfl, hq h' tk' (hp.objs.size + 1) dx ⟨old, Nat.le_succ _, ⟨_, _, hx, rfl, rfl, rfl, rfl⟩, Nat.le_trans (Nat.le_trans (Nat.le_succ _) (Nat.le_succ _)) z, dne, hns⟩⟩
end
end ReX
end PySem
namespace L2
open PySem PySem.Spec PyProof.Rows
theorem relO_re {v : V} {v' : Value} (r : RelV v v') (f : Str) : RelO (List.lookup f [(("word" : Str), v)]) (if f = "word" then some v' else none) := by
  by_cases hw : f = "word"
  · subst hw
    rw [if_pos rfl]
    have q : List.lookup ("word" : Str) [(("word" : Str), v)] = some v := by simp [List.lookup]
    rw [q]
    exact r
  · rw [if_neg hw]
    have qw : (f == ("word" : Str)) = false := by simpa using hw
    have q2 : List.lookup f [(("word" : Str), v)] = none := by simp [List.lookup, qw]
    rw [q2]
    trivial
section
variable {X : Cx} {C fI : Addr}
/-- Low(e) -/
def tMkRe (C : Addr) (ta : TA) : St → Hp → XK → Prop := fun σ H Q => ta σ H fun vs H1 => ∃ v, vs = [v] ∧ ∀ d, H1 d = none → Q (.ref C) (some d) (upd H1 d (.xd [(("word" : Str), v)]))
theorem pmk_re {a : Expr} {ta : TA} {p pos : Pos} {k : Nat} (T : PySem.ReX.ReTxt X.K X.mg C fI) (hr : Room k X.A) (ha : PA X [a] ta) (hg : Gl X "Fails" := by rfl)
    (he : starEach (a :: []) X.env = (false, eval a X.env) :: starEach [] X.env := by rfl) (hpl : (backTo pos (starEach [] X.env)).any (·.1) = false := by rfl) :
    PMk X (.Call (.Name "Fails" p) [a] [] pos) (tMkRe C ta) := by
  intro pins s σ H Q I h
  refine wpAny_Call_Name_kw (ld_glob I hg T.gC ?_)
  refine PySem.W.callWith_K (h₀ := X.base) I.ok.mod.kin T.kC (thn (ha.run pos pins s σ H _ I h) fun us s1 hh => ?_) he hpl
  obtain ⟨vs, H1, I1, r1, v, ev, q1⟩ := hh
  subst ev
  refine ⟨I1.kIn, ?_⟩
  cases r1 with
  | cons rv rn =>
    rename_i v' us'
    cases rn
    show wpAny _ _ (call (.ref C) [v']) _ _ _
    have hlim := I1.nolimit
    obtain ⟨hp, g, dr, tk, os⟩ := s1
    refine wpAny_call (PySem.ReX.re_made T I1.kIn hlim (by have := hr.dp; omega) fun h' tk' e d M => ?_)
    show MkP X pins σ Q (.ref e) ⟨h', g, dr, tk', os⟩
    obtain ⟨oe, fv, hoe, hc, hd, hdat, h1⟩ := M.obj
    have hns := M.ns
    obtain ⟨G', g1, g2⟩ := restrict h' fun b => decide (b ≠ e)
    have gk : ∀ b, b ≠ e → G'.get? b = h'.get? b := fun b hb => g1 b (decide_eq_true hb)
    have ge : G'.get? e = none := g2 e (by simp)
    have old : ∀ b o, hp.get? b = some o → G'.get? b = some o := fun b o q => (gk b (Nat.ne_of_lt (Nat.lt_of_lt_of_le (Heap.lt_size q) M.new))).trans (M.keep b o q)
    have ob : ObjOk X.prog X.w (upd H1 d (.xd [(("word" : Str), v)])) G' d (.xd [(("word" : Str), v)]) :=
      ⟨_, hns.at (fun o q => (gk d M.dne).trans q), fun f => relO_re rv f⟩
    have J : Inv X pins σ (upd H1 d (.xd [(("word" : Str), v)])) ⟨G', g, dr, tk', os⟩ := I1.laid (t' := tk') old M.dbig ob
    refine ⟨e, oe, fv, ⟨G', g, dr, tk', os⟩, _, .ref C, some d, rfl, J, fun b o q => ?_, ge, hoe, ⟨hc, hd⟩, hdat, h1, ?_, rfl, I1.bare, raises_own T.exC T.tyC, q1 d (I1.hok.fresh M.dbig)⟩
    · by_cases hb : b = e
      · have q' : G'.get? b = some o := q
        rw [hb, ge] at q'; cases q'
      · exact (gk b hb).symm.trans q
    · rw [upd_ne (Ne.symm M.dne)]
      exact I1.hok.fresh M.new
/-- raise Low(e) -/
def tRaiseRe (C : Addr) (W : WX) (ta : TA) : TS := fun _ σ H => tMkRe C ta σ H fun cls d H' => W cls d σ H'
theorem ps_raiseRe {a : Expr} {ta : TA} {W : WX} {p pos pos2 : Pos} {k : Nat} (hc : X.calm = true) (T : PySem.ReX.ReTxt X.K X.mg C fI) (hr : Room k X.A) (tk : Takes X W) (ha : PA X [a] ta) (hg : Gl X "Fails" := by rfl)
    (he : starEach (a :: []) X.env = (false, eval a X.env) :: starEach [] X.env := by rfl) (hpl : (backTo pos (starEach [] X.env)).any (·.1) = false := by rfl) :
    PS X (.Raise (some (.Call (.Name "Fails" p) [a] [] pos)) none pos2) (tRaiseRe C W ta) := ps_raise hc tk (pmk_re T hr ha hg he hpl)
/-- low.by, low the exception that the suite holds (at a; its class cls, its dict d) -/
def tByRe (C : Addr) (a : Addr) (cls : Value) (d : Option Addr) (te : TE) : TE := fun σ H Q => te σ H fun x H1 => x = .ref a ∧ cls = .ref C ∧ ∃ (dd : Addr) (v : V), d = some dd ∧ H1 dd = some (.xd [(("word" : Str), v)]) ∧ Q v H1
theorem pe_byRe {a : Addr} {oe : Obj} {cls : Value} {d : Option Addr} {pn : List (Addr × Obj)} {e : Expr} {te : TE} {pos : Pos} (T : PySem.ReX.ReTxt X.K X.mg C fI) (hz : Zc cls d oe) (hf : ∃ vs, oe.data = .fields vs) (he : PE (X.suite a ((a, oe) :: pn)) e te)
    (hb : attributeBase e "word" X.env (eval e X.env) = eval e X.env := by rfl) :
    PE (X.suite a ((a, oe) :: pn)) (.Attribute e "word" pos) (tByRe C a cls d te) := by
  refine ⟨fun pins s σ H Q I h => ?_⟩
  refine attr_of hb (thn (he.run pins s σ H _ I h) fun u s1 hh => ?_)
  obtain ⟨x, H1, I1, rx, ex, ec, dd, v, ed, ea, q⟩ := hh
  subst ex
  obtain rfl : u = Value.ref a := rx
  subst ec
  subst ed
  obtain ⟨ha, _⟩ := I1.pin (a, oe) (List.mem_append_left _ List.mem_cons_self)
  obtain ⟨vs, hd⟩ := hf
  have hx : ObjOk X.prog X.w H1 s1.heap dd (.xd [(("word" : Str), v)]) := I1.hok dd _ ea
  obtain ⟨mA, hns, hr⟩ := hx
  obtain ⟨od, ho, hl⟩ := lookIn_ns hns
  have l : List.lookup ("word" : Str) [(("word" : Str), v)] = some v := by simp [List.lookup]
  obtain ⟨u, hu, ru⟩ := RelO.some_of (v := v) (o := mA "word") (by rw [← l]; exact hr "word")
  have J : PySem.W.InstAt s1.heap a oe C (some od) := ⟨ha, hz.1, by unfold PySem.W.notCls; rw [hd] <;> rfl, by rw [hz.2]; exact ho⟩
  exact HandSPX.exc_get I1.kIn J T.ga T.gg T.exC (PySem.W.findObj_own T.hdC T.noN rfl (by rw [hl, hu])) (handed_of ru) ⟨v, H1, I1.tok _, ru, q⟩
end
end L2

namespace L2
open PySem PySem.Spec PyProof.Rows
/-- an if whose test is known -/
theorem if_true_of {c : Bool} {A B : Prop} (hc : c = true) (h : A) : if c = true then A else B := by
  rw [if_pos hc]
  exact h
theorem if_false_of {c : Bool} {A B : Prop} (hc : c = false) (h : B) : if c = true then A else B := by
  rw [hc, if_neg Bool.false_ne_true]
  exact h
end L2
set_option Elab.async false
set_option maxRecDepth 100000
set_option maxHeartbeats 1000000
/-! x[i], x[i] = v, i in x, len(x), x == y, x != y of an instance of an own class with these methods. -/
namespace PySem.SwOps
open PySem PySem.W PySem.Calls PyProof.Rows Builtin
section
variable {prog : Program} {w : World} {A : Around} {E : Value → Shared → Prop} {s : Shared} {K : Frag} {x C L f : Addr} {h₀ : Heap} {m : Str → Option Value} {ox : Obj} {od : Option Obj} {b tb : Value}
/-- a special method that is a slot of a built-in class -/
theorem bound_slot {M : Model} {T : String} {name : Str} {id : String} {args : List Value} {Q : Option Value → Shared → Prop} (X : K.In s.heap) (J : InstAt s.heap x ox C od) (hs : findIn K (.ref C) name = some (some (.builtin id))) (sl : Slot T name id)
    (h : wpAny M A (call (.builtin id) (.ref x :: args)) (fun v => Q (some v)) E s) : wpAny M A (callSpecialIfBound? (.ref x) name args) Q E s := by
  have last : wpAny M A (call (.builtin id) ([.ref x] ++ args) >>= fun v => pure (some v)) Q E s := wpAny_bind (wpAny_mono h (fun v s' h' => wpAny_pure h') fun _ _ h' => h')
  simp only [callSpecialIfBound?, bindSpecialIfBound?]
  refine wpAny_holding (wpAny_bind (wpAny_bind (wpAny_bind (J.type.here ((looks_findIn X hs).here (wpAny_bind (wpAny_askSetting (wpAny_ite ?_))))))))
  rw [sl.bind]
  split
  · exact wpAny_bind (wpAny_pure (wpAny_pure (by exact last)))
  · exact wpAny_tryCatch (wpAny_bind (wpAny_pure (wpAny_pure (by exact last))))
/-- x != b: not x.__eq__(b), where the class has no __ne__ of its own -/
theorem ne_by_eq {Q : Value → Shared → Prop} (hu : A.units + 1 < cLine) (F : Fr h₀ L s.heap m) (X₀ : K.In h₀) (J : InstAt s.heap x ox C od) (hb : Looks (model prog w) s.heap (typeOf b) tb) (hn : notFirst K C tb = true)
    (hne : findIn K (.ref C) "__ne__" = some (some (.builtin "object.__ne__"))) (hob : subIn K (.ref C) (.type "object") = some true) (he : findIn K (.ref C) "__eq__" = some (some (.ref f))) (hf : isFn K (.ref f) = true)
    (h : wpAny (model prog w) A.in1 (call (.ref f) [.ref x, b]) (fun v s' => ∃ c, v = .bool c ∧ Q (.bool (!c)) s') E s) : wpAny (model prog w) A (richCompare .NotEq (.ref x) b) Q E s := by
  have X := X₀.keeps F.keep
  have isO : Looks (model prog w) s.heap (isInstance (.ref x) (.type "object")) true := J.type.andThen (looks_subIn X hob)
  have one : wpAny (model prog w) A (tryCompare (.ref x) "__ne__" b) (fun r s' => ∃ v, r = some v ∧ Q v s') E s := by
    unfold tryCompare
    refine wpAny_bind (bound_slot X J hne PySem.F.cmp_object.ne (wpAny_call (codeAny_call_builtin PySem.F.cmp_object.ne.plain PySem.F.cmpEntry_ne
      (@check_slot (model prog w) _ _ s "object.__ne__" "object" "__ne__" (.ref x) [b] [] _ PySem.F.cmpKind_ne PySem.F.cmpSplit_ne isO (PySem.F.cmpArgs_ne _ _) ?_))))
    unfold Builtin.«object.__ne__»
    repeat (first
      | with_reducible refine wpAny_cRoomFor (show A.in1.units < cLine from hu) ?_
      | (refine wpAny_bind (m := callSpecialIfBound? (.ref x) (Str.ofString "__eq__") [b]) (ifBound_K X J he hf (wpAny_mono h (fun v s' hv => ?_) fun _ _ e => e)))
      | wp_step)
    obtain ⟨c, rfl, hq⟩ := hv
    repeat (first | exact wpAny_pure ⟨_, rfl, hq⟩ | exact ⟨_, rfl, hq⟩ | (refine wpAny_bind (m := truthy (.bool _)) (wpAny_truthy_bool ?_)) | wp_step)
  unfold richCompare
  simp only [oneThing_ref]
  refine wpAny_holding (wpAny_bind (wpAny_cRoomFor (Nat.lt_of_succ_lt hu) (wpAny_bind (J.type.here (wpAny_bind (hb.here ?_))))))
  split
  · rename_i q
    have e : subIn K tb (.ref C) = some false := by
      rcases Bool.or_eq_true_iff.mp hn with e | e
      · rw [beq_iff_eq.mp e] at q
        simp at q
      · exact beq_iff_eq.mp e
    refine wpAny_bind ((looks_subIn X e).here ?_)
    rw [if_neg Bool.false_ne_true]
    refine wpAny_bind (wpAny_mono one (fun r s' z => ?_) fun _ _ e => e)
    obtain ⟨v, rfl, hq⟩ := z
    exact wpAny_pure hq
  · refine wpAny_bind (wpAny_pure ?_)
    rw [if_neg Bool.false_ne_true]
    refine wpAny_bind (wpAny_mono one (fun r s' z => ?_) fun _ _ e => e)
    obtain ⟨v, rfl, hq⟩ := z
    exact wpAny_pure hq
end
end PySem.SwOps

set_option Elab.async false
set_option maxRecDepth 100000
set_option maxHeartbeats 1000000
namespace SW
open PySem PySem.Spec PyProof.Rows L2
section
variable {X : Cx} {CX : CXT} {k : Nat} {f C : Addr} {fd : FuncData} {ps : List Str} {sp : Sp} {E : XK}
/-- an instance of the class at C -/
theorem inst_of {pins : List (Addr × Obj)} {σ : L2.St} {H : Hp} {s : Shared} {a dx : Addr} {fs : List (Str × V)} (I : Inv X pins σ H s) (e : H a = some (.ins C dx fs)) : ∃ od, PySem.W.InstAt s.heap a (PySem.W.instObj C dx) C (some od) := by
  obtain ⟨mA, O, _⟩ := ins_get I.hok e
  obtain ⟨od, J, _⟩ := O.look
  exact ⟨od, J⟩
/-- the callee runs one unit deeper -/
theorem run_in1 {pins : List (Addr × Obj)} {σ : L2.St} {H : Hp} {s : Shared} {Q : VK} {us : List Value} {vs : List V} (F : FnOk X.prog X.w X.K X.mg X.base CX k f fd ps sp) (hr : Room (k + 1) X.A) (hb : L2.Binds X.K fd ps []) (hx : Passes CX X E)
    (I : Inv X pins σ H s) (r : Vals vs us) (h : sp vs H Q E) : wpAny (model X.prog X.w) X.A.in1 (call (.ref f) us) (EP X pins σ Q) X.xe s := by
  have hl : (us ++ []).length = ps.length := by
    rw [List.append_nil, ← r.length]
    exact F.len _ _ _ _ h
  refine wpAny_call (codeAny_mono (F.run X.A.in1 X.stack s H ⟨us, []⟩ (us ++ []) vs Q E hr.in1 I.env0.in1 (hb s us I.kIn hl) (by rw [List.append_nil]; exact r) h) fun r s' hq => ?_)
  cases r with
  | error e => exact hx pins σ H s e s' I hq
  | ok fl =>
    cases fl with
    | ret u => exact I.after hq
    | next => exact False.elim hq
    | brk => exact False.elim hq
    | cont => exact False.elim hq
theorem run_same {pins : List (Addr × Obj)} {σ : L2.St} {H : Hp} {s : Shared} {Q : VK} {us : List Value} {vs : List V} (F : FnOk X.prog X.w X.K X.mg X.base CX k f fd ps sp) (hr : Room k X.A) (hb : L2.Binds X.K fd ps []) (hx : Passes CX X E)
    (I : Inv X pins σ H s) (r : Vals vs us) (h : sp vs H Q E) : wpAny (model X.prog X.w) X.A (call (.ref f) us) (EP X pins σ Q) X.xe s :=
  run_fn (ds := []) (dvs := []) F hr hb .nil hx I r (by rw [List.append_nil]; exact h)
/-- x[i]: its own __getitem__ is called -/
theorem pe_own {a b : Expr} {ta tb : TE} {pos : Pos} (hs : PySem.W.findIn X.K (.ref C) "__getitem__" = some (some (.ref f))) (hf : PySem.W.isFn X.K (.ref f) = true) (hfn : PySem.W.fnIn X.K f = true)
    (F : FnOk X.prog X.w X.K X.mg X.base CX k f fd ps sp) (hr : Room (k + 1) X.A) (hb : L2.Binds X.K fd ps []) (hx : Passes CX X E) (ha : PE X a ta) (hbb : PE X b tb)
    (hsl : ∀ x i, subscripted b true x i = runValue (.builtin "lifetime.subscript" ⟨[x, i], []⟩)) : PE X (.Subscript a b pos) (tOp (fun x y H Q => ∃ p dx fs, x = .ref p ∧ H p = some (.ins C dx fs) ∧ sp [x, y] H Q E) ta tb) := by
  refine ⟨fun pins s σ H Q I h => ?_⟩
  refine Subscript_ (binT ha hbb I h fun v u s2 x y H2 I2 rx ry q => ?_)
  obtain ⟨p, dx, fs, rfl, hp, q⟩ := q
  obtain rfl : v = Value.ref p := rx
  obtain ⟨od, J⟩ := inst_of I2 hp
  obtain ⟨m, hF⟩ := I2.fr
  exact PySem.W.sub_K hF I2.ok.mod.kin J hs hfn hf (run_in1 (vs := [.ref p, y]) F hr hb hx I2 (.cons rfl (.cons ry .nil)) q) (hsl _ _)
/-- x[i] = v -/
theorem set_own (nq : PySem.W.noSeq X.K C = true) (hs : PySem.W.findIn X.K (.ref C) "__setitem__" = some (some (.ref f))) (hf : PySem.W.isFn X.K (.ref f) = true) (F : FnOk X.prog X.w X.K X.mg X.base CX k f fd ps sp) (hr : Room k X.A) (hb : L2.Binds X.K fd ps []) (hx : Passes CX X E) :
    PSet X (fun x y z H Q => ∃ a dx fs, x = .ref a ∧ H a = some (.ins C dx fs) ∧ sp [x, y, z] H (fun _ H' => Q H') E) := by
  intro pins s σ H x y z v u t Q I rx ry rz h
  obtain ⟨a, dx, fs, rfl, ha, q⟩ := h
  obtain rfl : v = Value.ref a := rx
  obtain ⟨od, J⟩ := inst_of I ha
  obtain ⟨m, hF⟩ := I.fr
  refine PySem.W.ksp_setItem hF I.ok.mod.kin J nq hs hf (wpAny_mono (run_same (vs := [.ref a, y, z]) F hr hb hx I (.cons rfl (.cons ry (.cons rz .nil))) q) (fun r s' z => ?_) fun _ _ x => x)
  obtain ⟨_, H', I', _, q'⟩ := z
  exact ⟨H', I', q'⟩
/-- i in x -/
theorem op_in_own (hs : PySem.W.findIn X.K (.ref C) "__contains__" = some (some (.ref f))) (hf : PySem.W.isFn X.K (.ref f) = true) (F : FnOk X.prog X.w X.K X.mg X.base CX k f fd ps sp) (hr : Room k X.A) (hb : L2.Binds X.K fd ps []) (hx : Passes CX X E) :
    OpR X (compareOp .In) (fun y x H Q => ∃ a dx fs, x = .ref a ∧ H a = some (.ins C dx fs) ∧ sp [x, y] H (fun v H' => ∃ c, v = .bl c ∧ Q (.bl c) H') E) := by
  intro pins s σ H y x u v Q I ry rx h
  obtain ⟨a, dx, fs, rfl, ha, q⟩ := h
  obtain rfl : v = Value.ref a := rx
  obtain ⟨od, J⟩ := inst_of I ha
  obtain ⟨m, hF⟩ := I.fr
  refine PySem.W.in_K hF I.ok.mod.kin J hs hf (wpAny_mono (run_same (vs := [.ref a, y]) F hr hb hx I (.cons rfl (.cons ry .nil)) q) (fun r s' z => ?_) fun _ _ x => x)
  obtain ⟨v', H', I', r', c, rfl, q'⟩ := z
  obtain rfl : r = Value.bool c := r'
  exact wpAny_truthy_bool ⟨.bl c, H', I', rfl, q'⟩
/-- len(x) -/
theorem call_len_own (hs : PySem.W.findIn X.K (.ref C) "__len__" = some (some (.ref f))) (hf : PySem.W.isFn X.K (.ref f) = true) (F : FnOk X.prog X.w X.K X.mg X.base CX k f fd ps sp) (hr : Room (k + 1) X.A) (hb : L2.Binds X.K fd ps []) (hx : Passes CX X E) :
    CallR X (.builtin "len") (fun xs H Q => ∃ a dx fs, xs = [.ref a] ∧ H a = some (.ins C dx fs) ∧ sp xs H (fun v H' => ∃ n : Nat, v = .int n ∧ n < 2 ^ 62 ∧ Q (.int n) H') E) := by
  intro pins s σ H xs us Q I r h
  obtain ⟨a, dx, fs, rfl, ha, q⟩ := h
  obtain ⟨u, rfl, rx⟩ := vals1 r
  obtain rfl : u = Value.ref a := rx
  obtain ⟨od, J⟩ := inst_of I ha
  obtain ⟨m, hF⟩ := I.fr
  refine PySem.W.len_K hF I.ok.mod.kin J hs hf (wpAny_mono (run_in1 (vs := [.ref a]) F hr hb hx I (.cons rfl .nil) q) (fun r s' z => ?_) fun _ _ x => x)
  obtain ⟨v', H', I', r', n, rfl, hn, q'⟩ := z
  obtain ⟨t, rfl⟩ := (show ∃ t, r = Value.int n t from r')
  exact ⟨⟨by omega, by omega⟩, .int n, H', I'.tok _, ⟨_, rfl⟩, q'⟩
/-- x == y, x != y; y of a type that is none of the classes below C -/
def rOwnCmp (K : PySem.W.Frag) (C : Addr) (sp : Sp) (E : XK) (g : Bool → Bool) : R2 := fun x y H Q => ∃ a dx fs tb, x = .ref a ∧ H a = some (.ins C dx fs) ∧ TyX K H y tb ∧ PySem.W.notFirst K C tb = true ∧ sp [x, y] H (fun v H' => ∃ c, v = .bl c ∧ Q (.bl (g c)) H') E
theorem op_eq_own (hs : PySem.W.findIn X.K (.ref C) "__eq__" = some (some (.ref f))) (hf : PySem.W.isFn X.K (.ref f) = true) (F : FnOk X.prog X.w X.K X.mg X.base CX k f fd ps sp) (hr : Room k X.A) (hb : L2.Binds X.K fd ps []) (hx : Passes CX X E) :
    OpR X (compareOp .Eq) (rOwnCmp X.K C sp E id) := by
  intro pins s σ H x y v u Q I rx ry h
  obtain ⟨a, dx, fs, tb, rfl, ha, ty, hn, q⟩ := h
  obtain rfl : v = Value.ref a := rx
  obtain ⟨od, J⟩ := inst_of I ha
  obtain ⟨m, hF⟩ := I.fr
  obtain ⟨P, Z, p, _⟩ := kit_of I ry ty
  refine PySem.W.cmp_K (op := .Eq) hr.units0 hF I.ok.mod.kin J (Z.ty _ _ I.kIn p) hn hs hf (wpAny_mono (run_same (vs := [.ref a, y]) F hr hb hx I (.cons rfl (.cons ry .nil)) q) (fun r s' z => ?_) fun _ _ x => x)
  obtain ⟨v', H', I', r', c, rfl, q'⟩ := z
  obtain rfl : r = Value.bool c := r'
  exact ⟨.bl c, H', I', rfl, q'⟩
theorem op_ne_own (hne : PySem.W.findIn X.K (.ref C) "__ne__" = some (some (.builtin "object.__ne__"))) (hob : PySem.W.subIn X.K (.ref C) (.type "object") = some true)
    (hs : PySem.W.findIn X.K (.ref C) "__eq__" = some (some (.ref f))) (hf : PySem.W.isFn X.K (.ref f) = true) (F : FnOk X.prog X.w X.K X.mg X.base CX k f fd ps sp) (hr : Room (k + 1) X.A) (hb : L2.Binds X.K fd ps []) (hx : Passes CX X E) :
    OpR X (compareOp .NotEq) (rOwnCmp X.K C sp E (!·)) := by
  intro pins s σ H x y v u Q I rx ry h
  obtain ⟨a, dx, fs, tb, rfl, ha, ty, hn, q⟩ := h
  obtain rfl : v = Value.ref a := rx
  obtain ⟨od, J⟩ := inst_of I ha
  obtain ⟨m, hF⟩ := I.fr
  obtain ⟨P, Z, p, _⟩ := kit_of I ry ty
  refine PySem.W.cmp_ofNotEq (PySem.SwOps.ne_by_eq (hu_of hr) hF I.ok.mod.kin J (Z.ty _ _ I.kIn p) hn hne hob hs hf (wpAny_mono (run_in1 (vs := [.ref a, y]) F hr hb hx I (.cons rfl (.cons ry .nil)) q) (fun r s' z => ?_) fun _ _ x => x))
  obtain ⟨v', H', I', r', c, rfl, q'⟩ := z
  obtain rfl : r = Value.bool c := r'
  exact ⟨c, rfl, .bl (!c), H', I', rfl, q'⟩
end
end SW

set_option Elab.async false
set_option maxRecDepth 100000
set_option maxHeartbeats 1000000
/-! __getitem__ and __eq__ of a context. -/
namespace SW
open PySem PySem.Spec PyProof.Rows L2
def spGet (CF C : Addr) : Sp := fun vs H Q E => ∃ (p d : Addr) (m : Mp) (k : Str), vs = [.ref p, .str k] ∧ CtxAt C H p d m ∧ (∀ v, aget m k = some v → Q (.int v) H) ∧
  (aget m k = none → ∀ x : Addr, H x = none → E (.ref CF) (some x) (upd H x (.xd [("word", .str "unset")])))
def spEq (K : PySem.W.Frag) (C : Addr) : Sp := fun vs H Q _ => ∃ (p d : Addr) (m : Mp) (y : V), vs = [.ref p, y] ∧ CtxAt C H p d m ∧
  ((∃ p' d' m', y = .ref p' ∧ CtxAt C H p' d' m' ∧ Q (.bl (eqB m m')) H) ∨ (∃ t, TyX K H y t ∧ PySem.W.kitOne K t (.ref C) = some false ∧ Q (.bl false) H))
section
variable {P : Program} {w : World} {K : PySem.W.Frag} {mg : Str → Option Value} {base : Heap}
theorem scGet : FnScope ["self", "variable"] ["self", "variable"] (defScope sGet) := ⟨rfl, rfl, rfl, by decide +kernel, rfl, by decide +kernel, by decide +kernel⟩
theorem ok_get {f C CF fI : Addr} {fd : FuncData} (F : Fun K "__getitem__" "Context.__getitem__" sGet f fd) (T : TxC K mg C) (R : PySem.ReX.ReTxt K mg CF fI) : FnOk P w K mg base (L2.CX P w) 3 f fd ["self", "variable"] (spGet CF C) := by
  refine F.okX scGet (fun vs H Q E h => ?_) (fun cdv A outer s H vs Q E hr h => ?_)
  · obtain ⟨p, d, m, k, rfl, _⟩ := h
    rfl
  · obtain ⟨p, d, m, k, rfl, ⟨⟨dx, ob⟩, dc⟩, q1, q2⟩ := h
    have hu := hu_of hr
    refine ⟨_, pss_cons (ps_if (pt_cmp (pc_dnotin hu (pv 1) (pe_fld (pv 0) rfl))) (pss_one (ps_raiseRe rfl R hr (takes_of rfl rfl rfl rfl) (by exact (pa_cons pe_str pa_nil)))) pss_nil)
      (pss_one (ps_ret (pe_dget hu (pe_fld (pv 0) rfl) (pv 1) (fun _ _ => rfl)))), ?_⟩
    have g := DGet.k (H := H) (k := Sum.inr k) dc
    rw [valV_kv] at g
    refine ⟨_, rfl, _, rfl, p, C, dx, _, _, rfl, ob, T.cl, T.nH, flds_held d, d, _, rfl, g, _, rfl, ?_⟩
    cases e : aget m k with
    | none => exact iteT ⟨_, rfl, fun x hx => q2 e x hx⟩
    | some v =>
      rw [e] at g
      exact iteF ⟨_, rfl, p, C, dx, _, _, rfl, ob, T.cl, T.nH, flds_held d, _, rfl, d, _, rfl, g, q1 v e⟩
theorem scEq : FnScope ["self", "other"] ["self", "other"] (defScope sEq) := ⟨rfl, rfl, rfl, by decide +kernel, rfl, by decide +kernel, by decide +kernel⟩
theorem ok_eq {f C : Addr} {fd : FuncData} (F : Fun K "__eq__" "Context.__eq__" sEq f fd) (T : TxC K mg C) (mI : mg "isinstance" = none) (tyC : ∀ (H : Hp) (a dx : Addr) (fs : List (Str × V)), H a = some (.ins C dx fs) → TyX K H (.ref a) (.ref C))
    (kC : PySem.W.kitOne K (.ref C) (.ref C) = some true) : FnOk P w K mg base CX0 1 f fd ["self", "other"] (spEq K C) := by
  refine F.ok scEq (fun vs H Q E h => ?_) (fun cdv A outer s H vs Q E hr h => ?_)
  · obtain ⟨p, d, m, y, rfl, _⟩ := h
    rfl
  · obtain ⟨p, d, m, y, rfl, ⟨⟨dx, ob⟩, dc⟩, q⟩ := h
    refine ⟨_, pss_one (ps_ret (pe_and (pe_callB call_isi (by rfl) mI boot_isinstance (pa_cons (pv 1) (pa_cons (pe_glob (v := .ref C) rfl T.mgC rfl) pa_nil)))
      (pe_one (pe_cmpR (op_eqKv hr.units0) (pe_fld (pv 0) rfl) (pe_fld (pv 1) rfl) (nomark _))))), ?_⟩
    rcases q with ⟨p', d', m', rfl, ⟨⟨dx', ob'⟩, dc'⟩, q⟩ | ⟨t, ty, kt, q⟩
    · refine ⟨_, rfl, _, _, _, _, true, rfl, .own C, tyC H p' dx' _ ob', kC, _, rfl, iteT ?_⟩
      exact ⟨_, rfl, p, C, dx, _, _, rfl, ob, T.cl, T.nH, flds_held d, _, rfl, p', C, dx', _, _, rfl, ob', T.cl, T.nH, flds_held d', d, d', m, m', rfl, rfl, dc, dc', q⟩
    · exact ⟨_, rfl, _, _, t, _, false, rfl, .own C, ty, kt, _, rfl, iteF q⟩
end
end SW

set_option Elab.async false
set_option maxRecDepth 100000
set_option maxHeartbeats 2000000
/-! try: .. except X as e: c = e, the error held behind the suite. -/
namespace SW
open PySem PySem.Spec PyProof.Rows L2
/-- an error of the class cls with its own dict d stands at a -/
def EO (a : Addr) (cls : Value) (d : Option Addr) : HO := .ext fun h => ∃ (oe : Obj) (vs : Array Value), h.get? a = some oe ∧ oe.cls = cls ∧ oe.dict = d ∧ oe.data = .fields vs
theorem eo_ok {P : Program} {w : World} {H : Hp} {h : Heap} {a : Addr} {cls : Value} {d : Option Addr} {oe : Obj} {vs : Array Value} (he : h.get? a = some oe) (hc : oe.cls = cls) (hd : oe.dict = d) (hv : oe.data = .fields vs) : ObjOk P w H h a (EO a cls d) :=
  ⟨⟨oe, vs, he, hc, hd, hv⟩, ⟨_, he⟩, fun h1 h2 z k => by
    obtain ⟨oe, vs, q, r⟩ := z
    exact ⟨oe, vs, k _ q, r⟩⟩
theorem eo_at {P : Program} {w : World} {H : Hp} {h : Heap} {a : Addr} {cls : Value} {d : Option Addr} (hok : HOk P w H h) (he : H a = some (EO a cls d)) : ∃ (oe : Obj) (vs : Array Value), h.get? a = some oe ∧ oe.cls = cls ∧ oe.dict = d ∧ oe.data = .fields vs := by
  have z : ObjOk P w H h a (.ext fun h => ∃ (oe : Obj) (vs : Array Value), h.get? a = some oe ∧ oe.cls = cls ∧ oe.dict = d ∧ oe.data = .fields vs) := hok a _ he
  exact z.1
section
variable {X : Cx} {pins : List (Addr × Obj)} {σ : L2.St} {H : Hp} {s : Shared}
/-- an object that no entry knew is told of from now on -/
theorem inv_track {a : Addr} {o : HO} (I : Inv X pins σ H s) (na : H a = none) (n0 : ∀ u, X.s_0.heap.get? a = some u → a ∈ X.ex ∨ X.H_0 a ≠ none) (nL : a ≠ X.env.locals) (nC : ∀ x c, X.env.cells.lookup x = some c → c ≠ a) (nP : ∀ p ∈ X.pn ++ pins, p.1 ≠ a)
    (ok : ObjOk X.prog X.w (upd H a o) s.heap a o) : Inv X pins σ (upd H a o) s := by
  have at_ : ∀ b u, H b = some u → upd H a o b = some u := fun b u e => by
    rw [upd_ne (ne_of_none e na)]
    exact e
  refine ⟨I.ok, I.os, I.bare, ⟨I.base.keep, I.base.slot, fun b u e n hx => ?_, I.base.there, fun b xs e => at_ _ _ (I.base.tups b xs e), fun b u v e => at_ _ _ (I.base.frzs b u v e), fun b ps e => ?_⟩, I.loc, I.cell, ?_, fun x c e => ?_, fun p hp => ?_, fun b u e => ?_, I.len⟩
  · by_cases hb : b = a
    · rw [hb] at e n hx
      rcases n0 u e with z | z
      · exact absurd z hx
      · exact absurd n z
    · rw [upd_ne hb]
      exact I.base.free b u e n hx
  · obtain ⟨more, e'⟩ := I.base.tbls b ps e
    exact ⟨more, at_ _ _ e'⟩
  · rw [upd_ne nL.symm]
    exact I.free
  · rw [upd_ne (nC x c e)]
    exact I.freeC x c e
  · obtain ⟨h1, h2, h3⟩ := I.pin p hp
    exact ⟨h1, by rw [upd_ne (nP p hp)]; exact h2, h3⟩
  · by_cases hb : b = a
    · rw [hb, upd_same] at e
      cases e
      rw [hb]
      exact ok
    · rw [upd_ne hb] at e
      exact (I.hok b u e).stay (fun _ _ _ q => q) (fun b q => at_ _ _ q) fun b xs q => at_ _ _ q
/-- out of a suite, its error still pinned -/
theorem inv_unsuite {a : Addr} {q : Addr × Obj} {pn' : List (Addr × Obj)} (I : Inv (X.suite a (q :: (X.pn ++ pins))) pn' σ H s) (ok : X.Ok) : Inv X (q :: pins) σ H s :=
  ⟨ok, I.os, I.bare, I.base, I.loc, I.cell, I.free, I.freeC, fun p hp => by
    refine I.pin p (List.mem_append_left _ ?_)
    rcases List.mem_append.mp hp with z | z
    · exact List.mem_cons_of_mem _ (List.mem_append_left _ z)
    · rcases List.mem_cons.mp z with z | z
      · rw [z]
        exact List.mem_cons_self
      · exact List.mem_cons_of_mem _ (List.mem_append_right _ z), I.hok, I.len⟩
end
/-- what 'except x as n: m = n' wishes of an exception of the body: n in slot i, m in slot j -/
def wKeep (K : PySem.W.Frag) (c : Value) (len i j : Nat) (Wout : WX) (D : Ends) : WX := fun cls d σ H =>
  ∃ b, PySem.W.exmOne K cls c = some b ∧ (b = true → σ.length = len → ∀ a, H a = none → D.nx (((σ.set i (some (.ref a))).set j (some (.ref a))).set i none) (upd H a (EO a cls d))) ∧ (b = false → Wout cls d σ H)
section
variable {X : Cx} {x n m : Str} {c : Value} {i j : Nat} {body : List Stmt} {np p1 p2 p3 pos pos' : Pos} {tb : WX → TS} {Wout : WX}
theorem ps_try_keep (hs : X.stack = X.env :: X.outer) (hf : X.env.frame = some X.env.locals) (hex : X.ex = []) (hN : X.N.Nodup) (hi : X.N[i]? = some n) (hln : X.env.kindOf n = some .local) (hj : X.N[j]? = some m) (hlm : X.env.scope.names.lookup m = some .local)
    (hlt : i < X.N.length) (hij : i ≠ j) (hc : Names X x c) (tk : Takes X Wout)
    (hb : ∀ (W : WX) (pn : List (Addr × Obj)) (xe : Value → Shared → Prop), Takes (X.tr pn xe) W → PassesOwn (model X.prog X.w) X.A X.env xe → PSs (X.tr pn xe) body (tb W))
    (hd1 : (n == ("__debug__" : Str)) = false := by decide) (hd2 : (n == ("__classdict__" : Str)) = false := by decide) :
    PS X (.Try body [.ExceptHandler (some (.Name x np)) (some n) [.Assign [.Name m p1] (.Name n p2) p3] pos'] [] [] pos) (fun D σ H => tb (wKeep X.K c X.N.length i j Wout D) D σ H) := by
  refine ⟨fun pins s σ H D I h => ?_⟩
  have ok := I.ok
  have frm : X.A.frames = some (X.env :: X.outer) := ok.frames.trans (congrArg some hs)
  refine wpAny_Try_except (wpAny_mono ((hb (wKeep X.K c X.N.length i j Wout D) (X.pn ++ pins) (fun e s₁ => wpAny (model X.prog X.w) X.A (noteFrame e X.env) (fun _ s₂ => wpAny (model X.prog X.w) X.A (setFlight e none)
    (fun _ s₃ => wpAny (model X.prog X.w) X.A (handleBy e X.env [.ExceptHandler (some (.Name x np)) (some n) [.Assign [.Name m p1] (.Name n p2) p3] pos']) (SP X pins D) X.xe s₃) X.xe s₂) X.xe s₁)
    (fun u s' air => ?_) PassesOwn.looking).run [] s σ H D (I.toTry _) h) (fun f s1 hsp => ?_) (fun _ _ z => z))
  · -- an error comes out of the body
    obtain ⟨a, B, sI, pins', σ', H', cls, d, rfl, JT, nb, up, sky, na, os, ag, b, hb1, hyes, hno⟩ := air
    have J : Inv X pins σ' H' sI := JT.ofTry ok
    have sky1 : Sky B (X.env :: X.outer) a (Zc cls d) X.env.locals s'.heap := hs ▸ sky
    show wpAny (model X.prog X.w) X.A (noteFrame (.ref a) X.env) _ _ _
    refine Sky.land Zc.steady frm hf sky1 fun hA flA upA => ?_
    have JA : Inv X pins σ' H' { s' with heap := hA } := J.landed nb flA.1 (up.trans upA) os ag
    obtain ⟨oA, vA, getA, zA, dA⟩ := flA.there
    have out : a ∉ frs (X.env :: X.outer) := fun hm => by
      obtain ⟨_, o', e', bad⟩ := flA.2.2.1.mem hm
      rw [getA] at e'
      cases e'
      exact bad _ dA
    have nL : a ≠ X.env.locals := fun z => out (List.mem_filterMap.mpr ⟨X.env, List.mem_cons_self, by rw [hf, z]⟩)
    have nF : a ∉ X.fs := fun hm => by
      obtain ⟨e, he, q⟩ := List.mem_filterMap.mp hm
      exact out (List.mem_filterMap.mpr ⟨e, List.mem_cons_of_mem _ he, q⟩)
    have noB : ∀ o, sI.heap.get? a = some o → False := fun o e => by
      have z := nb a o e (by rw [hs]; exact out)
      rw [flA.2.1] at z
      cases z
    have SA := JA.suite getA dA na nL nF
    refine wpAny_handleBy_cons (codeAny_handlers_test ?_) (by intro q; cases q)
    have LT : PySem.W.Looks (model X.prog X.w) hA (typeOf (.ref a)) cls := fun A Q E s k q => wpAny_typeOf_ref (k _ _ getA) (by rw [zA.1]; exact q)
    have LM := PySem.W.exm_one (M := model X.prog X.w) JA.kIn LT hb1
    have test : ∀ {Q : Value → Shared → Prop} {E : Value → Shared → Prop}, Q c { s' with heap := hA } → wpAny (model X.prog X.w) (X.A.mark (some (.ref a))) (eval (.Name x np) X.env) Q E { s' with heap := hA } := fun {Q E} q => by
      obtain ⟨hg, hdbg, hm | ⟨hm, hv, hnn⟩⟩ := hc
      · exact ld_glob (X := X.suite a ((a, oA) :: (X.pn ++ pins))) SA hg hm q hdbg
      · exact ld_blt (X := X.suite a ((a, oA) :: (X.pn ++ pins))) SA hg hm hv q hnn hdbg
    refine test (LM.here ?_)
    cases b with
    | false =>
      show wpAny _ X.A (handleBy (.ref a) X.env []) _ _ _
      refine wpAny_handleBy_nil ?_
      obtain ⟨_, _, _, oe, vs, T, oT, _, he, _, hd, h1, _⟩ := id flA
      have fin : wpAny (model X.prog X.w) X.A (setFlight (.ref a) X.env.frame) (fun _ s4 => wpAny (model X.prog X.w) X.A (throw (.ref a) : Sem Flow) (SP X pins D) X.xe s4) X.xe { s' with heap := hA } := by
        rw [hf]
        exact HandSPX.setFlight_upZ flA fun hB fB upB => wpAny_throw (tk _ _ ⟨a, B, sI, pins, σ', H', cls, d, rfl, J, nb, (up.trans upA).trans upB, .inr (.inr (by rw [hs]; exact fB)), na, os, ag, hno rfl⟩)
      unfold PySem.passOn
      refine wpAny_bind (wpAny_field he hd h1 ?_)
      rw [if_neg (show ¬ ((Value.ref T == Value.none) = true) from by simp)]
      first
        | exact wpAny_bind (wpAny_pure (wpAny_bind fin))
        | exact wpAny_bind fin
    | true =>
      refine codeAny_handlers_suite_as (HandSPX.lands_againZ flA fun hB flB upB => ?_)
      have JB : Inv X pins σ' H' { s' with heap := hB } := J.landed nb flB.1 ((up.trans upA).trans upB) os ag
      obtain ⟨oB, vB, getB, zB, dB⟩ := flB.there
      refine store_ok (X := X.suite a ((a, oB) :: (X.pn ++ pins))) (v := .ref a) (JB.suite getB dB na nL nF) hN hi (.inl hln) rfl (fun s5 S5 => ?_) (.inr hln)
      have li : i < σ'.length := by rw [J.len]; exact hlt
      have put : PSs (X.suite a ((a, oB) :: (X.pn ++ pins))) [.Assign [.Name m p1] (.Name n p2) p3] (tAsg (tVar i) (gName j)) := pss_one (ps_set (hf := .inr hlm) hN hj (.inl hlm) (pe_var hi (.inl hln) hd1 hd2))
      refine wpAny_mono (put.run [] s5 _ H' { nx := fun σ6 H6 => σ6 = (σ'.set i (some (.ref a))).set j (some (.ref a)) ∧ H6 = H', rt := fun _ _ => False, bk := fun _ _ => False, ct := fun _ _ => False } S5 ⟨_, List.getElem?_set_self li, rfl, rfl⟩) (fun f s6 hsp => ?_) (fun _ _ z => False.elim z)
      cases f with
      | next =>
        obtain ⟨σ6, H6, S6, rfl, rfl⟩ := hsp
        refine gone_ok (inv_unsuite S6 ok) hN hi hln fun s7 J7 => ?_
        obtain ⟨get7, _⟩ := J7.pin (a, oB) (List.mem_append_right _ List.mem_cons_self)
        have J8 : Inv X pins _ H6 s7 := J7.pins_of fun p hp => J7.pin p (List.mem_append_right _ (List.mem_cons_of_mem _ hp))
        refine ⟨_, _, inv_track J8 na (fun u e => ?_) nL (fun y cc e z => ?_) (fun p hp z => ?_) (eo_ok (cls := cls) (d := d) get7 zB.1 zB.2 dB), hyes rfl J.len a na⟩
        · refine .inr fun hz => ?_
          exact noB _ (J.base.keep a u e hz nF (by rw [hex]; simp))
        · obtain ⟨v, o, ho, hdd⟩ := J7.cell y cc e
          rw [z, get7] at ho
          cases ho
          rw [show oB.data = _ from hdd] at dB
          cases dB
        · obtain ⟨e, _⟩ := J.pin p hp
          rw [z] at e
          exact noB _ e
      | brk =>
        obtain ⟨_, _, _, z⟩ := hsp
        exact z.elim
      | cont =>
        obtain ⟨_, _, _, z⟩ := hsp
        exact z.elim
      | ret u =>
        obtain ⟨_, _, _, _, _, z⟩ := hsp
        exact z.elim
  · cases f with
    | next =>
      obtain ⟨σ', H', J', q⟩ := hsp
      exact wpAny_execs_nil ⟨σ', H', J'.ofTry ok, q⟩
    | brk =>
      obtain ⟨σ', H', J', q⟩ := hsp
      exact ⟨σ', H', J'.ofTry ok, q⟩
    | cont =>
      obtain ⟨σ', H', J', q⟩ := hsp
      exact ⟨σ', H', J'.ofTry ok, q⟩
    | ret u =>
      obtain ⟨v, σ', H', J', r, q⟩ := hsp
      exact ⟨v, σ', H', J'.ofTry ok, r, q⟩
end
end SW

set_option Elab.async false
set_option maxRecDepth 100000
set_option maxHeartbeats 1000000
/-! A held error of the class Fails: isinstance, its field; _law_fails. -/
namespace SW
open PySem PySem.Spec PyProof.Rows L2
/-- what isinstance asks of the class at C -/
structure IsFacts (K : PySem.W.Frag) (C : Addr) : Prop where
  cl : (PySem.W.clsIn K C).isSome = true
  ha : PySem.W.findIn K (.ref C) "__class__" = some (some (.builtin "object.__class__"))
  hn : PySem.W.specialIn K (.builtin "object.__class__") "__get__" = some (some (.builtin "getset_descriptor.__get__"))
  tk : PySem.W.takesIn K (.builtin "object.__class__") = some true
  hm : PySem.W.mroIn K C (.type "object") = some true
section
variable {X : Cx} {pins : List (Addr × Obj)} {σ : L2.St} {H : Hp} {s : Shared} {CF fI : Addr}
theorem eo_inst {a d : Addr} {fs : List (Str × V)} (I : Inv X pins σ H s) (e : H a = some (EO a (.ref CF) (some d))) (ed : H d = some (.xd fs)) : ∃ oe od, PySem.W.InstAt s.heap a oe CF (some od) ∧ ∃ mA : Str → Option Value, (∀ name, PySem.W.lookIn name od = some (mA name)) ∧ ∀ f, RelO (fs.lookup f) (mA f) := by
  obtain ⟨oe, vs, h1, h2, h3, h4⟩ := eo_at I.hok e
  obtain ⟨mA, hns, hr⟩ := (show ObjOk X.prog X.w H s.heap d (.xd fs) from I.hok d _ ed)
  obtain ⟨od, ho, hl⟩ := lookIn_ns hns
  exact ⟨oe, od, ⟨h1, h2, by unfold PySem.W.notCls; rw [h4], by rw [h3]; exact ho⟩, mA, hl, hr⟩
/-- isinstance(e, c), isinstance(e, (c1, c2)) -/
theorem call_isiEO (R : PySem.ReX.ReTxt X.K X.mg CF fI) (T : IsFacts X.K CF) : CallR X (.builtin "isinstance") (fun xs H Q => ∃ (a d : Addr) (fs : List (Str × V)) (c : V) (u : Value) (b : Bool), xs = [.ref a, c] ∧ ClsV c u ∧ H a = some (EO a (.ref CF) (some d)) ∧ H d = some (.xd fs) ∧
    PySem.W.kitOne X.K (.ref CF) u = some b ∧ Q (.bl b) H) := by
  intro pins s σ H xs us Q I r h
  obtain ⟨a, d, fs, c, u, b, rfl, k, ea, ed, e, q⟩ := h
  obtain ⟨u1, u2, rfl, r1, r2⟩ := vals2 r
  obtain rfl : u1 = Value.ref a := r1
  have e2 := k.eq r2
  subst e2
  obtain ⟨oe, od, J, _⟩ := eo_inst I ea ed
  exact PySem.W.kia_one (PySem.W.kitx_exc T.cl R.ga R.gg R.exC T.ha T.hn T.tk T.hm) I.kIn J e (fun z => nomatch z) fun tk => ⟨.bl b, H, I.tok tk, rfl, q⟩
theorem call_isiEOT (R : PySem.ReX.ReTxt X.K X.mg CF fI) (T : IsFacts X.K CF) : CallR X (.builtin "isinstance") (fun xs H Q => ∃ (a d tp : Addr) (fs : List (Str × V)) (cs : List V) (us : List Value) (b : Bool), xs = [.ref a, .ref tp] ∧ H tp = some (.tup cs) ∧ Paired ClsV cs us ∧
    H a = some (EO a (.ref CF) (some d)) ∧ H d = some (.xd fs) ∧ PySem.W.kitAny X.K (.ref CF) us = some b ∧ Q (.bl b) H) := by
  intro pins s σ H xs us Q I r h
  obtain ⟨a, d, tp, fs, cs, ws, b, rfl, hT, k, ea, ed, e, q⟩ := h
  obtain ⟨u1, u2, rfl, r1, r2⟩ := vals2 r
  obtain rfl : u1 = Value.ref a := r1
  obtain rfl : u2 = Value.ref tp := r2
  obtain ⟨_, its, rv, o, h1, h2, n, h3⟩ := (show ObjOk X.prog X.w H s.heap tp (.tup cs) from I.hok tp _ hT)
  have e3 := ClsV.all k rv
  subst e3
  obtain ⟨oc, oc2, dt, sl⟩ := o
  simp only at h2 h3
  subst h2 h3
  obtain ⟨oe, od, J, _⟩ := eo_inst I ea ed
  exact PySem.W.kia_tup (PySem.W.kitx_exc T.cl R.ga R.gg R.exC T.ha T.hn T.tk T.hm) I.kIn J h1 e (fun z => nomatch z) fun tk => ⟨.bl b, H, I.tok tk, rfl, q⟩
/-- e.word -/
def tWord (CF : Addr) (te : TE) : TE := fun σ H Q => te σ H fun x H1 => ∃ (a d : Addr) (v : V), x = .ref a ∧ H1 a = some (EO a (.ref CF) (some d)) ∧ H1 d = some (.xd [("word", v)]) ∧ Q v H1
theorem pe_word {e : Expr} {te : TE} {pos : Pos} (R : PySem.ReX.ReTxt X.K X.mg CF fI) (he : PE X e te) (hb : attributeBase e "word" X.env (eval e X.env) = eval e X.env := by rfl) : PE X (.Attribute e "word" pos) (tWord CF te) := by
  refine ⟨fun pins s σ H Q I h => ?_⟩
  refine attr_of hb (thn (he.run pins s σ H _ I h) fun u s1 hh => ?_)
  obtain ⟨x, H1, I1, rx, a, d, v, rfl, ea, ed, q⟩ := hh
  obtain rfl : u = Value.ref a := rx
  obtain ⟨oe, od, J, mA, hl, hr⟩ := eo_inst I1 ea ed
  have l : List.lookup ("word" : Str) [(("word" : Str), v)] = some v := by simp [List.lookup]
  obtain ⟨u, hu, ru⟩ := RelO.some_of (v := v) (o := mA "word") (by rw [← l]; exact hr "word")
  exact HandSPX.exc_get I1.kIn J R.ga R.gg R.exC (PySem.W.findObj_own R.hdC R.noN rfl (by rw [hl, hu])) (handed_of ru) ⟨v, H1, I1.tok _, ru, q⟩
end
/-! _law_fails -/
abbrev sFails : Stmt := top 10
/-- what _law_fails makes of its lambda's reading tl: the word of its error -/
def TFails (CF : Addr) : (XK → Hp → VK → Prop) → Hp → VK → Prop := fun tl H Q => ∀ N : Hp → Prop,
  tl (fun cls d H' => cls = .ref CF ∧ ∃ (dd : Addr) (z : Str), d = some dd ∧ H' dd = some (.xd [("word", .str z)]) ∧ ∀ H'', Same H' H'' → Q (.str z) H'') H fun _ H' => N H'
theorem scFails : FnScope ["asked", "caught", "e"] ["asked"] (defScope sFails) := ⟨rfl, rfl, rfl, by decide +kernel, rfl, by decide +kernel, by decide +kernel⟩
theorem gives_fails {X : Cx} {g CF fI : Addr} {cdg : Value} {q : Str} (R : PySem.ReX.ReTxt X.K X.mg CF fI) (T : IsFacts X.K CF) (mI : X.mg "isinstance" = none) (mR : X.mg "RuntimeError" = none) (mV : X.mg "ValueError" = none) (mL : X.mg "LookupError" = none)
    (k1 : PySem.W.kitOne X.K (.ref CF) (.type "RuntimeError") = some true) (k2 : PySem.W.kitAny X.K (.ref CF) [.type "ValueError", .type "LookupError"] = some false) :
    LamX.GivesTo X ["asked", "caught", "e"] "_law_fails" (defScope sFails) g cdg (defBody sFails) "asked" q (TFails CF) := by
  intro f c' s H Q tl act hc h
  refine ⟨_, pss_cons (ps_set (i := 1) scFails.nd rfl (Or.inl rfl) pe_non)
    (pss_cons (ps_try_keep (X := (cxOf C8.CX0 X.prog X.w X.K X.mg X.base ["asked", "caught", "e"] "_law_fails" (defScope sFails) g cdg X.A X.stack s H C8.E0).nox) (i := 2) (j := 1) (c := .ref CF)
        (tb := fun W D σ H => ∃ Ech : XK, (∀ cls d σ' H', Ech cls d H' → W cls d σ' H') ∧ σ[0]? = some (some (.ref f)) ∧ H c' = some (LamX.CodeO c' q) ∧ tl Ech H fun _ H' => D.nx σ H')
        (x := "Fails") rfl rfl rfl scFails.nd rfl rfl rfl rfl (by show 2 < 3; decide) (by decide) ⟨by rfl, by decide, .inl R.gC⟩ LamX.takes0 (fun W pn xe tk _ => ?_))
    (pss_cons (ps_if (pt_cmp (pc_isN (pv 1))) (pss_one (ps_ret pe_str)) pss_nil)
    (pss_cons (ps_if (PW.pt (pw_or
        (pt_not (pt_val (pe_callB (call_isiEO R T) (by rfl) mI boot_isinstance (pa_cons (pv 1) (pa_cons (pe_bltn (v := .ty "RuntimeError") (u := .type "RuntimeError") (by rfl) mR (by decide +kernel) rfl) pa_nil)))))
        (pw_or1 (pt_val (pe_callB (call_isiEOT R T) (by rfl) mI boot_isinstance (pa_cons (pv 1) (pa_cons (pe_tup (pa_cons (pe_bltn (v := .ty "ValueError") (u := .type "ValueError") (by rfl) mV (by decide +kernel) rfl)
          (pa_cons (pe_bltn (v := .ty "LookupError") (u := .type "LookupError") (by rfl) mL (by decide +kernel) rfl) pa_nil))) pa_nil)))))))
      (pss_one (ps_ret pe_str)) pss_nil)
    (pss_one (ps_ret (pe_word R (pv 1))))))), ?_⟩
  · refine ⟨fun pins s' σ H' D I h' => ?_⟩
    obtain ⟨Ech, hW, h1, h2, h3⟩ := h'
    exact (pss_one (ps_expr (act W pn xe Ech _ _ tk hW))).run pins s' σ H' D I ⟨h1, h2, h3⟩
  · refine ⟨_, fun cls d σ' H' ⟨ec, dd, z, ed, hd, hq⟩ => ⟨true, by rw [ec]; exact R.te, fun _ hl a na => ?_, fun z => Bool.noConfusion z⟩, rfl, hc, h _⟩
    subst ec
    subst ed
    obtain ⟨v0, v1, v2, rfl⟩ : ∃ v0 v1 v2 : Option V, σ' = [v0, v1, v2] := by
      match σ', hl with
      | [v0, v1, v2], _ => exact ⟨v0, v1, v2, rfl⟩
    have ea : (upd H' a (EO a (.ref CF) (some dd))) a = some (EO a (.ref CF) (some dd)) := upd_same
    have edd : (upd H' a (EO a (.ref CF) (some dd))) dd = some (.xd [("word", .str z)]) := by
      rw [upd_ne (ne_of_none hd na)]
      exact hd
    have sm := same_new (o := EO a (.ref CF) (some dd)) na
    generalize upd H' a (EO a (.ref CF) (some dd)) = H1 at ea edd sm ⊢
    -- if caught is None
    refine ⟨_, rfl, _, rfl, ?_⟩
    refine iteF ?_
    -- if not isinstance(caught, RuntimeError) or isinstance(caught, (ValueError, LookupError))
    refine ⟨_, rfl, a, dd, _, _, _, true, rfl, .ty "RuntimeError", ea, edd, k1, _, rfl, ?_⟩
    refine iteF ?_
    refine ⟨_, rfl, (by show 2 ≤ sizeLine; decide), fun tp ntp => ?_⟩
    have s2 := same_new (o := .tup [.ty "ValueError", .ty "LookupError"]) ntp
    refine ⟨a, dd, tp, _, _, _, false, rfl, upd_same, .cons (.ty "ValueError") (.cons (.ty "LookupError") .nil), s2 _ _ ea, s2 _ _ edd, k2, _, rfl, ?_⟩
    refine iteF ?_
    -- return caught.word
    exact ⟨_, rfl, a, dd, _, rfl, s2 _ _ ea, s2 _ _ edd, hq _ (sm.trans s2)⟩
end SW

set_option Elab.async false
set_option maxRecDepth 100000
set_option maxHeartbeats 1000000
/-! repr of data: where no repr runs around. -/
namespace SW
open PySem PySem.Spec PyProof.Rows L2
/-- a def's promise, called where no guarded call runs around -/
structure FnG (P : Program) (w : World) (K : PySem.W.Frag) (mg : Str → Option Value) (base : Heap) (k : Nat) (f : Addr) (fd : FuncData) (ps : List Str) (sp : Sp) : Prop where
  len : ∀ vs H Q E, sp vs H Q E → vs.length = ps.length
  run : ∀ (A : Around) (outer : List Env) (s : Shared) (H : Hp) (us : List Value) (vs : List V) (Q : VK) (E : XK), A.guards = some [] → Room k A → Env0 P w K mg base A outer s H → BindsTo s fd ⟨us, []⟩ (ps.zip us) → Vals vs us → sp vs H Q E →
    codeAny (model P w) A (.call (.ref f) ⟨us, []⟩) (CR CX0 outer P w H s Q E) s
section
variable {P : Program} {w : World} {K : PySem.W.Frag} {mg : Str → Option Value} {base : Heap}
theorem fng_of {k : Nat} {f : Addr} {name qual : Str} {params : Arguments} {body : List Stmt} {scope : Scope} {dV kV doc pm cdv ct oc : Value} {an od : Option Addr} {osl : Array (Option Value)} {N ps : List Str} {sp : Sp}
    (lk : K.lookup f = some ⟨oc, od, .func (PySem.W.fnOf name qual params body scope dV kV doc pm an cdv ct), osl⟩) (hcd : PySem.W.codeIn K cdv qual = true) (S : FnScope N ps scope) (len : ∀ vs H Q E, sp vs H Q E → vs.length = ps.length)
    (hbody : ∀ (A : Around) (outer : List Env) (s : Shared) (H : Hp) (vs : List V) (Q : VK) (E : XK), A.guards = some [] → Room k (A.deeper (envOfC qual scope s.heap.objs.size f cdv)) → sp vs H Q E →
      ∃ t, PSs (cxOf CX0 P w K mg base N qual scope f cdv A outer s H E).nox body t ∧ t { nx := fun _ H' => Q .non H', rt := Q } (L2.start N vs) H) :
    FnG P w K mg base (k + 1) f (PySem.W.fnOf name qual params body scope dV kV doc pm an cdv ct) ps sp :=
  ⟨len, fun A outer s H us vs Q E gd hr e0 hb r hsp => LamX.run_ofS lk hcd S hr e0 hb r (len _ _ _ _ hsp) fun hr' => by
    obtain ⟨t, ht, q⟩ := hbody A outer s H vs Q E gd hr' hsp
    exact ⟨t, ht.nox, q⟩⟩
end
section
variable {X : Cx} {k : Nat} {f : Addr} {fd : FuncData} {ps : List Str} {sp : Sp} {x : Str} {p pos : Pos} {e : Expr} {es : List Expr} {t : TA}
theorem pe_callG (F : FnG X.prog X.w X.K X.mg X.base k f fd ps sp) (gd : X.A.guards = some []) (hr : Room k X.A) (hg : Gl X x) (hm : X.mg x = some (.ref f)) (hk : PySem.W.keepIn X.K (.ref f) = true) (hb : L2.Binds X.K fd ps []) (ha : PA X (e :: es) t)
    (hdb : (x == ("__debug__" : Str)) = false := by decide) (he : starEach (e :: es) X.env = (false, eval e X.env) :: starEach es X.env := by rfl) (hpl : (backTo pos (starEach es X.env)).any (·.1) = false := by rfl) :
    PE X (.Call (.Name x p) (e :: es) [] pos) (tCall sp [] E0 t) := by
  refine ⟨fun pins s σ H Q I h => wpAny_Call_Name_kw (ld_glob I hg hm (PySem.W.callWith_K (h₀ := X.base) I.ok.mod.kin hk (thn (ha.run pos pins s σ H _ I h) fun us s1 hh => ?_) he hpl) hdb)⟩
  obtain ⟨vs, H1, I1, r, q⟩ := hh
  rw [List.append_nil] at q
  have hl : (us ++ []).length = ps.length := by
    rw [List.append_nil, ← r.length]
    exact F.len _ _ _ _ q
  have bd := hb s1 us I1.kIn hl
  rw [List.append_nil] at bd
  refine ⟨I1.kIn, wpAny_call (codeAny_mono (F.run X.A X.stack s1 H1 us vs Q E0 gd hr I1.env0 bd r q) fun r s' hq => ?_)⟩
  match r, hq with
  | .ok (.ret u), hq => exact I1.after hq
/-- repr of lists and tuples of data -/
theorem call_reprD (gd : X.A.guards = some []) (hr : Room 0 X.A) : CallR X (.builtin "repr") (fun xs H Q => ∃ (a : Addr) (d : PyData), xs = [.ref a] ∧ Dp X.K H (.ref a) d ∧ d.showable = true ∧ d.hasDict = false ∧ d.depth ≤ 60 ∧ d.shown.length ≤ sizeLine ∧ Q (.str d.shown) H) := by
  intro pins s σ H xs us Q I r h
  obtain ⟨a, d, rfl, hd, hs, hn, hp, hz, q⟩ := h
  obtain ⟨u, rfl, rx⟩ := vals1 r
  obtain rfl : u = Value.ref a := rx
  obtain ⟨as, rd⟩ := Dp.reads I d (.ref a) _ hd rfl
  have hu := hr.units
  exact repr_of_reads' rd hs (PyData.noDict_hsm hn) gd (by omega) (fun _ _ e => e) (fun h' u tk hk => ⟨.str d.shown, H, I.kept hk, ⟨u, rfl⟩, q⟩) hz
end
end SW

set_option Elab.async false
set_option maxRecDepth 100000
set_option maxHeartbeats 1000000
/-! Texts of pairs; repr of numbers and truth values; what a draw leaves. -/
namespace SW
open PySem PySem.Spec PyProof.Rows L2
def pd (e : Str × Int) : PyData := .tuple [.str e.1, .int e.2]
theorem small_log {v : Int} (h : Small v) : v.natAbs.log2 < 1920 := by
  unfold Small at h
  by_cases z : v.natAbs = 0
  · rw [z]
    decide
  · rw [Nat.log2_lt z]
    exact Nat.lt_trans h (by decide +kernel)
theorem small_log2 {v : Int} (h : Small v) : v.natAbs.log2 < 200 := by
  unfold Small at h
  by_cases z : v.natAbs = 0
  · rw [z]
    decide
  · rw [Nat.log2_lt z]
    exact Nat.lt_trans h (by decide +kernel)
theorem isNm_len {z : Str} (h : isNm z) : z.cps.size ≤ 8 := by
  unfold isNm isNmB at h
  rw [Bool.and_eq_true, Bool.and_eq_true] at h
  exact of_decide_eq_true h.1.2
theorem isNm_cps {z : Str} (h : isNm z) : ∀ c ∈ z.cps.toList, c ≤ 122 := fun c hc => by
  unfold isNm isNmB at h
  rw [Bool.and_eq_true] at h
  have q := List.all_eq_true.mp h.2 c hc
  rw [Bool.and_eq_true] at q
  exact of_decide_eq_true q.2
/-- pairs whose texts are short -/
def Short (prs : Mp) : Prop := ∀ e ∈ prs, isNm e.1 ∧ Small e.2
theorem Good.short {ns : List Str} {m : Mp} (g : Good ns m) (h : ∀ z ∈ ns, isNm z) : Short m := fun e he => ⟨h _ (g.sub _ (List.mem_map.mpr ⟨e, he, rfl⟩)), g.sm e he⟩
theorem pd_show : ∀ {prs : Mp}, Short prs → PyData.showableAll (prs.map pd) = true
  | [], _ => rfl
  | e :: r, h => by
    rw [List.map_cons]
    simp only [pd, PyData.showableAll, PyData.showable, pd_show (prs := r) fun x hx => h x (List.mem_cons_of_mem _ hx), decide_eq_true (small_log (h e List.mem_cons_self).2), Bool.and_self]
theorem pd_noDict : ∀ prs : Mp, PyData.hasDictAll (prs.map pd) = false
  | [] => rfl
  | e :: r => by
    rw [List.map_cons]
    simp only [pd, PyData.hasDictAll, PyData.hasDict, pd_noDict r, Bool.or_self]
theorem pd_depth : ∀ prs : Mp, PyData.depthAll (prs.map pd) ≤ 1
  | [] => by decide
  | e :: r => by
    have := pd_depth r
    rw [List.map_cons]
    simp only [pd, PyData.depthAll, PyData.depth]
    omega
theorem pd_lay : ∀ {prs : Mp}, Short prs → PyData.canLayAll0 (prs.map pd) = true
  | [], _ => rfl
  | e :: r, h => by
    have hs : PyData.strOk e.1 = true := by
      unfold PyData.strOk
      rw [Array.all_eq_true_iff_forall_mem]
      intro c hc
      have := isNm_cps (h e List.mem_cons_self).1 c (Array.mem_toList_iff.mpr hc)
      exact decide_eq_true (by omega)
    rw [List.map_cons]
    simp only [pd, PyData.canLayAll0, PyData.canLay0, pd_lay (prs := r) fun x hx => h x (List.mem_cons_of_mem _ hx), hs, Bool.and_self]
theorem pd_leaves : ∀ {prs : Mp}, Short prs → PyData.leavesShortAll 100 (prs.map pd) = true
  | [], _ => rfl
  | e :: r, h => by
    obtain ⟨h1, h2⟩ := h e List.mem_cons_self
    have a : (e.1.cps.toList.all fun c => decide (c < 16 ^ 8)) = true := List.all_eq_true.mpr fun c hc => decide_eq_true (by have := isNm_cps h1 c hc; omega)
    have b : (PyData.shown (.int e.2)).length ≤ 100 := by
      have : (toString e.2).length ≤ 60 + 1 := int_text_length_le10 (by decide) h2
      have q := PyProof.Rows.int_text_len_1921 (small_log h2)
      show (Str.ofString (toString e.2)).length ≤ 100
      rw [PySem.ofString_length]
      omega
    rw [List.map_cons]
    simp only [pd, PyData.leavesShortAll, PyData.leavesShort, pd_leaves (prs := r) fun x hx => h x (List.mem_cons_of_mem _ hx), a, decide_eq_true b, Bool.and_self]
theorem pd_weight : ∀ {prs : Mp}, Short prs → PyData.weightAll (prs.map pd) ≤ 300 * prs.length
  | [], _ => by decide
  | e :: r, h => by
    have ih := pd_weight (prs := r) fun x hx => h x (List.mem_cons_of_mem _ hx)
    obtain ⟨h1, h2⟩ := h e List.mem_cons_self
    have a := isNm_len h1
    have b : (if e.2 == 0 then 0 else e.2.natAbs.log2 + 1) ≤ 200 := by
      split
      · decide
      · exact small_log2 h2
    rw [List.map_cons, List.length_cons]
    simp only [pd, PyData.weightAll, PyData.weight]
    omega
theorem pds_text {prs : Mp} (h : Short prs) (hl : prs.length ≤ 100) : (PyData.tuple (prs.map pd)).shown.length ≤ sizeLine := by
  have := PyData.shown_le 100 (by decide) (.tuple (prs.map pd)) (by simp only [PyData.leavesShort]; exact pd_leaves h)
  have w := pd_weight h
  simp only [PyData.weight] at this
  rw [sizeLine_eq]
  omega
theorem pds_showable {prs : Mp} (h : Short prs) : (PyData.tuple (prs.map pd)).showable = true := by simp only [PyData.showable]; exact pd_show h
theorem pds_noDict (prs : Mp) : (PyData.tuple (prs.map pd)).hasDict = false := by simp only [PyData.hasDict]; exact pd_noDict prs
theorem pds_depth (prs : Mp) : (PyData.tuple (prs.map pd)).depth ≤ 60 := by have := pd_depth prs; simp only [PyData.depth]; omega
theorem pds_shaped {prs : Mp} (h : Short prs) : SeqAt.shaped (.list (prs.map pd)) = true := by
  have := pd_depth prs
  unfold SeqAt.shaped
  simp only [PyData.canLay0, PyData.depth, pd_lay h, Bool.true_and]
  exact decide_eq_true (by omega)
theorem dp_pairs {K : PySem.W.Frag} {H : Hp} : ∀ {ts : List Addr} {prs : Mp}, Paired (fun (q : Addr) (e : Str × Int) => SqT K H q [.str e.1, .int e.2]) ts prs → DpAll K H (ts.map V.ref) (prs.map pd)
  | _, _, .nil => .nil
  | _, _, .cons h t => .cons (.tup h (.cons (.str _) (.cons (.int _) .nil))) (dp_pairs t)
theorem PairsAt.dp {K : PySem.W.Frag} {H : Hp} {t : Addr} {prs : Mp} (h : PairsAt K H t prs) : Dp K H (.ref t) (.tuple (prs.map pd)) := by
  obtain ⟨ts, h1, h2⟩ := h
  exact .tup h1 (dp_pairs h2)
section
variable {X : Cx}
theorem call_repr_bl : CallR X (.builtin "repr") (fun xs H Q => ∃ b, xs = [.bl b] ∧ Q (.str (if b then "True" else "False")) H) := by
  intro pins s σ H xs us Q I r h
  obtain ⟨b, rfl, q⟩ := h
  obtain ⟨u, rfl, e⟩ := vals1 r
  obtain rfl : u = Value.bool b := e
  refine PySem.P.repr_of_bool ⟨.str _, H, I.tok _, ⟨_, rfl⟩, ?_⟩
  have e : Str.ofString (if b = true then "True" else "False") = (if b = true then ("True" : Str) else "False") := by cases b <;> rfl
  first
    | exact q
    | (rw [e]; exact q)
    | (rw [← e] at q; exact q)
end
/-! tuples stay where a draw writes -/
theorem sqt_same {K : PySem.W.Frag} {H H' : Hp} {q : Addr} {xs : List V} (e : Same H H') (h : SqT K H q xs) : SqT K H' q xs := by
  rcases h with (h | ⟨o, h⟩) | h
  · exact .inl (.inl (e _ _ h))
  · exact .inl (.inr ⟨o, e _ _ h⟩)
  · exact .inr h
theorem Rnd.sqt {K : PySem.W.Frag} {H H' : Hp} {a : RA} {n : Nat} {q : Addr} {xs : List V} (R : Rnd H a n) (b : But a H H') (h : SqT K H q xs) : SqT K H' q xs := by
  obtain ⟨ns, ls, h1, h2, h3, _⟩ := R
  rcases h with (h | ⟨o, h⟩) | h
  · exact .inl (.inl (b _ _ h (ne_of h h1 (by intro z; cases z)) (ne_of h h3 (by intro z; cases z))))
  · exact .inl (.inr ⟨o, b _ _ h (ne_of h h1 (by intro z; cases z)) (ne_of h h3 (by intro z; cases z))⟩)
  · exact .inr h
/-- a tuple stays where something else is written -/
theorem sqt_upd {K : PySem.W.Frag} {H : Hp} {q p : Addr} {xs : List V} {o o' : HO} (hp : H p = some o) (nt : ∀ ys, o ≠ .tup ys) (nf : ∀ o2 ys, o ≠ .frz o2 ys) (h : SqT K H q xs) : SqT K (upd H p o') q xs := by
  rcases h with (h | ⟨o2, h⟩) | h
  · exact .inl (.inl (by rw [upd_ne (ne_of h hp (fun z => nt _ z.symm))]; exact h))
  · exact .inl (.inr ⟨o2, by rw [upd_ne (ne_of h hp (fun z => nf _ _ z.symm))]; exact h⟩)
  · exact .inr h
end SW

set_option Elab.async false
set_option maxRecDepth 100000
set_option maxHeartbeats 1000000
/-! A context and its dict are made: _law_made. -/
namespace SW
open PySem PySem.Spec PyProof.Rows L2
abbrev sMade : Stmt := top 13
theorem mergeK_kv : ∀ (prs acc : Mp), mergeK (kv acc) (kv prs) = kv (prs.foldl (fun m e => aput m e.1 e.2) acc)
  | [], acc => rfl
  | e :: r, acc => by
    have ih := mergeK_kv r (aput acc e.1 e.2)
    have h : mergeK (kv acc) (kv (e :: r)) = mergeK (putK (kv acc) (.inr e.1) (.int e.2)) (kv r) := rfl
    rw [h, putK_kv, ih]
    rfl
theorem mergeK_made {prs : Mp} (nd : (keys prs).Nodup) : mergeK [] (kv prs) = kv prs := by
  have := mergeK_kv prs []
  have e := made_nodup nd
  unfold made at e
  rw [e] at this
  exact this
/-- what _law_made leaves: a list of a context and its dict -/
def spMade (C : Addr) : Sp := fun vs H Q _ => ∃ (a : RA) (n : Nat) (p : Addr) (zs : List Str), vs = [.ref a.s, .ref p] ∧ Rnd H a n ∧ H p = some (.lst (zs.map V.str)) ∧ Off a p ∧ zs.length = 5 ∧ zs.Nodup ∧ (∀ z ∈ zs, isNm z) ∧ n + 1000 ≤ 1000000 ∧
  ∀ (r x d due : Addr) (m md : Mp) (n' : Nat) (H' : Hp), H r = none → H x = none → H d = none → H due = none → d ≠ due → H' r = some (.lst [.ref x, .ref due]) → CtxAt C H' x d m → H' due = some (.dK (kv md)) → Good zs m → Good zs md → Eqm m md → n' ≤ n + 100 →
    Rnd H' a n' → But a H H' → Q (.ref r) H'
theorem pair_rev {α β : Type} {F : α → β → Prop} : ∀ {l : List α} {m : List β}, Paired F l m → Paired F l.reverse m.reverse
  | _, _, .nil => .nil
  | _, _, .cons f t => by
    rw [List.reverse_cons, List.reverse_cons]
    exact Paired.snoc (pair_rev t) f
theorem pair_kv {K : PySem.W.Frag} {H : Hp} : ∀ {ts : List Addr} {prs : Mp}, Paired (fun (q : Addr) (e : Str × Int) => SqT K H q [.str e.1, .int e.2]) ts prs → Paired (fun (p : Addr) (e : Key × V) => SqT K H p [kV e.1, e.2]) ts (kv prs)
  | _, _, .nil => .nil
  | _, _, .cons f t => .cons f (pair_kv t)
theorem eqv_pairs_nil : ∀ prs : Mp, PyData.eqv (.list (prs.map pd)) (.list []) = decide (prs = [])
  | [] => by simp [PyData.eqv, PyData.eqvAll]
  | n :: r => by simp [PyData.eqv, PyData.eqvAll]
section
variable {P : Program} {w : World} {K : PySem.W.Frag} {mg : Str → Option Value} {base : Heap}
theorem scMade : FnScope ["state", "names", "some", "values", "turned", "way", "name"] ["state", "names"] (defScope sMade) := ⟨rfl, rfl, rfl, by decide +kernel, rfl, by decide +kernel, by decide +kernel⟩
theorem ok_made {f fD fV fI C T0 : Addr} {fd fdD fdV fdI : FuncData} (F : Fun K "_law_made" "_law_made" sMade f fd) (GD : FnOk P w K mg base CX0 2 fD fdD ["state", "many"] spDraw) (bD : Binds K fdD ["state", "many"] []) (gD : mg "_law_draw" = some (.ref fD)) (kD : PySem.W.keepIn K (.ref fD) = true)
    (GV : FnOk P w K mg base CX0 3 fV fdV ["state"] spValue) (bV : Binds K fdV ["state"] []) (gV : mg "_law_value" = some (.ref fV)) (kV : PySem.W.keepIn K (.ref fV) = true) (T : TxC K mg C) (M : Mk K C fI) (GI : FnOk P w K mg base CX0 1 fI fdI ["self", "pairs"] (spInit K C)) (bI : Binds K fdI ["self", "pairs"] [])
    (bK : KBn K fdI ["self", "pairs"] 1 ["pairs"] (fun us ws => us ++ ws) (fun vs zs => vs ++ zs)) (b0 : Binds K fdI ["self", "pairs"] [.ref T0]) (t0 : ∀ H, SqT K H T0 []) (mT : mg "tuple" = none) (mD : mg "dict" = none) : FnOk P w K mg base CX0 4 f fd ["state", "names"] (spMade C) := by
  refine F.ok scMade (fun vs H Q E h => ?_) (fun cdv A outer s H vs Q E hr h => ?_)
  · obtain ⟨a, n, p, zs, rfl, _⟩ := h
    rfl
  · obtain ⟨a, n, p, zs, rfl, R, ep, fp, zl, znd, znm, hn, k⟩ := h
    have hu := hr.units
    have hr2 : Room 2 _ := hr.mono (by decide)
    refine ⟨_, C8.pss_cut (ps_setLc (i := 2) (own := [("name", 6)]) (g := gName 6) rfl scMade.nd rfl rfl (sw_true rfl rfl rfl rfl)
          (pi_list (pe_slice sl_list (pv 1) po_none (po_some pe_int))) (blkOk_by (N := ["state", "names", "some", "values", "turned", "way", "name"]) (sc := defScope sMade) (by decide +kernel))
          (fun _ _ _ _ _ => pg_name (i := 6) scMade.nd rfl (Or.inl rfl)) (fun _ _ _ _ _ => pts_one (pt_cmpR op_eq (pe_call GD hr2 rfl gD kD bD .nil pass0 (pa_cons (pv 0) (pa_cons pe_int pa_nil))) pe_int (nomark _)))
          (fun _ _ _ _ _ => pv 6))
      (C8.pss_cut (ps_setLc (i := 3) (own := [("name", 6)]) (g := gName 6) (tt := tYes) rfl scMade.nd rfl rfl (sw_true rfl rfl rfl rfl)
          (pi_list (pv 2)) (blkOk_by (N := ["state", "names", "some", "values", "turned", "way", "name"]) (sc := defScope sMade) (by decide +kernel))
          (fun _ _ _ _ _ => pg_name (i := 6) scMade.nd rfl (Or.inl rfl)) (fun _ _ _ _ _ => pts_nil)
          (fun _ _ _ _ _ => pe_tup (pa_cons (pv 6) (pa_cons (pe_call GV hr rfl gV kV bV .nil pass0 (pa_cons (pv 0) pa_nil)) pa_nil))))
      (C8.pss_cut (ps_set (i := 4) scMade.nd rfl (Or.inl rfl) (pe_ifExp (pt_cmpR op_eq (pe_call GD hr2 rfl gD kD bD .nil pass0 (pa_cons (pv 0) (pa_cons pe_int pa_nil))) pe_int (nomark _)) (pe_revL (pv 3)) (pv 3)))
      (pss_cons (ps_set (i := 5) scMade.nd rfl (Or.inl rfl) (pe_call GD hr2 rfl gD kD bD .nil pass0 (pa_cons (pv 0) (pa_cons pe_int pa_nil))))
      (C8.pss_cut (ps_if (PW.pt (pw_and (pt_cmpR op_eq (pv 5) pe_int (nomark _)) (pw_and1 (pt_cmpR (op_eqD hu) (pv 3) (pe_lst pa_nil) (nomark _)))))
          (pss_one (ps_ret (pe_lst (pa_cons (pe_make0 M GI hr2 rfl T.mgC b0 (dvs := [.ref T0]) (.cons rfl .nil) pass0) (pa_cons pe_dnewK pa_nil))))) pss_nil)
      (pss_one (ps_ret (pe_lst (pa_cons (pe_ifExp (pt_cmpR op_eq (pv 5) pe_int (nomark _))
            (pe_makeK0 M GI hr2 rfl T.mgC bK pass0 (pk_cons (pe_tupleOf (by rfl) mT (pv 4)) pk_nil))
            (pe_make M GI hr2 rfl T.mgC bI .nil pass0 (pa_cons (pe_tupleOf (by rfl) mT (pv 4)) pa_nil)))
          (pa_cons (pe_callTy (call_dictP rfl) (by rfl) mD boot_dict (pa_cons (pv 3) pa_nil)) pa_nil))))))))), ?_⟩
    -- some
    refine ⟨fun σ H1 => ∃ (q : Addr) (ws : List Str) (n1 : Nat), σ = [some (.ref a.s), some (.ref p), some (.ref q), none, none, none, none] ∧ H1 q = some (.lst (ws.map V.str)) ∧ Off a q ∧ ws.Nodup ∧ (∀ y ∈ ws, y ∈ zs) ∧ ws.length ≤ 4 ∧ n1 ≤ n + 4 ∧ Rnd H1 a n1 ∧ But a H H1, ?_, ?_⟩
    · obtain ⟨z0, z1, z2, z3, z4, rfl⟩ : ∃ z0 z1 z2 z3 z4, zs = [z0, z1, z2, z3, z4] := by
        match zs, zl with
        | [z0, z1, z2, z3, z4], _ => exact ⟨z0, z1, z2, z3, z4, rfl⟩
      have sub4 : ([z0, z1, z2, z3] : List Str).Sublist [z0, z1, z2, z3, z4] := List.sublist_append_left [z0, z1, z2, z3] [z4]
      refine ⟨_, rfl, 4, rfl, p, _, rfl, SqL.of ep, fun l nl => ?_⟩
      have fl := R.off nl
      have s0 := same_new (o := .lst (cutV ([z0, z1, z2, z3, z4].map V.str) none (some 4))) nl
      have el : (upd H l (.lst (cutV ([z0, z1, z2, z3, z4].map V.str) none (some 4)))) l = some (.lst ([z0, z1, z2, z3].map V.str)) := by
        rw [upd_same]
        rfl
      have R0 := R.same s0
      have b0' : But a H _ := Same.but s0
      generalize (upd H l (.lst (cutV ([z0, z1, z2, z3, z4].map V.str) none (some 4)))) = H0 at el R0 b0' ⊢
      have q4 : ([z0, z1, z2, z3] : List Str).length = 4 := rfl
      generalize ([z0, z1, z2, z3] : List Str) = ys at el sub4 q4
      refine ⟨l, rfl, ⟨_, SqL.of el⟩, fun D nD => ?_⟩
      have fD := R0.off nD
      refine lc_list (K := K) (a := l) (xs := ys.map V.str) (fun i H2 => ∃ ws : List Str, H2 D = some (.lst (ws.map V.str)) ∧ ws.Sublist (ys.take i) ∧ Rnd H2 a (n + i) ∧ But a H0 H2)
        ⟨[], upd_same, List.Sublist.refl _, R0.same (same_new nD), Same.but (same_new nD)⟩ (fun i H2 _ ⟨_, _, _, _, b2⟩ => SqL.of (b2.at fl el)) ?_ ?_
      · rintro i y H2 hi ⟨ws, e2, s2, R2, b2⟩
        obtain ⟨z, hz, rfl⟩ := str_at hi
        have il : i < ys.length := (List.getElem?_eq_some_iff.mp hz).1
        have et : ys.take (i + 1) = ys.take i ++ [z] := by rw [List.take_add_one, hz]; rfl
        refine ⟨rfl, ?_⟩
        refine ⟨_, rfl, a, n + i, 2, rfl, R2, by omega, by decide, by decide, fun r H3 r0 r1 R3 b3 => ?_⟩
        have e3 := b3.at fD e2
        refine ⟨rfl, _, rfl, ?_⟩
        refine ite2 (fun _ => ?_) (fun _ => ?_)
        · refine ⟨_, rfl, _, e3, small1000 (by rw [List.length_map]; have := s2.length_le; rw [List.length_take] at this; omega), ws ++ [z], ?_, ?_, R3.upd fD, (b2.trans b3).new nD⟩
          · rw [upd_same, List.map_append]
            rfl
          · rw [et]
            exact s2.append (List.Sublist.refl _)
        · exact ⟨ws, e3, by rw [et]; exact s2.trans (List.sublist_append_left _ _), R3, b2.trans b3⟩
      · rintro H2 ⟨ws, e2, s2, R2, b2⟩
        rw [List.length_map, List.take_length] at s2
        refine ⟨D, ws, n + (ys.map V.str).length, rfl, e2, fD, znd.sublist (s2.trans sub4), fun y hy => (s2.trans sub4).subset hy, by have := s2.length_le; omega, by rw [List.length_map]; omega, R2, b0'.trans b2⟩
    rintro σ H1 ⟨q, ws, n1, rfl, eq, fq, wnd, wz, wl, hn1, R1, b1⟩
    -- values
    refine ⟨fun σ H2 => ∃ (v : Addr) (ts : List Addr) (prs : Mp) (n2 : Nat), σ = [some (.ref a.s), some (.ref p), some (.ref q), some (.ref v), none, none, none] ∧ H2 v = some (.lst (ts.map V.ref)) ∧ Off a v ∧ Paired (fun (q : Addr) (e : Str × Int) => SqT K H2 q [.str e.1, .int e.2]) ts prs ∧
      keys prs = ws ∧ (∀ e ∈ prs, Small e.2) ∧ n2 ≤ n + 20 ∧ Rnd H2 a n2 ∧ But a H H2, ?_, ?_⟩
    · refine ⟨_, rfl, q, rfl, ⟨_, SqL.of eq⟩, fun D nD => ?_⟩
      have fD := R1.off nD
      refine lc_list (K := K) (a := q) (xs := ws.map V.str) (fun i H2 => ∃ (ts : List Addr) (prs : Mp), H2 D = some (.lst (ts.map V.ref)) ∧ Paired (fun (q : Addr) (e : Str × Int) => SqT K H2 q [.str e.1, .int e.2]) ts prs ∧ keys prs = ws.take i ∧ (∀ e ∈ prs, Small e.2) ∧ Rnd H2 a (n1 + 4 * i) ∧ But a H1 H2)
        ⟨[], [], upd_same, .nil, rfl, fun _ h => by simp at h, R1.same (same_new nD), Same.but (same_new nD)⟩ (fun i H2 _ ⟨_, _, _, _, _, _, _, b2⟩ => SqL.of (b2.at fq eq)) ?_ ?_
      · rintro i y H2 hi ⟨ts, prs, e2, pr, kp, sm, R2, b2⟩
        obtain ⟨z, hz, rfl⟩ := str_at hi
        have il : i < ws.length := (List.getElem?_eq_some_iff.mp hz).1
        have et : ws.take (i + 1) = ws.take i ++ [z] := by rw [List.take_add_one, hz]; rfl
        have pl : prs.length = i := by
          have := congrArg List.length kp
          unfold keys at this
          rw [List.length_map, List.length_take] at this
          omega
        refine ⟨rfl, ?_⟩
        refine tyes ?_
        refine ⟨_, rfl, _, rfl, a, n1 + 4 * i, rfl, R2, by omega, fun v H3 sv R3 b3 => ?_⟩
        have e3 := b3.at fD e2
        refine ⟨(by show 2 ≤ sizeLine; decide), fun t nt => ?_⟩
        have nDt : D ≠ t := ne_of_none e3 nt
        refine ⟨_, (upd_ne nDt).trans e3, small1000 (by rw [List.length_map, pair_len pr]; omega), ts ++ [t], prs ++ [(z, v)], ?_, ?_, ?_, ?_, ?_, ?_⟩
        · rw [upd_same, List.map_append]
          rfl
        · refine Paired.snoc (L2.Paired.mapP pr fun q e h => ?_) (SqT.of (by rw [upd_ne nDt.symm, upd_same]))
          exact sqt_upd ((upd_ne nDt).trans e3) (by intro ys z; cases z) (by intro _ ys z; cases z) (sqt_same (same_new nt) (R2.sqt b3 h))
        · unfold keys at kp ⊢
          rw [List.map_append, kp, et]
          rfl
        · intro e he
          rcases List.mem_append.mp he with h | h
          · exact sm e h
          · rw [List.mem_singleton.mp h]
            exact sv
        · exact (R3.same (same_new nt)).upd fD
        · exact (((b2.trans b3).trans (Same.but (same_new nt)))).new nD
      · rintro H2 ⟨ts, prs, e2, pr, kp, sm, R2, b2⟩
        rw [List.length_map, List.take_length] at kp
        exact ⟨D, ts, prs, n1 + 4 * (ws.map V.str).length, rfl, e2, fD, pr, kp, sm, by rw [List.length_map]; omega, R2, b1.trans b2⟩
    rintro σ H2 ⟨v, ts, prs, n2, rfl, ev, fv, pr, kp, sm, hn2, R2, b2⟩
    have pnd : (keys prs).Nodup := by rw [kp]; exact wnd
    have gp : Good zs prs := ⟨pnd, fun y hy => wz y (by rw [← kp]; exact hy), sm⟩
    have sh : Short prs := gp.short znm
    have prl : prs.length ≤ 4 := by
      have := congrArg List.length kp
      unfold keys at this
      rw [List.length_map] at this
      omega
    -- turned
    refine ⟨fun σ H3 => ∃ (u : Addr) (us : List Addr) (pru : Mp) (n3 : Nat), σ = [some (.ref a.s), some (.ref p), some (.ref q), some (.ref v), some (.ref u), none, none] ∧ H3 v = some (.lst (ts.map V.ref)) ∧ Paired (fun (q : Addr) (e : Str × Int) => SqT K H3 q [.str e.1, .int e.2]) ts prs ∧ H3 u = some (.lst (us.map V.ref)) ∧ Off a u ∧
      Paired (fun (q : Addr) (e : Str × Int) => SqT K H3 q [.str e.1, .int e.2]) us pru ∧ pru.Perm prs ∧ n3 ≤ n + 21 ∧ Rnd H3 a n3 ∧ But a H H3, ?_, ?_⟩
    · refine ⟨_, rfl, a, n2, 2, rfl, R2, by omega, by decide, by decide, fun r H3 r0 r1 R3 b3 => ?_⟩
      have ev3 := b3.at fv ev
      have pr3 := L2.Paired.mapP pr fun q e h => R2.sqt b3 h
      refine ⟨rfl, _, rfl, ?_⟩
      refine ite2 (fun _ => ?_) (fun _ => ?_)
      · refine ⟨_, rfl, v, _, rfl, SqL.of ev3, fun u nu => ?_⟩
        have fu := R3.off nu
        have pr4 := L2.Paired.mapP pr3 fun q e h => sqt_same (K := K) (same_new (o := .lst (ts.map V.ref).reverse) nu) h
        refine ⟨u, ts.reverse, prs.reverse, n2 + 1, rfl, same_new nu _ _ ev3, pr4, by rw [upd_same, List.map_reverse], fu, ?_, List.reverse_perm _, by omega, R3.same (same_new nu), (b2.trans b3).trans (Same.but (same_new nu))⟩
        exact pair_rev pr4
      · exact ⟨_, rfl, v, ts, prs, n2 + 1, rfl, ev3, pr3, ev3, fv, pr3, List.Perm.refl _, by omega, R3, b2.trans b3⟩
    rintro σ H3 ⟨u, us, pru, n3, rfl, ev, pr, eu, fu, prU, pm, hn3, R3, b3⟩
    -- way
    refine ⟨_, rfl, a, n3, 3, rfl, R3, by omega, by decide, by decide, fun way H4 w0 w1 R4 b4 => ?_⟩
    have ev4 := b4.at fv ev
    have eu4 := b4.at fu eu
    have pr4 := L2.Paired.mapP pr fun q e h => R3.sqt b4 h
    have prU4 := L2.Paired.mapP prU fun q e h => R3.sqt b4 h
    have b4' := b3.trans b4
    have und : (keys pru).Nodup := (show (keys pru).Perm (keys prs) from pm.map _).nodup_iff.mpr pnd
    have gu : Good zs pru := ⟨und, fun y hy => gp.sub y ((show (keys pru).Perm (keys prs) from pm.map _).mem_iff.mp hy), fun e he => sm e (pm.mem_iff.mp he)⟩
    -- what follows a made context x of the pairs, at H5
    have fin : ∀ (x d : Addr) (H5 : Hp), H4 x = none → H4 d = none → CtxAt C H5 x d pru → Same H4 H5 → ∀ due : Addr, H5 due = none → ∀ r : Addr, (upd H5 due (.dK (mergeK [] (kv prs)))) r = none → 
        Q (.ref r) (upd (upd H5 due (.dK (mergeK [] (kv prs)))) r (.lst [.ref x, .ref due])) := by
      intro x d H5 nx nd c s5 due ndue r nr
      have ndd : d ≠ due := ne_of_none c.dc ndue
      have s6 := same_new (o := .dK (mergeK [] (kv prs))) ndue
      have s7 := same_new (o := .lst [.ref x, .ref due]) nr
      obtain ⟨⟨dx, ob⟩, dc⟩ := id c
      refine k r x d due pru prs (n3 + 1) _ (b4'.free (R4.off (s5.free (s6.free nr))) (s5.free (s6.free nr))) (b4'.free (R4.off nx) nx) (b4'.free (R4.off nd) nd) (b4'.free (R4.off (s5.free ndue)) (s5.free ndue)) ndd upd_same
        ⟨⟨dx, s7 _ _ (s6 _ _ ob)⟩, s7 _ _ (s6 _ _ dc)⟩ (s7 _ _ ?_) gu gp (aget_perm pnd pm) (by omega) (((R4.same s5).same s6).same s7) (b4'.trans (Same.but ((s5.trans s6).trans s7)))
      rw [upd_same, mergeK_made pnd]
    have mk : ∀ (t x dy : Addr) (H5 : Hp), Same H4 H5 → PairsAt K H5 t pru → H5 x = none → H5 dy = none → dy ≠ x → ∀ (Qx : V → Hp → Prop) (E' : XK), (∀ (d : Addr) (H6 : Hp), H4 d = none → CtxAt C H6 x d pru → Same H4 H6 → Qx .non H6) →
        spInit K C [.ref x, .ref t] (upd (upd H5 dy (.own x)) x (.ins C dy [])) Qx E' := by
      intro t x dy H5 s5 pt nx ndy nxy Qx E' hq
      have s6 : Same H5 (upd (upd H5 dy (.own x)) x (.ins C dy [])) := fun b o e => by
        rw [upd_ne (ne_of_none e nx), upd_ne (ne_of_none e ndy)]
        exact e
      obtain ⟨ts', h1, h2⟩ := pt
      refine ⟨x, dy, t, pru, rfl, upd_same, ⟨ts', sqt_same s6 h1, L2.Paired.mapP h2 fun q e h => sqt_same s6 h⟩, by rw [pm.length_eq]; omega, fun d H7 nd c kp' => ?_⟩
      rw [made_nodup und] at c
      exact hq d H7 ((s5.trans s6).free nd) c fun b o e => kp' b o (s6 b o (s5 b o e)) (ne_of_none (s5 b o e) nx)
    have tupU : ∀ (H5 : Hp) (t : Addr), Same H4 H5 → H5 t = none → PairsAt K (upd H5 t (.tup (us.map V.ref))) t pru := fun H5 t s5 nt =>
      ⟨us, SqT.of upd_same, L2.Paired.mapP prU4 fun q e h => sqt_same (same_new nt) (sqt_same s5 h)⟩
    have two : 2 ≤ sizeLine := by decide
    refine ⟨fun σ H5 => σ = [some (.ref a.s), some (.ref p), some (.ref q), some (.ref v), some (.ref u), some (.int way), none] ∧ Same H4 H5, ?_, ?_⟩
    · refine ⟨_, rfl, rfl, _, rfl, ?_⟩
      refine ite2 (fun _ => ?_) (fun _ => ?_)
      · refine ⟨_, rfl, Nat.zero_le _, fun e0 ne0 => ?_⟩
        have s0 := same_new (o := .lst []) ne0
        refine ⟨.list (prs.map pd), .list [], .lst (SqL.of (s0 _ _ ev4)) (dp_pairs (L2.Paired.mapP pr4 fun q e h => sqt_same s0 h)), .lst (SqL.of upd_same) .nil, pds_shaped sh, by decide, _, rfl, ?_⟩
        rw [eqv_pairs_nil]
        refine ite2 (fun h => ?_) (fun _ => ?_)
        · have hp : prs = [] := of_decide_eq_true h
          have hu' : pru = [] := by
            rw [hp] at pm
            exact pm.eq_nil
          refine fun x dy nx ndy nxy => mk T0 x dy _ s0 ⟨[], t0 _, by rw [hu']; exact .nil⟩ nx ndy nxy _ _ fun d H6 nd c s6 => ⟨rfl, fun due ndue => ⟨two, fun r nr => ?_⟩⟩
          have ek : HO.dK [] = HO.dK (mergeK [] (kv prs)) := by rw [hp]; rfl
          rw [ek] at nr ⊢
          exact fin x d H6 (s0.free nx) nd c s6 due ndue r nr
        · exact ⟨rfl, s0⟩
      · exact ⟨rfl, fun _ _ e => e⟩
    · rintro σ H5 ⟨rfl, s5⟩
      have ev5 := s5 _ _ ev4
      have eu5 := s5 _ _ eu4
      have dct : ∀ (x d : Addr) (H6 : Hp), H5 x = none → H4 d = none → CtxAt C H6 x d pru → Same H4 H6 → ∀ due : Addr, H6 due = none → 2 ≤ sizeLine ∧ ∀ r, (upd H6 due (.dK (mergeK [] (kv prs)))) r = none → Q (.ref r) (upd (upd H6 due (.dK (mergeK [] (kv prs)))) r (.lst [.ref x, .ref due])) :=
        fun x d H6 nx nd c s6 due ndue => ⟨two, fun r nr => fin x d H6 (s5.free nx) nd c s6 due ndue r nr⟩
      refine ⟨_, rfl, rfl, _, rfl, ?_⟩
      refine ite2 (fun _ => ?_) (fun _ => ?_)
      · refine ⟨_, rfl, Or.inl ⟨u, _, rfl, SqL.of eu5, fun t nt => ⟨rfl, rfl, fun x dy nx ndy nxy => ?_⟩⟩⟩
        have s6 : Same H4 (upd H5 t (.tup (us.map V.ref))) := s5.trans (same_new nt)
        refine mk t x dy _ s6 (tupU H5 t s5 nt) nx ndy nxy _ _ fun d H6 nd c s7 => ⟨rfl, _, rfl, v, ts, kv prs, rfl, SqL.of (s7 _ _ ev4), pair_kv (L2.Paired.mapP pr4 fun q e h => sqt_same s7 h), fun due ndue => ?_⟩
        exact dct x d H6 ((same_new nt).free nx) nd c s7 due ndue
      · refine ⟨_, rfl, Or.inl ⟨u, _, rfl, SqL.of eu5, fun t nt => ?_⟩⟩
        intro x dy nx ndy nxy
        have s6 : Same H4 (upd H5 t (.tup (us.map V.ref))) := s5.trans (same_new nt)
        refine mk t x dy _ s6 (tupU H5 t s5 nt) nx ndy nxy _ _ fun d H6 nd c s7 => ⟨rfl, _, rfl, v, ts, kv prs, rfl, SqL.of (s7 _ _ ev4), pair_kv (L2.Paired.mapP pr4 fun q e h => sqt_same s7 h), fun due ndue => ?_⟩
        exact dct x d H6 ((same_new nt).free nx) nd c s7 due ndue
end
end SW

set_option Elab.async false
set_option maxRecDepth 100000
set_option maxHeartbeats 1000000
/-! A context is held against a dict: _law_right. -/
namespace SW
open PySem PySem.Spec PyProof.Rows L2
abbrev sRight : Stmt := top 12
theorem passF {P : Program} {w : World} {X : Cx} : Passes (L2.CX P w) X E0 := fun _ _ _ _ _ _ _ h => by
  obtain ⟨_, _, _, _, _, _, _, _, _, _, _, _, z⟩ := h
  exact z.elim
theorem kv_keys (m : Mp) : (kv m).map (·.1) = (keys m).map Sum.inr := by
  unfold kv keys
  rw [List.map_map, List.map_map]
  rfl
/-- a context, its dict, the names -/
structure Rt (C : Addr) (H : Hp) (x d due p : Addr) (m md : Mp) (zs : List Str) : Prop where
  c : CtxAt C H x d m
  du : H due = some (.dK (kv md))
  na : H p = some (.lst (zs.map V.str))
theorem Rt.ext {C : Addr} {H H' : Hp} {x d due p : Addr} {m md : Mp} {zs : List Str} (R : Rt C H x d due p m md zs) (e : LamX.ExtN H H') : Rt C H' x d due p m md zs := by
  obtain ⟨⟨dx, ob⟩, dc⟩ := R.c
  exact ⟨⟨⟨dx, e _ _ ob (by intro _ z; cases z)⟩, e _ _ dc (by intro _ z; cases z)⟩, e _ _ R.du (by intro _ z; cases z), e _ _ R.na (by intro _ z; cases z)⟩
theorem sx {H H' : Hp} (e : Same H H') : LamX.ExtN H H' := LamX.ExtN.of e
theorem sqt_ty {K : PySem.W.Frag} {H : Hp} {t : Addr} {xs : List V} (h : SqT K H t xs) : TyX K H (.ref t) (.type "tuple") := by
  rcases h with (h | ⟨o2, h⟩) | ⟨o2, its, n, h1, h2, _⟩
  · exact .base (.tup h)
  · exact .fTuple h
  · exact .kTuple h1 h2
def qR : Str := (("_law_right" : Str) ++ ".<locals>.") ++ "<lambda>"
def spRight (C : Addr) (T : List (Addr × Str)) : Sp := fun vs H Q _ => ∃ (x d due p : Addr) (m md : Mp) (zs : List Str), vs = [.ref x, .ref due, .ref p] ∧ Rt C H x d due p m md zs ∧ zs.length ≤ 10 ∧ (∀ z ∈ zs, isNm z) ∧ Good zs m ∧ Good zs md ∧ Eqm m md ∧ LamX.Tabs T H ∧
  ∀ H', LamX.ExtN H H' → LamX.Tabs T H' → Q (.bl true) H'
theorem keys_perm {ns ns' : List Str} {m m' : Mp} (g : Good ns m) (g' : Good ns' m') (e : Eqm m m') : (keys m).Perm (keys m') :=
  (List.perm_ext_iff_of_nodup g.nd g'.nd).mpr fun _ => e.mem
theorem srt_alike {m m' : Mp} (e : Eqm m m') (ys : List Str) : srt m ys = srt m' ys := by
  unfold srt
  exact List.map_congr_left fun y _ => by rw [e y]
theorem short_srt {ns : List Str} {m : Mp} (g : Good ns m) (h : ∀ z ∈ ns, isNm z) {ys : List Str} (p : ys.Perm (keys m)) : Short (srt m ys) := fun e he => g.short h e ((srt_perm g.nd p).mem_iff.mp he)
theorem srt_len (m : Mp) (ys : List Str) : (srt m ys).length = ys.length := by unfold srt; rw [List.length_map]
theorem scRight : FnScope ["context", "due", "names", "name", "others", "other"] ["context", "due", "names"] (defScope sRight) := ⟨rfl, rfl, rfl, by decide +kernel, rfl, by decide +kernel, by decide +kernel⟩
/-- what the walk asks of the methods -/
structure Ctx0 (P : Program) (w : World) (K : PySem.W.Frag) (mg : Str → Option Value) (base : Heap) (C CF : Addr) where
  T : TxC K mg C
  (fG fH fL fE fP fS fD fY fW : Addr)
  (dG dH dL dE dP dS dD dY dW : FuncData)
  GG : FnOk P w K mg base (L2.CX P w) 3 fG dG ["self", "variable"] (spGet CF C)
  GH : FnOk P w K mg base CX0 1 fH dH ["self", "variable"] (spHas C)
  GL : FnOk P w K mg base CX0 1 fL dL ["self"] (spLen C)
  GE : FnOk P w K mg base CX0 1 fE dE ["self", "other"] (spEq K C)
  GP : FnOk P w K mg base CX0 1 fP dP ["self"] (spPairs K C)
  GS : FnOk P w K mg base CX0 1 fS dS ["self", "variable", "value"] (spSet C)
  GD : FnOk P w K mg base CX0 1 fD dD ["self", "variable"] (spDrop C)
  GY : FnOk P w K mg base CX0 3 fY dY ["self"] (spCopy C)
  GW : FnOk P w K mg base CX0 1 fW dW ["self", "other"] (spSame C)
  bG : Binds K dG ["self", "variable"] []
  bH : Binds K dH ["self", "variable"] []
  bL : Binds K dL ["self"] []
  bE : Binds K dE ["self", "other"] []
  bP : Binds K dP ["self"] []
  bS : Binds K dS ["self", "variable", "value"] []
  bD : Binds K dD ["self", "variable"] []
  bY : Binds K dY ["self"] []
  bW : Binds K dW ["self", "other"] []
  mP : Meth K C "pairs" fP
  mD : Meth K C "drop" fD
  mY : Meth K C "copy" fY
  mW : Meth K C "is_same" fW
  sG : PySem.W.findIn K (.ref C) "__getitem__" = some (some (.ref fG))
  sH : PySem.W.findIn K (.ref C) "__contains__" = some (some (.ref fH))
  sL : PySem.W.findIn K (.ref C) "__len__" = some (some (.ref fL))
  sE : PySem.W.findIn K (.ref C) "__eq__" = some (some (.ref fE))
  sS : PySem.W.findIn K (.ref C) "__setitem__" = some (some (.ref fS))
  sN : PySem.W.findIn K (.ref C) "__ne__" = some (some (.builtin "object.__ne__"))
  ob : PySem.W.subIn K (.ref C) (.type "object") = some true
  iG : PySem.W.isFn K (.ref fG) = true
  iH : PySem.W.isFn K (.ref fH) = true
  iL : PySem.W.isFn K (.ref fL) = true
  iE : PySem.W.isFn K (.ref fE) = true
  iS : PySem.W.isFn K (.ref fS) = true
  jG : PySem.W.fnIn K fG = true
  nq : PySem.W.noSeq K C = true
  /-- the types that a context is held against -/
  ty : ∀ t ∈ [Value.type "dict", .type "NoneType", .type "int", .type "str", .type "tuple"], PySem.W.notFirst K C t = true ∧ PySem.W.kitOne K t (.ref C) = some false
  tyC : ∀ (H : Hp) (a dx : Addr) (fs : List (Str × V)), H a = some (.ins C dx fs) → TyX K H (.ref a) (.ref C)
  nfC : PySem.W.notFirst K C (.ref C) = true
section
variable {P : Program} {w : World} {K : PySem.W.Frag} {mg : Str → Option Value} {base : Heap}
theorem ok_right {f fF C CF fI c Pt : Addr} {oc kV doc pm ct ocF kVF docF pmF cdF ctF : Value} {od an odF anF : Option Addr} {osl oslF : Array (Option Value)} (lk : K.lookup f = some ⟨oc, od, .func (PySem.W.fnOf "_law_right" "_law_right" (defArgs sRight) (defBody sRight) (defScope sRight) .none kV doc pm an (.ref c) ct), osl⟩)
    (hcd : PySem.W.codeIn K (.ref c) "_law_right" = true) (TB : LamX.TabB base mg c Pt) (Z : Ctx0 P w K mg base C CF) (R : PySem.ReX.ReTxt K mg CF fI) (IF : IsFacts K CF)
    (lkF : K.lookup fF = some ⟨ocF, odF, .func (PySem.W.fnOf "_law_fails" "_law_fails" (defArgs sFails) (defBody sFails) (defScope sFails) .none kVF docF pmF anF cdF ctF), oslF⟩) (hcF : PySem.W.codeIn K cdF "_law_fails" = true) (gF : mg "_law_fails" = some (.ref fF)) (kF : PySem.W.keepIn K (.ref fF) = true)
    (bF : Binds K (PySem.W.fnOf "_law_fails" "_law_fails" (defArgs sFails) (defBody sFails) (defScope sFails) .none kVF docF pmF anF cdF ctF) ["asked"] [])
    (mR : mg "repr" = none) (mT : mg "tuple" = none) (mS : mg "sorted" = none) (mL : mg "len" = none) (mI : mg "isinstance" = none) (mRE : mg "RuntimeError" = none) (mV : mg "ValueError" = none) (mLE : mg "LookupError" = none)
    (k1 : PySem.W.kitOne K (.ref CF) (.type "RuntimeError") = some true) (k2 : PySem.W.kitAny K (.ref CF) [.type "ValueError", .type "LookupError"] = some false) :
    FnG P w K mg base 7 f (PySem.W.fnOf "_law_right" "_law_right" (defArgs sRight) (defBody sRight) (defScope sRight) .none kV doc pm an (.ref c) ct) ["context", "due", "names"] (spRight C [(Pt, qR)]) := by
  refine fng_of lk hcd scRight (fun vs H Q E h => ?_) (fun A outer s H vs Q E gd hr h => ?_)
  · obtain ⟨x, d, due, p, m, md, zs, rfl, _⟩ := h
    rfl
  · obtain ⟨x, d, due, p, m, md, zs, rfl, R0, zl, znm, gm, gmd, em, T0, k⟩ := h
    have hu := hu_of hr
    have hr1 : Room 1 _ := hr.mono (by decide)
    have hr2 : Room 2 _ := hr.mono (by decide)
    have hr0 : Room 0 _ := hr.mono (by decide)
    have gd' : (A.deeper (envOfC "_law_right" (defScope sRight) s.heap.objs.size f (.ref c))).guards = some [] := gd
    refine ⟨_, C8.pss_cut (ps_if (pt_cmpR op_ne
          (pe_callB (call_reprD gd' hr0) (by rfl) mR boot_repr (pa_cons (pe_meth0 (pv 0) Z.T.cl Z.mP Z.GP hr1 Z.bP .nil pass0) pa_nil))
          (pe_callB (call_reprD gd' hr0) (by rfl) mR boot_repr (pa_cons (pe_tupleOf (by rfl) mT (pe_lc (own := [("name", 3)]) (g := gName 3) (tt := tYes) (te := tTup (tCons (tVar 3) (tCons (tDGet (tVar 1) (tVar 3)) tNil))) rfl scRight.nd
            (pi_list (pe_callB (call_sortedD rfl) (by rfl) mS boot_sorted (pa_cons (pv 1) pa_nil)))
            (blkOk_by (N := ["context", "due", "names", "name", "others", "other"]) (sc := defScope sRight) (by decide +kernel))
            (fun _ _ _ _ _ => pg_name (i := 3) scRight.nd rfl (Or.inl rfl)) (fun _ _ _ _ _ => pts_nil)
            (fun _ _ _ _ _ => pe_tup (pa_cons (pv 3) (pa_cons (by exact pe_dget hu (pv 1) (pv 3) (fun _ _ => rfl)) pa_nil))))) pa_nil)) (nomark _))
        (pss_one (ps_ret pe_bl)) pss_nil)
      (C8.pss_cut (ps_if (pt_cmpR op_ne (pe_callB (call_len_own Z.sL Z.iL Z.GL hr2 Z.bL pass0) (by rfl) mL boot_len (pa_cons (pv 0) pa_nil)) (pe_callB call_lenD (by rfl) mL boot_len (pa_cons (pv 1) pa_nil)) (nomark _)) (pss_one (ps_ret pe_bl)) pss_nil)
      (C8.pss_cut (ps_for PassesOwn.never rfl (pi_list (pv 2)) (pg_name (i := 3) scRight.nd rfl (Or.inr rfl))
        (C8.pss_cut (ps_if (pt_cmpR op_ne (pe_callB call_repr_bl (by rfl) mR boot_repr (pa_cons (pe_cmpR (op_in_own Z.sH Z.iH Z.GH hr1 Z.bH pass0) (pv 3) (pv 0) rfl) pa_nil)) (pe_callB call_repr_bl (by rfl) mR boot_repr (pa_cons (pe_cmp (pc_din hu (pv 3) (pv 1))) pa_nil)) (nomark _)) (pss_one (ps_ret pe_bl)) pss_nil)
        (C8.pss_cut (ps_if (PW.pt (pw_and (pt_cmp (pc_din hu (pv 3) (pv 1))) (pw_and1 (pt_cmpR op_ne
            (pe_callB SkE.call_repr_int (by rfl) mR boot_repr (pa_cons (pe_own Z.sG Z.iG Z.jG Z.GG (hr.mono (by decide)) Z.bG passF (pv 0) (pv 3) (fun _ _ => rfl)) pa_nil))
            (pe_callB SkE.call_repr_int (by rfl) mR boot_repr (pa_cons (pe_dget hu (pv 1) (pv 3) (fun _ _ => rfl)) pa_nil)) (nomark _))))) (pss_one (ps_ret pe_bl)) pss_nil)
        (pss_one (ps_if (PW.pt (pw_and (pt_cmp (pc_dnotin hu (pv 3) (pv 1))) (pw_and1 (pt_cmpR op_ne
            (LamX.pe_lamcall (T := [(Pt, qR)]) (TT := TFails CF) (t := fun E => tOp (fun x y H Q => ∃ p dx fs, x = .ref p ∧ H p = some (.ins C dx fs) ∧ spGet CF C [x, y] H Q E) (tVar 0) (tVar 3)) (k := 4) (a := "asked") rfl gF kF lkF hcF bF scFails rfl (Or.inl rfl)
              (gives_fails R IF mI mRE mV mLE k1 k2) TB rfl (List.mem_singleton.mpr rfl) (fun p hp _ => by rw [List.mem_singleton.mp hp]; rfl) hr (LamX.lamS_by (sc := defScope sRight) (by decide +kernel)) rfl (fun _ _ _ _ _ => rfl)
              (fun A outer s H E f c' hrl => pe_own Z.sG Z.iG Z.jG Z.GG hrl Z.bG (passes_call (takes_of rfl rfl rfl rfl) (fun _ _ _ _ h => h)) (pv 0) (pv 3) (fun _ _ => rfl))) pe_str (nomark _))))) (pss_one (ps_ret pe_bl)) pss_nil)))))
      (C8.pss_cut (ps_set (i := 4) scRight.nd rfl (Or.inl rfl) (pe_lst (pa_cons (pv 1) (pa_cons pe_non (pa_cons pe_int (pa_cons pe_str (pa_cons (pe_tup pa_nil) (pa_cons (pe_meth0 (pv 0) Z.T.cl Z.mP Z.GP hr1 Z.bP .nil pass0) pa_nil))))))))
      (C8.pss_cut (ps_if (pt_cmpR (op_neD hr.units) (pe_lc (own := [("other", 5)]) (g := gName 5) (te := tC (.int 1))
            (tt := tOr (tTest (tOp (rOwnCmp K C (spEq K C) E0 id) (tVar 0) (tVar 5))) (tNot (tTest (tOp (rOwnCmp K C (spEq K C) E0 (!·)) (tVar 0) (tVar 5))))) rfl scRight.nd
            (pi_list (pv 4)) (blkOk_by (N := ["context", "due", "names", "name", "others", "other"]) (sc := defScope sRight) (by decide +kernel))
            (fun _ _ _ _ _ => pg_name (i := 5) scRight.nd rfl (Or.inl rfl))
            (fun _ _ _ _ _ => pts_one (PW.pt (pw_or (by exact pt_cmpR (op_eq_own Z.sE Z.iE Z.GE hr1 Z.bE pass0) (pv 0) (pv 5) (nomark _)) (pw_or1 (pt_not (by exact pt_cmpR (op_ne_own Z.sN Z.ob Z.sE Z.iE Z.GE hr2 Z.bE pass0) (pv 0) (pv 5) (nomark _)))))))
            (fun _ _ _ _ _ => pe_int)) (pe_lst pa_nil) (nomark _)) (pss_one (ps_ret pe_bl)) pss_nil)
      (pss_one (ps_ret (pe_cmpR op_isBl (pe_fld (pv 0) rfl) pe_bl rfl))))))), ?_⟩
    have zlm : m.length ≤ 10 := Nat.le_trans gm.len zl
    have zlmd : md.length ≤ 10 := Nat.le_trans gmd.len zl
    have shm := gm.short znm
    have shd := gmd.short znm
    -- what is held through the walk
    have at_ : ∀ H', LamX.ExtN H H' → Rt C H' x d due p m md zs := fun H' e => R0.ext e
    refine ⟨fun σ H1 => σ = [some (.ref x), some (.ref due), some (.ref p), none, none, none] ∧ Same H H1, ?_, ?_⟩
    · -- repr(context.pairs()) != repr(tuple(..))
      obtain ⟨⟨dx, ob⟩, dc⟩ := R0.c
      refine ⟨_, rfl, x, dx, _, rfl, ob, flds_no d (by decide +kernel) (by decide +kernel), x, d, m, rfl, R0.c, by omega, fun ys t H1 s1 nt hp hs pr => ?_⟩
      have ysl : ys.length ≤ 10 := by
        have := hp.length_eq
        unfold keys at this
        rw [List.length_map] at this
        omega
      refine ⟨t, _, rfl, pr.dp, pds_showable (short_srt gm znm hp), pds_noDict _, pds_depth _, pds_text (short_srt gm znm hp) (by rw [srt_len]; omega), ?_⟩
      refine ⟨_, rfl, due, kv md, keys md, rfl, .inl (s1 _ _ R0.du), kv_keys md, (by unfold keys; rw [List.length_map]; omega), fun zs' l hp' hs' nl => ?_⟩
      have ez : ys = zs' := sorted_one (hp.trans ((keys_perm gm gmd em).trans hp'.symm)) hs hs'
      subst ez
      have s2 := s1.trans (same_new (o := .lst (ys.map V.str)) nl)
      refine ⟨l, rfl, ⟨_, SqL.of upd_same⟩, fun D nD => ?_⟩
      refine lc_list (K := K) (a := l) (xs := ys.map V.str) (fun i H2 => Same (upd H1 l (.lst (ys.map V.str))) H2 ∧ ∃ ts : List Addr, H2 D = some (.lst (ts.map V.ref)) ∧ Paired (fun (q : Addr) (e : Str × Int) => SqT K H2 q [.str e.1, .int e.2]) ts (srt md (ys.take i)))
        ⟨same_new nD, [], upd_same, .nil⟩ (fun i H2 _ ⟨s3, _⟩ => s3.seq (SqL.of upd_same)) ?_ ?_
      · rintro i y H2 hi ⟨s3, ts, e2, pq⟩
        obtain ⟨z, hz, rfl⟩ := str_at hi
        have il : i < ys.length := (List.getElem?_eq_some_iff.mp hz).1
        have hzk : z ∈ keys md := hp'.mem_iff.mp (List.mem_of_getElem? hz)
        obtain ⟨v, hv⟩ := Option.isSome_iff_exists.mp (mem_keys.mp hzk)
        refine ⟨rfl, ?_⟩
        refine tyes ?_
        have du2 := s3 _ _ (s2 _ _ R0.du)
        have g := DGet.k (H := H2) (k := Sum.inr z) du2
        rw [valV_kv, hv] at g
        refine ⟨_, rfl, _, rfl, _, rfl, due, .int v, rfl, g, (by show 2 ≤ sizeLine; decide), fun t' nt' => ?_⟩
        have nDt : D ≠ t' := ne_of_none e2 nt'
        refine ⟨_, (upd_ne nDt).trans e2, small1000 (by rw [List.length_map, pair_len pq, srt_len, List.length_take]; omega), Same.new (Same.new s3 (s3.free nt')) nD, ts ++ [t'], ?_, ?_⟩
        · rw [upd_same, List.map_append]
          rfl
        · have et : srt md (ys.take (i + 1)) = srt md (ys.take i) ++ [(z, v)] := by
            unfold srt
            rw [List.take_add_one, hz, List.map_append]
            simp only [Option.toList, List.map_cons, List.map_nil, hv, Option.getD]
          rw [et]
          refine Paired.snoc (L2.Paired.mapP pq fun q e h => ?_) (SqT.of (by rw [upd_ne nDt.symm, upd_same]))
          exact sqt_upd ((upd_ne nDt).trans e2) (by intro _ z; cases z) (by intro _ _ z; cases z) (sqt_same (same_new nt') h)
      · rintro H2 ⟨s3, ts, e2, pq⟩
        rw [List.length_map, List.take_length] at pq
        refine Or.inl ⟨D, _, rfl, SqL.of e2, fun t2 nt2 => ?_⟩
        have pr2 : PairsAt K (upd H2 t2 (.tup (ts.map V.ref))) t2 (srt md ys) := ⟨ts, SqT.of upd_same, L2.Paired.mapP pq fun q e h => sqt_same (same_new nt2) h⟩
        refine ⟨t2, _, rfl, pr2.dp, pds_showable (short_srt gmd znm hp'), pds_noDict _, pds_depth _, pds_text (short_srt gmd znm hp') (by rw [srt_len]; omega), ?_⟩
        refine ⟨rfl, _, rfl, ?_⟩
        refine ite2 (fun h => ?_) (fun _ => ?_)
        · rw [srt_alike em] at h
          simp at h
        · exact ⟨rfl, (s2.trans s3).trans (same_new nt2)⟩
    rintro σ H1 ⟨rfl, s1⟩
    have R1 := at_ H1 (sx s1)
    refine ⟨fun σ H2 => σ = [some (.ref x), some (.ref due), some (.ref p), none, none, none] ∧ H2 = H1, ?_, ?_⟩
    · -- len(context) != len(due)
      obtain ⟨⟨dx, ob⟩, dc⟩ := R1.c
      refine ⟨_, rfl, x, dx, _, rfl, ob, x, d, m, rfl, R1.c, m.length, rfl, by omega, _, rfl, due, _, rfl, R1.du, rfl, _, rfl, ?_⟩
      refine ite2 (fun h => ?_) (fun _ => ⟨rfl, rfl⟩)
      rw [kv_len, em.len gm gmd] at h
      simp at h
    rintro σ H2 ⟨rfl, rfl⟩
    -- for name in names
    refine ⟨fun σ H3 => (∃ v3, σ = [some (.ref x), some (.ref due), some (.ref p), v3, none, none]) ∧ LamX.ExtN H H3 ∧ LamX.Tabs [(Pt, qR)] H3, ?_, ?_⟩
    · refine ⟨_, rfl, p, rfl, ⟨_, SqL.of R1.na⟩, for_list (K := K) (a := p) (xs := zs.map V.str) (fun i σ H3 => (∃ v3, σ = [some (.ref x), some (.ref due), some (.ref p), v3, none, none]) ∧ LamX.ExtN H H3 ∧ LamX.Tabs [(Pt, qR)] H3)
        ⟨⟨none, rfl⟩, (sx s1), T0.ext s1⟩ (fun i σ H3 _ ⟨_, e3, _⟩ => SqL.of (at_ H3 e3).na) ?_ (fun σ H3 h => h)⟩
      rintro i y σ H3 hi ⟨⟨v3, rfl⟩, e3, T3⟩
      obtain ⟨z, hz, rfl⟩ := str_at hi
      have R3 := at_ H3 e3
      obtain ⟨⟨dx, ob⟩, dc⟩ := id R3.c
      have g := DGet.k (H := H3) (k := Sum.inr z) R3.du
      rw [valV_kv] at g
      refine ⟨fun σ H4 => σ = [some (.ref x), some (.ref due), some (.ref p), some (.str z), none, none] ∧ H4 = H3, ?_, ?_⟩
      · refine ⟨_, rfl, _, rfl, x, dx, _, rfl, ob, x, d, m, z, rfl, R3.c, _, rfl, _, rfl, _, rfl, _, rfl, due, _, rfl, g, _, rfl, rfl, _, rfl, ?_⟩
        refine ite2 (fun h => ?_) (fun _ => ⟨rfl, rfl⟩)
        rw [Option.isSome_map, em z] at h
        simp at h
      rintro σ H4 ⟨rfl, rfl⟩
      refine ⟨fun σ H5 => σ = [some (.ref x), some (.ref due), some (.ref p), some (.str z), none, none] ∧ H5 = H4, ?_, ?_⟩
      · refine ⟨_, rfl, _, rfl, due, _, rfl, g, _, rfl, ?_⟩
        cases e : aget md z with
        | none => exact iteF (iteF ⟨rfl, rfl⟩)
        | some v =>
          have em' : aget m z = some v := (em z).trans e
          have sv : Small v := gmd.sm _ (mem_of_aget e)
          rw [e] at g
          refine iteT ⟨_, rfl, _, rfl, x, dx, _, rfl, ob, x, d, m, z, rfl, R3.c, fun v' hv' => ?_, fun hn => ?_⟩
          · have ev : v' = v := by
              rw [em'] at hv'
              exact (Option.some.inj hv').symm
            subst ev
            refine ⟨_, rfl, small_log sv, _, rfl, _, rfl, due, _, rfl, g, _, rfl, small_log sv, rfl, _, rfl, ?_⟩
            refine ite2 (fun h => ?_) (fun _ => ⟨rfl, rfl⟩)
            simp at h
          · rw [em'] at hn
            cases hn
      rintro σ H5 ⟨rfl, rfl⟩
      refine ⟨_, rfl, _, rfl, due, _, rfl, g, _, rfl, ?_⟩
      cases e : aget md z with
      | some v => exact iteF (iteF ⟨⟨_, rfl⟩, e3, T3⟩)
      | none =>
        have em' : aget m z = none := (em z).trans e
        refine iteT ⟨T3, fun H6 e6 T6 N => ?_⟩
        have R6 := at_ H6 (e3.trans e6)
        obtain ⟨⟨dx6, ob6⟩, dc6⟩ := id R6.c
        refine ⟨_, rfl, _, rfl, x, dx6, _, rfl, ob6, x, d, m, z, rfl, R6.c, fun v hv => ?_, fun _ xd nxd => ⟨rfl, xd, "unset", rfl, upd_same, fun H7 s7 => ?_⟩⟩
        · rw [em'] at hv
          cases hv
        · refine ⟨rfl, _, rfl, ?_⟩
          have s8 : Same H6 H7 := (same_new nxd).trans s7
          refine ite2 (fun h => ?_) (fun _ => ⟨⟨_, rfl⟩, (e3.trans e6).trans (sx s8), T6.ext s8⟩)
          simp at h
    rintro σ H3 ⟨⟨v3, rfl⟩, e3, T3⟩
    have R3 := at_ H3 e3
    -- others
    refine ⟨fun σ H4 => ∃ (o e0 t : Addr), σ = [some (.ref x), some (.ref due), some (.ref p), v3, some (.ref o), none] ∧ Same H3 H4 ∧ H4 o = some (.lst [.ref due, .non, .int 5, .str "", .ref e0, .ref t]) ∧ H4 e0 = some (.tup []) ∧ ∃ xs, SqT K H4 t xs, ?_, ?_⟩
    · obtain ⟨⟨dx, ob⟩, dc⟩ := id R3.c
      refine ⟨_, rfl, Nat.zero_le _, fun e0 ne0 => ?_⟩
      have s4 := same_new (o := .tup []) ne0
      have R4 := R3.ext (sx s4)
      refine ⟨_, rfl, x, dx, _, rfl, s4 _ _ ob, flds_no d (by decide +kernel) (by decide +kernel), x, d, m, rfl, R4.c, by omega, fun ys t H5 s5 nt hp hs pr => ?_⟩
      refine ⟨(by show 6 ≤ sizeLine; decide), fun o no => ⟨o, e0, t, rfl, (s4.trans s5).trans (same_new no), upd_same, same_new no _ _ (s5 _ _ upd_same), ?_⟩⟩
      obtain ⟨ts, ht, _⟩ := pr
      exact ⟨_, sqt_same (same_new no) ht⟩
    rintro σ H4 ⟨o, e0, t, rfl, s4, eo, ee, xs, ht⟩
    have R4 := R3.ext (sx s4)
    obtain ⟨⟨dx, ob⟩, dc⟩ := id R4.c
    refine ⟨fun σ H5 => (∃ v5, σ = [some (.ref x), some (.ref due), some (.ref p), v3, some (.ref o), v5]) ∧ Same H4 H5, ?_, ?_⟩
    · refine ⟨_, rfl, o, rfl, ⟨_, SqL.of eo⟩, fun D nD => ?_⟩
      refine lc_list (K := K) (a := o) (xs := [.ref due, .non, .int 5, .str "", .ref e0, .ref t]) (fun i H5 => Same H4 H5 ∧ H5 D = some (.lst [])) ⟨same_new nD, upd_same⟩ (fun i H5 _ ⟨s5, _⟩ => SqL.of (s5 _ _ eo)) ?_ ?_
      · rintro i y H5 hi ⟨s5, e5⟩
        have ob5 := s5 _ _ ob
        have c5 : CtxAt C H5 x d m := ⟨⟨dx, ob5⟩, s5 _ _ dc⟩
        obtain ⟨tb, tyb, mem⟩ : ∃ tb, TyX K H5 y tb ∧ tb ∈ [Value.type "dict", .type "NoneType", .type "int", .type "str", .type "tuple"] := by
          have hy := List.mem_of_getElem? hi
          simp only [List.mem_cons, List.not_mem_nil, or_false] at hy
          rcases hy with rfl | rfl | rfl | rfl | rfl | rfl
          · exact ⟨_, .base (.dK (s5 _ _ R4.du)), by simp⟩
          · exact ⟨_, .base .non, by simp⟩
          · exact ⟨_, .base (.int 5), by simp⟩
          · exact ⟨_, .base (.str _), by simp⟩
          · exact ⟨_, .base (.tup (s5 _ _ ee)), by simp⟩
          · exact ⟨_, sqt_ty (sqt_same s5 ht), by simp⟩
        obtain ⟨nf, ko⟩ := Z.ty tb mem
        refine ⟨rfl, _, rfl, _, rfl, x, dx, _, tb, rfl, ob5, tyb, nf, x, d, m, y, rfl, c5, .inr ⟨tb, tyb, ko, false, rfl, _, rfl, ?_⟩⟩
        refine iteF ⟨_, rfl, _, rfl, x, dx, _, tb, rfl, ob5, tyb, nf, x, d, m, y, rfl, c5, .inr ⟨tb, tyb, ko, false, rfl, _, rfl, ?_⟩⟩
        exact iteF ⟨s5, e5⟩
      · rintro H5 ⟨s5, e5⟩
        refine ⟨Nat.zero_le _, fun l nl => ?_⟩
        have s6 := same_new (o := .lst []) nl
        refine ⟨.list [], .list [], .lst (SqL.of (s6 _ _ e5)) .nil, .lst (SqL.of upd_same) .nil, by decide, by decide, _, rfl, ?_⟩
        exact iteF ⟨⟨_, rfl⟩, s5.trans s6⟩
    rintro σ H5 ⟨⟨v5, rfl⟩, s5⟩
    have s35 := s4.trans s5
    refine ⟨_, rfl, x, C, dx, _, _, rfl, s5 _ _ ob, Z.T.cl, Z.T.nB, flds_busy d, _, _, rfl, rfl, ?_⟩
    exact k H5 (e3.trans (sx s35)) (T3.ext s35)
end
end SW

set_option Elab.async false
set_option maxRecDepth 100000
set_option maxHeartbeats 1000000
/-! The rows are held against each other: _law_alike_right. -/
namespace SW
open PySem PySem.Spec PyProof.Rows L2
abbrev sAlike : Stmt := top 14
/-- a row: its list, the context and its dict, the dict that it is held against -/
structure Row where
  r : Addr
  x : Addr
  h : Addr
  d : Addr
  m : Mp
  md : Mp
structure RowAt (C : Addr) (H : Hp) (zs : List Str) (q : Row) : Prop where
  ls : H q.r = some (.lst [.ref q.x, .ref q.d])
  c : CtxAt C H q.x q.h q.m
  du : H q.d = some (.dK (kv q.md))
  gm : Good zs q.m
  gd : Good zs q.md
  em : Eqm q.m q.md
theorem RowAt.ext {C : Addr} {H H' : Hp} {zs : List Str} {q : Row} (R : RowAt C H zs q) (e : LamX.ExtN H H') : RowAt C H' zs q := by
  obtain ⟨⟨dx, ob⟩, dc⟩ := R.c
  exact ⟨e _ _ R.ls (by intro _ z; cases z), ⟨⟨dx, e _ _ ob (by intro _ z; cases z)⟩, e _ _ dc (by intro _ z; cases z)⟩, e _ _ R.du (by intro _ z; cases z), R.gm, R.gd, R.em⟩
/-- the list of the rows -/
def rowsV (q : Nat → Row) : List V := [.ref (q 0).r, .ref (q 1).r, .ref (q 2).r]
structure RowsAt (C : Addr) (H : Hp) (zs : List Str) (rw : Addr) (q : Nat → Row) : Prop where
  ls : H rw = some (.lst (rowsV q))
  at_ : ∀ i, i < 3 → RowAt C H zs (q i)
  ne : ∀ i j, i < 3 → j < 3 → (q i).x = (q j).x → i = j
theorem RowsAt.ext {C : Addr} {H H' : Hp} {zs : List Str} {rw : Addr} {q : Nat → Row} (R : RowsAt C H zs rw q) (e : LamX.ExtN H H') : RowsAt C H' zs rw q :=
  ⟨e _ _ R.ls (by intro _ z; cases z), fun i hi => (R.at_ i hi).ext e, R.ne⟩
theorem rows_at {q : Nat → Row} {i : Nat} {y : V} (h : (rowsV q)[i]? = some y) : i < 3 ∧ y = .ref (q i).r := by
  match i, h with
  | 0, h => exact ⟨by decide, (Option.some.inj h).symm⟩
  | 1, h => exact ⟨by decide, (Option.some.inj h).symm⟩
  | 2, h => exact ⟨by decide, (Option.some.inj h).symm⟩
  | i + 3, h => exact absurd h (by simp [rowsV])
theorem rows_get (q : Nat → Row) : ∀ {i : Nat}, i < 3 → (rowsV q)[i]? = some (.ref (q i).r)
  | 0, _ => rfl
  | 1, _ => rfl
  | 2, _ => rfl
  | i + 3, h => absurd h (by omega)
def spAlike (C : Addr) : Sp := fun vs H Q _ => ∃ (rw : Addr) (q : Nat → Row) (zs : List Str), vs = [.ref rw] ∧ RowsAt C H zs rw q ∧ ∀ H', Same H H' → Q (.bl true) H'
theorem two_text : ∀ a b : Bool, (PyData.tuple [.bool a, .bool b]).shown.length ≤ sizeLine := by
  intro a b
  cases a <;> cases b <;> decide +kernel
theorem dp_bools {K : PySem.W.Frag} {H : Hp} : ∀ bs : List Bool, DpAll K H (bs.map V.bl) (bs.map PyData.bool)
  | [] => .nil
  | b :: r => .cons (.bl b) (dp_bools r)
theorem eqv_bools : ∀ bs : List Bool, PyData.eqvAll (bs.map PyData.bool) (bs.map PyData.bool) = true
  | [] => rfl
  | b :: r => by
    rw [List.map_cons]
    simp only [PyData.eqvAll, PyData.eqv, eqv_bools r]
    cases b <;> rfl
theorem lay_bools : ∀ bs : List Bool, PyData.canLayAll0 (bs.map PyData.bool) = true
  | [] => rfl
  | b :: r => by
    rw [List.map_cons]
    simp only [PyData.canLayAll0, PyData.canLay0, lay_bools r, Bool.and_self]
theorem depth_bools : ∀ bs : List Bool, PyData.depthAll (bs.map PyData.bool) = 0
  | [] => rfl
  | b :: r => by
    rw [List.map_cons]
    simp only [PyData.depthAll, PyData.depth, depth_bools r, Nat.max_self]
theorem shaped_bools (bs : List Bool) : SeqAt.shaped (.list (bs.map PyData.bool)) = true := by
  unfold SeqAt.shaped
  simp only [PyData.canLay0, PyData.depth, lay_bools, depth_bools]
  decide
theorem scAlike : FnScope ["rows", "one", "due", "other", "wanted", "k", "j"] ["rows"] (defScope sAlike) := ⟨rfl, rfl, rfl, by decide +kernel, rfl, by decide +kernel, by decide +kernel⟩
section
variable {P : Program} {w : World} {K : PySem.W.Frag} {mg : Str → Option Value} {base : Heap}
theorem ok_alike {f C CF : Addr} {oc kV doc pm ct cdv : Value} {od an : Option Addr} {osl : Array (Option Value)} (lk : K.lookup f = some ⟨oc, od, .func (PySem.W.fnOf "_law_alike_right" "_law_alike_right" (defArgs sAlike) (defBody sAlike) (defScope sAlike) .none kV doc pm an cdv ct), osl⟩)
    (hcd : PySem.W.codeIn K cdv "_law_alike_right" = true) (Z : Ctx0 P w K mg base C CF) (mR : mg "repr" = none) (mG : mg "range" = none) :
    FnG P w K mg base 7 f (PySem.W.fnOf "_law_alike_right" "_law_alike_right" (defArgs sAlike) (defBody sAlike) (defScope sAlike) .none kV doc pm an cdv ct) ["rows"] (spAlike C) := by
  refine fng_of lk hcd scAlike (fun vs H Q E h => ?_) (fun A outer s H vs Q E gd hr h => ?_)
  · obtain ⟨rw, q, zs, rfl, _⟩ := h
    rfl
  · obtain ⟨rw, q, zs, rfl, R0, k⟩ := h
    have hu := hr.units0
    have hr1 : Room 1 _ := hr.mono (by decide)
    have hr2 : Room 2 _ := hr.mono (by decide)
    have hr0 : Room 0 _ := hr.mono (by decide)
    have gd' : (A.deeper (envOfC "_law_alike_right" (defScope sAlike) s.heap.objs.size f cdv)).guards = some [] := gd
    refine ⟨_, C8.pss_cut (ps_for PassesOwn.never rfl (pi_list (pv 0)) (pg_unl rfl (pgs_cons (pg_name (i := 1) scAlike.nd rfl (Or.inl rfl)) (pgs_cons (pg_name (i := 2) scAlike.nd rfl (Or.inl rfl)) pgs_nil)))
        (pss_one (ps_for PassesOwn.never rfl (pi_list (pv 0)) (pg_unl rfl (pgs_cons (pg_name (i := 3) scAlike.nd rfl (Or.inl rfl)) (pgs_cons (pg_name (i := 4) scAlike.nd rfl (Or.inl rfl)) pgs_nil)))
          (pss_one (ps_if (pt_cmpR op_ne
            (pe_callB (call_reprD gd' hr0) (by rfl) mR boot_repr (pa_cons (pe_tup (pa_cons (pe_cmpR (op_eq_own Z.sE Z.iE Z.GE hr1 Z.bE pass0) (pv 1) (pv 3) (nomark _)) (pa_cons (pe_cmpR (op_ne_own Z.sN Z.ob Z.sE Z.iE Z.GE hr2 Z.bE pass0) (pv 1) (pv 3) (nomark _)) pa_nil))) pa_nil))
            (pe_callB (call_reprD gd' hr0) (by rfl) mR boot_repr (pa_cons (pe_tup (pa_cons (pe_cmpR (op_eqKv hu) (pv 2) (pv 4) (nomark _)) (pa_cons (pe_cmpR (op_neKv hu) (pv 2) (pv 4) (nomark _)) pa_nil))) pa_nil)) (nomark _)) (pss_one (ps_ret pe_bl)) pss_nil)))))
      (C8.pss_cut (ps_for PassesOwn.never rfl (pi_range1 rfl mG (pa_cons pe_int pa_nil)) (pg_name (i := 5) scAlike.nd rfl (Or.inr rfl))
        (pss_one (ps_if (pt_cmpR (op_neD hr.units)
          (pe_lc (own := [("other", 3), ("due", 2)]) (g := gUnl K 2 (gCons (gName 3) (gCons (gName 2) gNil))) (tt := tYes) (te := tMeth C "is_same" (spSame C) [] E0 (tOp (rIxL K) (tOp (rIxL K) (tVar 0) (tVar 5)) (tC (.int 0))) (tCons (tVar 3) tNil)) rfl scAlike.nd (pi_list (pv 0))
            (blkOk_by (N := ["rows", "one", "due", "other", "wanted", "k", "j"]) (sc := defScope sAlike) (by decide +kernel))
            (fun _ _ _ _ _ => by exact pg_unl rfl (pgs_cons (pg_name (i := 3) scAlike.nd rfl (Or.inl rfl)) (pgs_cons (pg_name (i := 2) scAlike.nd rfl (Or.inl rfl)) pgs_nil))) (fun _ _ _ _ _ => pts_nil)
            (fun _ _ _ _ _ => by exact pe_meth (pe_ix ix_list (pe_ix ix_list (pv 0) (pv 5) (fun _ _ => rfl)) pe_int (fun _ _ => rfl)) Z.T.cl Z.mW Z.GW hr1 Z.bW .nil pass0 (pa_cons (pv 3) pa_nil)))
          (pe_lc (own := [("j", 6)]) (g := gName 6) (tt := tYes) rfl scAlike.nd (pi_range1 rfl mG (pa_cons pe_int pa_nil))
            (blkOk_by (N := ["rows", "one", "due", "other", "wanted", "k", "j"]) (sc := defScope sAlike) (by decide +kernel))
            (fun _ _ _ _ _ => pg_name (i := 6) scAlike.nd rfl (Or.inl rfl)) (fun _ _ _ _ _ => pts_nil)
            (fun _ _ _ _ _ => pe_cmpR op_eq (pv 5) (pv 6) (nomark _))) (nomark _)) (pss_one (ps_ret pe_bl)) pss_nil)))
      (pss_one (ps_ret pe_bl))), ?_⟩
    have at_ : ∀ {H'}, Same H H' → RowsAt C H' zs rw q := fun e => R0.ext (sx e)
    refine ⟨fun σ H1 => (∃ v1 v2 v3 v4, σ = [some (.ref rw), v1, v2, v3, v4, none, none]) ∧ Same H H1, ?_, ?_⟩
    · refine ⟨_, rfl, rw, rfl, ⟨_, SqL.of R0.ls⟩, for_list (K := K) (a := rw) (xs := rowsV q) (fun i σ H1 => (∃ v1 v2 v3 v4, σ = [some (.ref rw), v1, v2, v3, v4, none, none]) ∧ Same H H1)
        ⟨⟨none, none, none, none, rfl⟩, fun _ _ e => e⟩ (fun i σ H1 _ ⟨_, s1⟩ => SqL.of (at_ s1).ls) ?_ (fun σ H1 h => h)⟩
      rintro i y σ H1 hi ⟨⟨v1, v2, v3, v4, rfl⟩, s1⟩
      obtain ⟨il, rfl⟩ := rows_at hi
      refine ⟨(q i).r, _, rfl, SqL.of ((at_ s1).at_ i il).ls, rfl, _, _, rfl, _, _, rfl, rfl, ?_⟩
      refine ⟨_, rfl, rw, rfl, ⟨_, SqL.of (at_ s1).ls⟩, for_list (K := K) (a := rw) (xs := rowsV q) (fun j σ H2 => (∃ v3 v4, σ = [some (.ref rw), some (.ref (q i).x), some (.ref (q i).d), v3, v4, none, none]) ∧ Same H H2)
        ⟨⟨v3, v4, rfl⟩, s1⟩ (fun j σ H2 _ ⟨_, s2⟩ => SqL.of (at_ s2).ls) ?_ (fun σ H2 ⟨⟨v3, v4, e⟩, s2⟩ => ⟨⟨_, _, v3, v4, e⟩, s2⟩)⟩
      rintro j y σ H2 hj ⟨⟨v3, v4, rfl⟩, s2⟩
      obtain ⟨jl, rfl⟩ := rows_at hj
      have Ri := (at_ s2).at_ i il
      have Rj := (at_ s2).at_ j jl
      refine ⟨(q j).r, _, rfl, SqL.of Rj.ls, rfl, _, _, rfl, _, _, rfl, rfl, ?_⟩
      obtain ⟨⟨di, oi⟩, ci⟩ := id Ri.c
      obtain ⟨⟨dj, oj⟩, cj⟩ := id Rj.c
      have tj := Z.tyC H2 (q j).x dj _ oj
      refine ⟨_, rfl, _, rfl, (q i).x, di, _, _, rfl, oi, tj, Z.nfC, (q i).x, (q i).h, (q i).m, _, rfl, Ri.c, .inl ⟨(q j).x, (q j).h, (q j).m, rfl, Rj.c, _, rfl, ?_⟩⟩
      refine ⟨_, rfl, _, rfl, (q i).x, di, _, _, rfl, oi, tj, Z.nfC, (q i).x, (q i).h, (q i).m, _, rfl, Ri.c, .inl ⟨(q j).x, (q j).h, (q j).m, rfl, Rj.c, _, rfl, ?_⟩⟩
      refine ⟨(by show 2 ≤ sizeLine; decide), fun t nt => ?_⟩
      refine ⟨t, _, rfl, .tup (SqT.of upd_same) (.cons (.bl _) (.cons (.bl _) .nil)), rfl, rfl, (by show 1 ≤ 60; decide), two_text _ _, ?_⟩
      have s3 := s2.trans (same_new (o := .tup [.bl (eqB (q i).m (q j).m), .bl (!eqB (q i).m (q j).m)]) nt)
      have Ri3 := (at_ s3).at_ i il
      have Rj3 := (at_ s3).at_ j jl
      refine ⟨_, rfl, _, rfl, (q i).d, (q j).d, (q i).md, (q j).md, rfl, rfl, Ri3.du, Rj3.du, ?_⟩
      refine ⟨_, rfl, _, rfl, (q i).d, (q j).d, (q i).md, (q j).md, rfl, rfl, Ri3.du, Rj3.du, ?_⟩
      refine ⟨(by show 2 ≤ sizeLine; decide), fun t2 nt2 => ?_⟩
      refine ⟨t2, _, rfl, .tup (SqT.of upd_same) (.cons (.bl _) (.cons (.bl _) .nil)), rfl, rfl, (by show 1 ≤ 60; decide), two_text _ _, rfl, _, rfl, ?_⟩
      refine ite2 (fun h => ?_) (fun _ => ⟨⟨_, _, rfl⟩, s3.trans (same_new nt2)⟩)
      rw [eqB_alike Ri.gm Rj.gm Ri.gd Rj.gd Ri.em Rj.em] at h
      simp at h
    rintro σ H1 ⟨⟨v1, v2, v3, v4, rfl⟩, s1⟩
    refine ⟨fun σ H2 => Same H H2, ?_, fun σ H2 s2 => k H2 s2⟩
    refine ⟨_, rfl, by decide, by decide, for_range (lo := 0) (n := (3 : Int).toNat) (fun i σ H2 => (∃ v5, σ = [some (.ref rw), v1, v2, v3, v4, v5, none]) ∧ Same H H2)
      ⟨⟨none, rfl⟩, s1⟩ ?_ (fun σ H2 ⟨_, s2⟩ => s2)⟩
    rintro i σ H2 hi ⟨⟨v5, rfl⟩, s2⟩
    have il : i < 3 := hi
    obtain ⟨⟨di, oi⟩, ci⟩ := id ((at_ s2).at_ i il).c
    refine ⟨_, rfl, rw, rfl, ⟨_, SqL.of (at_ s2).ls⟩, fun D nD => ?_⟩
    refine lc_list (K := K) (a := rw) (xs := rowsV q) (fun j H3 => Same H2 H3 ∧ H3 D = some (.lst (((List.range j).map fun j => decide (i = j)).map V.bl))) ⟨same_new nD, upd_same⟩ (fun j H3 _ ⟨s3, _⟩ => SqL.of (at_ (s2.trans s3)).ls) ?_ ?_
    · rintro j y H3 hj ⟨s3, e3⟩
      obtain ⟨jl, rfl⟩ := rows_at hj
      have R3 := at_ (s2.trans s3)
      have Ri := R3.at_ i il
      have Rj := R3.at_ j jl
      obtain ⟨⟨di, oi⟩, ci⟩ := id Ri.c
      refine ⟨(q j).r, _, rfl, SqL.of Rj.ls, rfl, _, _, rfl, _, _, rfl, rfl, rfl, ?_⟩
      refine tyes ?_
      refine ⟨_, rfl, _, rfl, rw, _, _, _, rfl, rfl, SqL.of R3.ls, at_of (j := i) (by omega) (rows_get q il), (q i).r, _, 0, _, rfl, rfl, SqL.of Ri.ls, at_of (j := 0) rfl rfl, ?_⟩
      refine ⟨(q i).x, di, _, rfl, oi, flds_no _ (by decide +kernel) (by decide +kernel), _, rfl, (q i).x, (q i).h, (q i).m, (q j).x, (q j).h, (q j).m, rfl, Ri.c, Rj.c, ?_⟩
      have e : decide ((q i).x = (q j).x) = decide (i = j) := by
        by_cases z : i = j
        · rw [z]
          simp
        · rw [decide_eq_false z, decide_eq_false fun w => z (R3.ne i j il jl w)]
      rw [e]
      refine ⟨_, e3, small1000 (by rw [List.length_map, List.length_map, List.length_range]; omega), Same.new s3 nD, ?_⟩
      rw [upd_same, List.range_succ, List.map_append, List.map_append]
      rfl
    rintro H3 ⟨s3, e3⟩
    refine ⟨_, rfl, by decide, by decide, fun D2 nD2 => ?_⟩
    have nDD : D ≠ D2 := ne_of_none e3 nD2
    refine lc_range (lo := 0) (n := (3 : Int).toNat) (fun j H4 => Same H3 H4 ∧ H4 D2 = some (.lst (((List.range j).map fun j => decide (i = j)).map V.bl))) ⟨same_new nD2, upd_same⟩ ?_ ?_
    · rintro j H4 hj ⟨s4, e4⟩
      have jl : j < 3 := hj
      refine ⟨rfl, ?_⟩
      refine tyes ?_
      refine ⟨_, rfl, _, rfl, rfl, ?_⟩
      have e : decide (V.int (0 + (i : Int)) = V.int (0 + (j : Int))) = decide (i = j) := by
        rw [dec_int]
        by_cases z : i = j
        · rw [z]
          simp
        · rw [decide_eq_false z]
          rw [beq_eq_false_iff_ne]
          omega
      rw [e]
      refine ⟨_, e4, small1000 (by rw [List.length_map, List.length_map, List.length_range]; omega), Same.new s4 nD2, ?_⟩
      rw [upd_same, List.range_succ, List.map_append, List.map_append]
      rfl
    rintro H4 ⟨s4, e4⟩
    refine ⟨.list (((List.range 3).map fun j => decide (i = j)).map PyData.bool), .list (((List.range 3).map fun j => decide (i = j)).map PyData.bool), .lst (SqL.of (s4 _ _ e3)) (dp_bools _), .lst (SqL.of e4) (dp_bools _), shaped_bools _, shaped_bools _, _, rfl, ?_⟩
    have e : PyData.eqv (.list (((List.range 3).map fun j => decide (i = j)).map PyData.bool)) (.list (((List.range 3).map fun j => decide (i = j)).map PyData.bool)) = true := by
      simp only [PyData.eqv]
      exact eqv_bools _
    rw [e]
    exact iteF ⟨⟨_, rfl⟩, (s2.trans s3).trans s4⟩
end
end SW

set_option Elab.async false
set_option maxRecDepth 100000
set_option maxHeartbeats 1000000
/-! The law's world: the drawing, the names, the rows. -/
namespace SW
open PySem PySem.Spec PyProof.Rows L2
/-- what stays but for lists and dicts -/
def KeepX (H H' : Hp) : Prop := ∀ b o, H b = some o → (∀ xs, o ≠ .lst xs) → (∀ kvs, o ≠ .dK kvs) → H' b = some o
theorem tabs_keep {T : List (Addr × Str)} {H H' : Hp} (t : LamX.Tabs T H) (e : KeepX H H') : LamX.Tabs T H' := fun p hp => by
  obtain ⟨ps, h1, h2, h3⟩ := t p hp
  refine ⟨ps, e _ _ h1 (by intro _ z; cases z) (by intro _ z; cases z), h2, fun pos cv hc => ?_⟩
  obtain ⟨c, e1, e2⟩ := h3 pos cv hc
  exact ⟨c, e1, e _ _ e2 (by intro _ z; unfold LamX.CodeO at z; cases z) (by intro _ z; unfold LamX.CodeO at z; cases z)⟩
theorem Rnd.keepX {H H' : Hp} {a : RA} {n : Nat} (R : Rnd H a n) (b : But a H H') : KeepX H H' := fun c o e h1 h2 => by
  obtain ⟨ns, ls, e1, e2, e3, _⟩ := R
  exact b c o e (ne_of e e1 (h2 _)) (ne_of e e3 (h1 _))
theorem Rnd.ext {H H' : Hp} {a : RA} {n : Nat} (R : Rnd H a n) (e : LamX.ExtN H H') : Rnd H' a n := by
  obtain ⟨ns, ls, h1, h2, h3, r⟩ := R
  exact ⟨ns, ls, e _ _ h1 (by intro _ z; cases z), e _ _ h2 (by intro _ z; cases z), e _ _ h3 (by intro _ z; cases z), r⟩
/-- an instance is none of the three -/
theorem Rnd.offI {H : Hp} {a : RA} {n : Nat} {p C dx : Addr} {fs : List (Str × V)} (R : Rnd H a n) (h : H p = some (.ins C dx fs)) : Off a p := by
  obtain ⟨ns, ls, h1, h2, h3, _⟩ := R
  exact ⟨ne_of h h1 (by intro z; cases z), ne_of h h3 (by intro z; cases z), ne_of h h2 (by intro z; cases z)⟩
theorem RowAt.but {C : Addr} {H H' : Hp} {zs : List Str} {a : RA} {n : Nat} {q : Row} (W : RowAt C H zs q) (R : Rnd H a n) (b : But a H H') (fr : Off a q.r) (fh : Off a q.h) (fd : Off a q.d) : RowAt C H' zs q := by
  obtain ⟨⟨dx, ob⟩, dc⟩ := W.c
  exact ⟨b.at fr W.ls, ⟨⟨dx, b.at (R.offI ob) ob⟩, b.at fh dc⟩, b.at fd W.du, W.gm, W.gd, W.em⟩
def rv (k : Nat) (q : Nat → Row) : List V := (List.range k).map fun i => .ref (q i).r
def setq (q : Nat → Row) (j : Nat) (y : Row) : Nat → Row := fun i => if i = j then y else q i
structure LW (C : Addr) (T : List (Addr × Str)) (zs : List Str) (a : RA) (p rw : Addr) (k : Nat) (H : Hp) (n : Nat) (q : Nat → Row) : Prop where
  R : Rnd H a n
  ep : H p = some (.lst (zs.map V.str))
  fp : Off a p
  ls : H rw = some (.lst (rv k q))
  at_ : ∀ i, i < k → RowAt C H zs (q i)
  fw : Off a rw
  pw : p ≠ rw
  T : LamX.Tabs T H
  wr : ∀ i, i < k → (q i).r ≠ rw
  fr : ∀ i, i < k → Off a (q i).r
  fh : ∀ i, i < k → Off a (q i).h
  fd : ∀ i, i < k → Off a (q i).d
  d0 : ∀ i j, i < k → j < k → (q i).x = (q j).x → i = j
  d1 : ∀ i j, i < k → j < k → (q i).h = (q j).h → i = j
  d2 : ∀ i j, i < k → j < k → (q i).d = (q j).d → i = j
  d3 : ∀ i j, i < k → j < k → (q i).h ≠ (q j).d
section
variable {C p rw : Addr} {T : List (Addr × Str)} {zs : List Str} {a : RA} {k n n' : Nat} {H H' : Hp} {q : Nat → Row}
theorem LW.but (W : LW C T zs a p rw k H n q) (b : But a H H') (R' : Rnd H' a n') : LW C T zs a p rw k H' n' q :=
  ⟨R', b.at W.fp W.ep, W.fp, b.at W.fw W.ls, fun i hi => (W.at_ i hi).but W.R b (W.fr i hi) (W.fh i hi) (W.fd i hi), W.fw, W.pw, tabs_keep W.T (W.R.keepX b), W.wr, W.fr, W.fh, W.fd, W.d0, W.d1, W.d2, W.d3⟩
theorem LW.same (W : LW C T zs a p rw k H n q) (e : Same H H') : LW C T zs a p rw k H' n q := W.but (Same.but e) (W.R.same e)
theorem LW.ext (W : LW C T zs a p rw k H n q) (e : LamX.ExtN H H') (T' : LamX.Tabs T H') : LW C T zs a p rw k H' n q :=
  ⟨W.R.ext e, e _ _ W.ep (by intro _ z; cases z), W.fp, e _ _ W.ls (by intro _ z; cases z), fun i hi => (W.at_ i hi).ext e, W.fw, W.pw, T', W.wr, W.fr, W.fh, W.fd, W.d0, W.d1, W.d2, W.d3⟩
/-- a new row, apart from the others -/
structure NewOk (a : RA) (rw : Addr) (k : Nat) (q : Nat → Row) (y : Row) : Prop where
  wr : y.r ≠ rw
  fr : Off a y.r
  fh : Off a y.h
  fd : Off a y.d
  x : ∀ i, i < k → y.x ≠ (q i).x
  hh : ∀ i, i < k → y.h ≠ (q i).h
  hd : ∀ i, i < k → y.h ≠ (q i).d
  dh : ∀ i, i < k → y.d ≠ (q i).h
  dd : ∀ i, i < k → y.d ≠ (q i).d
  s : y.h ≠ y.d
theorem LW.new (W : LW C T zs a p rw k H n q) {y : Row} (h1 : H y.r = none) (h2 : H y.x = none) (h3 : H y.h = none) (h4 : H y.d = none) (s : y.h ≠ y.d) : NewOk a rw k q y :=
  ⟨(ne_of_none W.ls h1).symm, W.R.off h1, W.R.off h3, W.R.off h4, fun i hi => by
      obtain ⟨⟨dx, ob⟩, dc⟩ := (W.at_ i hi).c
      exact (ne_of_none ob h2).symm,
    fun i hi => (ne_of_none (W.at_ i hi).c.dc h3).symm, fun i hi => (ne_of_none (W.at_ i hi).du h3).symm, fun i hi => (ne_of_none (W.at_ i hi).c.dc h4).symm, fun i hi => (ne_of_none (W.at_ i hi).du h4).symm, s⟩
/-- the list of the rows is written -/
theorem rowat_rw {y : Row} {xs xs' : List V} (h : RowAt C H zs y) (e : H rw = some (.lst xs)) (wr : y.r ≠ rw) : RowAt C (upd H rw (.lst xs')) zs y := by
  obtain ⟨⟨dx, ob⟩, dc⟩ := h.c
  exact ⟨by rw [upd_ne wr]; exact h.ls, ⟨⟨dx, by rw [upd_ne (ne_of ob e (by intro z; cases z))]; exact ob⟩, by rw [upd_ne (ne_of dc e (by intro z; cases z))]; exact dc⟩, by rw [upd_ne (ne_of h.du e (by intro z; cases z))]; exact h.du, h.gm, h.gd, h.em⟩
theorem keepX_lst {xs : List V} {o : HO} (e : H rw = some (.lst xs)) : KeepX H (upd H rw o) := fun b u eb h1 _ => by
  rw [upd_ne (ne_of eb e (h1 _))]
  exact eb
theorem keepX_dK {kvs : List (Key × V)} {o : HO} (e : H rw = some (.dK kvs)) : KeepX H (upd H rw o) := fun b u eb _ h2 => by
  rw [upd_ne (ne_of eb e (h2 _))]
  exact eb
theorem KeepX.trans {H1 : Hp} (a : KeepX H H1) (b : KeepX H1 H') : KeepX H H' := fun c o e h1 h2 => b c o (a c o e h1 h2) h1 h2
theorem LW.set {k' j : Nat} (W : LW C T zs a p rw k H n q) (h : ∀ i, i < k' → i ≠ j → i < k) {y : Row} (hy : RowAt C H zs y) (ny : NewOk a rw k q y) :
    LW C T zs a p rw k' (upd H rw (.lst (rv k' (setq q j y)))) n (setq q j y) := by
  have sp : ∀ i, i < k' → (setq q j y i = y ∧ i = j) ∨ (setq q j y i = q i ∧ i ≠ j ∧ i < k) := fun i hi => by
    unfold setq
    by_cases z : i = j
    · rw [if_pos z]
      exact .inl ⟨rfl, z⟩
    · rw [if_neg z]
      exact .inr ⟨rfl, z, h i hi z⟩
  refine ⟨W.R.upd W.fw, by rw [upd_ne W.pw]; exact W.ep, W.fp, upd_same, fun i hi => ?_, W.fw, W.pw, tabs_keep W.T (keepX_lst W.ls), fun i hi => ?_, fun i hi => ?_, fun i hi => ?_, fun i hi => ?_, fun i i' hi hi' e => ?_, fun i i' hi hi' e => ?_, fun i i' hi hi' e => ?_, fun i i' hi hi' => ?_⟩
  · rcases sp i hi with ⟨e, _⟩ | ⟨e, _, hk⟩ <;> rw [e]
    · exact rowat_rw hy W.ls ny.wr
    · exact rowat_rw (W.at_ i hk) W.ls (W.wr i hk)
  · rcases sp i hi with ⟨e, _⟩ | ⟨e, _, hk⟩ <;> rw [e]
    · exact ny.wr
    · exact W.wr i hk
  · rcases sp i hi with ⟨e, _⟩ | ⟨e, _, hk⟩ <;> rw [e]
    · exact ny.fr
    · exact W.fr i hk
  · rcases sp i hi with ⟨e, _⟩ | ⟨e, _, hk⟩ <;> rw [e]
    · exact ny.fh
    · exact W.fh i hk
  · rcases sp i hi with ⟨e, _⟩ | ⟨e, _, hk⟩ <;> rw [e]
    · exact ny.fd
    · exact W.fd i hk
  · rcases sp i hi with ⟨e1, z1⟩ | ⟨e1, z1, hk1⟩ <;> rcases sp i' hi' with ⟨e2, z2⟩ | ⟨e2, z2, hk2⟩ <;> rw [e1, e2] at e
    · rw [z1, z2]
    · exact absurd e (ny.x i' hk2)
    · exact absurd e.symm (ny.x i hk1)
    · exact W.d0 i i' hk1 hk2 e
  · rcases sp i hi with ⟨e1, z1⟩ | ⟨e1, z1, hk1⟩ <;> rcases sp i' hi' with ⟨e2, z2⟩ | ⟨e2, z2, hk2⟩ <;> rw [e1, e2] at e
    · rw [z1, z2]
    · exact absurd e (ny.hh i' hk2)
    · exact absurd e.symm (ny.hh i hk1)
    · exact W.d1 i i' hk1 hk2 e
  · rcases sp i hi with ⟨e1, z1⟩ | ⟨e1, z1, hk1⟩ <;> rcases sp i' hi' with ⟨e2, z2⟩ | ⟨e2, z2, hk2⟩ <;> rw [e1, e2] at e
    · rw [z1, z2]
    · exact absurd e (ny.dd i' hk2)
    · exact absurd e.symm (ny.dd i hk1)
    · exact W.d2 i i' hk1 hk2 e
  · rcases sp i hi with ⟨e1, z1⟩ | ⟨e1, z1, hk1⟩ <;> rcases sp i' hi' with ⟨e2, z2⟩ | ⟨e2, z2, hk2⟩ <;> rw [e1, e2]
    · exact ny.s
    · exact ny.hd i' hk2
    · exact (ny.dh i hk1).symm
    · exact W.d3 i i' hk1 hk2
/-- the two dicts of a row are written -/
theorem LW.put {j : Nat} (W : LW C T zs a p rw k H n q) (hj : j < k) {m' md' : Mp} (h1 : H' (q j).h = some (.dK (kv m'))) (h2 : H' (q j).d = some (.dK (kv md'))) (h3 : ∀ b, b ≠ (q j).h → b ≠ (q j).d → H' b = H b)
    (g1 : Good zs m') (g2 : Good zs md') (e : Eqm m' md') : LW C T zs a p rw k H' n (setq q j { q j with m := m', md := md' }) := by
  have dh := (W.at_ j hj).c.dc
  have dd := (W.at_ j hj).du
  have nk : ∀ {b : Addr} {o : HO}, H b = some o → (∀ kvs, o ≠ .dK kvs) → H' b = some o := fun {b o} eb ho => by
    rw [h3 b (ne_of eb dh (ho _)) (ne_of eb dd (ho _))]
    exact eb
  have sp : ∀ i, (setq q j { q j with m := m', md := md' } i = { q j with m := m', md := md' } ∧ i = j) ∨ (setq q j { q j with m := m', md := md' } i = q i ∧ i ≠ j) := fun i => by
    unfold setq
    by_cases z : i = j
    · rw [if_pos z]
      exact .inl ⟨rfl, z⟩
    · rw [if_neg z]
      exact .inr ⟨rfl, z⟩
  have same : ∀ i, (setq q j { q j with m := m', md := md' } i).r = (q i).r ∧ (setq q j { q j with m := m', md := md' } i).x = (q i).x ∧ (setq q j { q j with m := m', md := md' } i).h = (q i).h ∧ (setq q j { q j with m := m', md := md' } i).d = (q i).d := fun i => by
    rcases sp i with ⟨e, z⟩ | ⟨e, z⟩ <;> rw [e]
    · rw [z]
      exact ⟨rfl, rfl, rfl, rfl⟩
    · exact ⟨rfl, rfl, rfl, rfl⟩
  have erv : rv k (setq q j { q j with m := m', md := md' }) = rv k q := by
    unfold rv
    refine List.map_congr_left fun i _ => ?_
    rw [(same i).1]
  obtain ⟨ns, ls, r1, r2, r3, r⟩ := id W.R
  have R' : Rnd H' a n := ⟨ns, ls, by rw [h3 _ (W.fh j hj).s.symm (W.fd j hj).s.symm]; exact r1, by rw [h3 _ (W.fh j hj).c.symm (W.fd j hj).c.symm]; exact r2, by rw [h3 _ (W.fh j hj).l.symm (W.fd j hj).l.symm]; exact r3, r⟩
  refine ⟨R', nk W.ep (by intro _ z; cases z), W.fp, by rw [erv]; exact nk W.ls (by intro _ z; cases z), fun i hi => ?_, W.fw, W.pw, tabs_keep W.T fun b o eb _ h => nk eb h, fun i hi => by rw [(same i).1]; exact W.wr i hi, fun i hi => by rw [(same i).1]; exact W.fr i hi,
    fun i hi => by rw [(same i).2.2.1]; exact W.fh i hi, fun i hi => by rw [(same i).2.2.2]; exact W.fd i hi, fun i i' hi hi' => by rw [(same i).2.1, (same i').2.1]; exact W.d0 i i' hi hi', fun i i' hi hi' => by rw [(same i).2.2.1, (same i').2.2.1]; exact W.d1 i i' hi hi',
    fun i i' hi hi' => by rw [(same i).2.2.2, (same i').2.2.2]; exact W.d2 i i' hi hi', fun i i' hi hi' => by rw [(same i).2.2.1, (same i').2.2.2]; exact W.d3 i i' hi hi'⟩
  have Wi := W.at_ i hi
  obtain ⟨⟨dx, ob⟩, dc⟩ := Wi.c
  rcases sp i with ⟨e', z⟩ | ⟨e', z⟩ <;> rw [e']
  · subst z
    exact ⟨nk Wi.ls (by intro _ z; cases z), ⟨⟨dx, nk ob (by intro z; intro w; cases w)⟩, h1⟩, h2, g1, g2, e⟩
  · refine ⟨nk Wi.ls (by intro _ z; cases z), ⟨⟨dx, nk ob (by intro z; intro w; cases w)⟩, ?_⟩, ?_, Wi.gm, Wi.gd, Wi.em⟩
    · rw [h3 _ (fun w => z (W.d1 i j hi hj w)) (W.d3 i j hi hj)]
      exact dc
    · rw [h3 _ (W.d3 j i hj hi).symm (fun w => z (W.d2 i j hi hj w))]
      exact Wi.du
end
end SW

set_option Elab.async false
set_option maxRecDepth 100000
set_option maxHeartbeats 1000000
/-! The law's text as a term of rules. -/
namespace SW
open PySem PySem.Spec PyProof.Rows L2
abbrev sLaw : Stmt := top 15
def spLaw (K : PySem.W.Frag) (T : List (Addr × Str)) : Sp := fun vs H Q _ => ∃ (x : Addr) (ns : List Int), vs = [.ref x] ∧ SqL K H x (ns.map V.int) ∧ ns.length ≤ 63 ∧ LamX.Tabs T H ∧ ∀ H', Q (.bl true) H'
abbrev nLaw : List Str := ["script", "state", "names", "rows", "turn", "at", "way", "name", "value", "context", "due", "k", "one", "wanted"]
theorem scLaw : FnScope nLaw ["script"] (defScope sLaw) := ⟨rfl, rfl, rfl, by decide +kernel, rfl, by decide +kernel, by decide +kernel⟩
theorem rv_set {q : Nat → Row} {y : Row} : ∀ {j : Nat}, j < 3 → (rv 3 q).set j (.ref y.r) = rv 3 (setq q j y)
  | 0, _ => rfl
  | 1, _ => rfl
  | 2, _ => rfl
  | j + 3, h => absurd h (by omega)
theorem rv_snoc (q : Nat → Row) (y : Row) (i : Nat) : rv i q ++ [.ref y.r] = rv (i + 1) (setq q i y) := by
  unfold rv
  rw [List.range_succ, List.map_append]
  congr 1
  · refine List.map_congr_left fun j hj => ?_
    have := List.mem_range.mp hj
    unfold setq
    rw [if_neg (by omega)]
  · show _ = [V.ref (setq q i y i).r]
    unfold setq
    rw [if_pos rfl]
theorem ix3 {z : Int} (h0 : 0 ≤ z) (h1 : z < 3) : ixN 3 z = some z.toNat := by
  have e : z = 0 ∨ z = 1 ∨ z = 2 := by omega
  rcases e with rfl | rfl | rfl <;> decide
section
variable {P : Program} {w : World} {K : PySem.W.Frag} {mg : Str → Option Value} {base : Heap}
theorem ok_law {f C CF Pt fB fN fD fV fM fR fA : Addr} {fdB fdN fdD fdV fdM fdR fdA : FuncData} {oc kV doc pm ct cdv : Value} {od an : Option Addr} {osl : Array (Option Value)} (lk : K.lookup f = some ⟨oc, od, .func (PySem.W.fnOf "law" "law" (defArgs sLaw) (defBody sLaw) (defScope sLaw) .none kV doc pm an cdv ct), osl⟩)
    (hcd : PySem.W.codeIn K cdv "law" = true) (Z : Ctx0 P w K mg base C CF)
    (GB : FnOk P w K mg base CX0 1 fB fdB ["script"] (spBegin K)) (bB : Binds K fdB ["script"] []) (gB : mg "_law_begin" = some (.ref fB)) (kB : PySem.W.keepIn K (.ref fB) = true)
    (GN : FnOk P w K mg base CX0 4 fN fdN ["state", "many"] spNames) (bN : Binds K fdN ["state", "many"] []) (gN : mg "_law_names" = some (.ref fN)) (kN : PySem.W.keepIn K (.ref fN) = true)
    (GD : FnOk P w K mg base CX0 2 fD fdD ["state", "many"] spDraw) (bD : Binds K fdD ["state", "many"] []) (gD : mg "_law_draw" = some (.ref fD)) (kD : PySem.W.keepIn K (.ref fD) = true)
    (GV : FnOk P w K mg base CX0 3 fV fdV ["state"] spValue) (bV : Binds K fdV ["state"] []) (gV : mg "_law_value" = some (.ref fV)) (kVl : PySem.W.keepIn K (.ref fV) = true)
    (GM : FnOk P w K mg base CX0 4 fM fdM ["state", "names"] (spMade C)) (bM : Binds K fdM ["state", "names"] []) (gM : mg "_law_made" = some (.ref fM)) (kM : PySem.W.keepIn K (.ref fM) = true)
    (GR : FnG P w K mg base 7 fR fdR ["context", "due", "names"] (spRight C [(Pt, qR)])) (bR : Binds K fdR ["context", "due", "names"] []) (gR : mg "_law_right" = some (.ref fR)) (kR : PySem.W.keepIn K (.ref fR) = true)
    (GA : FnG P w K mg base 7 fA fdA ["rows"] (spAlike C)) (bA : Binds K fdA ["rows"] []) (gA : mg "_law_alike_right" = some (.ref fA)) (kA : PySem.W.keepIn K (.ref fA) = true)
    (mG : mg "range" = none) (mDi : mg "dict" = none) :
    FnG P w K mg base 8 f (PySem.W.fnOf "law" "law" (defArgs sLaw) (defBody sLaw) (defScope sLaw) .none kV doc pm an cdv ct) ["script"] (spLaw K [(Pt, qR)]) := by
  refine fng_of lk hcd scLaw (fun vs H Q E h => ?_) (fun A outer s H vs Q E gd hr h => ?_)
  · obtain ⟨x, ns, rfl, _⟩ := h
    rfl
  · obtain ⟨x, ns, rfl, hS, hl, T0, k⟩ := h
    have hu := hu_of hr
    have hr1 : Room 1 _ := hr.mono (by decide)
    have hr2 : Room 2 _ := hr.mono (by decide)
    have hr3 : Room 3 _ := hr.mono (by decide)
    have hr4 : Room 4 _ := hr.mono (by decide)
    have gd' : (A.deeper (envOfC "law" (defScope sLaw) s.heap.objs.size f cdv)).guards = some [] := gd
    refine ⟨_, C8.pss_cut (ps_set (i := 1) scLaw.nd rfl (Or.inr rfl) (pe_call GB hr1 rfl gB kB bB .nil pass0 (pa_cons (pv 0) pa_nil)))
      (C8.pss_cut (ps_set (i := 2) scLaw.nd rfl (Or.inr rfl) (pe_call GN hr4 rfl gN kN bN .nil pass0 (pa_cons (pv 1) (pa_cons pe_int pa_nil))))
      (C8.pss_cut (ps_setLc (i := 3) (own := [("k", 11)]) (g := gName 11) (tt := tYes) rfl scLaw.nd rfl rfl (sw_true rfl rfl rfl rfl) (pi_range1 rfl mG (pa_cons pe_int pa_nil))
        (blkOk_by (N := nLaw) (sc := defScope sLaw) (by decide +kernel)) (fun _ _ _ _ _ => pg_name (i := 11) scLaw.nd rfl (Or.inl rfl)) (fun _ _ _ _ _ => pts_nil)
        (fun _ _ _ _ _ => pe_call GM hr4 rfl gM kM bM .nil pass0 (pa_cons (pv 1) (pa_cons (pv 2) pa_nil))))
      (C8.pss_cut (ps_for PassesOwn.never rfl (pi_range1 rfl mG (pa_cons pe_int pa_nil)) (pg_name (i := 4) scLaw.nd rfl (Or.inl rfl))
        (C8.pss_cut (ps_par (i := 5) (j := 6) rfl scLaw.nd rfl rfl (by decide) rfl rfl (pa_cons (pe_call GD hr2 rfl gD kD bD .nil pass0 (pa_cons (pv 1) (pa_cons pe_int pa_nil))) (pa_cons (pe_call GD hr2 rfl gD kD bD .nil pass0 (pa_cons (pv 1) (pa_cons pe_int pa_nil))) pa_nil)) (by rfl))
        (C8.pss_cut (ps_par (i := 7) (j := 8) rfl scLaw.nd rfl rfl (by decide) rfl rfl (pa_cons (pe_ix ix_list (pv 2) (pe_call GD hr2 rfl gD kD bD .nil pass0 (pa_cons (pv 1) (pa_cons pe_int pa_nil))) (fun _ _ => rfl)) (pa_cons (pe_call GV hr3 rfl gV kVl bV .nil pass0 (pa_cons (pv 1) pa_nil)) pa_nil)) (by rfl))
        (C8.pss_cut (ps_asg (pe_ix ix_list (pv 3) (pv 5) (fun _ _ => rfl)) (pg_unl rfl (pgs_cons (pg_name (i := 9) scLaw.nd rfl (Or.inl rfl)) (pgs_cons (pg_name (i := 10) scLaw.nd rfl (Or.inl rfl)) pgs_nil))))
        (C8.pss_cut (ps_if (pt_cmpR op_lt (pv 6) pe_int (nomark _))
            (pss_cons (ps_asg (pv 8) (pg_sub (pv 9) (pv 7) (set_own Z.nq Z.sS Z.iS Z.GS hr1 Z.bS pass0))) (pss_one (ps_asg (pv 8) (pg_sub (pv 10) (pv 7) (set_dict hu)))))
            (pss_one (ps_if (pt_cmpR op_lt (pv 6) pe_int (nomark _))
              (pss_cons (ps_if (pt_cmp (pc_notN (pe_meth (pv 9) Z.T.cl Z.mD Z.GD hr1 Z.bD .nil pass0 (pa_cons (pv 7) pa_nil)))) (pss_one (ps_ret pe_bl)) pss_nil) (pss_one (ps_expr (pe_dpop2 (pv 10) (pv 7) pe_non ⟨rfl, rfl, rfl, rfl⟩))))
              (pss_one (ps_if (pt_cmpR op_eq (pv 6) pe_int (nomark _))
                (pss_one (ps_asg (pe_lst (pa_cons (pe_meth0 (pv 9) Z.T.cl Z.mY Z.GY hr3 Z.bY .nil pass0) (pa_cons (pe_callTy call_dictD (by rfl) mDi boot_dict (pa_cons (pv 10) pa_nil)) pa_nil))) (pg_sub (pv 3) (pe_call GD hr2 rfl gD kD bD .nil pass0 (pa_cons (pv 1) (pa_cons pe_int pa_nil))) set_list)))
                (pss_one (ps_asg (pe_call GM hr4 rfl gM kM bM .nil pass0 (pa_cons (pv 1) (pa_cons (pv 2) pa_nil))) (pg_sub (pv 3) (pv 5) set_list))))))))
        (C8.pss_cut (ps_if (pt_cmpR (op_neD hr.units) (pe_lc (own := [("one", 12), ("wanted", 13)]) (g := gUnl K 2 (gCons (gName 12) (gCons (gName 13) gNil))) (te := tC (.int 1))
              (tt := tNot (tB (tCall (spRight C [(Pt, qR)]) [] E0 (tCons (tVar 12) (tCons (tVar 13) (tCons (tVar 2) tNil)))))) rfl scLaw.nd (pi_list (pv 3)) (blkOk_by (N := nLaw) (sc := defScope sLaw) (by decide +kernel))
              (fun _ _ _ _ _ => by exact pg_unl rfl (pgs_cons (pg_name (i := 12) scLaw.nd rfl (Or.inl rfl)) (pgs_cons (pg_name (i := 13) scLaw.nd rfl (Or.inl rfl)) pgs_nil)))
              (fun _ _ _ _ _ => pts_one (pt_not (pt_val (by exact pe_callG GR gd' hr rfl gR kR bR (pa_cons (pv 12) (pa_cons (pv 13) (pa_cons (pv 2) pa_nil)))))))
              (fun _ _ _ _ _ => pe_int)) (pe_lst pa_nil) (nomark _)) (pss_one (ps_ret pe_bl)) pss_nil)
        (pss_one (ps_if (pt_not (pt_val (pe_callG GA gd' hr rfl gA kA bA (pa_cons (pv 3) pa_nil)))) (pss_one (ps_ret pe_bl)) pss_nil))))))))
      (pss_one (ps_ret pe_bl))))), ?_⟩
    -- state
    refine ⟨fun σ H1 => ∃ a : RA, σ = [some (.ref x), some (.ref a.s), none, none, none, none, none, none, none, none, none, none, none, none] ∧ Rnd H1 a 0 ∧ LamX.Tabs [(Pt, qR)] H1, ?_, ?_⟩
    · exact ⟨_, rfl, x, ns, rfl, hS, hl, fun a H1 s1 _ _ R1 => ⟨a, rfl, R1, T0.ext s1⟩⟩
    rintro σ H1 ⟨a, rfl, R1, T1⟩
    -- names
    refine ⟨fun σ H2 => ∃ (p : Addr) (zs : List Str) (n : Nat), σ = [some (.ref x), some (.ref a.s), some (.ref p), none, none, none, none, none, none, none, none, none, none, none] ∧ Rnd H2 a n ∧ H2 p = some (.lst (zs.map V.str)) ∧ Off a p ∧ zs.length = 5 ∧ zs.Nodup ∧ (∀ z ∈ zs, isNm z) ∧ n ≤ 50 ∧ LamX.Tabs [(Pt, qR)] H2, ?_, ?_⟩
    · exact ⟨_, rfl, a, 0, 5, rfl, R1, by decide, by decide, fun p zs n' H2 np fp ep el nd nm hn R2 b2 => ⟨p, zs, n', rfl, R2, ep, fp, el, nd, nm, by omega, tabs_keep T1 (R1.keepX b2)⟩⟩
    rintro σ H2 ⟨p, zs, n, rfl, R2, ep, fp, zl, znd, znm, hn, T2⟩
    -- rows
    refine ⟨fun σ H3 => ∃ (rw : Addr) (q : Nat → Row) (n1 : Nat), σ = [some (.ref x), some (.ref a.s), some (.ref p), some (.ref rw), none, none, none, none, none, none, none, none, none, none] ∧ LW C [(Pt, qR)] zs a p rw 3 H3 n1 q ∧ n1 ≤ 1000, ?_, ?_⟩
    · refine ⟨_, rfl, by decide, by decide, fun D nD => ?_⟩
      refine lc_range (lo := 0) (n := (3 : Int).toNat) (fun i H3 => ∃ (q : Nat → Row) (n1 : Nat), LW C [(Pt, qR)] zs a p D i H3 n1 q ∧ n1 ≤ n + 100 * i) ?_ ?_ ?_
      · have s := same_new (o := .lst []) nD
        exact ⟨fun _ => ⟨0, 0, 0, 0, [], []⟩, n, ⟨R2.same s, s _ _ ep, fp, upd_same, fun i hi => absurd hi (by omega), R2.off nD, ne_of_none ep nD, T2.ext s, fun i hi => absurd hi (by omega), fun i hi => absurd hi (by omega), fun i hi => absurd hi (by omega), fun i hi => absurd hi (by omega),
          fun i _ hi => absurd hi (by omega), fun i _ hi => absurd hi (by omega), fun i _ hi => absurd hi (by omega), fun i _ hi => absurd hi (by omega)⟩, by omega⟩
      · rintro i H3 hi ⟨q, n1, W, hn1⟩
        have il : i < 3 := hi
        refine ⟨rfl, ?_⟩
        refine tyes ?_
        refine ⟨_, rfl, _, rfl, a, n1, p, zs, rfl, W.R, W.ep, W.fp, zl, znd, znm, by omega, fun r y d due m md n' H' h1 h2 h3 h4 hne er c ed g gd em hn' R' b' => ?_⟩
        have W' := W.but b' R'
        refine ⟨_, W'.ls, small1000 (by unfold rv; rw [List.length_map, List.length_range]; omega), setq q i ⟨r, y, d, due, m, md⟩, n', ?_, by omega⟩
        have ny := W.new (y := ⟨r, y, d, due, m, md⟩) h1 h2 h3 h4 hne
        have e := rv_snoc q ⟨r, y, d, due, m, md⟩ i
        have W2 := W'.set (k' := i + 1) (j := i) (fun j h1 h2 => by omega) (y := ⟨r, y, d, due, m, md⟩) ⟨er, c, ed, g, gd, em⟩ ny
        rw [← e] at W2
        exact W2
      · rintro H3 ⟨q, n1, W, hn1⟩
        exact ⟨D, q, n1, rfl, W, by have : (3 : Int).toNat = 3 := rfl; omega⟩
    rintro σ H3 ⟨rw, q, n1, rfl, W3, hn1⟩
    -- the turns
    refine ⟨fun _ _ => True, ?_, fun σ H4 _ => k H4⟩
    refine ⟨_, rfl, by decide, by decide, for_range (lo := 0) (n := (40 : Int).toNat) (fun i σ H => ∃ (v4 v5 v6 v7 v8 v9 v10 : Option V) (q : Nat → Row) (n : Nat), σ = [some (.ref x), some (.ref a.s), some (.ref p), some (.ref rw), v4, v5, v6, v7, v8, v9, v10, none, none, none] ∧ LW C [(Pt, qR)] zs a p rw 3 H n q ∧ n ≤ 1000 + 500 * i)
      ⟨_, _, _, _, _, _, _, q, n1, rfl, W3, by omega⟩ ?_ (fun _ _ _ => True.intro)⟩
    clear W3 hn1 q n1
    rintro i σ H ihi ⟨v4, v5, v6, v7, v8, v9, v10, q, n, rfl, W, hn⟩
    have hi : i < 40 := ihi
    -- at, way
    refine ⟨fun σ H1 => ∃ (v4 : Option V) (at_ way : Int) (n1 : Nat), σ = [some (.ref x), some (.ref a.s), some (.ref p), some (.ref rw), v4, some (.int at_), some (.int way), v7, v8, v9, v10, none, none, none] ∧ 0 ≤ at_ ∧ at_ < 3 ∧ LW C [(Pt, qR)] zs a p rw 3 H1 n1 q ∧ n1 ≤ n + 2, ?_, ?_⟩
    · refine ⟨_, rfl, a, n, 3, rfl, W.R, by omega, by decide, by decide, fun at_ H1 a0 a1 R1 b1 => ?_⟩
      refine ⟨_, rfl, a, n + 1, 8, rfl, R1, by omega, by decide, by decide, fun way H2 w0 w1 R2 b2 => ?_⟩
      exact ⟨_, _, rfl, _, at_, way, n + 1 + 1, rfl, a0, a1, W.but (b1.trans b2) R2, by omega⟩
    rintro σ H1 ⟨v4, at_, way, n1, rfl, a0, a1, W1, hn1⟩
    clear W
    -- name, value
    refine ⟨fun σ H2 => ∃ (z : Str) (v : Int) (n2 : Nat), σ = [some (.ref x), some (.ref a.s), some (.ref p), some (.ref rw), v4, some (.int at_), some (.int way), some (.str z), some (.int v), v9, v10, none, none, none] ∧ z ∈ zs ∧ Small v ∧ LW C [(Pt, qR)] zs a p rw 3 H2 n2 q ∧ n2 ≤ n + 10, ?_, ?_⟩
    · refine ⟨_, rfl, _, rfl, a, n1, 4, rfl, W1.R, by omega, by decide, by decide, fun j H2 j0 j1 R2 b2 => ?_⟩
      have W2 := W1.but b2 R2
      have hj : j.toNat < zs.length := by omega
      refine ⟨p, _, j, .str zs[j.toNat], rfl, rfl, SqL.of W2.ep, at_of (j := j.toNat) (by omega) (by rw [List.getElem?_map, List.getElem?_eq_getElem hj]; rfl), ?_⟩
      refine ⟨_, rfl, a, n1 + 1, rfl, R2, by omega, fun v H3 sv R3 b3 => ?_⟩
      exact ⟨_, _, rfl, zs[j.toNat], v, _, rfl, List.getElem_mem hj, sv, W2.but b3 R3, by omega⟩
    rintro σ H2 ⟨z, v, n2, rfl, hz, sv, W2, hn2⟩
    clear W1
    -- context, due
    obtain ⟨j, ej⟩ : ∃ j : Nat, j = at_.toNat := ⟨_, rfl⟩
    have jl : j < 3 := by omega
    refine ⟨fun σ H3 => σ = [some (.ref x), some (.ref a.s), some (.ref p), some (.ref rw), v4, some (.int at_), some (.int way), some (.str z), some (.int v), some (.ref (q j).x), some (.ref (q j).d), none, none, none] ∧ H3 = H2, ?_, ?_⟩
    · refine ⟨_, rfl, _, rfl, rw, _, at_, _, rfl, rfl, SqL.of W2.ls, at_of (j := j) (by omega) (rows_get q jl), ?_⟩
      exact ⟨(q j).r, _, rfl, SqL.of (W2.at_ j jl).ls, rfl, _, _, rfl, _, _, rfl, rfl, rfl, rfl⟩
    rintro σ H3 ⟨rfl, rfl⟩
    have Wj := W2.at_ j jl
    obtain ⟨⟨dx, ob⟩, dc⟩ := id Wj.c
    have du := Wj.du
    have nhd : (q j).h ≠ (q j).d := W2.d3 j j jl jl
    have zlm : (q j).m.length ≤ 5 := by have := Wj.gm.len; omega
    have zld : (q j).md.length ≤ 5 := by have := Wj.gd.len; omega
    -- the step
    refine ⟨fun σ H4 => ∃ (q : Nat → Row) (n3 : Nat) (v9 v10 : Option V), σ = [some (.ref x), some (.ref a.s), some (.ref p), some (.ref rw), v4, some (.int at_), some (.int way), some (.str z), some (.int v), v9, v10, none, none, none] ∧ LW C [(Pt, qR)] zs a p rw 3 H4 n3 q ∧ n3 ≤ n + 400, ?_, ?_⟩
    · refine ⟨_, rfl, _, _, rfl, rfl, _, rfl, ?_⟩
      refine ite2 (fun _ => ?_) (fun _ => ?_)
      · -- set
        refine ⟨_, rfl, _, rfl, _, rfl, (q j).x, dx, _, rfl, ob, (q j).x, (q j).h, (q j).m, z, v, rfl, Wj.c, by omega, ?_⟩
        have ed : (upd H3 (q j).h (.dK (kv (aput (q j).m z v)))) (q j).d = some (.dK (kv (q j).md)) := by
          rw [upd_ne nhd.symm]
          exact du
        refine ⟨_, rfl, _, rfl, _, rfl, (q j).d, _, rfl, DPut.k (k := Sum.inr z) ed (small1000 (by rw [kv_len]; omega)), ?_⟩
        rw [putK_kv]
        refine ⟨_, n2, _, _, rfl, W2.put jl (m' := aput (q j).m z v) (md' := aput (q j).md z v) ?_ upd_same (fun b h1 h2 => by rw [upd_ne h2, upd_ne h1]) (Wj.gm.put hz sv) (Wj.gd.put hz sv) (Wj.em.put z v), by omega⟩
        rw [upd_ne nhd, upd_same]
      refine ⟨_, rfl, _, _, rfl, rfl, _, rfl, ?_⟩
      refine ite2 (fun _ => ?_) (fun _ => ?_)
      · -- drop
        refine ⟨_, rfl, (q j).x, dx, _, rfl, ob, flds_no _ (by decide +kernel) (by decide +kernel), _, rfl, (q j).x, (q j).h, (q j).m, z, rfl, Wj.c, Wj.gm.nd, fun H4 e4 k4 => ⟨_, rfl, ?_⟩⟩
        refine ite2 (fun h => ?_) (fun _ => ?_)
        · simp at h
        have du4 : H4 (q j).d = some (.dK (kv (q j).md)) := by
          rw [k4 _ nhd.symm]
          exact du
        refine ⟨_, rfl, (q j).d, rfl, .inl ⟨_, .inl du4⟩, _, rfl, kv (q j).md, .inr z, du4, rfl, fun w _ => ?_, fun hno => ?_⟩
        · rw [dropK_kv]
          refine ⟨_, n2, _, _, rfl, W2.put jl (m' := adrop (q j).m z) (md' := adrop (q j).md z) ?_ upd_same (fun b h1 h2 => by rw [upd_ne h2, k4 _ h1]) Wj.gm.drop Wj.gd.drop (Wj.em.drop z), by omega⟩
          rw [upd_ne nhd]
          exact e4
        · rw [valV_kv] at hno
          have hno' : (aget (q j).md z).isSome = false := by
            cases e : aget (q j).md z with
            | none => rfl
            | some y => rw [e] at hno; cases hno
          exact ⟨_, n2, _, _, rfl, W2.put jl (m' := adrop (q j).m z) (md' := adrop (q j).md z) e4 (by rw [adrop_none hno']; exact du4) (fun b h1 _ => k4 _ h1) Wj.gm.drop Wj.gd.drop (Wj.em.drop z), by omega⟩
      refine ⟨_, rfl, rfl, _, rfl, ?_⟩
      refine ite2 (fun _ => ?_) (fun _ => ?_)
      · -- copy
        refine ⟨_, rfl, (q j).x, dx, _, rfl, ob, flds_no _ (by decide +kernel) (by decide +kernel), (q j).x, (q j).h, (q j).m, rfl, Wj.c, by omega, Wj.gm.nd, fun x' h' m' H4 s4 nx nh c4 em4 pm4 => ?_⟩
        refine ⟨_, rfl, (q j).d, _, rfl, .inl (s4 _ _ du), fun d' nd' => ⟨(by show 2 ≤ sizeLine; decide), fun r' nr' => ?_⟩⟩
        have s5 := same_new (o := .dK (kv (q j).md)) nd'
        have s6 := same_new (o := .lst [.ref x', .ref d']) nr'
        have s := (s4.trans s5).trans s6
        have nhd' : h' ≠ d' := ne_of_none c4.dc nd'
        have ny := W2.new (y := ⟨r', x', h', d', m', (q j).md⟩) ((s4.trans s5).free nr') nx nh (s4.free nd') nhd'
        obtain ⟨⟨dy, oy⟩, cy⟩ := c4
        have gm' : Good zs m' := ⟨(show (keys m').Perm (keys (q j).m) from pm4.map _).nodup_iff.mpr Wj.gm.nd, fun y hy => Wj.gm.sub y ((show (keys m').Perm (keys (q j).m) from pm4.map _).mem_iff.mp hy), fun e he => Wj.gm.sm e (pm4.mem_iff.mp he)⟩
        have ry : RowAt C (upd (upd H4 d' (.dK (kv (q j).md))) r' (.lst [.ref x', .ref d'])) zs ⟨r', x', h', d', m', (q j).md⟩ :=
          ⟨upd_same, ⟨⟨dy, s6 _ _ (s5 _ _ oy)⟩, s6 _ _ (s5 _ _ cy)⟩, s6 _ _ upd_same, gm', Wj.gd, fun y => (em4 y).trans (Wj.em y)⟩
        have W6 := W2.same s
        refine ⟨_, rfl, _, rfl, a, n2, 3, rfl, W6.R, by omega, by decide, by decide, fun l H7 l0 l1 R7 b7 => ?_⟩
        have W7 := W6.but b7 R7
        have ry7 := ry.but W6.R b7 ny.fr ny.fh ny.fd
        refine ⟨rw, _, l, l.toNat, rfl, rfl, W7.ls, ix3 l0 l1, ?_⟩
        have W8 := W7.set (k' := 3) (j := l.toNat) (fun i hi _ => hi) ry7 ny
        rw [← rv_set (by omega)] at W8
        exact ⟨_, _, _, _, rfl, W8, by omega⟩
      · -- made anew
        refine ⟨_, rfl, _, rfl, a, n2, p, zs, rfl, W2.R, W2.ep, W2.fp, zl, znd, znm, by omega, fun r y d due m md n' H4 h1 h2 h3 h4 hne er c ed g gd em hn' R' b' => ?_⟩
        have W4 := W2.but b' R'
        have ny := W2.new (y := ⟨r, y, d, due, m, md⟩) h1 h2 h3 h4 hne
        refine ⟨_, rfl, _, rfl, rw, _, at_, j, rfl, rfl, W4.ls, by rw [ej]; exact ix3 a0 a1, ?_⟩
        have W5 := W4.set (k' := 3) (j := j) (fun i hi _ => hi) (y := ⟨r, y, d, due, m, md⟩) ⟨er, c, ed, g, gd, em⟩ ny
        rw [← rv_set jl] at W5
        exact ⟨_, _, _, _, rfl, W5, by omega⟩
    rintro σ H4 ⟨q, n3, v9, v10, rfl, W4, hn3⟩
    clear W2 Wj ob dc du nhd zlm zld
    -- right
    refine ⟨fun σ H5 => σ = [some (.ref x), some (.ref a.s), some (.ref p), some (.ref rw), v4, some (.int at_), some (.int way), some (.str z), some (.int v), v9, v10, none, none, none] ∧ LW C [(Pt, qR)] zs a p rw 3 H5 n3 q, ?_, ?_⟩
    · refine ⟨_, rfl, rw, rfl, ⟨_, SqL.of W4.ls⟩, fun D nD => ?_⟩
      have s5 := same_new (o := .lst []) nD
      refine lc_list (K := K) (a := rw) (xs := rv 3 q) (fun i H5 => LamX.ExtN (upd H4 D (.lst [])) H5 ∧ LamX.Tabs [(Pt, qR)] H5) ⟨LamX.ExtN.refl _, W4.T.ext s5⟩ (fun i H5 _ ⟨e5, T5⟩ => SqL.of ((W4.same s5).ext e5 T5).ls) ?_ ?_
      · rintro i y H5 hi ⟨e5, T5⟩
        obtain ⟨il, rfl⟩ := rows_at (q := q) hi
        have W5 := (W4.same s5).ext e5 T5
        have Wi := W5.at_ i il
        refine ⟨(q i).r, _, rfl, SqL.of Wi.ls, rfl, _, _, rfl, _, _, rfl, rfl, rfl, ?_⟩
        refine ⟨_, rfl, _, rfl, _, rfl, (q i).x, (q i).h, (q i).d, p, (q i).m, (q i).md, zs, rfl, ⟨Wi.c, Wi.du, W5.ep⟩, by omega, znm, Wi.gm, Wi.gd, Wi.em, T5, fun H6 e6 T6 => ⟨true, rfl, ?_⟩⟩
        exact iteF ⟨e5.trans e6, T6⟩
      · rintro H5 ⟨e5, T5⟩
        have eD : H5 D = some (.lst []) := e5 _ _ upd_same (by intro _ z; cases z)
        refine ⟨Nat.zero_le _, fun l nl => ?_⟩
        have s6 := same_new (o := .lst []) nl
        refine ⟨.list [], .list [], .lst (SqL.of (s6 _ _ eD)) .nil, .lst (SqL.of upd_same) .nil, by decide, by decide, _, rfl, ?_⟩
        exact iteF ⟨rfl, ((W4.same s5).ext e5 T5).same s6⟩
    rintro σ H5 ⟨rfl, W5⟩
    -- alike
    refine ⟨_, rfl, rw, q, zs, rfl, ⟨W5.ls, W5.at_, W5.d0⟩, fun H6 s6 => ⟨true, rfl, ?_⟩⟩
    exact iteF ⟨_, _, _, _, _, _, _, q, n3, rfl, W5.same s6, by omega⟩
end
end SW

set_option Elab.async false
set_option maxRecDepth 100000
set_option maxHeartbeats 2000000
/-! The law is called where nothing runs: one table of code objects, the script. -/
namespace SW
open PySem PySem.Spec PyProof.Rows L2
abbrev emptyTab : Obj := { cls := .none, data := .fields #[] }
abbrev listOf (us : List Value) : Obj := { cls := .type "list", data := .seq us.toArray }
section
variable {P : Program} {w : World} {K : PySem.W.Frag} {mg mb : Str → Option Value} {s : Shared} {us : List Value} {ns : List Int} {tb sc : Addr}
/-- what is told at the start: the table, and the script where the written part does not hold it -/
theorem first_hp (hs : s.heap.get? sc = some (listOf us)) (ht : s.heap.get? tb = some emptyTab) (KX : K.In s.heap) (inz : IntsAre us ns) (few : ns.length ≤ sizeLine) :
    ∃ H : Hp, H tb = some (.tbl #[]) ∧ SqL K H sc (ns.map V.int) ∧ HOk P w H s.heap ∧ ∀ b u, H b = some u → (b = tb) ∨ (b = sc ∧ K.lookup sc = none ∧ ∃ o xs, u = .frz o (.lst xs)) := by
  have ne : tb ≠ sc := fun e => by
    rw [e, hs] at ht
    cases ht
  have vi := vals_ints inz
  have li := inz.length
  cases kl : K.lookup sc with
  | some o =>
    have eo : o = listOf us := Option.some.inj ((KX sc o kl).symm.trans hs)
    refine ⟨upd (fun _ => none) tb (.tbl #[]), upd_same, .inr ⟨o, us.toArray, 0, kl, by rw [eo], by rw [eo], by rw [eo], by rw [List.size_toArray, li]; exact few, by simpa using vi⟩, fun b u e => ?_, fun b u e => ?_⟩
    · by_cases hb : b = tb
      · rw [hb, upd_same] at e
        cases e
        rw [hb]
        exact ht
      · rw [upd_ne hb] at e
        cases e
    · by_cases hb : b = tb
      · exact .inl hb
      · rw [upd_ne hb] at e
        cases e
  | none =>
    refine ⟨upd (upd (fun _ => none) tb (.tbl #[])) sc (.frz (listOf us) (.lst (ns.map V.int))), by rw [upd_ne ne, upd_same], .inl (.inr ⟨listOf us, upd_same⟩), fun b u e => ?_, fun b u e => ?_⟩
    · by_cases hb : b = sc
      · rw [hb, upd_same] at e
        cases e
        rw [hb]
        exact ⟨hs, by rw [List.length_map]; exact few, us, 0, vi, hs⟩
      · rw [upd_ne hb] at e
        by_cases hb2 : b = tb
        · rw [hb2, upd_same] at e
          cases e
          rw [hb2]
          exact ht
        · rw [upd_ne hb2] at e
          cases e
    · by_cases hb : b = sc
      · rw [hb, upd_same] at e
        cases e
        exact .inr ⟨hb, rfl, _, _, rfl⟩
      · rw [upd_ne hb] at e
        by_cases hb2 : b = tb
        · exact .inl hb2
        · rw [upd_ne hb2] at e
          cases e
/-- the law's promise is called -/
theorem call_law {k : Nat} {fa c : Addr} {fd : FuncData} {x : Str} {sp : Sp} (KX : K.In s.heap) (gl : s.heap.Ns mainGlobals mg) (bl : s.heap.Ns builtinsNs mb) (bb : ∀ x : Str, x ≠ "__name__" → mb x = bootBuiltins x) (nl : s.heap.NoLimit) (ge : s.gens = #[])
    (ht : s.heap.get? tb = some emptyTab) (nt : K.lookup tb = none) (hc : PySem.W.CodeHd s.heap c tb)
    (bm : ∃ (m : Addr) (o : Obj), mg "__builtins__" = some (.ref m) ∧ m ≠ builtinsNs ∧ s.heap.get? m = some o ∧ o.cls = .type "module" ∧ o.dict = some builtinsNs ∧ o.data = .plain)
    (hs : s.heap.get? sc = some (listOf us)) (inz : IntsAre us ns) (few : ns.length ≤ sizeLine) (hr : Room k callerA)
    (F : ∀ base : Heap, K.In base → base.Ns mainGlobals mg → LamX.TabB base mg c tb → FnG P w K mg base k fa fd [x] sp) (bd : ∀ (s : Shared) (u : Value), BindsTo s fd ⟨[u], []⟩ [(x, u)])
    (pr : ∀ H : Hp, H tb = some (.tbl #[]) → SqL K H sc (ns.map V.int) → sp [.ref sc] H (fun v _ => v = .bl true) fun _ _ _ => False) :
    codeAny (model P w) callerA (.call (.ref fa) ⟨[.ref sc], []⟩) (fun r s' => r = .ok (.ret (.bool true)) ∧ OldK s.heap s'.heap ∧ s'.os = s.os ∧ AllBare s'.gens) s := by
  obtain ⟨H, hT, hS, ok, only⟩ := first_hp (P := P) (w := w) hs ht KX inz few
  -- an object of the state that is none of the told ones stands in the base
  have stays : ∀ {b : Addr} {o : Obj}, s.heap.get? b = some o → (b = tb → False) → (b = sc → K.lookup sc = none → False) → (hidT s.heap H).get? b = some o := fun {b o} e h1 h2 => hidT_get e (by
    cases q : H b with
    | none => rfl
    | some u =>
      rcases only b u q with z | ⟨z, z2, _⟩
      · exact (h1 z).elim
      · exact (h2 z z2).elim)
  have other : ∀ {b : Addr} {o : Obj}, s.heap.get? b = some o → o ≠ emptyTab → o ≠ listOf us → (hidT s.heap H).get? b = some o := fun {b o} e h1 h2 =>
    stays e (fun z => h1 (Option.some.inj ((by rw [← e, z]; exact ht)))) (fun z _ => h2 (Option.some.inj ((by rw [← e, z]; exact hs))))
  have kb : K.In (hidT s.heap H) := fun b o e => stays (KX b o e) (fun z => by rw [z, nt] at e; cases e) fun z z2 => by rw [z, z2] at e; cases e
  have dict_ : ∀ {b : Addr} {m : Str → Option Value}, s.heap.Ns b m → (hidT s.heap H).Ns b m := fun {b m} h => by
    obtain ⟨o, es, ep, e, d, r⟩ := h
    exact ⟨o, es, ep, other e (fun z => by rw [z] at d; cases d) (fun z => by rw [z] at d; cases d), d, r⟩
  have md : L2.Mod K mg (hidT s.heap H) := by
    obtain ⟨mc, q1, q2⟩ := nl
    exact ⟨kb, dict_ gl, ⟨mb, dict_ bl, bb⟩, mc, dict_ q1, q2⟩
  have TB : LamX.TabB (hidT s.heap H) mg c tb := by
    refine ⟨?_, ?_, fun z => ?_⟩
    · obtain ⟨o, vs, file, tf, flags, tg, inF, text, tt, e1, r1, r2, r3, rest⟩ := hc
      refine ⟨o, vs, file, tf, flags, tg, inF, text, tt, other e1 (fun z => ?_) (fun z => ?_), r1, r2, r3, rest⟩
      · rw [z] at r2
        cases r2
        simp at r3
      · rw [z] at r2
        cases r2
    · obtain ⟨m, o, b1, b2, b3, b4, b5, b6⟩ := bm
      refine ⟨m, o, b1, b2, fun q => ?_, fun q => ?_, other b3 (fun z => by rw [z] at b6; cases b6) (fun z => by rw [z] at b6; cases b6), b4, b5, b6⟩
      · obtain ⟨o2, es, ep, e, d, _⟩ := gl
        rw [q, e] at b3
        cases b3
        rw [d] at b6
        cases b6
      · rw [q, ht] at b3
        cases b3
        cases b6
    · obtain ⟨o2, es, ep, e, d, _⟩ := gl
      rw [z, ht] at e
      cases e
      cases d
  have e0 : Env0 P w K mg (hidT s.heap H) callerA [] s H := ⟨rfl, md, fun b o e => of_hidT e, Nat.le_of_eq (hidT_size _ _), trivial, (fun b hb => by cases hb), ok, .of_eq ge⟩
  refine codeAny_mono ((F _ kb (dict_ gl) TB).run callerA [] s H [.ref sc] [.ref sc] _ _ rfl hr e0 (bd s (.ref sc)) (.cons rfl .nil) (pr H hT hS)) fun r s' h => ?_
  match r, h with
  | .ok (.ret u), ⟨v, H', os, bare, un, ok', rv, q⟩ =>
    have ev : v = .bl true := q
    rw [ev] at rv
    have eu : u = Value.bool true := rv
    obtain ⟨more, gr⟩ := un.tbls tb #[] hT
    have tab' : s'.heap.get? tb = some { cls := .none, data := .fields (#[] ++ more) } := ok' tb _ gr
    have old : ∀ b o, b ≠ tb → s.heap.get? b = some o → s'.heap.get? b = some o := fun b o nb e => by
      cases q : H b with
      | none => exact un.keep b o e q (by intro z; cases z) (by simp)
      | some u =>
        rcases only b u q with z | ⟨_, _, o2, xs, z⟩
        · exact absurd z nb
        · rw [z] at q
          have a1 := (ok b _ q).1
          have a2 := (ok' b _ (un.frzs b o2 _ q)).1
          rw [e] at a1
          cases a1
          exact a2
    refine ⟨by rw [eu], ⟨fun b o e => ?_, fun b o e => ?_⟩, os, bare⟩
    · by_cases hb : b = tb
      · rw [hb, ht] at e
        cases e
        rw [hb]
        exact .inr (.inl ⟨(hc.tab ht).isCodeTable, rfl, #[], more, rfl, tab'⟩)
      · exact .inl (old b o hb e)
    · by_cases hb : b = tb
      · rw [hb]
        exact ⟨_, tab'⟩
      · exact ⟨o, old b o hb e⟩
end
end SW

set_option Elab.async false
set_option maxRecDepth 100000
set_option maxHeartbeats 2000000
/-! What the top has written, and the claim. -/
namespace SW
open PySem PySem.Spec PyProof.Rows L2
theorem exm_own {K : PySem.W.Frag} {S : Addr} (h1 : PySem.W.subIn K (.ref S) (.type "BaseException") = some true) (h2 : PySem.W.isClsIn K S = true) (h3 : PySem.W.typeIn K (.ref S) = some (.type "type")) (h4 : PySem.W.subIn K (.ref S) (.ref S) = some true) : PySem.W.exmOne K (.ref S) (.ref S) = some true := by
  have a : (PySem.W.subIn K (.ref S) (.type "BaseException") == some true) = true := by rw [h1] <;> rfl
  have b : ((PySem.W.clsIn K S).isSome && PySem.W.typeIn K (.ref S) == some (.type "type")) = true := by
    have c : (PySem.W.clsIn K S).isSome = true := h2
    rw [c, h3] <;> rfl
  unfold PySem.W.exmOne
  rw [if_pos a]
  unfold PySem.W.kitCls
  exact (if_pos b).trans h4
theorem walkG {l : PySem.W.OpenLaw} {q : Program} {loose : List Str} {XP : (Str → Option Value) → Heap → Prop} {YP : World → Heap → Prop} {d : DefRec} {K : Params → PySem.W.Frag} {tb : Addr} (hn : l.most = some 63) (hdf : d.params.defaults = [])
    (hY : ∀ (w : World) (h : Heap), YP w h → (K w.params).In h) (hT : ∀ (w : World) (h : Heap), YP w h → h.get? tb = some emptyTab)
    (F : ∀ (w : World) (mg : Str → Option Value) (fa : Addr) (h : Heap), (K w.params).In h → h.Ns mainGlobals mg → mg d.name = some (.ref fa) →
      ∃ (fd : FuncData) (c : Addr), (∀ (s : Shared) (u : Value), BindsTo s fd ⟨[u], []⟩ [("script", u)]) ∧ PySem.W.codeHdIn (K w.params) c tb = true ∧ (K w.params).lookup tb = none ∧ ∀ base : Heap, (K w.params).In base → base.Ns mainGlobals mg → LamX.TabB base mg c tb → FnG l.prog w (K w.params) mg base 8 fa fd ["script"] (spLaw (K w.params) [(tb, qR)])) :
    PySem.W.WalkO q loose XP YP l.row.toRowW d [] (fun f vs => PySem.call f vs) := by
  refine Att.attach_callB hn hdf fun w s0 s mg mb fa o pm cd doc a vs ns G Y _ _ _ hmg obj inz few _ ge => ?_
  have KX := hY w _ Y
  obtain ⟨fd, c, bd, hd, nt, GF⟩ := F w mg fa _ KX G.T.g hmg
  exact call_law KX G.T.g G.T.b G.T.builtins G.T.nolimit ge (hT w _ Y) nt (PySem.W.codeHd_of_K KX hd) G.T.bmain obj inz (Nat.le_trans few (by decide)) ⟨rfl, by decide, by decide⟩ GF bd
    fun H h1 h2 => ⟨a, ns, rfl, h2, few, fun p hp => by rw [List.mem_singleton.mp hp]; exact LamX.TabS.nil h1, fun _ => rfl⟩
theorem all_mk {P : Program} {w : World} {K : PySem.W.Frag} {h : Heap} {mg : Str → Option Value} {fa C CF tb : Addr} (X : K.In h) (G : h.Ns mainGlobals mg) (hfa : mg "law" = some (.ref fa))
    {fI : Addr} {odI anI : Option Addr} {slI : Array (Option Value)} {ocI kVI dcI pmI cdI ctI : Value}
    {fG : Addr} {odG anG : Option Addr} {slG : Array (Option Value)} {ocG kVG dcG pmG cdG ctG : Value}
    {fH : Addr} {odH anH : Option Addr} {slH : Array (Option Value)} {ocH kVH dcH pmH cdH ctH : Value}
    {fL : Addr} {odL anL : Option Addr} {slL : Array (Option Value)} {ocL kVL dcL pmL cdL ctL : Value}
    {fE : Addr} {odE anE : Option Addr} {slE : Array (Option Value)} {ocE kVE dcE pmE cdE ctE : Value}
    {fP : Addr} {odP anP : Option Addr} {slP : Array (Option Value)} {ocP kVP dcP pmP cdP ctP : Value}
    {fS : Addr} {odS anS : Option Addr} {slS : Array (Option Value)} {ocS kVS dcS pmS cdS ctS : Value}
    {fD : Addr} {odD anD : Option Addr} {slD : Array (Option Value)} {ocD kVD dcD pmD cdD ctD : Value}
    {fY : Addr} {odY anY : Option Addr} {slY : Array (Option Value)} {ocY kVY dcY pmY cdY ctY : Value}
    {fW : Addr} {odW anW : Option Addr} {slW : Array (Option Value)} {ocW kVW dcW pmW cdW ctW : Value}
    {gx : Addr} {odx anx : Option Addr} {slx : Array (Option Value)} {ocx kVx dcx pmx cdx ctx : Value}
    {gb : Addr} {odb anb : Option Addr} {slb : Array (Option Value)} {ocb kVb dcb pmb cdb ctb : Value}
    {gd : Addr} {odd and : Option Addr} {sld : Array (Option Value)} {ocd kVd dcd pmd cdd ctd : Value}
    {gn : Addr} {odn ann : Option Addr} {sln : Array (Option Value)} {ocn kVn dcn pmn cdn ctn : Value}
    {gm : Addr} {odm anm : Option Addr} {slm : Array (Option Value)} {ocm kVm dcm pmm cdm ctm : Value}
    {gf : Addr} {odf anf : Option Addr} {slf : Array (Option Value)} {ocf kVf dcf pmf cdf ctf : Value}
    {gv : Addr} {odv anv : Option Addr} {slv : Array (Option Value)} {ocv kVv dcv pmv cdv ctv : Value}
    {gr : Addr} {odr anr : Option Addr} {slr : Array (Option Value)} {ocr kVr dcr pmr ctr : Value}
    {gk : Addr} {odk ank : Option Addr} {slk : Array (Option Value)} {ock kVk dck pmk cdk ctk : Value}
    {ga : Addr} {oda ana : Option Addr} {sla : Array (Option Value)} {oca kVa dca pma cda cta : Value}
    {gl : Addr} {odl anl : Option Addr} {sll : Array (Option Value)} {ocl kVl dcl pml cdl ctl : Value}
    {cR Td T0 fX : Addr} {ocT : Value} {odT od0 : Option Addr} {slT sl0 : Array (Option Value)} {nT n0 : Nat}
    {nm q : Str} {N : Addr} {bs : List Value} {sn : List Str} {sub : List Value} {abb : Bool} {col : Option Bool} {dd : Option Addr} {m0 m1 m2 m3 m5 : Option Value} {odX anX : Option Addr} {slX : Array (Option Value)} {ocX dcX pmX cdX ctX : Value}
    (aC : PySem.W.nsIn K mainGlobals "Context" = some (some (.ref C)))
    (aF : PySem.W.nsIn K mainGlobals "Fails" = some (some (.ref CF)))
    (aI : PySem.W.findIn K (.ref C) "__init__" = some (some (.ref fI)))
    (iI : PySem.W.isFn K (.ref fI) = true)
    (lI : K.lookup fI = some ⟨ocI, odI, .func (PySem.W.fnOf "__init__" "Context.__init__" (defArgs sInit) (defBody sInit) (defScope sInit) (.ref Td) kVI dcI pmI anI cdI ctI), slI⟩)
    (cI : PySem.W.codeIn K cdI "Context.__init__" = true)
    (kI : PySem.W.keepIn K (.ref fI) = true)
    (aG : PySem.W.findIn K (.ref C) "__getitem__" = some (some (.ref fG)))
    (iG : PySem.W.isFn K (.ref fG) = true)
    (lG : K.lookup fG = some ⟨ocG, odG, .func (PySem.W.fnOf "__getitem__" "Context.__getitem__" (defArgs sGet) (defBody sGet) (defScope sGet) .none kVG dcG pmG anG cdG ctG), slG⟩)
    (cG : PySem.W.codeIn K cdG "Context.__getitem__" = true)
    (kG : PySem.W.keepIn K (.ref fG) = true)
    (aH : PySem.W.findIn K (.ref C) "__contains__" = some (some (.ref fH)))
    (iH : PySem.W.isFn K (.ref fH) = true)
    (lH : K.lookup fH = some ⟨ocH, odH, .func (PySem.W.fnOf "__contains__" "Context.__contains__" (defArgs sHas) (defBody sHas) (defScope sHas) .none kVH dcH pmH anH cdH ctH), slH⟩)
    (cH : PySem.W.codeIn K cdH "Context.__contains__" = true)
    (kH : PySem.W.keepIn K (.ref fH) = true)
    (aL : PySem.W.findIn K (.ref C) "__len__" = some (some (.ref fL)))
    (iL : PySem.W.isFn K (.ref fL) = true)
    (lL : K.lookup fL = some ⟨ocL, odL, .func (PySem.W.fnOf "__len__" "Context.__len__" (defArgs sLen) (defBody sLen) (defScope sLen) .none kVL dcL pmL anL cdL ctL), slL⟩)
    (cL : PySem.W.codeIn K cdL "Context.__len__" = true)
    (kL : PySem.W.keepIn K (.ref fL) = true)
    (aE : PySem.W.findIn K (.ref C) "__eq__" = some (some (.ref fE)))
    (iE : PySem.W.isFn K (.ref fE) = true)
    (lE : K.lookup fE = some ⟨ocE, odE, .func (PySem.W.fnOf "__eq__" "Context.__eq__" (defArgs sEq) (defBody sEq) (defScope sEq) .none kVE dcE pmE anE cdE ctE), slE⟩)
    (cE : PySem.W.codeIn K cdE "Context.__eq__" = true)
    (kE : PySem.W.keepIn K (.ref fE) = true)
    (aP : PySem.W.findIn K (.ref C) "pairs" = some (some (.ref fP)))
    (iP : PySem.W.isFn K (.ref fP) = true)
    (lP : K.lookup fP = some ⟨ocP, odP, .func (PySem.W.fnOf "pairs" "Context.pairs" (defArgs sPairs) (defBody sPairs) (defScope sPairs) .none kVP dcP pmP anP cdP ctP), slP⟩)
    (cP : PySem.W.codeIn K cdP "Context.pairs" = true)
    (kP : PySem.W.keepIn K (.ref fP) = true)
    (aS : PySem.W.findIn K (.ref C) "__setitem__" = some (some (.ref fS)))
    (iS : PySem.W.isFn K (.ref fS) = true)
    (lS : K.lookup fS = some ⟨ocS, odS, .func (PySem.W.fnOf "__setitem__" "Context.__setitem__" (defArgs sSet) (defBody sSet) (defScope sSet) .none kVS dcS pmS anS cdS ctS), slS⟩)
    (cS : PySem.W.codeIn K cdS "Context.__setitem__" = true)
    (kS : PySem.W.keepIn K (.ref fS) = true)
    (aD : PySem.W.findIn K (.ref C) "drop" = some (some (.ref fD)))
    (iD : PySem.W.isFn K (.ref fD) = true)
    (lD : K.lookup fD = some ⟨ocD, odD, .func (PySem.W.fnOf "drop" "Context.drop" (defArgs sDrop) (defBody sDrop) (defScope sDrop) .none kVD dcD pmD anD cdD ctD), slD⟩)
    (cD : PySem.W.codeIn K cdD "Context.drop" = true)
    (kD : PySem.W.keepIn K (.ref fD) = true)
    (aY : PySem.W.findIn K (.ref C) "copy" = some (some (.ref fY)))
    (iY : PySem.W.isFn K (.ref fY) = true)
    (lY : K.lookup fY = some ⟨ocY, odY, .func (PySem.W.fnOf "copy" "Context.copy" (defArgs sCopy) (defBody sCopy) (defScope sCopy) .none kVY dcY pmY anY cdY ctY), slY⟩)
    (cY : PySem.W.codeIn K cdY "Context.copy" = true)
    (kY : PySem.W.keepIn K (.ref fY) = true)
    (aW : PySem.W.findIn K (.ref C) "is_same" = some (some (.ref fW)))
    (iW : PySem.W.isFn K (.ref fW) = true)
    (lW : K.lookup fW = some ⟨ocW, odW, .func (PySem.W.fnOf "is_same" "Context.is_same" (defArgs sSame) (defBody sSame) (defScope sSame) .none kVW dcW pmW anW cdW ctW), slW⟩)
    (cW : PySem.W.codeIn K cdW "Context.is_same" = true)
    (kW : PySem.W.keepIn K (.ref fW) = true)
    (ax : PySem.W.nsIn K mainGlobals "_law_mixed" = some (some (.ref gx)))
    (lx : K.lookup gx = some ⟨ocx, odx, .func (PySem.W.fnOf "_law_mixed" "_law_mixed" (defArgs sMixed) (defBody sMixed) (defScope sMixed) .none kVx dcx pmx anx cdx ctx), slx⟩)
    (cx : PySem.W.codeIn K cdx "_law_mixed" = true)
    (kx : PySem.W.keepIn K (.ref gx) = true)
    (ab : PySem.W.nsIn K mainGlobals "_law_begin" = some (some (.ref gb)))
    (lb : K.lookup gb = some ⟨ocb, odb, .func (PySem.W.fnOf "_law_begin" "_law_begin" (defArgs sBegin) (defBody sBegin) (defScope sBegin) .none kVb dcb pmb anb cdb ctb), slb⟩)
    (cb : PySem.W.codeIn K cdb "_law_begin" = true)
    (kb : PySem.W.keepIn K (.ref gb) = true)
    (ad : PySem.W.nsIn K mainGlobals "_law_draw" = some (some (.ref gd)))
    (ld : K.lookup gd = some ⟨ocd, odd, .func (PySem.W.fnOf "_law_draw" "_law_draw" (defArgs sDraw) (defBody sDraw) (defScope sDraw) .none kVd dcd pmd and cdd ctd), sld⟩)
    (cd : PySem.W.codeIn K cdd "_law_draw" = true)
    (kd : PySem.W.keepIn K (.ref gd) = true)
    (an : PySem.W.nsIn K mainGlobals "_law_name" = some (some (.ref gn)))
    (ln : K.lookup gn = some ⟨ocn, odn, .func (PySem.W.fnOf "_law_name" "_law_name" (defArgs sName) (defBody sName) (defScope sName) .none kVn dcn pmn ann cdn ctn), sln⟩)
    (cn : PySem.W.codeIn K cdn "_law_name" = true)
    (kn : PySem.W.keepIn K (.ref gn) = true)
    (am : PySem.W.nsIn K mainGlobals "_law_names" = some (some (.ref gm)))
    (lm : K.lookup gm = some ⟨ocm, odm, .func (PySem.W.fnOf "_law_names" "_law_names" (defArgs sNames) (defBody sNames) (defScope sNames) .none kVm dcm pmm anm cdm ctm), slm⟩)
    (cm : PySem.W.codeIn K cdm "_law_names" = true)
    (km : PySem.W.keepIn K (.ref gm) = true)
    (af : PySem.W.nsIn K mainGlobals "_law_fails" = some (some (.ref gf)))
    (lf : K.lookup gf = some ⟨ocf, odf, .func (PySem.W.fnOf "_law_fails" "_law_fails" (defArgs sFails) (defBody sFails) (defScope sFails) .none kVf dcf pmf anf cdf ctf), slf⟩)
    (cf : PySem.W.codeIn K cdf "_law_fails" = true)
    (kf : PySem.W.keepIn K (.ref gf) = true)
    (av : PySem.W.nsIn K mainGlobals "_law_value" = some (some (.ref gv)))
    (lv : K.lookup gv = some ⟨ocv, odv, .func (PySem.W.fnOf "_law_value" "_law_value" (defArgs sValue) (defBody sValue) (defScope sValue) .none kVv dcv pmv anv cdv ctv), slv⟩)
    (cv : PySem.W.codeIn K cdv "_law_value" = true)
    (kv : PySem.W.keepIn K (.ref gv) = true)
    (ar : PySem.W.nsIn K mainGlobals "_law_right" = some (some (.ref gr)))
    (lr : K.lookup gr = some ⟨ocr, odr, .func (PySem.W.fnOf "_law_right" "_law_right" (defArgs sRight) (defBody sRight) (defScope sRight) .none kVr dcr pmr anr (.ref cR) ctr), slr⟩)
    (cr : PySem.W.codeIn K (.ref cR) "_law_right" = true)
    (kr : PySem.W.keepIn K (.ref gr) = true)
    (ak : PySem.W.nsIn K mainGlobals "_law_made" = some (some (.ref gk)))
    (lk : K.lookup gk = some ⟨ock, odk, .func (PySem.W.fnOf "_law_made" "_law_made" (defArgs sMade) (defBody sMade) (defScope sMade) .none kVk dck pmk ank cdk ctk), slk⟩)
    (ck : PySem.W.codeIn K cdk "_law_made" = true)
    (kk : PySem.W.keepIn K (.ref gk) = true)
    (aa : PySem.W.nsIn K mainGlobals "_law_alike_right" = some (some (.ref ga)))
    (la : K.lookup ga = some ⟨oca, oda, .func (PySem.W.fnOf "_law_alike_right" "_law_alike_right" (defArgs sAlike) (defBody sAlike) (defScope sAlike) .none kVa dca pma ana cda cta), sla⟩)
    (ca : PySem.W.codeIn K cda "_law_alike_right" = true)
    (ka : PySem.W.keepIn K (.ref ga) = true)
    (al : PySem.W.nsIn K mainGlobals "law" = some (some (.ref gl)))
    (ll : K.lookup gl = some ⟨ocl, odl, .func (PySem.W.fnOf "law" "law" (defArgs sLaw) (defBody sLaw) (defScope sLaw) .none kVl dcl pml anl cdl ctl), sll⟩)
    (cl : PySem.W.codeIn K cdl "law" = true)
    (kl : PySem.W.keepIn K (.ref gl) = true)
    (lT : K.lookup Td = some ⟨ocT, odT, .seq #[.ref T0] nT, slT⟩)
    (l0 : K.lookup T0 = some ⟨.type "tuple", od0, .seq #[] n0, sl0⟩)
    (hdR : PySem.W.codeHdIn K cR tb = true)
    (ntR : K.lookup tb = none)
    (pg : PySem.W.plainGet K C Str.empty = true)
    (hd : PySem.W.hasDictIn K C = true)
    (po : PySem.W.plainOver K C = true)
    (sa : PySem.W.findIn K (.ref C) "__setattr__" = some (some (.builtin "object.__setattr__")))
    (mk : PySem.W.makesIn K C = true)
    (kc : PySem.W.keepIn K (.ref C) = true)
    (nB : PySem.W.findIn K (.ref C) "is_busy" = some none)
    (nH : PySem.W.findIn K (.ref C) "_held" = some none)
    (sN : PySem.W.findIn K (.ref C) "__ne__" = some (some (.builtin "object.__ne__")))
    (ob : PySem.W.subIn K (.ref C) (.type "object") = some true)
    (jG : PySem.W.fnIn K fG = true)
    (nq : PySem.W.noSeq K C = true)
    (nfC : PySem.W.notFirst K C (.ref C) = true)
    (kCC : PySem.W.kitOne K (.ref C) (.ref C) = some true)
    (hC : PySem.W.findIn K (.ref C) "__class__" = some (some (.builtin "object.__class__")))
    (hN : PySem.W.specialIn K (.builtin "object.__class__") "__get__" = some (some (.builtin "getset_descriptor.__get__")))
    (hT : PySem.W.takesIn K (.builtin "object.__class__") = some true)
    (hM : PySem.W.mroIn K C (.type "object") = some true)
    (u0 : PySem.W.notFirst K C (.type "dict") = true)
    (w0 : PySem.W.kitOne K (.type "dict") (.ref C) = some false)
    (u1 : PySem.W.notFirst K C (.type "NoneType") = true)
    (w1 : PySem.W.kitOne K (.type "NoneType") (.ref C) = some false)
    (u2 : PySem.W.notFirst K C (.type "int") = true)
    (w2 : PySem.W.kitOne K (.type "int") (.ref C) = some false)
    (u3 : PySem.W.notFirst K C (.type "str") = true)
    (w3 : PySem.W.kitOne K (.type "str") (.ref C) = some false)
    (u4 : PySem.W.notFirst K C (.type "tuple") = true)
    (w4 : PySem.W.kitOne K (.type "tuple") (.ref C) = some false)
    (xL : K.lookup CF = some (excClassObj nm q CF N bs PySem.ReX.reTail true sn sub abb col dd m0 m1 m2 m3 m5 "RuntimeError.__new__"))
    (saF : PySem.W.findIn K (.ref CF) "__setattr__" = some (some (.builtin "object.__setattr__")))
    (gaF : PySem.W.findIn K (.ref CF) "__getattribute__" = some (some (.builtin "BaseException.__getattribute__")))
    (ggF : PySem.W.findIn K (.ref CF) "__getattr__" = some none)
    (nbF : PySem.W.findIn K (.ref CF) "word" = some none)
    (aX : PySem.W.findIn K (.ref CF) "__init__" = some (some (.ref fX)))
    (tX : PySem.W.typeIn K (.ref fX) = some (.type "function"))
    (lX : K.lookup fX = some ⟨ocX, odX, .func (PySem.W.fnOf "__init__" "Fails.__init__" (PySem.ReX.iA ⟨4, 17, 4, 21⟩ ⟨4, 23, 4, 27⟩) (PySem.ReX.iB ⟨5, 8, 5, 12⟩ ⟨5, 8, 5, 17⟩ ⟨5, 20, 5, 24⟩ ⟨5, 8, 5, 24⟩) PySem.ReX.iS .none .none dcX pmX anX cdX ctX), slX⟩)
    (cX : PySem.W.codeIn K cdX "Fails.__init__" = true)
    (kF : PySem.W.keepIn K (.ref CF) = true)
    (eF : PySem.W.subIn K (.ref CF) (.type "BaseException") = some true)
    (tF : PySem.W.typeIn K (.ref CF) = some (.type "type"))
    (hF : PySem.W.hasDictIn K CF = true)
    (iF : PySem.W.isClsIn K CF = true)
    (sF : PySem.W.subIn K (.ref CF) (.ref CF) = some true)
    (hF1 : PySem.W.findIn K (.ref CF) "__class__" = some (some (.builtin "object.__class__")))
    (hF2 : PySem.W.mroIn K CF (.type "object") = some true)
    (kRE : PySem.W.kitOne K (.ref CF) (.type "RuntimeError") = some true)
    (kVLk : PySem.W.kitAny K (.ref CF) [.type "ValueError", .type "LookupError"] = some false)
    (z_len : PySem.W.nsIn K mainGlobals "len" = some none)
    (z_repr : PySem.W.nsIn K mainGlobals "repr" = some none)
    (z_tuple : PySem.W.nsIn K mainGlobals "tuple" = some none)
    (z_sorted : PySem.W.nsIn K mainGlobals "sorted" = some none)
    (z_range : PySem.W.nsIn K mainGlobals "range" = some none)
    (z_list : PySem.W.nsIn K mainGlobals "list" = some none)
    (z_int : PySem.W.nsIn K mainGlobals "int" = some none)
    (z_dict : PySem.W.nsIn K mainGlobals "dict" = some none)
    (z_isinstance : PySem.W.nsIn K mainGlobals "isinstance" = some none)
    (z_RuntimeError : PySem.W.nsIn K mainGlobals "RuntimeError" = some none)
    (z_ValueError : PySem.W.nsIn K mainGlobals "ValueError" = some none)
    (z_LookupError : PySem.W.nsIn K mainGlobals "LookupError" = some none) :
    ∃ (fd : FuncData) (c : Addr), (∀ (s : Shared) (u : Value), BindsTo s fd ⟨[u], []⟩ [("script", u)]) ∧ PySem.W.codeHdIn K c tb = true ∧ K.lookup tb = none ∧ ∀ base : Heap, K.In base → base.Ns mainGlobals mg → LamX.TabB base mg c tb → FnG P w K mg base 8 fa fd ["script"] (spLaw K [(tb, qR)]) := by
  have e := hfa.symm.trans (PySem.W.mg_of X G al)
  cases e
  have m_len := PySem.W.mg_none_of X G z_len
  have m_repr := PySem.W.mg_none_of X G z_repr
  have m_tuple := PySem.W.mg_none_of X G z_tuple
  have m_sorted := PySem.W.mg_none_of X G z_sorted
  have m_range := PySem.W.mg_none_of X G z_range
  have m_list := PySem.W.mg_none_of X G z_list
  have m_int := PySem.W.mg_none_of X G z_int
  have m_dict := PySem.W.mg_none_of X G z_dict
  have m_isinstance := PySem.W.mg_none_of X G z_isinstance
  have m_RuntimeError := PySem.W.mg_none_of X G z_RuntimeError
  have m_ValueError := PySem.W.mg_none_of X G z_ValueError
  have m_LookupError := PySem.W.mg_none_of X G z_LookupError
  have FG := fun_mk (st := sGet) lG cG kG
  have FH := fun_mk (st := sHas) lH cH kH
  have FL := fun_mk (st := sLen) lL cL kL
  have FE := fun_mk (st := sEq) lE cE kE
  have FP := fun_mk (st := sPairs) lP cP kP
  have FS := fun_mk (st := sSet) lS cS kS
  have FD := fun_mk (st := sDrop) lD cD kD
  have FY := fun_mk (st := sCopy) lY cY kY
  have FW := fun_mk (st := sSame) lW cW kW
  have Fx := fun_mk (st := sMixed) lx cx kx
  have Fb := fun_mk (st := sBegin) lb cb kb
  have Fd := fun_mk (st := sDraw) ld cd kd
  have Fn := fun_mk (st := sName) ln cn kn
  have Fm := fun_mk (st := sNames) lm cm km
  have Ff := fun_mk (st := sFails) lf cf kf
  have Fv := fun_mk (st := sValue) lv cv kv
  have Fk := fun_mk (st := sMade) lk ck kk
  have bG' := FG.binds (ps := ["self", "variable"]) fun _ _ _ _ _ _ us hl => match us, hl with | [_, _], _ => rfl
  have bH' := FH.binds (ps := ["self", "variable"]) fun _ _ _ _ _ _ us hl => match us, hl with | [_, _], _ => rfl
  have bL' := FL.binds (ps := ["self"]) fun _ _ _ _ _ _ us hl => match us, hl with | [_], _ => rfl
  have bE' := FE.binds (ps := ["self", "other"]) fun _ _ _ _ _ _ us hl => match us, hl with | [_, _], _ => rfl
  have bP' := FP.binds (ps := ["self"]) fun _ _ _ _ _ _ us hl => match us, hl with | [_], _ => rfl
  have bS' := FS.binds (ps := ["self", "variable", "value"]) fun _ _ _ _ _ _ us hl => match us, hl with | [_, _, _], _ => rfl
  have bD' := FD.binds (ps := ["self", "variable"]) fun _ _ _ _ _ _ us hl => match us, hl with | [_, _], _ => rfl
  have bY' := FY.binds (ps := ["self"]) fun _ _ _ _ _ _ us hl => match us, hl with | [_], _ => rfl
  have bW' := FW.binds (ps := ["self", "other"]) fun _ _ _ _ _ _ us hl => match us, hl with | [_, _], _ => rfl
  have bx' := Fx.binds (ps := ["cell", "k"]) fun _ _ _ _ _ _ us hl => match us, hl with | [_, _], _ => rfl
  have bb' := Fb.binds (ps := ["script"]) fun _ _ _ _ _ _ us hl => match us, hl with | [_], _ => rfl
  have bd' := Fd.binds (ps := ["state", "many"]) fun _ _ _ _ _ _ us hl => match us, hl with | [_, _], _ => rfl
  have bn' := Fn.binds (ps := ["state"]) fun _ _ _ _ _ _ us hl => match us, hl with | [_], _ => rfl
  have bm' := Fm.binds (ps := ["state", "many"]) fun _ _ _ _ _ _ us hl => match us, hl with | [_, _], _ => rfl
  have bf' := Ff.binds (ps := ["asked"]) fun _ _ _ _ _ _ us hl => match us, hl with | [_], _ => rfl
  have bv' := Fv.binds (ps := ["state"]) fun _ _ _ _ _ _ us hl => match us, hl with | [_], _ => rfl
  have bk' := Fk.binds (ps := ["state", "names"]) fun _ _ _ _ _ _ us hl => match us, hl with | [_, _], _ => rfl
  have T : TxC K mg C := ⟨⟨pg, hd, po, sa⟩, nB, nH, PySem.W.mg_of X G aC⟩
  have M : Mk K C fI := ⟨mk, aI, iI, kc⟩
  have FI : FunD K "__init__" "Context.__init__" (defArgs sInit) (defBody sInit) (defScope sInit) [.ref T0] [] fI (PySem.W.fnOf "__init__" "Context.__init__" (defArgs sInit) (defBody sInit) (defScope sInit) (.ref Td) kVI dcI pmI anI cdI ctI) :=
    ⟨⟨_, _, _, _, _, _, _, _, _, _, rfl, lI, cI, .inr ⟨by simp, Td, _, [.ref T0], nT, rfl, lT, rfl, .cons rfl .nil⟩, .inl rfl⟩, kI⟩
  have bI : Binds K (PySem.W.fnOf "__init__" "Context.__init__" (defArgs sInit) (defBody sInit) (defScope sInit) (.ref Td) kVI dcI pmI anI cdI ctI) ["self", "pairs"] [] := fun s us KI hl => by
    match us, hl with
    | [u1, u2], _ =>
      obtain ⟨kk, e1, e2⟩ : ∃ kk, bindArgs (PySem.W.fnOf "__init__" "Context.__init__" (defArgs sInit) (defBody sInit) (defScope sInit) (.ref Td) kVI dcI pmI anI cdI ctI) ⟨[u1, u2], []⟩ = seqItems? (.ref Td) >>= kk ∧ kk (some #[.ref T0]) = pure ((["self", "pairs"] : List Str).zip [u1, u2]) := ⟨_, rfl, rfl⟩
      exact BindsTo.of_looks fun Md => by rw [e1]; exact looks_items KI lT rfl (.of_pure e2)
  have b0 : Binds K (PySem.W.fnOf "__init__" "Context.__init__" (defArgs sInit) (defBody sInit) (defScope sInit) (.ref Td) kVI dcI pmI anI cdI ctI) ["self", "pairs"] [.ref T0] := fun s us KI hl => by
    have hl1 : us.length = 1 := by simpa using hl
    match us, hl1 with
    | [u1], _ =>
      obtain ⟨kk, e1, e2⟩ : ∃ kk, bindArgs (PySem.W.fnOf "__init__" "Context.__init__" (defArgs sInit) (defBody sInit) (defScope sInit) (.ref Td) kVI dcI pmI anI cdI ctI) ⟨[u1], []⟩ = seqItems? (.ref Td) >>= kk ∧ kk (some #[.ref T0]) = pure ((["self", "pairs"] : List Str).zip [u1, .ref T0]) := ⟨_, rfl, rfl⟩
      exact BindsTo.of_looks fun Md => by rw [e1]; exact looks_items KI lT rfl (.of_pure e2)
  have bK : KBn K (PySem.W.fnOf "__init__" "Context.__init__" (defArgs sInit) (defBody sInit) (defScope sInit) (.ref Td) kVI dcI pmI anI cdI ctI) ["self", "pairs"] 1 ["pairs"] (fun us ws => us ++ ws) (fun vs zs => vs ++ zs) := by
    refine ⟨fun s us ws KI h1 h2 => ?_, fun r1 r2 => r1.append r2⟩
    match us, ws, h1, h2 with
    | [u1], [u2], _, _ =>
      obtain ⟨kk, e1, e2⟩ : ∃ kk, bindArgs (PySem.W.fnOf "__init__" "Context.__init__" (defArgs sInit) (defBody sInit) (defScope sInit) (.ref Td) kVI dcI pmI anI cdI ctI) ⟨[u1], (["pairs"] : List Str).zip [u2]⟩ = seqItems? (.ref Td) >>= kk ∧ kk (some #[.ref T0]) = pure ((["self", "pairs"] : List Str).zip [u1, u2]) := ⟨_, rfl, rfl⟩
      exact BindsTo.of_looks fun Md => by rw [e1]; exact looks_items KI lT rfl (.of_pure e2)
  have t0 : ∀ H, SqT K H T0 [] := fun H => .inr ⟨_, #[], n0, l0, rfl, rfl, Nat.zero_le _, .nil⟩
  have R : PySem.ReX.ReTxt K mg CF fX :=
    { gC := PySem.W.mg_of X G aF, cls := ⟨nm, q, N, bs, _, sn, sub, abb, col, dd, m0, m1, m2, m3, m5, xL, by decide +kernel⟩, sa := saF, ga := gaF, gg := ggF, noN := nbF, iC := aX, tC := tX, kC := kF, exC := eF, tyC := tF, hdC := hF, te := exm_own eF iF tF sF,
      fn := ⟨_, _, _, _, _, _, _, _, _, _, _, _, _, _, lX, cX⟩ }
  have IF : IsFacts K CF := ⟨iF, hF1, hN, hT, hF2⟩
  have tyC : ∀ (H : Hp) (a dx : Addr) (fs : List (Str × V)), H a = some (.ins C dx fs) → TyX K H (.ref a) (.ref C) := fun H a dx fs e => .base (.ins e T.cl hC hN hT hM)
  refine ⟨PySem.W.fnOf "law" "law" (defArgs sLaw) (defBody sLaw) (defScope sLaw) .none kVl dcl pml anl cdl ctl, cR, fun s u => .of_eq rfl, hdR, ntR, fun base _ _ TB => ?_⟩
  have GI := ok_init (P := P) (w := w) (base := base) FI T
  have GP := ok_pairs (P := P) (w := w) (base := base) FP T m_tuple m_sorted
  have bR : Binds K (PySem.W.fnOf "_law_right" "_law_right" (defArgs sRight) (defBody sRight) (defScope sRight) .none kVr dcr pmr anr (.ref cR) ctr) ["context", "due", "names"] [] := .all fun us hl => match us, hl with | [_, _, _], _ => rfl
  have bA : Binds K (PySem.W.fnOf "_law_alike_right" "_law_alike_right" (defArgs sAlike) (defBody sAlike) (defScope sAlike) .none kVa dca pma ana cda cta) ["rows"] [] := .all fun us hl => match us, hl with | [_], _ => rfl
  have Z : Ctx0 P w K mg base C CF :=
    { T := T, fG := fG, fH := fH, fL := fL, fE := fE, fP := fP, fS := fS, fD := fD, fY := fY, fW := fW, dG := PySem.W.fnOf "__getitem__" "Context.__getitem__" (defArgs sGet) (defBody sGet) (defScope sGet) .none kVG dcG pmG anG cdG ctG, dH := PySem.W.fnOf "__contains__" "Context.__contains__" (defArgs sHas) (defBody sHas) (defScope sHas) .none kVH dcH pmH anH cdH ctH, dL := PySem.W.fnOf "__len__" "Context.__len__" (defArgs sLen) (defBody sLen) (defScope sLen) .none kVL dcL pmL anL cdL ctL, dE := PySem.W.fnOf "__eq__" "Context.__eq__" (defArgs sEq) (defBody sEq) (defScope sEq) .none kVE dcE pmE anE cdE ctE, dP := PySem.W.fnOf "pairs" "Context.pairs" (defArgs sPairs) (defBody sPairs) (defScope sPairs) .none kVP dcP pmP anP cdP ctP, dS := PySem.W.fnOf "__setitem__" "Context.__setitem__" (defArgs sSet) (defBody sSet) (defScope sSet) .none kVS dcS pmS anS cdS ctS, dD := PySem.W.fnOf "drop" "Context.drop" (defArgs sDrop) (defBody sDrop) (defScope sDrop) .none kVD dcD pmD anD cdD ctD, dY := PySem.W.fnOf "copy" "Context.copy" (defArgs sCopy) (defBody sCopy) (defScope sCopy) .none kVY dcY pmY anY cdY ctY, dW := PySem.W.fnOf "is_same" "Context.is_same" (defArgs sSame) (defBody sSame) (defScope sSame) .none kVW dcW pmW anW cdW ctW,
      GG := ok_get FG T R, GH := ok_has FH T, GL := ok_len FL T m_len, GE := ok_eq FE T m_isinstance tyC kCC, GP := GP, GS := ok_set FS T, GD := ok_drop FD T, GY := ok_copy FY T M GI bI GP bP' ⟨aP, iP, kP⟩, GW := ok_same FW,
      bG := bG', bH := bH', bL := bL', bE := bE', bP := bP', bS := bS', bD := bD', bY := bY', bW := bW', mP := ⟨aP, iP, kP⟩, mD := ⟨aD, iD, kD⟩, mY := ⟨aY, iY, kY⟩, mW := ⟨aW, iW, kW⟩, sG := aG, sH := aH, sL := aL, sE := aE, sS := aS, sN := sN, ob := ob,
      iG := iG, iH := iH, iL := iL, iE := iE, iS := iS, jG := jG, nq := nq, tyC := tyC, nfC := nfC,
      ty := fun t ht => by
        simp only [List.mem_cons, List.not_mem_nil, or_false] at ht
        rcases ht with rfl | rfl | rfl | rfl | rfl
        · exact ⟨u0, w0⟩
        · exact ⟨u1, w1⟩
        · exact ⟨u2, w2⟩
        · exact ⟨u3, w3⟩
        · exact ⟨u4, w4⟩ }
  have Gx := ok_mixed (P := P) (w := w) (base := base) Fx m_int
  have Gb := ok_begin (P := P) (w := w) (base := base) Fb m_list
  have Gd := ok_draw (P := P) (w := w) (base := base) Fd Gx bx' (PySem.W.mg_of X G ax) kx m_int m_len
  have Gn := ok_name (P := P) (w := w) (base := base) Fn Gd bd' (PySem.W.mg_of X G ad) kd m_range
  have Gm := ok_names (P := P) (w := w) (base := base) Fm Gn bn' (PySem.W.mg_of X G an) kn m_range m_len
  have Gv := ok_value (P := P) (w := w) (base := base) Fv Gd bd' (PySem.W.mg_of X G ad) kd
  have Gk := ok_made (P := P) (w := w) (base := base) Fk Gd bd' (PySem.W.mg_of X G ad) kd Gv bv' (PySem.W.mg_of X G av) kv T M GI bI bK b0 t0 m_tuple m_dict
  have Gr := ok_right (P := P) (w := w) (base := base) lr cr TB Z R IF lf cf (PySem.W.mg_of X G af) kf bf' m_repr m_tuple m_sorted m_len m_isinstance m_RuntimeError m_ValueError m_LookupError kRE kVLk
  have Ga := ok_alike (P := P) (w := w) (base := base) la ca Z m_repr m_range
  exact ok_law ll cl Z Gb bb' (PySem.W.mg_of X G ab) kb Gm bm' (PySem.W.mg_of X G am) km Gd bd' (PySem.W.mg_of X G ad) kd Gv bv' (PySem.W.mg_of X G av) kv Gk bk' (PySem.W.mg_of X G ak) kk Gr bR (PySem.W.mg_of X G ar) kr Ga bA (PySem.W.mg_of X G aa) ka m_range m_dict
end SW
open PySem PySem.W PyProof.Rows
set_option maxRecDepth 100000 in
set_option maxHeartbeats 0 in
theorem PySem.Challenge.cw_stepwhere_k01_contexts_told_holds : PySem.Challenge.rw_stepwhere_k01_contexts_told.Holds := by
  w_on; o_law; k_head; (case hw => w_witness2)
  k_fill
  refine SW.walkG (l := PySem.Challenge.rw_stepwhere_k01_contexts_told) (tb := 170) rfl rfl (fun w h Y => PySem.W.km_in_of Y) (fun w h Y => PySem.W.km_tabs_of Y 170 (List.mem_singleton.mpr rfl)) ?F
  case F =>
    intro w mg fa h KX G hmg
    refine' SW.all_mk KX G hmg ?aC ?aF ?aI ?iI ?lI ?cI ?kI ?aG ?iG ?lG ?cG ?kG ?aH ?iH ?lH ?cH ?kH ?aL ?iL ?lL ?cL ?kL ?aE ?iE ?lE ?cE ?kE ?aP ?iP ?lP ?cP ?kP ?aS ?iS ?lS ?cS ?kS ?aD ?iD ?lD ?cD ?kD ?aY ?iY ?lY ?cY ?kY ?aW ?iW ?lW ?cW ?kW ?ax ?lx ?cx ?kx ?ab ?lb ?cb ?kb ?ad ?ld ?cd ?kd ?an ?ln ?cn ?kn ?am ?lm ?cm ?km ?af ?lf ?cf ?kf ?av ?lv ?cv ?kv ?ar ?lr ?cr ?kr ?ak ?lk ?ck ?kk ?aa ?la ?ca ?ka ?al ?ll ?cl ?kl ?lT ?l0 ?hdR ?ntR ?pg ?hd ?po ?sa ?mk ?kc ?nB ?nH ?sN ?ob ?jG ?nq ?nfC ?kCC ?hC ?hN ?hT ?hM ?u0 ?w0 ?u1 ?w1 ?u2 ?w2 ?u3 ?w3 ?u4 ?w4 ?xL ?saF ?gaF ?ggF ?nbF ?aX ?tX ?lX ?cX ?kF ?eF ?tF ?hF ?iF ?sF ?hF1 ?hF2 ?kRE ?kVLk ?z_len ?z_repr ?z_tuple ?z_sorted ?z_range ?z_list ?z_int ?z_dict ?z_isinstance ?z_RuntimeError ?z_ValueError ?z_LookupError
    (case aC => k_is); (case aF => k_is); (case aI => k_is); (case iI => k_is); (case lI => k_is); (case cI => k_is)
    (case kI => k_is); (case aG => k_is); (case iG => k_is); (case lG => k_is); (case cG => k_is); (case kG => k_is)
    (case aH => k_is); (case iH => k_is); (case lH => k_is); (case cH => k_is); (case kH => k_is); (case aL => k_is)
    (case iL => k_is); (case lL => k_is); (case cL => k_is); (case kL => k_is); (case aE => k_is); (case iE => k_is)
    (case lE => k_is); (case cE => k_is); (case kE => k_is); (case aP => k_is); (case iP => k_is); (case lP => k_is)
    (case cP => k_is); (case kP => k_is); (case aS => k_is); (case iS => k_is); (case lS => k_is); (case cS => k_is)
    (case kS => k_is); (case aD => k_is); (case iD => k_is); (case lD => k_is); (case cD => k_is); (case kD => k_is)
    (case aY => k_is); (case iY => k_is); (case lY => k_is); (case cY => k_is); (case kY => k_is); (case aW => k_is)
    (case iW => k_is); (case lW => k_is); (case cW => k_is); (case kW => k_is); (case ax => k_is); (case lx => k_is)
    (case cx => k_is); (case kx => k_is); (case ab => k_is); (case lb => k_is); (case cb => k_is); (case kb => k_is)
    (case ad => k_is); (case ld => k_is); (case cd => k_is); (case kd => k_is); (case an => k_is); (case ln => k_is)
    (case cn => k_is); (case kn => k_is); (case am => k_is); (case lm => k_is); (case cm => k_is); (case km => k_is)
    (case af => k_is); (case lf => k_is); (case cf => k_is); (case kf => k_is); (case av => k_is); (case lv => k_is)
    (case cv => k_is); (case kv => k_is); (case ar => k_is); (case lr => k_is); (case cr => k_is); (case kr => k_is)
    (case ak => k_is); (case lk => k_is); (case ck => k_is); (case kk => k_is); (case aa => k_is); (case la => k_is)
    (case ca => k_is); (case ka => k_is); (case al => k_is); (case ll => k_is); (case cl => k_is); (case kl => k_is)
    (case lT => k_is); (case l0 => k_is); (case hdR => kernel_rfl); (case ntR => kernel_rfl); (case pg => k_is); (case hd => k_is)
    (case po => k_is); (case sa => k_is); (case mk => k_is); (case kc => k_is); (case nB => k_is); (case nH => k_is)
    (case sN => k_is); (case ob => k_is); (case jG => k_is); (case nq => k_is); (case nfC => k_is); (case kCC => kernel_rfl)
    (case hC => k_is); (case hN => k_is); (case hT => k_is); (case hM => k_is); (case u0 => k_is); (case w0 => kernel_rfl)
    (case u1 => k_is); (case w1 => kernel_rfl); (case u2 => k_is); (case w2 => kernel_rfl); (case u3 => k_is); (case w3 => kernel_rfl)
    (case u4 => k_is); (case w4 => kernel_rfl); (case xL => k_is); (case saF => k_is); (case gaF => k_is); (case ggF => k_is)
    (case nbF => k_is); (case aX => k_is); (case tX => k_is); (case lX => k_is); (case cX => k_is); (case kF => k_is)
    (case eF => k_is); (case tF => k_is); (case hF => k_is); (case iF => k_is); (case sF => first | rfl | k_is); (case hF1 => k_is)
    (case hF2 => k_is); (case kRE => kernel_rfl); (case kVLk => kernel_rfl); (case z_len => k_is); (case z_repr => k_is); (case z_tuple => k_is)
    (case z_sorted => k_is); (case z_range => k_is); (case z_list => k_is); (case z_int => k_is); (case z_dict => k_is); (case z_isinstance => k_is)
    (case z_RuntimeError => k_is); (case z_ValueError => k_is); (case z_LookupError => k_is)
