import PyProof.Rows.All
import Wide.All
import OpenK.AllK
import Wide.FinOn
import HandS.ForMost
import HandS.EndTab
import HandS.Wide
import HandS.More
import HandS.Conv
import HandS.IsInst
import HandS.Steps
import HandS.Walk
import HandS.Iter
import HandS.Style
import HandS.Strs
import HandS.Zip
import HandS.NoneIn
import KE.KDictZip
import KE.GoesEnum
import HandS.SetKeys
import HandS.TupAny
import HandS.DictComp
import HandS.CallRecv
import HandS.ExcInit
import HandS.ForExc
import KE.KTryMore
import KE.KExcIs
import HandS.RaiseMore
import HandS.Lambda
import HandS.Small
import HandS.TupMul
import KE.KOpsOwn
import PyProof.InstNe
import PyProof.StrOps2
import KE.KRevSl
import PySem.Challenge.RW_stepwhere_k52_shelves_kept
set_option Elab.async false
set_option maxRecDepth 100000
set_option maxHeartbeats 1000000
/-! Trees of data; names, numbers, tuples. -/
namespace BK
open PySem PySem.Spec PyProof.Rows L2
def top (i : Nat) : Stmt := PySem.Challenge.pw_stepwhere_k52_shelves_kept.main.body.getD i (.Pass ⟨0, 0, 0, 0⟩)
theorem same_new {H : Hp} {p : Addr} {o : HO} (h : H p = none) : Same H (upd H p o) := fun b u e => by
  rw [upd_ne (ne_of_none e h)]
  exact e
theorem sqt_same {K : PySem.W.Frag} {H H' : Hp} {q : Addr} {xs : List V} (e : Same H H') (h : SqT K H q xs) : SqT K H' q xs := by
  rcases h with (h | ⟨o, h⟩) | h
  · exact .inl (.inl (e _ _ h))
  · exact .inl (.inr ⟨o, e _ _ h⟩)
  · exact .inr h
theorem sqt_ty {K : PySem.W.Frag} {H : Hp} {t : Addr} {xs : List V} (h : SqT K H t xs) : TyX K H (.ref t) (.type "tuple") := by
  rcases h with (h | ⟨o2, h⟩) | ⟨o2, its, n, h1, h2, _⟩
  · exact .base (.tup h)
  · exact .fTuple h
  · exact .kTuple h1 h2
theorem sql_ty {K : PySem.W.Frag} {H : Hp} {t : Addr} {xs : List V} (h : SqL K H t xs) : TyX K H (.ref t) (.type "list") := by
  rcases h with (h | ⟨o2, h⟩) | ⟨o2, its, n, h1, h2, _⟩
  · exact .base (.lst h)
  · exact .base (.frz h)
  · exact .kList h1 h2
theorem tyes {σ : L2.St} {H : Hp} {f g : Hp → Prop} (h : f H) : tYes σ H fun b H3 => if b = true then f H3 else g H3 := by
  show (if true = true then f H else g H)
  exact iteT h
/-- a tree of data; of lists and dicts only that they are such -/
inductive Tr where
  | non
  | bl (b : Bool)
  | int (i : Int)
  | str (s : Str)
  | lst
  | dct
  | tup (ts : List Tr)
mutual
inductive TrAt (K : PySem.W.Frag) (H : Hp) : V → Tr → Prop
  | non : TrAt K H .non .non
  | bl (b : Bool) : TrAt K H (.bl b) (.bl b)
  | int (i : Int) : TrAt K H (.int i) (.int i)
  | str (s : Str) (h : s.length ≤ sizeLine) : TrAt K H (.str s) (.str s)
  | lst {a : Addr} {xs : List V} (h : SqL K H a xs) : TrAt K H (.ref a) .lst
  | dct {a : Addr} {kvs : List (Key × V)} (h : H a = some (.dK kvs)) : TrAt K H (.ref a) .dct
  | tup {a : Addr} {xs : List V} {ts : List Tr} (h : SqT K H a xs) (k : TrAll K H xs ts) : TrAt K H (.ref a) (.tup ts)
inductive TrAll (K : PySem.W.Frag) (H : Hp) : List V → List Tr → Prop
  | nil : TrAll K H [] []
  | cons {v : V} {vs : List V} {t : Tr} {ts : List Tr} (h : TrAt K H v t) (k : TrAll K H vs ts) : TrAll K H (v :: vs) (t :: ts)
end
section
variable {K : PySem.W.Frag} {H H' : Hp}
mutual
theorem TrAt.same (e : Same H H') : ∀ {v : V} {t : Tr}, TrAt K H v t → TrAt K H' v t
  | _, _, .non => .non
  | _, _, .bl b => .bl b
  | _, _, .int i => .int i
  | _, _, .str s h => .str s h
  | _, _, .lst h => .lst (e.seq h)
  | _, _, .dct h => .dct (e _ _ h)
  | _, _, .tup h k => .tup (sqt_same e h) (TrAll.same e k)
theorem TrAll.same (e : Same H H') : ∀ {vs : List V} {ts : List Tr}, TrAll K H vs ts → TrAll K H' vs ts
  | _, _, .nil => .nil
  | _, _, .cons h k => .cons (h.same e) (k.same e)
end
theorem TrAll.len : ∀ {vs : List V} {ts : List Tr}, TrAll K H vs ts → vs.length = ts.length
  | _, _, .nil => rfl
  | _, _, .cons _ k => congrArg (· + 1) k.len
theorem TrAll.get : ∀ {vs : List V} {ts : List Tr} {i : Nat} {v : V}, TrAll K H vs ts → vs[i]? = some v → ∃ t, ts[i]? = some t ∧ TrAt K H v t
  | _, _, _, _, .nil, h => by simp at h
  | _, _, 0, _, .cons h k, e => by
    rw [List.getElem?_cons_zero] at e
    cases e
    exact ⟨_, rfl, h⟩
  | _, _, i + 1, _, .cons h k, e => by
    rw [List.getElem?_cons_succ] at e
    obtain ⟨t, h1, h2⟩ := k.get e
    exact ⟨t, by rw [List.getElem?_cons_succ]; exact h1, h2⟩
theorem TrAll.get' : ∀ {vs : List V} {ts : List Tr} {i : Nat} {t : Tr}, TrAll K H vs ts → ts[i]? = some t → ∃ v, vs[i]? = some v ∧ TrAt K H v t
  | _, _, _, _, .nil, h => by simp at h
  | _, _, 0, _, .cons h k, e => by
    rw [List.getElem?_cons_zero] at e
    cases e
    exact ⟨_, rfl, h⟩
  | _, _, i + 1, _, .cons h k, e => by
    rw [List.getElem?_cons_succ] at e
    obtain ⟨t, h1, h2⟩ := k.get' e
    exact ⟨t, by rw [List.getElem?_cons_succ]; exact h1, h2⟩
/-- a list is written -/
theorem sqt_updL {D : Addr} {ys ys' xs : List V} {a : Addr} (e : H D = some (.lst ys)) (h : SqT K H a xs) : SqT K (upd H D (.lst ys')) a xs := by
  rcases h with (h | ⟨o, h⟩) | h
  · exact .inl (.inl (by rw [upd_ne (ne_of h e (by intro z; cases z))]; exact h))
  · exact .inl (.inr ⟨o, by rw [upd_ne (ne_of h e (by intro z; cases z))]; exact h⟩)
  · exact .inr h
mutual
theorem TrAt.updL {D : Addr} {ys ys' : List V} (e : H D = some (.lst ys)) : ∀ {v : V} {t : Tr}, TrAt K H v t → TrAt K (upd H D (.lst ys')) v t
  | _, _, .non => .non
  | _, _, .bl b => .bl b
  | _, _, .int i => .int i
  | _, _, .str s h => .str s h
  | _, _, .lst (a := a) (xs := xs) h => by
    by_cases z : a = D
    · rw [z]
      exact .lst (SqL.of upd_same)
    · refine .lst (xs := xs) ?_
      rcases h with (h | ⟨o, h⟩) | h
      · exact .inl (.inl (by rw [upd_ne z]; exact h))
      · exact .inl (.inr ⟨o, by rw [upd_ne z]; exact h⟩)
      · exact .inr h
  | _, _, .dct h => .dct (by rw [upd_ne (ne_of h e (by intro z; cases z))]; exact h)
  | _, _, .tup h k => .tup (sqt_updL e h) (TrAll.updL e k)
theorem TrAll.updL {D : Addr} {ys ys' : List V} (e : H D = some (.lst ys)) : ∀ {vs : List V} {ts : List Tr}, TrAll K H vs ts → TrAll K (upd H D (.lst ys')) vs ts
  | _, _, .nil => .nil
  | _, _, .cons h k => .cons (h.updL e) (k.updL e)
end
def tyT : Tr → String
  | .non => "NoneType"
  | .bl _ => "bool"
  | .int _ => "int"
  | .str _ => "str"
  | .lst => "list"
  | .dct => "dict"
  | .tup _ => "tuple"
theorem TrAt.ty {v : V} {t : Tr} (h : TrAt K H v t) : TyX K H v (.type (tyT t)) := by
  cases h with
  | non => exact .base .non
  | bl b => exact .base (.bl b)
  | int i => exact .base (.int i)
  | str s h => exact .base (.str s)
  | lst h => exact sql_ty h
  | dct h => exact .base (.dK h)
  | tup h k => exact sqt_ty h
end
def isStr : Tr → Bool
  | .str _ => true
  | _ => false
def isInt : Tr → Bool
  | .int _ => true
  | .bl _ => true
  | _ => false
def isBl : Tr → Bool
  | .bl _ => true
  | _ => false
def isTup : Tr → Bool
  | .tup _ => true
  | _ => false
theorem k_str (K : PySem.W.Frag) (t : Tr) : PySem.W.kitOne K (.type (tyT t)) (.type "str") = some (isStr t) := by
  cases t <;> exact kit_ty (by simp only [tyT, isStr]; decide +kernel)
theorem k_int (K : PySem.W.Frag) (t : Tr) : PySem.W.kitOne K (.type (tyT t)) (.type "int") = some (isInt t) := by
  cases t <;> exact kit_ty (by simp only [tyT, isInt]; decide +kernel)
theorem k_bl (K : PySem.W.Frag) (t : Tr) : PySem.W.kitOne K (.type (tyT t)) (.type "bool") = some (isBl t) := by
  cases t <;> exact kit_ty (by simp only [tyT, isBl]; decide +kernel)
theorem k_tup (K : PySem.W.Frag) (t : Tr) : PySem.W.kitOne K (.type (tyT t)) (.type "tuple") = some (isTup t) := by
  cases t <;> exact kit_ty (by simp only [tyT, isTup]; decide +kernel)
def alpha : Str := "abcdefghijklmnopqrstuvwxyz"
/-- a word of 1 to 8 letters -/
def nameS (s : Str) : Bool := decide (1 ≤ s.length) && decide (s.length ≤ 8) && s.cps.toList.all fun c => decide (c ∈ alpha.cps.toList)
def nameT : Tr → Bool
  | .str s => nameS s
  | _ => false
def numT (most : Int) : Tr → Bool
  | .int i => decide (0 ≤ i) && decide (i ≤ most)
  | _ => false
def tupT (n : Nat) : Tr → Bool
  | .tup ts => ts.length == n
  | _ => false
/-- what the top has written of the forms -/
structure Forms (mg : Str → Option Value) : Prop where
  le : ∃ t, mg "LETTERS" = some (.str alpha t)
  ml : ∃ t, mg "MOST_LETTERS" = some (.int 8 t)
  mn : ∃ t, mg "MOST_NUMBER" = some (.int 99 t)
  isi : mg "isinstance" = none
  str : mg "str" = none
  int : mg "int" = none
  bool : mg "bool" = none
  tuple : mg "tuple" = none
  len : mg "len" = none
  all : mg "all" = none
def spOf (f : Tr → Bool) (K : PySem.W.Frag) : Sp := fun vs H Q _ => ∃ v t, vs = [v] ∧ TrAt K H v t ∧ ∀ H', Same H H' → Q (.bl (f t)) H'
section
variable {P : Program} {w : World} {K : PySem.W.Frag} {mg : Str → Option Value} {base : Heap}
abbrev sName : Stmt := top 13
abbrev sInteger : Stmt := top 15
abbrev sNumber : Stmt := top 16
abbrev sTuple : Stmt := top 17
theorem scName : FnScope ["thing", "letter"] ["thing"] (defScope sName) := ⟨rfl, rfl, rfl, by decide +kernel, rfl, by decide +kernel, by decide +kernel⟩
theorem ok_name {f : Addr} {fd : FuncData} (F : Fun K "is_name" "is_name" sName f fd) (T : Forms mg) : FnOk P w K mg base CX0 1 f fd ["thing"] (spOf nameT K) := by
  refine F.ok scName (fun vs H Q E h => ?_) (fun cdv A outer s H vs Q E hr h => ?_)
  · obtain ⟨v, t, rfl, _⟩ := h
    rfl
  · obtain ⟨v, t, rfl, ht, k⟩ := h
    obtain ⟨t1, gL⟩ := T.le
    obtain ⟨t2, gM⟩ := T.ml
    refine ⟨_, pss_cons (ps_if (PW.pt (pw_or (pt_not (pt_val (pe_callB call_isi (by rfl) T.isi boot_isinstance (pa_cons (pv 0) (pa_cons (pe_bltn (v := .ty "str") (u := .type "str") (by rfl) T.str (by decide +kernel) rfl) pa_nil)))))
        (pw_or1 (pt_not (pt_chain op_le op_le pe_int (pe_callB call_len_str (by rfl) T.len boot_len (pa_cons (pv 0) pa_nil)) (pe_glob (v := .int 8) rfl gM ⟨_, rfl⟩)))))) (pss_one (ps_ret pe_bl)) pss_nil)
      (pss_one (ps_ret (pe_callB (cr_all rfl) (by rfl) T.all (by decide +kernel) (pa_cons (pe_lc (own := [("letter", 1)]) (g := gName 1) (tt := tYes) rfl scName.nd (pi_str (pv 0))
          (blkOk_by (N := ["thing", "letter"]) (sc := defScope sName) (by decide +kernel)) (fun _ _ _ _ _ => pg_name (i := 1) scName.nd rfl (Or.inl rfl)) (fun _ _ _ _ _ => pts_nil)
          (fun _ _ _ _ _ => pe_cmpR op_inS (pv 1) (pe_glob (v := .str alpha) rfl gL ⟨_, rfl⟩) rfl)) pa_nil)))), ?_⟩
    refine ⟨_, rfl, v, .ty "str", .type (tyT t), .type "str", isStr t, rfl, .ty "str", ht.ty, k_str K t, _, rfl, ?_⟩
    cases ht with
    | str z hz =>
      refine iteF ?_
      have fin : ∀ b : Bool, b = nameS z → ∀ H', Same H H' → Q (.bl b) H' := fun b e H' s' => by
        rw [e]
        exact k H' s'
      refine ⟨_, rfl, z, rfl, hz, _, _, rfl, rfl, _, rfl, ?_⟩
      refine ite2 (fun h1 => ?_) (fun h1 => ?_)
      · refine ⟨_, _, rfl, rfl, _, rfl, ?_⟩
        refine ite2 (fun h2 => ?_) (fun h2 => ?_)
        · refine fin false ?_ H fun _ _ e => e
          have h : ¬ ((z.length : Int) ≤ 8) := by simpa using h2
          have h' : ¬ (z.length ≤ 8) := by omega
          unfold nameS
          rw [decide_eq_false h', Bool.and_false, Bool.false_and]
        · have h : (z.length : Int) ≤ 8 := by simpa using h2
          have hl : z.length ≤ 8 := by omega
          have hl1 : 1 ≤ z.length := by
            have q : (1 : Int) ≤ (z.length : Int) := of_decide_eq_true h1
            omega
          refine ⟨_, rfl, z, rfl, fun D nD => ?_⟩
          refine lc_it (walk_str (z := z)) (fun i H2 => Same H H2 ∧ H2 D = some (.lst (((z.cps.toList.take i).map fun c => decide (c ∈ alpha.cps.toList)).map V.bl))) ⟨same_new nD, upd_same⟩ (fun _ _ _ _ => True.intro) ?_ ?_
          · rintro i x H2 H3 hi ⟨s2, e2⟩ ⟨rfl, c, hc, rfl⟩
            refine ⟨rfl, ?_⟩
            refine tyes ?_
            refine ⟨_, rfl, c, alpha, rfl, rfl, _, e2, small1000 (by rw [List.length_map, List.length_map, List.length_take, Array.length_toList]; have : z.cps.size ≤ 8 := hl; omega), fun b o e => ?_, ?_⟩
            · rw [upd_ne (ne_of_none e nD)]
              exact s2 b o e
            · have hc' : z.cps.toList[i]? = some c := by rw [Array.getElem?_toList]; exact hc
              rw [upd_same, List.take_add_one, hc', List.map_append, List.map_append]
              rfl
          · rintro H2 ⟨s2, e2⟩
            refine ⟨D, _, rfl, SqL.of e2, fin _ ?_ H2 s2⟩
            have et : z.cps.toList.take z.cps.size = z.cps.toList := by rw [← Array.length_toList, List.take_length]
            unfold nameS
            rw [decide_eq_true hl, decide_eq_true hl1, et, List.all_map]
            simp [Function.comp]
      · refine ⟨_, rfl, iteT (fin false ?_ H fun _ _ e => e)⟩
        have h : ¬ ((1 : Int) ≤ (z.length : Int)) := fun q => h1 (decide_eq_true q)
        have h' : ¬ (1 ≤ z.length) := by omega
        unfold nameS
        rw [decide_eq_false h', Bool.false_and, Bool.false_and]
    | non => exact iteT (k H fun _ _ e => e)
    | bl b => exact iteT (k H fun _ _ e => e)
    | int i => exact iteT (k H fun _ _ e => e)
    | lst h => exact iteT (k H fun _ _ e => e)
    | dct h => exact iteT (k H fun _ _ e => e)
    | tup h q => exact iteT (k H fun _ _ e => e)
/-! numbers, tuples -/
def spNumber (K : PySem.W.Frag) : Sp := fun vs H Q _ => ∃ v t most, vs = [v, .int most] ∧ TrAt K H v t ∧ Q (.bl (numT most t)) H
def spTuple (K : PySem.W.Frag) : Sp := fun vs H Q _ => ∃ v t n, vs = [v, .int n] ∧ TrAt K H v t ∧ Q (.bl (match t with | .tup ts => decide ((ts.length : Int) = n) | _ => false)) H
def spInteger (K : PySem.W.Frag) : Sp := fun vs H Q _ => ∃ v t, vs = [v] ∧ TrAt K H v t ∧ Q (.bl (isInt t && !isBl t)) H
theorem scInteger : FnScope ["thing"] ["thing"] (defScope sInteger) := ⟨rfl, rfl, rfl, by decide +kernel, rfl, by decide +kernel, by decide +kernel⟩
theorem ok_integer {f : Addr} {fd : FuncData} (F : Fun K "is_integer" "is_integer" sInteger f fd) (T : Forms mg) : FnOk P w K mg base CX0 1 f fd ["thing"] (spInteger K) := by
  refine F.ok scInteger (fun vs H Q E h => ?_) (fun cdv A outer s H vs Q E hr h => ?_)
  · obtain ⟨v, t, rfl, _⟩ := h
    rfl
  · obtain ⟨v, t, rfl, ht, k⟩ := h
    refine ⟨_, pss_one (ps_ret (pe_and (pe_callB call_isi (by rfl) T.isi boot_isinstance (pa_cons (pv 0) (pa_cons (pe_bltn (v := .ty "int") (u := .type "int") (by rfl) T.int (by decide +kernel) rfl) pa_nil)))
      (pe_one (pe_not (pe_callB call_isi (by rfl) T.isi boot_isinstance (pa_cons (pv 0) (pa_cons (pe_bltn (v := .ty "bool") (u := .type "bool") (by rfl) T.bool (by decide +kernel) rfl) pa_nil))))))), ?_⟩
    refine ⟨_, rfl, v, .ty "int", .type (tyT t), .type "int", isInt t, rfl, .ty "int", ht.ty, k_int K t, _, rfl, ?_⟩
    have two := ht.ty
    cases ht with
    | int i => exact iteT ⟨_, rfl, _, .ty "bool", .type (tyT (.int i)), .type "bool", isBl (.int i), rfl, .ty "bool", two, k_bl K _, _, rfl, k⟩
    | bl b => exact iteT ⟨_, rfl, _, .ty "bool", .type (tyT (.bl b)), .type "bool", isBl (.bl b), rfl, .ty "bool", two, k_bl K _, _, rfl, k⟩
    | str z hz => exact iteF k
    | non => exact iteF k
    | lst h => exact iteF k
    | dct h => exact iteF k
    | tup h q => exact iteF k
theorem scNumber : FnScope ["thing", "most"] ["thing", "most"] (defScope sNumber) := ⟨rfl, rfl, rfl, by decide +kernel, rfl, by decide +kernel, by decide +kernel⟩
theorem ok_number {f fI : Addr} {fd fdI : FuncData} (F : Fun K "is_number" "is_number" sNumber f fd)
    (GI : FnOk P w K mg base CX0 1 fI fdI ["thing"] (spInteger K)) (bI : Binds K fdI ["thing"] []) (gI : mg "is_integer" = some (.ref fI)) (kI : PySem.W.keepIn K (.ref fI) = true) : FnOk P w K mg base CX0 2 f fd ["thing", "most"] (spNumber K) := by
  refine F.ok scNumber (fun vs H Q E h => ?_) (fun cdv A outer s H vs Q E hr h => ?_)
  · obtain ⟨v, t, most, rfl, _⟩ := h
    rfl
  · obtain ⟨v, t, most, rfl, ht, k⟩ := h
    refine ⟨_, pss_one (ps_ret (pe_and (pe_call GI hr rfl gI kI bI .nil pass0 (pa_cons (pv 0) pa_nil))
      (pe_one (pe_chain op_le op_le pe_int (pv 0) (pv 1))))), ?_⟩
    refine ⟨_, rfl, v, t, rfl, ht, _, rfl, ?_⟩
    cases ht with
    | int i =>
      refine iteT ⟨_, rfl, _, _, rfl, rfl, _, rfl, ?_⟩
      refine ite2 (fun h => ?_) (fun h => ?_)
      · have h' : decide ((0 : Int) ≤ i) = true := h
        have e : numT most (.int i) = decide (i ≤ most) := by
          show (decide (0 ≤ i) && decide (i ≤ most)) = _
          rw [h', Bool.true_and]
        rw [e] at k
        exact ⟨_, rfl, _, _, rfl, rfl, k⟩
      · have h' : decide ((0 : Int) ≤ i) = false := by simpa using h
        have e : numT most (.int i) = false := by
          show (decide (0 ≤ i) && decide (i ≤ most)) = _
          rw [h', Bool.false_and]
        rw [e] at k
        exact k
    | bl b => exact iteF k
    | str z hz => exact iteF k
    | non => exact iteF k
    | lst h => exact iteF k
    | dct h => exact iteF k
    | tup h q => exact iteF k
theorem scTuple : FnScope ["thing", "count"] ["thing", "count"] (defScope sTuple) := ⟨rfl, rfl, rfl, by decide +kernel, rfl, by decide +kernel, by decide +kernel⟩
theorem ok_tuple {f : Addr} {fd : FuncData} (F : Fun K "is_tuple" "is_tuple" sTuple f fd) (T : Forms mg) : FnOk P w K mg base CX0 1 f fd ["thing", "count"] (spTuple K) := by
  refine F.ok scTuple (fun vs H Q E h => ?_) (fun cdv A outer s H vs Q E hr h => ?_)
  · obtain ⟨v, t, n, rfl, _⟩ := h
    rfl
  · obtain ⟨v, t, n, rfl, ht, k⟩ := h
    refine ⟨_, pss_one (ps_ret (pe_and (pe_callB call_isi (by rfl) T.isi boot_isinstance (pa_cons (pv 0) (pa_cons (pe_bltn (v := .ty "tuple") (u := .type "tuple") (by rfl) T.tuple (by decide +kernel) rfl) pa_nil)))
      (pe_one (pe_cmpR op_eq (pe_callB call_len_seq (by rfl) T.len boot_len (pa_cons (pv 0) pa_nil)) (pv 1) (nomark _))))), ?_⟩
    refine ⟨_, rfl, v, .ty "tuple", .type (tyT t), .type "tuple", isTup t, rfl, .ty "tuple", ht.ty, k_tup K t, _, rfl, ?_⟩
    cases ht with
    | @tup a xs ts h q =>
      refine iteT ⟨_, rfl, a, xs, rfl, .inr h, _, rfl, rfl, ?_⟩
      have e : decide (V.int (xs.length : Int) = V.int n) = decide ((ts.length : Int) = n) := by
        rw [dec_int, q.len]
        by_cases z : (ts.length : Int) = n
        · rw [z]
          simp
        · rw [decide_eq_false z, beq_eq_false_iff_ne]
          exact z
      rw [e]
      exact k
    | int i => exact iteF k
    | bl b => exact iteF k
    | str z hz => exact iteF k
    | non => exact iteF k
    | lst h => exact iteF k
    | dct h => exact iteF k
/-! the parts of a statement that are blocks -/
abbrev sBlocks : Stmt := top 24
def spBlocks (K : PySem.W.Frag) : Sp := fun vs H Q _ => ∃ v ts, vs = [v] ∧ TrAt K H v (.tup ts) ∧ ts.length ≤ 1000 ∧ ∀ (D : Addr) (bs : List V) (H' : Hp), Same H H' → H D = none → H' D = some (.lst bs) → TrAll K H' bs (ts.filter isTup) → Q (.ref D) H'
theorem scBlocks : FnScope ["statement", "part"] ["statement"] (defScope sBlocks) := ⟨rfl, rfl, rfl, by decide +kernel, rfl, by decide +kernel, by decide +kernel⟩
theorem TrAll.snoc {H : Hp} : ∀ {vs : List V} {ts : List Tr} {v : V} {t : Tr}, TrAll K H vs ts → TrAt K H v t → TrAll K H (vs ++ [v]) (ts ++ [t])
  | _, _, _, _, .nil, h => .cons h .nil
  | _, _, _, _, .cons a k, h => .cons a (k.snoc h)
theorem ok_blocks {f : Addr} {fd : FuncData} (F : Fun K "blocks_of" "blocks_of" sBlocks f fd) (T : Forms mg) : FnOk P w K mg base CX0 1 f fd ["statement"] (spBlocks K) := by
  refine F.ok scBlocks (fun vs H Q E h => ?_) (fun cdv A outer s H vs Q E hr h => ?_)
  · obtain ⟨v, ts, rfl, _⟩ := h
    rfl
  · obtain ⟨v, ts, rfl, ht, hl, k⟩ := h
    cases ht with
    | @tup a xs ts h q =>
    refine ⟨_, pss_one (ps_ret (pe_lc (own := [("part", 1)]) (g := gName 1) (tt := tB (tCB (rIsi K) (tCons (tVar 1) (tCons (tC (.ty "tuple")) tNil)))) (te := tVar 1) rfl scBlocks.nd (pi_tup (pv 0))
        (blkOk_by (N := ["statement", "part"]) (sc := defScope sBlocks) (by decide +kernel)) (fun _ _ _ _ _ => pg_name (i := 1) scBlocks.nd rfl (Or.inl rfl))
        (fun _ _ _ _ _ => pts_one (pt_val (by exact pe_callB call_isi (by rfl) T.isi boot_isinstance (pa_cons (pv 1) (pa_cons (pe_bltn (v := .ty "tuple") (u := .type "tuple") (by rfl) T.tuple (by decide +kernel) rfl) pa_nil)))))
        (fun _ _ _ _ _ => pv 1))), ?_⟩
    refine ⟨_, rfl, a, rfl, ⟨_, h⟩, fun D nD => ?_⟩
    refine lc_it (walk_tup (K := K) (a := a) (xs := xs)) (fun i H2 => Same H H2 ∧ ∃ bs, H2 D = some (.lst bs) ∧ TrAll K H2 bs ((ts.take i).filter isTup)) ⟨same_new nD, [], upd_same, .nil⟩ (fun i H2 _ ⟨s2, _⟩ => sqt_same s2 h) ?_ ?_
    · rintro i x H2 H3 hi ⟨s2, bs, e2, b2⟩ ⟨rfl, hx⟩
      obtain ⟨t, ht, tx⟩ := (q.same s2).get hx
      have et : ts.take (i + 1) = ts.take i ++ [t] := by rw [List.take_add_one, ht]; rfl
      refine ⟨rfl, _, rfl, x, .ty "tuple", .type (tyT t), .type "tuple", isTup t, rfl, .ty "tuple", tx.ty, k_tup K t, _, rfl, ?_⟩
      have s3 : ∀ o, Same H (upd H3 D o) := fun o b u e => by
        rw [upd_ne (ne_of_none e nD)]
        exact s2 b u e
      cases e : isTup t with
      | true =>
        refine iteT ⟨_, rfl, bs, e2, small1000 ?_, s3 _, _, upd_same, ?_⟩
        · rw [b2.len]
          exact Nat.le_trans (List.length_filter_le _ _) (by rw [List.length_take]; omega)
        · rw [et, List.filter_append]
          have e' : [t].filter isTup = [t] := by simp [List.filter, e]
          rw [e']
          exact (b2.updL e2).snoc (tx.updL e2)
      | false =>
        refine iteF ⟨s2, bs, e2, ?_⟩
        rw [et, List.filter_append]
        have e' : [t].filter isTup = [] := by simp [List.filter, e]
        rw [e', List.append_nil]
        exact b2
    · rintro H2 ⟨s2, bs, e2, b2⟩
      have e : ts.take xs.length = ts := by rw [q.len, List.take_length]
      rw [e] at b2
      exact k D bs H2 s2 nD e2 b2
end
end BK


set_option Elab.async false
set_option linter.all false
set_option maxRecDepth 100000
set_option maxHeartbeats 4000000
/-! A set of texts, of any number below 4000; its length. -/
namespace BS
open PySem PySem.Spec PyProof.Rows
/-- how many different ones among the first i -/
def cnt (xs : List Str) : Nat → Nat
  | 0 => 0
  | i + 1 => if ((xs.take i).any (· == xs.getD i Str.empty)) = true then cnt xs i else cnt xs i + 1
theorem cnt_le (xs : List Str) : ∀ i, cnt xs i ≤ i
  | 0 => Nat.le_refl 0
  | i + 1 => by
    have := cnt_le xs i
    unfold cnt
    split <;> omega
theorem take_get {xs : List Str} {i : Nat} (h : i < xs.length) : xs.take (i + 1) = xs.take i ++ [xs.getD i Str.empty] := by
  rw [List.take_add_one, List.getElem?_eq_getElem h]
  simp [List.getD, List.getElem?_eq_getElem h]
abbrev freshSet (led : Bool) : Obj := { cls := .type "set", dict := none, data := .set #[] 0 (.fresh 0 0 led) }
/-- the texts among the first i -/
abbrev met (xs : List Str) (i : Nat) : Str → Bool := fun y => (xs.take i).any (· == y)
section
variable {prog : Program} {w : World} {A : Around} {R : Result → Shared → Prop} {it : Addr} {fs ws : List Addr} {G : Array GenState → Array GenState → Prop} {n : Nat} {P : Nat → Value → Prop} {St : Nat → Shared → Prop}
theorem turns (W : WalksS prog w A.in1 it fs ws G n P St) (a : Addr) (na : a ∉ fs) (xs : List Str) (len : xs.length = n) (few : n + 1 < scanBound) (val : ∀ i v, P i v → ∃ t, v = .str (xs.getD i Str.empty) t) (d : Nat) :
    ∀ (i : Nat) (s : Shared), i + d = n → St i s → s.heap.SetOf (PySem.strKind prog w) a (met xs i) (cnt xs i) →
      (∀ s', Moved (a :: ws) G s s' → s'.heap.SetOf (PySem.strKind prog w) a (met xs n) (cnt xs n) → R (.ok (.ret .none)) s') → codeAny (model prog w) A (.builtin "set.update.loop" ⟨[.ref a, .ref it], []⟩) R s := by
  have nw : a ∉ ws := fun z => na (W.sub _ z)
  have wider : ∀ b ∈ ws, b ∈ a :: ws := fun b z => List.mem_cons_of_mem _ z
  have moved : ∀ {s s' : Shared} {S : Str → Bool} {m : Nat}, Moved ws G s s' → s.heap.SetOf (PySem.strKind prog w) a S m → s'.heap.SetOf (PySem.strKind prog w) a S m := fun mv ⟨o, es, ep, t, q, rest⟩ => ⟨o, es, ep, t, mv.heap a _ nw q, rest⟩
  induction d with
  | zero =>
    intro i s e st here then_
    obtain rfl : i = n := e
    refine codeAny_builtin PyProof.Rows.F.entry_set_update_loop ?_
    rw [Around.under_plainId PyProof.Rows.F.plain_set_update_loop _]
    show wpAny _ A.in1 (pyNext (.ref it) >>= _) _ _ s
    refine wpAny_bind (W.done s _ _ st fun s' mv => ?_)
    exact wpAny_pure (then_ s' (mv.mono wider) (moved mv here))
  | succ d ih =>
    intro i s e st here then_
    have lt : i < n := by omega
    refine codeAny_builtin PyProof.Rows.F.entry_set_update_loop ?_
    rw [Around.under_plainId PyProof.Rows.F.plain_set_update_loop _]
    show wpAny _ A.in1 (pyNext (.ref it) >>= _) _ _ s
    refine wpAny_bind (W.item i s _ _ lt st fun v s' pv st' mv => ?_)
    obtain ⟨t, rfl⟩ := val i v pv
    have here' := moved mv here
    have room : cnt xs i + 1 < scanBound := by have := cnt_le xs i; omega
    show wpAny _ A.in1 (holding [Value.str (xs.getD i Str.empty) t] (setAdd a (.str (xs.getD i Str.empty) t)) >>= _) _ _ s'
    refine wpAny_bind (wpAny_holding ?_)
    unfold setAdd
    refine wpAny_holding (wpAny_bind ((PySem.strKind prog w).pyHash (k := xs.getD i Str.empty) (strKind_is _ _ _ _) ?_))
    refine wpAny_setAddHashed_of (knd := PySem.strKind prog w) (s := { s' with toks := s'.toks + 1 }) (strKind_is _ _ _ _) rfl here' room fun h' but there => ?_
    have next : h'.SetOf (PySem.strKind prog w) a (met xs (i + 1)) (cnt xs (i + 1)) := by
      refine SetOf_congr there (fun y => ?_) rfl
      show ((xs.take i).any (· == y) || decide (y = xs.getD i Str.empty)) = (xs.take (i + 1)).any (· == y)
      rw [take_get (by omega), List.any_append]
      have one : ∀ x : Str, decide (y = x) = [x].any (· == y) := fun x => by
        by_cases z : y = x
        · simp [z]
        · have z' : ¬ x = y := fun q => z q.symm
          simp [z, z']
      rw [one]
    have keep : ∀ b, b ≠ a → h'.get? b = s'.heap.get? b := fun b nb => but.2 b nb
    refine wpAny_pure ⟨plainId_quiet PyProof.Rows.F.plain_set_update_loop _, ih (i + 1) _ (by omega) (W.frame _ s' _ _ st' (Nat.le_succ _) fun b z o q => ?_) next fun s'' mv2 done => ?_⟩
    · rw [keep b fun q => na (by rw [← q]; exact z)]
      exact q
    · refine then_ s'' (Moved.trans W.gtrans ((mv.mono wider).then_heap (Nat.le_succ _) fun b o z q => ?_) mv2) done
      rw [keep b fun q => z (by rw [q]; exact List.mem_cons_self)]
      exact q
end
section
variable {prog : Program} {w : World} {A : Around} {E : Value → Shared → Prop} {s : Shared}
/-- set(xs) of a list of texts -/
theorem set_list {l : Addr} {its : Array Value} {xs : List Str} {Q : Value → Shared → Prop} (calm : A.handled = none) (ml : s.heap.IsList l its) (tx : StrsAre its.toList xs) (few : xs.length + 1 < scanBound)
    (q : ∀ (h' : Heap) (tk : Nat), h'.SetOf (PySem.strKind prog w) s.heap.objs.size (met xs xs.length) (cnt xs xs.length) → (∀ b o, b < s.heap.objs.size → s.heap.get? b = some o → h'.get? b = some o) → Q (.ref s.heap.objs.size) { s with heap := h', toks := tk }) :
    wpAny (model prog w) A (call (.type "set") [.ref l]) Q E s := by
  have len : xs.length = its.size := by rw [← StrsAre.len_eq tx, Array.length_toList]
  obtain ⟨c, tl, hmro⟩ := PySem.F.called_set.mro
  have f1 := PySem.F.called_set.made
  have f2 := PySem.F.called_set.sub
  refine wpAny_call (codeAny_of_tree ?_)
  show wpAny _ _ (callAny (.type "set") _) _ _ _
  refine wpAny_pure ⟨Code.quiet_builtin _ (by decide +kernel), codeAny_builtin PySem.F.entry_type_call ?_⟩
  rw [Around.under_plain (weight_type_call_type "set" [.ref l] []) rfl]
  have f3 := PySem.F.called_set.notType
  have f4 := PySem.F.called_set.canCreate
  have f5 := PySem.F.typeCall_set_1 (.ref l)
  repeat (any_goals (first | assumption | wp_step))
  refine codeAny_mono (code_set_new_1 (.ref l) (E := E) (Q₁ := fun obj s₁ => ∃ led : Bool, obj = .ref s.heap.objs.size ∧ s₁ = { s with heap := s.heap.push (freshSet led) }) fun led => ⟨led, rfl, rfl⟩) fun r s₁ hr => ?_
  match r, hr with
  | .error e, hr => exact hr
  | .ok (.ret obj), hr =>
    obtain ⟨led, rfl, rfl⟩ := hr
    have at0 : (s.heap.push (freshSet led)).get? s.heap.objs.size = some (freshSet led) := Heap.get?_push_size _ rfl
    have ty0 : Shared.TypeIs { s with heap := s.heap.push (freshSet led) } (.ref s.heap.objs.size) "set" := ⟨_, at0, rfl⟩
    have f6 := PySem.F.called_set.init.lookup
    have f7 := PySem.F.called_set.init.bind (.ref s.heap.objs.size)
    repeat (any_goals (first | assumption | wp_step))
    refine codeAny_mono (codeAny_call_builtin (R := wants (fun r s₂ => r = .none ∧ ∃ h' tk, s₂ = { s with heap := h', toks := tk } ∧ h'.SetOf (PySem.strKind prog w) s.heap.objs.size (met xs xs.length) (cnt xs xs.length) ∧
        ∀ b o, b < s.heap.objs.size → s.heap.get? b = some o → h'.get? b = some o) E) PySem.F.called_set.init.plain PySem.F.entry_set_init (check_set_init_1 ty0 ?_)) fun r₂ s₂ hr₂ => ?_
    · obtain ⟨⟨oc, od, odt, osl⟩, gl, e1, nl, e2⟩ := ml
      simp only at e1 e2
      subst e1
      subst e2
      have gl' : (s.heap.push (freshSet led)).get? l = some { cls := .type "list", dict := od, data := .seq its nl, slots := osl } := Heap.get?_push_of_some _ gl
      have g1 := PySem.F.sub_list_set
      have g2 := PySem.F.sub_list_frozenset
      have g3 : (Value.type "list" == Value.type "dict") = false := by decide
      have ml' : (s.heap.push (freshSet led)).IsList l its := ⟨_, gl', rfl, nl, rfl⟩
      unfold Builtin.«set.__init__» noKeywords Builtin.Frozenset.updateFrom
      generalize eP : pyIter = PI
      wp_walk
      subst eP
      refine wpAny_pyIter_list ml' (wpAny_bind (wpAny_runValue ?_))
      have ll : l < s.heap.objs.size := Heap.lt_size gl
      have sz : (s.heap.push (freshSet led)).objs.size = s.heap.objs.size + 1 := Heap.size_push ..
      have ni : l ≠ (s.heap.push (freshSet led)).objs.size := sz ▸ Nat.ne_of_lt (Nat.lt_succ_of_lt ll)
      have nm : s.heap.objs.size ∉ [(s.heap.push (freshSet led)).objs.size, l] := by
        simp only [List.mem_cons, List.not_mem_nil, or_false, not_or, sz]
        exact ⟨Nat.ne_of_lt (Nat.lt_succ_self _), Nat.ne_of_gt ll⟩
      refine turns ((Walks.list (show A.in1.in1.in1.handled = none by simp [calm]) _ l ni its).toS) s.heap.objs.size nm xs len (by rw [← len]; exact few) (fun i v e => SS.strs_at tx i v (by rw [Array.getElem?_toList]; exact e)) its.size 0 _ (by omega)
        ⟨⟨_, Heap.get?_push_size _ rfl, rfl, rfl⟩, ml'.push _⟩ ?z0 ?z1
      case z0 =>
        refine SetOf_congr ((setObjOf_fresh (knd := PySem.strKind prog w) led).setOf (Heap.get?_push_of_some _ at0) (by unfold scanBound; omega)) (fun _ => rfl) rfl
      case z1 =>
        rintro ⟨h', g', d', tk', os'⟩ mv done
        obtain rfl : g' = s.gens := mv.gens
        obtain rfl : d' = s.drawn := mv.drawn
        obtain rfl : os' = s.os := mv.os
        rw [← len] at done
        show wpAny _ _ _ _ _ _
        refine wpAny_pure ?_
        show wpAny _ _ (ret Value.none) _ _ _
        refine wpAny_pure ⟨rfl, h', tk', rfl, done, fun b o z e => ?_⟩
        refine mv.heap b o ?_ (Heap.get?_push_of_some _ (Heap.get?_push_of_some _ e))
        simp only [List.mem_cons, List.not_mem_nil, or_false, not_or, sz]
        exact ⟨Nat.ne_of_lt z, Nat.ne_of_lt (Nat.lt_succ_of_lt z)⟩
    · match r₂, hr₂ with
      | .error e, hr₂ => exact hr₂
      | .ok (.ret r), hr₂ =>
        obtain ⟨rfl, h', tk, rfl, done, kp⟩ := hr₂
        repeat (any_goals (first | assumption | wp_step))
        exact q _ _ done kp
/-- set(xs) of a tuple of texts -/
theorem set_tuple {l : Addr} {its : Array Value} {xs : List Str} {Q : Value → Shared → Prop} (calm : A.handled = none) (ml : s.heap.IsTuple l its) (tx : StrsAre its.toList xs) (few : xs.length + 1 < scanBound)
    (q : ∀ (h' : Heap) (tk : Nat), h'.SetOf (PySem.strKind prog w) s.heap.objs.size (met xs xs.length) (cnt xs xs.length) → (∀ b o, b < s.heap.objs.size → s.heap.get? b = some o → h'.get? b = some o) → Q (.ref s.heap.objs.size) { s with heap := h', toks := tk }) :
    wpAny (model prog w) A (call (.type "set") [.ref l]) Q E s := by
  have len : xs.length = its.size := by rw [← StrsAre.len_eq tx, Array.length_toList]
  obtain ⟨c, tl, hmro⟩ := PySem.F.called_set.mro
  have f1 := PySem.F.called_set.made
  have f2 := PySem.F.called_set.sub
  refine wpAny_call (codeAny_of_tree ?_)
  show wpAny _ _ (callAny (.type "set") _) _ _ _
  refine wpAny_pure ⟨Code.quiet_builtin _ (by decide +kernel), codeAny_builtin PySem.F.entry_type_call ?_⟩
  rw [Around.under_plain (weight_type_call_type "set" [.ref l] []) rfl]
  have f3 := PySem.F.called_set.notType
  have f4 := PySem.F.called_set.canCreate
  have f5 := PySem.F.typeCall_set_1 (.ref l)
  repeat (any_goals (first | assumption | wp_step))
  refine codeAny_mono (code_set_new_1 (.ref l) (E := E) (Q₁ := fun obj s₁ => ∃ led : Bool, obj = .ref s.heap.objs.size ∧ s₁ = { s with heap := s.heap.push (freshSet led) }) fun led => ⟨led, rfl, rfl⟩) fun r s₁ hr => ?_
  match r, hr with
  | .error e, hr => exact hr
  | .ok (.ret obj), hr =>
    obtain ⟨led, rfl, rfl⟩ := hr
    have at0 : (s.heap.push (freshSet led)).get? s.heap.objs.size = some (freshSet led) := Heap.get?_push_size _ rfl
    have ty0 : Shared.TypeIs { s with heap := s.heap.push (freshSet led) } (.ref s.heap.objs.size) "set" := ⟨_, at0, rfl⟩
    have f6 := PySem.F.called_set.init.lookup
    have f7 := PySem.F.called_set.init.bind (.ref s.heap.objs.size)
    repeat (any_goals (first | assumption | wp_step))
    refine codeAny_mono (codeAny_call_builtin (R := wants (fun r s₂ => r = .none ∧ ∃ h' tk, s₂ = { s with heap := h', toks := tk } ∧ h'.SetOf (PySem.strKind prog w) s.heap.objs.size (met xs xs.length) (cnt xs xs.length) ∧
        ∀ b o, b < s.heap.objs.size → s.heap.get? b = some o → h'.get? b = some o) E) PySem.F.called_set.init.plain PySem.F.entry_set_init (check_set_init_1 ty0 ?_)) fun r₂ s₂ hr₂ => ?_
    · obtain ⟨⟨oc, od, odt, osl⟩, gl, e1, nl, e2⟩ := ml
      simp only at e1 e2
      subst e1
      subst e2
      have gl' : (s.heap.push (freshSet led)).get? l = some { cls := .type "tuple", dict := od, data := .seq its nl, slots := osl } := Heap.get?_push_of_some _ gl
      have g1 := PySem.F.sub_tuple_set
      have g2 := PySem.F.sub_tuple_frozenset
      have g3 : (Value.type "tuple" == Value.type "dict") = false := by decide
      have ml' : (s.heap.push (freshSet led)).IsTuple l its := ⟨_, gl', rfl, nl, rfl⟩
      unfold Builtin.«set.__init__» noKeywords Builtin.Frozenset.updateFrom
      generalize eP : pyIter = PI
      wp_walk
      subst eP
      refine wpAny_pyIter_tuple ml' (wpAny_bind (wpAny_runValue ?_))
      have ll : l < s.heap.objs.size := Heap.lt_size gl
      have sz : (s.heap.push (freshSet led)).objs.size = s.heap.objs.size + 1 := Heap.size_push ..
      have ni : l ≠ (s.heap.push (freshSet led)).objs.size := sz ▸ Nat.ne_of_lt (Nat.lt_succ_of_lt ll)
      have nm : s.heap.objs.size ∉ [(s.heap.push (freshSet led)).objs.size, l] := by
        simp only [List.mem_cons, List.not_mem_nil, or_false, not_or, sz]
        exact ⟨Nat.ne_of_lt (Nat.lt_succ_self _), Nat.ne_of_gt ll⟩
      refine turns ((Walks.tuple (show A.in1.in1.in1.handled = none by simp [calm]) _ l ni its).toS) s.heap.objs.size nm xs len (by rw [← len]; exact few) (fun i v e => SS.strs_at tx i v (by rw [Array.getElem?_toList]; exact e)) its.size 0 _ (by omega)
        ⟨⟨_, Heap.get?_push_size _ rfl, rfl, rfl⟩, ml'.push _⟩ ?z0 ?z1
      case z0 =>
        refine SetOf_congr ((setObjOf_fresh (knd := PySem.strKind prog w) led).setOf (Heap.get?_push_of_some _ at0) (by unfold scanBound; omega)) (fun _ => rfl) rfl
      case z1 =>
        rintro ⟨h', g', d', tk', os'⟩ mv done
        obtain rfl : g' = s.gens := mv.gens
        obtain rfl : d' = s.drawn := mv.drawn
        obtain rfl : os' = s.os := mv.os
        rw [← len] at done
        show wpAny _ _ _ _ _ _
        refine wpAny_pure ?_
        show wpAny _ _ (ret Value.none) _ _ _
        refine wpAny_pure ⟨rfl, h', tk', rfl, done, fun b o z e => ?_⟩
        refine mv.heap b o ?_ (Heap.get?_push_of_some _ (Heap.get?_push_of_some _ e))
        simp only [List.mem_cons, List.not_mem_nil, or_false, not_or, sz]
        exact ⟨Nat.ne_of_lt z, Nat.ne_of_lt (Nat.lt_succ_of_lt z)⟩
    · match r₂, hr₂ with
      | .error e, hr₂ => exact hr₂
      | .ok (.ret r), hr₂ =>
        obtain ⟨rfl, h', tk, rfl, done, kp⟩ := hr₂
        repeat (any_goals (first | assumption | wp_step))
        exact q _ _ done kp
end
end BS


set_option Elab.async false
set_option linter.all false
set_option maxRecDepth 100000
set_option maxHeartbeats 2000000
/-! len(set(texts)); different names. -/
namespace BK
open PySem PySem.Spec PyProof.Rows L2 BS
def tLenTexts (K : PySem.W.Frag) (ta : TE) : TE := fun σ H Q => ta σ H fun x H1 => ∃ l, ∃ xs : List Str, x = .ref l ∧ (SqL K H1 l (xs.map V.str) ∨ SqT K H1 l (xs.map V.str)) ∧ xs.length ≤ 4000 ∧ Q (.int (cnt xs xs.length)) H1
section
variable {X : Cx}
theorem pe_lenTexts {a : Expr} {ta : TE} {p p2 q pos : Pos} (hc : X.calm = true) (g1 : Gl X "len") (m1 : X.mg "len" = none) (g2 : Gl X "set") (m2 : X.mg "set" = none) (ha : PE X a ta)
    (na : starEach [a] X.env = (false, eval a X.env) :: starEach [] X.env := by rfl) : PE X (.Call (.Name "len" p) [.Call (.Name "set" p2) [a] [] q] [] pos) (tLenTexts X.K ta) := by
  refine ⟨fun pins s σ H Q I h => Call_ (ld_blt I g1 m1 boot_len (PyProof.Rows.callWith_builtin1 (PyProof.Rows.args_cons ?_ rfl) rfl rfl))⟩
  refine Call_ (ld_blt I g2 m2 boot_set (PyProof.Rows.callWith_type1 (PyProof.Rows.args_cons (thn (ha.run pins s σ H _ I h) fun v s1 z => PyProof.Rows.args_nil ?_) na) na rfl))
  obtain ⟨x, H1, I1, rx, l, xs, rfl, sq, few, k⟩ := z
  obtain rfl : v = Value.ref l := rx
  have room : xs.length + 1 < scanBound := by unfold scanBound; omega
  have after : ∀ (h' : Heap) (tk : Nat), h'.SetOf (PySem.strKind X.prog X.w) s1.heap.objs.size (met xs xs.length) (cnt xs xs.length) → (∀ b o, b < s1.heap.objs.size → s1.heap.get? b = some o → h'.get? b = some o) →
      wpAny (model X.prog X.w) X.A (spliced (backTo pos (starEach [] X.env))) (fun vs s₂ => wpAny (model X.prog X.w) X.A (call (.builtin "len") (Value.ref s1.heap.objs.size :: vs)) (EP X pins σ Q) X.xe s₂) X.xe { s1 with heap := h', toks := tk } := fun h' tk so kp => by
    have I2 : Inv X pins σ H1 { s1 with heap := h', toks := tk } := I1.kept fun b o e => kp b o (Heap.lt_size e) e
    obtain ⟨o, es, ep, t, e1, e2, e3, _, _, _, e4, e5⟩ := so
    have le := cnt_le xs xs.length
    exact PyProof.Rows.args_nil (call_len_set e1 e2 e3 e4 (by rw [e5]; omega) ⟨.int (cnt xs xs.length), H1, I2.tok _, ⟨_, by rw [e5]⟩, k⟩)
  rcases sq with sq | sq
  · obtain ⟨its, r, pl, _⟩ := I1.list sq
    exact set_list (I1.ok.hd hc) pl.isList (by simpa using strsAre_of r) room after
  · obtain ⟨its, r, pl, _⟩ := I1.tuple sq
    exact set_tuple (I1.ok.hd hc) pl (by simpa using strsAre_of r) room after
end
/-- all different: as many as there are -/
theorem cnt_all {xs : List Str} (h : xs.Nodup) : ∀ i, i ≤ xs.length → cnt xs i = i
  | 0, _ => rfl
  | i + 1, hi => by
    have ih := cnt_all h i (by omega)
    unfold BS.cnt
    rw [ih, if_neg]
    intro z
    rw [List.any_eq_true] at z
    obtain ⟨y, hy, e⟩ := z
    obtain ⟨j, hj⟩ := List.getElem?_of_mem hy
    have jl : j < i := by
      have := (List.getElem?_eq_some_iff.mp hj).1
      rw [List.length_take] at this
      omega
    rw [List.getElem?_take_of_lt jl] at hj
    have hi' : xs[i]? = some y := by
      have e' : y = xs.getD i Str.empty := by simpa using e
      rw [e']
      simp [List.getD, List.getElem?_eq_getElem (show i < xs.length by omega)]
    have := L2.nd_ix h hj hi'
    omega
theorem cnt_lt {xs : List Str} : ∀ i, i ≤ xs.length → cnt xs i = i → (xs.take i).Nodup
  | 0, _, _ => by simp
  | i + 1, hi, e => by
    have le := cnt_le xs i
    unfold BS.cnt at e
    by_cases z : ((xs.take i).any (· == xs.getD i Str.empty)) = true
    · rw [if_pos z] at e
      omega
    · rw [if_neg z] at e
      have ih := cnt_lt (xs := xs) i (by omega) (by omega)
      rw [take_get (xs := xs) (i := i) (by omega)]
      refine nd_snoc ih fun m => z ?_
      rw [List.any_eq_true]
      exact ⟨_, m, by simp⟩
theorem cnt_nodup (xs : List Str) : (cnt xs xs.length = xs.length) ↔ xs.Nodup :=
  ⟨fun h => by have := cnt_lt xs.length (Nat.le_refl _) h; rwa [List.take_length] at this, fun h => cnt_all h _ (Nat.le_refl _)⟩
end BK


set_option Elab.async false
set_option maxRecDepth 100000
set_option maxHeartbeats 1000000
/-! are_different_names. -/
namespace BK
open PySem PySem.Spec PyProof.Rows L2
theorem pi_two {X : Cx} {tg e : Expr} {u t : TI} (h1 : PI X tg e u) (h2 : PI X tg e t) : PI X tg e (fun σ H R => u σ H R ∨ t σ H R) := by
  refine ⟨fun pins s σ H R I h => ?_⟩
  rcases h with h | h
  · exact h1.run pins s σ H R I h
  · exact h2.run pins s σ H R I h
/-- a list or a tuple -/
def SqA (K : PySem.W.Frag) (H : Hp) (a : Addr) (xs : List V) : Prop := SqL K H a xs ∨ SqT K H a xs
theorem SqA.same {K : PySem.W.Frag} {H H' : Hp} {a : Addr} {xs : List V} (e : Same H H') (h : SqA K H a xs) : SqA K H' a xs := h.elim (fun h => .inl (e.seq h)) fun h => .inr (sqt_same e h)
def texts : List Tr → List Str
  | [] => []
  | .str s :: r => s :: texts r
  | _ :: r => texts r
def diffT (ts : List Tr) : Bool := ts.all nameT && decide (texts ts).Nodup
def spDiff (K : PySem.W.Frag) : Sp := fun vs H Q _ => ∃ a xs ts, vs = [.ref a] ∧ SqA K H a xs ∧ TrAll K H xs ts ∧ ts.length ≤ 1000 ∧ ∀ H', Same H H' → Q (.bl (diffT ts)) H'
theorem names_texts {K : PySem.W.Frag} {H : Hp} : ∀ {xs : List V} {ts : List Tr}, TrAll K H xs ts → ts.all nameT = true → xs = (texts ts).map V.str
  | _, _, .nil, _ => rfl
  | _, _, .cons (t := t) h k, e => by
    rw [List.all_cons, Bool.and_eq_true] at e
    cases h with
    | str s hs => exact congrArg (V.str s :: ·) (names_texts k e.2)
    | non => exact absurd e.1 (by simp [nameT])
    | bl b => exact absurd e.1 (by simp [nameT])
    | int i => exact absurd e.1 (by simp [nameT])
    | lst h => exact absurd e.1 (by simp [nameT])
    | dct h => exact absurd e.1 (by simp [nameT])
    | tup h q => exact absurd e.1 (by simp [nameT])
section
variable {P : Program} {w : World} {K : PySem.W.Frag} {mg : Str → Option Value} {base : Heap}
abbrev sDiff : Stmt := top 18
theorem scDiff : FnScope ["things", "thing"] ["things"] (defScope sDiff) := ⟨rfl, rfl, rfl, by decide +kernel, rfl, by decide +kernel, by decide +kernel⟩
theorem ok_diff {f fN : Addr} {fd fdN : FuncData} (F : Fun K "are_different_names" "are_different_names" sDiff f fd) (T : Forms mg) (mS : mg "set" = none) (GN : FnOk P w K mg base CX0 1 fN fdN ["thing"] (spOf nameT K)) (bN : Binds K fdN ["thing"] []) (gN : mg "is_name" = some (.ref fN))
    (kN : PySem.W.keepIn K (.ref fN) = true) : FnOk P w K mg base CX0 2 f fd ["things"] (spDiff K) := by
  refine F.ok scDiff (fun vs H Q E h => ?_) (fun cdv A outer s H vs Q E hr h => ?_)
  · obtain ⟨a, xs, ts, rfl, _⟩ := h
    rfl
  · obtain ⟨a, xs, ts, rfl, sq, tr, tl, k⟩ := h
    refine ⟨_, pss_one (ps_ret (pe_and (pe_callB (cr_all rfl) (by rfl) T.all (by decide +kernel) (pa_cons (pe_lc (own := [("thing", 1)]) (g := gName 1) (tt := tYes) (te := tCall (spOf nameT K) [] E0 (tCons (tVar 1) tNil)) rfl scDiff.nd (pi_two (pi_list (pv 0)) (pi_tup (pv 0)))
          (blkOk_by (N := ["things", "thing"]) (sc := defScope sDiff) (by decide +kernel)) (fun _ _ _ _ _ => pg_name (i := 1) scDiff.nd rfl (Or.inl rfl)) (fun _ _ _ _ _ => pts_nil)
          (fun _ _ _ _ _ => by exact pe_call GN hr rfl gN kN bN .nil pass0 (pa_cons (pv 1) pa_nil))) pa_nil))
        (pe_one (pe_cmpR op_eq (pe_lenTexts rfl rfl T.len rfl mS (pv 0)) (pe_callB call_len_seq (by rfl) T.len boot_len (pa_cons (pv 0) pa_nil)) rfl)))), ?_⟩
    -- the walk, by either road
    have step : ∀ (D : Addr) (i : Nat) (x : V) (H2 : Hp), H D = none → xs[i]? = some x → Same H H2 → H2 D = some (.lst (((ts.take i).map nameT).map V.bl)) → ∀ vs : List V, vs = [x] ++ [] → ∃ v t, vs = [v] ∧ TrAt K H2 v t ∧ ∀ H', Same H2 H' → 
        ∃ acc, H' D = some (.lst acc) ∧ acc.length < sizeLine ∧ (Same H (upd H' D (.lst (acc ++ [.bl (nameT t)]))) ∧ (upd H' D (.lst (acc ++ [.bl (nameT t)]))) D = some (.lst (((ts.take (i + 1)).map nameT).map V.bl))) := by
      intro D i x H2 nD hx s2 e2 vs ev
      obtain ⟨t, ht, tx⟩ := (tr.same s2).get hx
      have il : i < ts.length := (List.getElem?_eq_some_iff.mp ht).1
      refine ⟨x, t, by rw [ev]; rfl, tx, fun H' s' => ⟨_, s' _ _ e2, small1000 (by rw [List.length_map, List.length_map, List.length_take]; omega), fun b o e => ?_, ?_⟩⟩
      · rw [upd_ne (ne_of_none e nD)]
        exact s' _ _ (s2 b o e)
      · rw [upd_same, List.take_add_one, ht, List.map_append, List.map_append]
        rfl
    rcases sq with sq | sq
    · refine Or.inl ⟨_, rfl, a, rfl, ⟨xs, sq⟩, fun D nD => ?_⟩
      refine lc_it (walk_list (K := K) (a := a) (xs := xs)) (fun i H2 => Same H H2 ∧ H2 D = some (.lst (((ts.take i).map nameT).map V.bl))) ⟨same_new nD, upd_same⟩ (fun i H2 _ ⟨s2, _⟩ => s2.seq sq) ?_ ?_
      · rintro i x H2 H3 hi ⟨s2, e2⟩ ⟨rfl, hx⟩
        obtain ⟨v, t, ev, tv, more⟩ := step D i x H3 nD hx s2 e2 _ rfl
        refine ⟨rfl, ?_⟩
        refine tyes ?_
        exact ⟨_, rfl, v, t, ev, tv, more⟩
      · rintro H2 ⟨s2, e2⟩
        have et : ts.take xs.length = ts := by rw [tr.len, List.take_length]
        rw [et] at e2
        refine ⟨D, _, rfl, SqL.of e2, _, rfl, ?_⟩
        have ea : (ts.map nameT).all id = ts.all nameT := by rw [List.all_map]; rfl
        rw [ea]
        refine ite2 (fun h => ?_) (fun h => ?_)
        · have ex := names_texts tr h
          have el : (texts ts).length = ts.length := by rw [← tr.len, ex, List.length_map]
          refine ⟨_, rfl, a, texts ts, rfl, (by rw [← ex]; exact (.inl (s2.seq sq))), by omega, _, rfl, a, xs, rfl, (.inl (s2.seq sq)), rfl, ?_⟩
          have e : decide (V.int (BS.cnt (texts ts) (texts ts).length : Nat) = V.int (xs.length : Nat)) = decide (texts ts).Nodup := by
            rw [dec_int, tr.len, ← el]
            by_cases z : (texts ts).Nodup
            · rw [(cnt_nodup _).mpr z, decide_eq_true z]
              simp
            · rw [decide_eq_false z, beq_eq_false_iff_ne]
              intro q
              exact z ((cnt_nodup _).mp (by omega))
          rw [e]
          have q := k H2 s2
          unfold diffT at q
          rw [h, Bool.true_and] at q
          exact q
        · have q := k H2 s2
          unfold diffT at q
          rw [show ts.all nameT = false by simpa using h, Bool.false_and] at q
          exact q
    · refine Or.inr ⟨_, rfl, a, rfl, ⟨xs, sq⟩, fun D nD => ?_⟩
      refine lc_it (walk_tup (K := K) (a := a) (xs := xs)) (fun i H2 => Same H H2 ∧ H2 D = some (.lst (((ts.take i).map nameT).map V.bl))) ⟨same_new nD, upd_same⟩ (fun i H2 _ ⟨s2, _⟩ => sqt_same s2 sq) ?_ ?_
      · rintro i x H2 H3 hi ⟨s2, e2⟩ ⟨rfl, hx⟩
        obtain ⟨v, t, ev, tv, more⟩ := step D i x H3 nD hx s2 e2 _ rfl
        refine ⟨rfl, ?_⟩
        refine tyes ?_
        exact ⟨_, rfl, v, t, ev, tv, more⟩
      · rintro H2 ⟨s2, e2⟩
        have et : ts.take xs.length = ts := by rw [tr.len, List.take_length]
        rw [et] at e2
        refine ⟨D, _, rfl, SqL.of e2, _, rfl, ?_⟩
        have ea : (ts.map nameT).all id = ts.all nameT := by rw [List.all_map]; rfl
        rw [ea]
        refine ite2 (fun h => ?_) (fun h => ?_)
        · have ex := names_texts tr h
          have el : (texts ts).length = ts.length := by rw [← tr.len, ex, List.length_map]
          refine ⟨_, rfl, a, texts ts, rfl, (by rw [← ex]; exact (.inr (sqt_same s2 sq))), by omega, _, rfl, a, xs, rfl, (.inr (sqt_same s2 sq)), rfl, ?_⟩
          have e : decide (V.int (BS.cnt (texts ts) (texts ts).length : Nat) = V.int (xs.length : Nat)) = decide (texts ts).Nodup := by
            rw [dec_int, tr.len, ← el]
            by_cases z : (texts ts).Nodup
            · rw [(cnt_nodup _).mpr z, decide_eq_true z]
              simp
            · rw [decide_eq_false z, beq_eq_false_iff_ne]
              intro q
              exact z ((cnt_nodup _).mp (by omega))
          rw [e]
          have q := k H2 s2
          unfold diffT at q
          rw [h, Bool.true_and] at q
          exact q
        · have q := k H2 s2
          unfold diffT at q
          rw [show ts.all nameT = false by simpa using h, Bool.false_and] at q
          exact q
end
end BK


set_option Elab.async false
set_option maxRecDepth 100000
set_option maxHeartbeats 1000000
/-! are_names, is_part; None in a written dict. -/
namespace BK
open PySem PySem.Spec PyProof.Rows L2
def argsT : Tr → Bool
  | .tup ts => ts.all nameT
  | _ => false
def partT (t : Tr) (k : Str) : Bool := if k = "block" then isTup t else if k = "args" then argsT t else if k = "integer" then numT 99 t else if k = "value" then numT 9999 t else if k = "source" ∧ numT 99 t = true then true else nameT t
def spPart (K : PySem.W.Frag) : Sp := fun vs H Q _ => ∃ v t k, vs = [v, .str k] ∧ TrAt K H v t ∧ (k = "args" → ∀ ts, t = .tup ts → ts.length ≤ 4000000) ∧ ∀ H', Same H H' → Q (.bl (partT t k)) H'
abbrev sAreNames : Stmt := top 14
abbrev sPart : Stmt := top 19
theorem scAreNames : FnScope ["thing", "part"] ["thing"] (defScope sAreNames) := ⟨rfl, rfl, rfl, by decide +kernel, rfl, by decide +kernel, by decide +kernel⟩
theorem scPart : FnScope ["thing", "kind"] ["thing", "kind"] (defScope sPart) := ⟨rfl, rfl, rfl, by decide +kernel, rfl, by decide +kernel, by decide +kernel⟩
theorem eq_txt (a b : Str) : decide (V.str a = V.str b) = decide (a = b) := by
  by_cases h : a = b
  · simp [h]
  · rw [decide_eq_false h, decide_eq_false fun e => h (V.str.inj e)]
def spArgs (K : PySem.W.Frag) : Sp := fun vs H Q _ => ∃ v t, vs = [v] ∧ TrAt K H v t ∧ (∀ ts, t = .tup ts → ts.length ≤ 4000000) ∧ ∀ H', Same H H' → Q (.bl (argsT t)) H'
section
variable {P : Program} {w : World} {K : PySem.W.Frag} {mg : Str → Option Value} {base : Heap}
theorem ok_areNames {f fN : Addr} {fd fdN : FuncData} (F : Fun K "are_names" "are_names" sAreNames f fd) (T : Forms mg) (GN : FnOk P w K mg base CX0 1 fN fdN ["thing"] (spOf nameT K)) (bN : Binds K fdN ["thing"] []) (gN : mg "is_name" = some (.ref fN)) (kN : PySem.W.keepIn K (.ref fN) = true) :
    FnOk P w K mg base CX0 2 f fd ["thing"] (spArgs K) := by
  refine F.ok scAreNames (fun vs H Q E h => ?_) (fun cdv A outer s H vs Q E hr h => ?_)
  · obtain ⟨v, t, rfl, _⟩ := h
    rfl
  · obtain ⟨v, t, rfl, ht, hl, k⟩ := h
    refine ⟨_, pss_one (ps_ret (pe_and (pe_callB call_isi (by rfl) T.isi boot_isinstance (pa_cons (pv 0) (pa_cons (pe_bltn (v := .ty "tuple") (u := .type "tuple") (by rfl) T.tuple (by decide +kernel) rfl) pa_nil)))
      (pe_one (pe_callB (cr_all rfl) (by rfl) T.all (by decide +kernel) (pa_cons (pe_lc (own := [("part", 1)]) (g := gName 1) (tt := tYes) (te := tCall (spOf nameT K) [] E0 (tCons (tVar 1) tNil)) rfl scAreNames.nd (pi_tup (pv 0))
          (blkOk_by (N := ["thing", "part"]) (sc := defScope sAreNames) (by decide +kernel)) (fun _ _ _ _ _ => pg_name (i := 1) scAreNames.nd rfl (Or.inl rfl)) (fun _ _ _ _ _ => pts_nil)
          (fun _ _ _ _ _ => by exact pe_call GN hr rfl gN kN bN .nil pass0 (pa_cons (pv 1) pa_nil))) pa_nil))))), ?_⟩
    refine ⟨_, rfl, v, .ty "tuple", .type (tyT t), .type "tuple", isTup t, rfl, .ty "tuple", ht.ty, k_tup K t, _, rfl, ?_⟩
    have q0 := k H fun _ _ e => e
    cases ht with
    | int i => exact iteF q0
    | bl b => exact iteF q0
    | str z hz => exact iteF q0
    | non => exact iteF q0
    | lst h => exact iteF q0
    | dct h => exact iteF q0
    | @tup a xs ts h tr =>
    have el := tr.len
    have few : ts.length ≤ 4000000 := hl ts rfl
    refine iteT ⟨_, rfl, a, rfl, ⟨xs, h⟩, fun D nD => ?_⟩
    refine lc_it (walk_tup (K := K) (a := a) (xs := xs)) (fun i H2 => Same H H2 ∧ H2 D = some (.lst (((ts.take i).map nameT).map V.bl))) ⟨same_new nD, upd_same⟩ (fun i H2 _ ⟨s2, _⟩ => sqt_same s2 h) ?_ ?_
    · rintro i x H2 H3 hi ⟨s2, e2⟩ ⟨rfl, hx⟩
      obtain ⟨t, ht, tx⟩ := (tr.same s2).get hx
      have il : i < ts.length := (List.getElem?_eq_some_iff.mp ht).1
      refine ⟨rfl, ?_⟩
      refine tyes ?_
      refine ⟨_, rfl, x, t, rfl, tx, fun H' s' => ⟨_, s' _ _ e2, ?_, fun b o e => ?_, ?_⟩⟩
      · have : sizeLine = 16777216 := sizeLine_eq
        rw [List.length_map, List.length_map, List.length_take]; omega
      · rw [upd_ne (ne_of_none e nD)]
        exact s' _ _ (s2 b o e)
      · rw [upd_same, List.take_add_one, ht, List.map_append, List.map_append]
        rfl
    · rintro H2 ⟨s2, e2⟩
      have et : ts.take xs.length = ts := by rw [el, List.take_length]
      rw [et] at e2
      refine ⟨D, _, rfl, SqL.of e2, ?_⟩
      have ea : (ts.map nameT).all id = ts.all nameT := by rw [List.all_map]; rfl
      rw [ea]
      exact k H2 s2
theorem ok_part {f fN fM fA : Addr} {fd fdN fdM fdA : FuncData} (F : Fun K "is_part" "is_part" sPart f fd) (T : Forms mg) (mV : ∃ t, mg "MOST_VALUE" = some (.int 9999 t)) (GN : FnOk P w K mg base CX0 1 fN fdN ["thing"] (spOf nameT K)) (bN : Binds K fdN ["thing"] []) (gN : mg "is_name" = some (.ref fN)) (kN : PySem.W.keepIn K (.ref fN) = true)
    (GM : FnOk P w K mg base CX0 2 fM fdM ["thing", "most"] (spNumber K)) (bM : Binds K fdM ["thing", "most"] []) (gM : mg "is_number" = some (.ref fM)) (kM : PySem.W.keepIn K (.ref fM) = true)
    (GA : FnOk P w K mg base CX0 2 fA fdA ["thing"] (spArgs K)) (bA : Binds K fdA ["thing"] []) (gA : mg "are_names" = some (.ref fA)) (kA : PySem.W.keepIn K (.ref fA) = true) : FnOk P w K mg base CX0 3 f fd ["thing", "kind"] (spPart K) := by
  refine F.ok scPart (fun vs H Q E h => ?_) (fun cdv A outer s H vs Q E hr h => ?_)
  · obtain ⟨v, t, k, rfl, _⟩ := h
    rfl
  · obtain ⟨v, t, kd, rfl, tv, hl, k⟩ := h
    obtain ⟨t2, gX⟩ := T.mn
    obtain ⟨t3, gY⟩ := mV
    have hr1 : Room 1 _ := hr.mono (by decide)
    refine ⟨_, pss_cons (ps_if (pt_cmpR op_eq (pv 1) pe_str (nomark _)) (pss_one (ps_ret (pe_callB call_isi (by rfl) T.isi boot_isinstance (pa_cons (pv 0) (pa_cons (pe_bltn (v := .ty "tuple") (u := .type "tuple") (by rfl) T.tuple (by decide +kernel) rfl) pa_nil))))) pss_nil)
      (pss_cons (ps_if (pt_cmpR op_eq (pv 1) pe_str (nomark _)) (pss_one (ps_ret (pe_call GA hr rfl gA kA bA .nil pass0 (pa_cons (pv 0) pa_nil)))) pss_nil)
      (pss_cons (ps_if (pt_cmpR op_eq (pv 1) pe_str (nomark _)) (pss_one (ps_ret (pe_call GM hr rfl gM kM bM .nil pass0 (pa_cons (pv 0) (pa_cons (pe_glob (v := .int 99) rfl gX ⟨_, rfl⟩) pa_nil))))) pss_nil)
      (pss_cons (ps_if (pt_cmpR op_eq (pv 1) pe_str (nomark _)) (pss_one (ps_ret (pe_call GM hr rfl gM kM bM .nil pass0 (pa_cons (pv 0) (pa_cons (pe_glob (v := .int 9999) rfl gY ⟨_, rfl⟩) pa_nil))))) pss_nil)
      (pss_cons (ps_if (PW.pt (pw_and (pt_cmpR op_eq (pv 1) pe_str (nomark _)) (pw_and1 (pt_val (pe_call GM hr rfl gM kM bM .nil pass0 (pa_cons (pv 0) (pa_cons (pe_glob (v := .int 99) rfl gX ⟨_, rfl⟩) pa_nil))))))) (pss_one (ps_ret pe_bl)) pss_nil)
      (pss_one (ps_ret (pe_call GN hr1 rfl gN kN bN .nil pass0 (pa_cons (pv 0) pa_nil)))))))), ?_⟩
    refine ⟨_, rfl, rfl, _, rfl, ?_⟩
    rw [eq_txt]
    refine ite2 (fun h => ?_) (fun h => ?_)
    · have h1 : kd = "block" := of_decide_eq_true h
      refine ⟨_, rfl, v, .ty "tuple", .type (tyT t), .type "tuple", isTup t, rfl, .ty "tuple", tv.ty, k_tup K t, ?_⟩
      have q := k H fun _ _ e => e
      unfold partT at q
      rw [if_pos h1] at q
      exact q
    have h1 : ¬ kd = "block" := fun e => h (decide_eq_true e)
    refine ⟨_, rfl, rfl, _, rfl, ?_⟩
    rw [eq_txt]
    refine ite2 (fun h => ?_) (fun h => ?_)
    · have h2 : kd = "args" := of_decide_eq_true h
      refine ⟨_, rfl, v, t, rfl, tv, hl h2, fun H' s' => ?_⟩
      have q := k H' s'
      unfold partT at q
      rw [if_neg h1, if_pos h2] at q
      exact q
    have h2 : ¬ kd = "args" := fun e => h (decide_eq_true e)
    refine ⟨_, rfl, rfl, _, rfl, ?_⟩
    rw [eq_txt]
    refine ite2 (fun h => ?_) (fun h => ?_)
    · have h3 : kd = "integer" := of_decide_eq_true h
      refine ⟨_, rfl, v, t, 99, rfl, tv, ?_⟩
      have q := k H fun _ _ e => e
      unfold partT at q
      rw [if_neg h1, if_neg h2, if_pos h3] at q
      exact q
    have h3 : ¬ kd = "integer" := fun e => h (decide_eq_true e)
    refine ⟨_, rfl, rfl, _, rfl, ?_⟩
    rw [eq_txt]
    refine ite2 (fun h => ?_) (fun h => ?_)
    · have h4 : kd = "value" := of_decide_eq_true h
      refine ⟨_, rfl, v, t, 9999, rfl, tv, ?_⟩
      have q := k H fun _ _ e => e
      unfold partT at q
      rw [if_neg h1, if_neg h2, if_neg h3, if_pos h4] at q
      exact q
    have h4 : ¬ kd = "value" := fun e => h (decide_eq_true e)
    have last : ¬ (kd = "source" ∧ numT 99 t = true) → spOf nameT K [v] H Q E0 := fun h5 => ⟨v, t, rfl, tv, fun H' s' => by
      have q := k H' s'
      unfold partT at q
      rw [if_neg h1, if_neg h2, if_neg h3, if_neg h4, if_neg h5] at q
      exact q⟩
    refine ⟨_, rfl, rfl, _, rfl, ?_⟩
    rw [eq_txt]
    refine ite2 (fun h => ?_) (fun h => ?_)
    · have h5 : kd = "source" := of_decide_eq_true h
      refine ⟨_, rfl, v, t, 99, rfl, tv, _, rfl, ?_⟩
      cases e : numT 99 t with
      | true =>
        have q := k H fun _ _ e => e
        unfold partT at q
        rw [if_neg h1, if_neg h2, if_neg h3, if_neg h4, if_pos ⟨h5, e⟩] at q
        exact iteT q
      | false => exact iteF ⟨_, rfl, last fun z => by rw [e] at z; exact Bool.noConfusion z.2⟩
    · exact iteF ⟨_, rfl, last fun z => h (decide_eq_true z.1)⟩
end
/-! None in a dict of the module -/
section
variable {X : Cx} {d : Addr} {es : Array DictEntry} {n : Nat}
theorem kd_none {P : Program} {w : World} {h : Heap} {f : Str → Option Value} (m : h.MapOf (PySem.strKind P w) d f) : ∃ g, h.MapOf (noneKind P w) d g ∧ g none = none := by
  obtain ⟨o, es, ep, ho, hx, hdt, hk, hf⟩ := m
  refine ⟨fun k => findBy (noneKind P w).is es k, ⟨o, es, ep, ho, hx, hdt, fun e he => ?_, fun k => rfl⟩, ?_⟩
  · obtain ⟨k, h1, h2⟩ := hk e he
    exact ⟨some (.inr k), h1, h2⟩
  · have q : (es.find? fun e => nkIs none e.key) = none := by
      rw [Array.find?_eq_none]
      intro e he hq
      obtain ⟨k, h1, _⟩ := hk e he
      have e1 : keyIs (.inr k) e.key = true := h1
      rw [nk_none hq] at e1
      exact keyIs_none (.inr k) e1
    show (es.find? fun e => nkIs none e.key).map (·.val) = none
    rw [q] <;> rfl
/-- None or a text in a dict of the module -/
theorem op_in_kdN (D : KDict X.K X.w d es n) : OpR X (compareOp .In) (fun x y H Q => y = .ref d ∧ ((x = .non ∧ Q (.bl false) H) ∨ ∃ (z : Str) (r : Option Value), x = .str z ∧ PySem.W.nsIn X.K d z = some r ∧ Q (.bl r.isSome) H)) := by
  intro pins s σ H x y v u Q I rx ry h
  obtain ⟨rfl, ⟨rfl, q⟩ | ⟨z, r, rfl, e, q⟩⟩ := h
  · cases ry
    obtain rfl : v = Value.none := rx
    obtain ⟨g, m, e⟩ := kd_none (PySem.W.mapOf_K (prog := X.prog) I.kIn D.at_ D.lit)
    refine wpAny_in_of (show (noneKind X.prog X.w).is none .none = true from rfl) D.low m ?_
    rw [e]
    exact ⟨.bl false, H, I.tok _, rfl, q⟩
  · exact op_in_kd D pins s σ H _ _ _ _ Q I rx ry ⟨z, r, rfl, rfl, e, q⟩
end
end BK


set_option Elab.async false
set_option maxRecDepth 100000
set_option maxHeartbeats 1000000
/-! is_kind, are_params, is_triple. -/
namespace BK
open PySem PySem.Spec PyProof.Rows L2
def kindT : Tr → Bool
  | .str s => decide (s = "context") || decide (s = "token")
  | _ => false
def paramT : Tr → Bool
  | .tup [_, k] => kindT k
  | _ => false
def firstT : Tr → Tr
  | .tup (s :: _) => s
  | t => t
def paramsT : Tr → Bool
  | .tup ts => decide (ts.length ≤ 2) && ts.all paramT && diffT (ts.map firstT)
  | _ => false
def tripleT : Tr → Bool
  | .tup [n, p, b] => nameT n && paramsT p && isTup b
  | _ => false
/-- the kinds, the greatest number of params -/
structure Kinds (K : PySem.W.Frag) (mg : Str → Option Value) : Prop where
  kd : ∃ a, mg "KINDS" = some (.ref a) ∧ ∀ H, SqT K H a [.str "context", .str "token"]
  mp : ∃ t, mg "MOST_PARAMS" = some (.int 2 t)
section
variable {P : Program} {w : World} {K : PySem.W.Frag} {mg : Str → Option Value} {base : Heap}
abbrev sKind : Stmt := top 35
abbrev sParams : Stmt := top 36
abbrev sTriple : Stmt := top 37
theorem scKind : FnScope ["thing"] ["thing"] (defScope sKind) := ⟨rfl, rfl, rfl, by decide +kernel, rfl, by decide +kernel, by decide +kernel⟩
theorem ok_kind {f : Addr} {fd : FuncData} (F : Fun K "is_kind" "is_kind" sKind f fd) (T : Forms mg) (U : Kinds K mg) : FnOk P w K mg base CX0 1 f fd ["thing"] (spOf kindT K) := by
  refine F.ok scKind (fun vs H Q E h => ?_) (fun cdv A outer s H vs Q E hr h => ?_)
  · obtain ⟨v, t, rfl, _⟩ := h
    rfl
  · obtain ⟨v, t, rfl, ht, k⟩ := h
    obtain ⟨a, gK, sK⟩ := U.kd
    refine ⟨_, pss_one (ps_ret (pe_and (pe_callB call_isi (by rfl) T.isi boot_isinstance (pa_cons (pv 0) (pa_cons (pe_bltn (v := .ty "str") (u := .type "str") (by rfl) T.str (by decide +kernel) rfl) pa_nil)))
      (pe_one (pe_cmpR op_in_seq (pv 0) (pe_glob (v := .ref a) rfl gK rfl) rfl)))), ?_⟩
    refine ⟨_, rfl, v, .ty "str", .type (tyT t), .type "str", isStr t, rfl, .ty "str", ht.ty, k_str K t, _, rfl, ?_⟩
    have q := k H fun _ _ e => e
    cases ht with
    | str z hz =>
      refine iteT ⟨_, rfl, a, _, rfl, .inr (sK _), rfl, rfl, ?_⟩
      have e : inV (.str z) [.str "context", .str "token"] = kindT (.str z) := by
        show (eqV (.str "context") (.str z) || (eqV (.str "token") (.str z) || false)) = (decide (z = "context") || decide (z = "token"))
        rw [Bool.or_false]
        congr 1
        · show (("context" : Str) == z) = _
          by_cases e : z = "context"
          · simp [e]
          · have e' : ¬ ("context" : Str) = z := fun w => e w.symm
            simp [e, e']
        · show (("token" : Str) == z) = _
          by_cases e : z = "token"
          · simp [e]
          · have e' : ¬ ("token" : Str) = z := fun w => e w.symm
            simp [e, e']
      rw [e]
      exact q
    | int i => exact iteF q
    | bl b => exact iteF q
    | non => exact iteF q
    | lst h => exact iteF q
    | dct h => exact iteF q
    | tup h r => exact iteF q
theorem scParams : FnScope ["thing", "param", "slot", "kind"] ["thing"] (defScope sParams) := ⟨rfl, rfl, rfl, by decide +kernel, rfl, by decide +kernel, by decide +kernel⟩
theorem params_tup (ts : List Tr) : paramsT (.tup ts) = (decide (ts.length ≤ 2) && ts.all paramT && diffT (ts.map firstT)) := rfl
theorem param_not {ts : List Tr} (h : ¬ ts.length = 2) : paramT (.tup ts) = false := by
  match ts, h with
  | [], _ => rfl
  | [_], _ => rfl
  | [_, _], h => exact absurd rfl h
  | _ :: _ :: _ :: _, _ => rfl
theorem param_two : ∀ {t : Tr}, paramT t = true → ∃ s k, t = .tup [s, k]
  | .tup [s, k], _ => ⟨s, k, rfl⟩
theorem ok_params {f fT fK fD : Addr} {fd fdT fdK fdD : FuncData} (F : Fun K "are_params" "are_params" sParams f fd) (T : Forms mg) (U : Kinds K mg)
    (GT : FnOk P w K mg base CX0 1 fT fdT ["thing", "count"] (spTuple K)) (bT : Binds K fdT ["thing", "count"] []) (gT : mg "is_tuple" = some (.ref fT)) (kT : PySem.W.keepIn K (.ref fT) = true)
    (GK : FnOk P w K mg base CX0 1 fK fdK ["thing"] (spOf kindT K)) (bK : Binds K fdK ["thing"] []) (gK : mg "is_kind" = some (.ref fK)) (kK : PySem.W.keepIn K (.ref fK) = true)
    (GD : FnOk P w K mg base CX0 2 fD fdD ["things"] (spDiff K)) (bD : Binds K fdD ["things"] []) (gD : mg "are_different_names" = some (.ref fD)) (kD : PySem.W.keepIn K (.ref fD) = true) : FnOk P w K mg base CX0 3 f fd ["thing"] (spOf paramsT K) := by
  refine F.ok scParams (fun vs H Q E h => ?_) (fun cdv A outer s H vs Q E hr h => ?_)
  · obtain ⟨v, t, rfl, _⟩ := h
    rfl
  · obtain ⟨v, t, rfl, ht, k⟩ := h
    obtain ⟨t2, gM⟩ := U.mp
    have hr1 : Room 1 _ := hr.mono (by decide)
    refine ⟨_, pss_cons (ps_if (PW.pt (pw_or (pt_not (pt_val (pe_callB call_isi (by rfl) T.isi boot_isinstance (pa_cons (pv 0) (pa_cons (pe_bltn (v := .ty "tuple") (u := .type "tuple") (by rfl) T.tuple (by decide +kernel) rfl) pa_nil)))))
        (pw_or1 (pt_cmpR op_gt (pe_callB call_len_seq (by rfl) T.len boot_len (pa_cons (pv 0) pa_nil)) (pe_glob (v := .int 2) rfl gM ⟨_, rfl⟩) rfl)))) (pss_one (ps_ret pe_bl)) pss_nil)
      (pss_cons (ps_if (pt_not (pt_val (pe_callB (cr_all rfl) (by rfl) T.all (by decide +kernel) (pa_cons (pe_lc (own := [("param", 1)]) (g := gName 1) (tt := tYes)
          (te := tAndV (tCall (spTuple K) [] E0 (tCons (tVar 1) (tCons (tC (.int 2)) tNil))) (tCall (spOf kindT K) [] E0 (tCons (tOp (rIxT K) (tVar 1) (tC (.int 1))) tNil))) rfl scParams.nd (pi_tup (pv 0))
          (blkOk_by (N := ["thing", "param", "slot", "kind"]) (sc := defScope sParams) (by decide +kernel)) (fun _ _ _ _ _ => pg_name (i := 1) scParams.nd rfl (Or.inl rfl)) (fun _ _ _ _ _ => pts_nil)
          (fun _ _ _ _ _ => pe_and (by exact pe_call GT hr1 rfl gT kT bT .nil pass0 (pa_cons (pv 1) (pa_cons pe_int pa_nil))) (pe_one (by exact pe_call GK hr1 rfl gK kK bK .nil pass0 (pa_cons (pe_ix ix_tup (pv 1) pe_int (fun _ _ => rfl)) pa_nil))))) pa_nil)))) (pss_one (ps_ret pe_bl)) pss_nil)
      (pss_one (ps_ret (pe_call GD hr rfl gD kD bD .nil pass0 (pa_cons (pe_lc (own := [("slot", 2), ("kind", 3)]) (g := gTup K 2 (gCons (gName 2) (gCons (gName 3) gNil))) (tt := tYes) (te := tVar 2) rfl scParams.nd (pi_tup (pv 0))
          (blkOk_by (N := ["thing", "param", "slot", "kind"]) (sc := defScope sParams) (by decide +kernel))
          (fun _ _ _ _ _ => by exact pg_tup rfl (pgs_cons (pg_name (i := 2) scParams.nd rfl (Or.inl rfl)) (pgs_cons (pg_name (i := 3) scParams.nd rfl (Or.inl rfl)) pgs_nil))) (fun _ _ _ _ _ => pts_nil)
          (fun _ _ _ _ _ => pv 2)) pa_nil))))), ?_⟩
    refine ⟨_, rfl, v, .ty "tuple", .type (tyT t), .type "tuple", isTup t, rfl, .ty "tuple", ht.ty, k_tup K t, _, rfl, ?_⟩
    have q0 := k H fun _ _ e => e
    cases ht with
    | int i => exact iteT (iteT q0)
    | bl b => exact iteT (iteT q0)
    | str z hz => exact iteT (iteT q0)
    | non => exact iteT (iteT q0)
    | lst h => exact iteT (iteT q0)
    | dct h => exact iteT (iteT q0)
    | @tup a xs ts h tr =>
    refine iteF ⟨_, rfl, a, xs, rfl, .inr h, _, _, rfl, rfl, _, rfl, ?_⟩
    have el := tr.len
    refine ite2 (fun hgt => ?_) (fun hgt => ?_)
    · have hl : ¬ ts.length ≤ 2 := by
        have := of_decide_eq_true hgt
        omega
      have e : paramsT (.tup ts) = false := by
        rw [params_tup, decide_eq_false hl, Bool.false_and, Bool.false_and]
      rw [e] at q0
      exact q0
    have hl : ts.length ≤ 2 := by
      have : ¬ ((xs.length : Int) > 2) := fun z => hgt (decide_eq_true z)
      omega
    -- all([..])
    refine ⟨_, rfl, a, rfl, ⟨xs, h⟩, fun D nD => ?_⟩
    refine lc_it (walk_tup (K := K) (a := a) (xs := xs)) (fun i H2 => Same H H2 ∧ H2 D = some (.lst (((ts.take i).map paramT).map V.bl))) ⟨same_new nD, upd_same⟩ (fun i H2 _ ⟨s2, _⟩ => sqt_same s2 h) ?_ ?_
    · rintro i x H2 H3 hi ⟨s2, e2⟩ ⟨rfl, hx⟩
      obtain ⟨t, ht, tx⟩ := (tr.same s2).get hx
      have put : ∀ (b : Bool) (H' : Hp), b = paramT t → Same H3 H' → ∃ acc, H' D = some (.lst acc) ∧ acc.length < sizeLine ∧ Same H (upd H' D (.lst (acc ++ [.bl b]))) ∧ (upd H' D (.lst (acc ++ [.bl b]))) D = some (.lst (((ts.take (i + 1)).map paramT).map V.bl)) := by
        intro b H' eb s'
        refine ⟨_, s' _ _ e2, small1000 (by rw [List.length_map, List.length_map, List.length_take]; omega), fun b o e => ?_, ?_⟩
        · rw [upd_ne (ne_of_none e nD)]
          exact s' _ _ (s2 b o e)
        · rw [upd_same, List.take_add_one, ht, List.map_append, List.map_append, eb]
          rfl
      refine ⟨rfl, ?_⟩
      refine tyes ?_
      refine ⟨_, rfl, x, t, 2, rfl, tx, ?_⟩
      cases tx with
      | int i => exact ⟨_, rfl, iteF (put false _ rfl fun _ _ e => e)⟩
      | bl b => exact ⟨_, rfl, iteF (put false _ rfl fun _ _ e => e)⟩
      | str z hz => exact ⟨_, rfl, iteF (put false _ rfl fun _ _ e => e)⟩
      | non => exact ⟨_, rfl, iteF (put false _ rfl fun _ _ e => e)⟩
      | lst h => exact ⟨_, rfl, iteF (put false _ rfl fun _ _ e => e)⟩
      | dct h => exact ⟨_, rfl, iteF (put false _ rfl fun _ _ e => e)⟩
      | @tup b ys us hu tu =>
        refine ⟨_, rfl, ?_⟩
        refine ite2 (fun h2 => ?_) (fun h2 => ?_)
        · have l2 : us.length = 2 := by
            have := of_decide_eq_true h2
            omega
          obtain ⟨s0, k0, rfl⟩ : ∃ s0 k0, us = [s0, k0] := by
            match us, l2 with
            | [s0, k0], _ => exact ⟨s0, k0, rfl⟩
          obtain ⟨w, hw, tw⟩ := tu.get' (i := 1) (t := k0) rfl
          exact ⟨_, rfl, b, ys, 1, w, rfl, rfl, hu, at_of (j := 1) rfl hw, w, k0, rfl, tw, fun H' s' => put (kindT k0) H' rfl s'⟩
        · have l2 : ¬ us.length = 2 := fun z => h2 (decide_eq_true (by omega))
          exact put false _ (param_not l2).symm fun _ _ e => e
    rintro H2 ⟨s2, e2⟩
    have et : ts.take xs.length = ts := by rw [el, List.take_length]
    rw [et] at e2
    refine ⟨D, _, rfl, SqL.of e2, _, rfl, ?_⟩
    have ea : (ts.map paramT).all id = ts.all paramT := by rw [List.all_map]; rfl
    rw [ea]
    cases hp : ts.all paramT with
    | false =>
      have e : paramsT (.tup ts) = false := by rw [params_tup, hp, Bool.and_false, Bool.false_and]
      have q2 := k H2 s2
      rw [e] at q2
      exact iteT q2
    | true =>
    refine iteF ?_
    have e : paramsT (.tup ts) = diffT (ts.map firstT) := by rw [params_tup, hp, decide_eq_true hl, Bool.true_and, Bool.true_and]
    refine ⟨_, rfl, a, rfl, ⟨xs, sqt_same s2 h⟩, fun D2 nD2 => ?_⟩
    refine lc_it (walk_tup (K := K) (a := a) (xs := xs)) (fun i H3 => Same H2 H3 ∧ ∃ bs, H3 D2 = some (.lst bs) ∧ TrAll K H3 bs ((ts.take i).map firstT)) ⟨same_new nD2, [], upd_same, .nil⟩ (fun i H3 _ ⟨s3, _⟩ => sqt_same (s2.trans s3) h) ?_ ?_
    · rintro i x H3 H4 hi ⟨s3, bs, e3, b3⟩ ⟨rfl, hx⟩
      obtain ⟨t, ht, tx⟩ := (tr.same (s2.trans s3)).get hx
      have pt : paramT t = true := List.all_eq_true.mp hp t (List.mem_of_getElem? ht)
      obtain ⟨s0, k0, rfl⟩ := param_two pt
      cases tx with
      | @tup b ys us hu tu =>
        have l2 := tu.len
        obtain ⟨y0, y1, rfl⟩ : ∃ y0 y1, ys = [y0, y1] := by
          match ys, l2 with
          | [y0, y1], _ => exact ⟨y0, y1, rfl⟩
        obtain ⟨w, hw, tw⟩ := tu.get' (i := 0) (t := s0) rfl
        obtain rfl : y0 = w := Option.some.inj hw
        refine ⟨b, _, rfl, hu, rfl, _, _, rfl, _, _, rfl, rfl, rfl, ?_⟩
        refine tyes ?_
        refine ⟨_, rfl, bs, e3, small1000 (by rw [b3.len, List.length_map, List.length_take]; omega), fun b o e => ?_, _, upd_same, ?_⟩
        · rw [upd_ne (ne_of_none e nD2)]
          exact s3 b o e
        · rw [List.take_add_one, ht, List.map_append]
          exact (b3.updL e3).snoc (tw.updL e3)
    · rintro H3 ⟨s3, bs, e3, b3⟩
      rw [et] at b3
      refine ⟨D2, bs, ts.map firstT, rfl, .inl (SqL.of e3), b3, by rw [List.length_map]; omega, fun H4 s4 => ?_⟩
      have q2 := k H4 ((s2.trans s3).trans s4)
      rw [e] at q2
      exact q2
end
end BK


set_option Elab.async false
set_option maxRecDepth 100000
set_option maxHeartbeats 1000000
/-! is_triple. -/
namespace BK
open PySem PySem.Spec PyProof.Rows L2
section
variable {P : Program} {w : World} {K : PySem.W.Frag} {mg : Str → Option Value} {base : Heap}
theorem scTriple : FnScope ["thing"] ["thing"] (defScope sTriple) := ⟨rfl, rfl, rfl, by decide +kernel, rfl, by decide +kernel, by decide +kernel⟩
theorem triple_not {ts : List Tr} (h : ¬ ts.length = 3) : tripleT (.tup ts) = false := by
  match ts, h with
  | [], _ => rfl
  | [_], _ => rfl
  | [_, _], _ => rfl
  | [_, _, _], h => exact absurd rfl h
  | _ :: _ :: _ :: _ :: _, _ => rfl
theorem ok_triple {f fT fN fP : Addr} {fd fdT fdN fdP : FuncData} (F : Fun K "is_triple" "is_triple" sTriple f fd) (T : Forms mg)
    (GT : FnOk P w K mg base CX0 1 fT fdT ["thing", "count"] (spTuple K)) (bT : Binds K fdT ["thing", "count"] []) (gT : mg "is_tuple" = some (.ref fT)) (kT : PySem.W.keepIn K (.ref fT) = true)
    (GN : FnOk P w K mg base CX0 1 fN fdN ["thing"] (spOf nameT K)) (bN : Binds K fdN ["thing"] []) (gN : mg "is_name" = some (.ref fN)) (kN : PySem.W.keepIn K (.ref fN) = true)
    (GP : FnOk P w K mg base CX0 3 fP fdP ["thing"] (spOf paramsT K)) (bP : Binds K fdP ["thing"] []) (gP : mg "are_params" = some (.ref fP)) (kP : PySem.W.keepIn K (.ref fP) = true) : FnOk P w K mg base CX0 4 f fd ["thing"] (spOf tripleT K) := by
  refine F.ok scTriple (fun vs H Q E h => ?_) (fun cdv A outer s H vs Q E hr h => ?_)
  · obtain ⟨v, t, rfl, _⟩ := h
    rfl
  · obtain ⟨v, t, rfl, ht, k⟩ := h
    have hr1 : Room 1 _ := hr.mono (by decide)
    refine ⟨_, pss_one (ps_ret (pe_and (pe_call GT hr1 rfl gT kT bT .nil pass0 (pa_cons (pv 0) (pa_cons pe_int pa_nil)))
      (pe_and (pe_call GN hr1 rfl gN kN bN .nil pass0 (pa_cons (pe_ix ix_tup (pv 0) pe_int (fun _ _ => rfl)) pa_nil))
      (pe_and (pe_call GP hr rfl gP kP bP .nil pass0 (pa_cons (pe_ix ix_tup (pv 0) pe_int (fun _ _ => rfl)) pa_nil))
      (pe_one (pe_callB call_isi (by rfl) T.isi boot_isinstance (pa_cons (pe_ix ix_tup (pv 0) pe_int (fun _ _ => rfl)) (pa_cons (pe_bltn (v := .ty "tuple") (u := .type "tuple") (by rfl) T.tuple (by decide +kernel) rfl) pa_nil)))))))), ?_⟩
    refine ⟨_, rfl, v, t, 3, rfl, ht, _, rfl, ?_⟩
    have q0 := k H fun _ _ e => e
    cases ht with
    | int i => exact iteF q0
    | bl b => exact iteF q0
    | str z hz => exact iteF q0
    | non => exact iteF q0
    | lst h => exact iteF q0
    | dct h => exact iteF q0
    | @tup a xs ts h tr =>
      refine ite2 (fun h3 => ?_) (fun h3 => ?_)
      · have l3 : ts.length = 3 := by
          have := of_decide_eq_true h3
          omega
        obtain ⟨n, p, b, rfl⟩ : ∃ n p b, ts = [n, p, b] := by
          match ts, l3 with
          | [n, p, b], _ => exact ⟨n, p, b, rfl⟩
        have e : tripleT (.tup [n, p, b]) = (nameT n && paramsT p && isTup b) := rfl
        rw [e] at k
        obtain ⟨v0, g0, t0⟩ := tr.get' (i := 0) (t := n) rfl
        obtain ⟨v1, g1, t1⟩ := tr.get' (i := 1) (t := p) rfl
        obtain ⟨v2, g2, t2⟩ := tr.get' (i := 2) (t := b) rfl
        refine ⟨_, rfl, a, xs, 0, v0, rfl, rfl, h, at_of (j := 0) rfl g0, v0, n, rfl, t0, fun H1 s1 => ⟨_, rfl, ?_⟩⟩
        cases en : nameT n with
        | false =>
          have q := k H1 s1
          rw [en, Bool.false_and, Bool.false_and] at q
          exact iteF q
        | true =>
        refine iteT ⟨_, rfl, a, xs, 1, v1, rfl, rfl, sqt_same s1 h, at_of (j := 1) rfl g1, v1, p, rfl, t1.same s1, fun H2 s2 => ⟨_, rfl, ?_⟩⟩
        have s12 := s1.trans s2
        cases ep : paramsT p with
        | false =>
          have q := k H2 s12
          rw [en, ep, Bool.and_false, Bool.false_and] at q
          exact iteF q
        | true =>
        refine iteT ⟨_, rfl, a, xs, 2, v2, rfl, rfl, sqt_same s12 h, at_of (j := 2) rfl g2, v2, .ty "tuple", .type (tyT b), .type "tuple", isTup b, rfl, .ty "tuple", (t2.same s12).ty, k_tup K b, ?_⟩
        have q := k H2 s12
        rw [en, ep, Bool.true_and, Bool.true_and] at q
        exact q
      · have l3 : ¬ ts.length = 3 := fun z => h3 (decide_eq_true (by omega))
        rw [triple_not l3] at q0
        exact q0
end
end BK


set_option Elab.async false
set_option linter.all false
set_option maxRecDepth 100000
set_option maxHeartbeats 4000000
/-! list(zip(t, u)) of two tuples: a list of new pairs. -/
namespace LZ
open PySem PySem.Spec PyProof.Rows
section
variable {prog : Program} {w : World} {A : Around} {E : Value → Shared → Prop} {s : Shared}
/-- the next pair, the one ahead of it kept by somebody -/
theorem next_kept {z TI TO T i1 i2 a b : Addr} {f : Bool} {oT : Obj} {k : Nat} {xs ys : Array Value} {x y : Value} {Q : Option Value → Shared → Prop} (D : ZipApart z TI TO i1 i2 a b) (hz : IsZipHeld s.heap z TI TO T f) (hT : s.heap.get? T = some oT)
    (hp : IsPair s.heap TI (.ref i1) (.ref i2)) (h1 : s.heap.IsTupleIter i1 a k) (h2 : s.heap.IsTupleIter i2 b k) (ta : s.heap.IsTuple a xs) (tb : s.heap.IsTuple b ys) (hx : xs[k]? = some x) (hy : ys[k]? = some y)
    (q : ∀ h', IsZipHeld h' z TI TO T true → h'.IsTupleIter i1 a (k + 1) → h'.IsTupleIter i2 b (k + 1) → IsPair h' s.heap.objs.size x y → (∀ c o, c ≠ z → c ≠ i1 → c ≠ i2 → s.heap.get? c = some o → h'.get? c = some o) → Q (some (.ref s.heap.objs.size)) { s with heap := h' }) :
    wpAny (model prog w) A (pyNext (.ref z)) Q E s := by
  have ty : s.TypeIs (.ref z) "zip" := ⟨_, hz, rfl⟩
  unfold pyNext
  refine wpAny_bind (wpAny_attempt (wpAny_callSpecial?_slot (name := Str.ofString "__next__") ty F.slot_zip_next (wpAny_call_entry F.slot_zip_next ty F.entry_zip_next ?_ (F.args_zip_next_1 _))))
  show wpAny _ _ (field (.ref z) 2 >>= _) _ _ _
  refine wpAny_bind (wpAny_field hz rfl (x := .bool false) rfl ?_)
  show wpAny _ _ (field (.ref z) 3 >>= _) _ _ _
  refine wpAny_bind (wpAny_field hz rfl (x := .ref TI) rfl (wpAny_bind (wpAny_seqItems hp rfl ?_)))
  show wpAny _ _ (Builtin.SmallTypes.ownedTupleIsFree (.ref z) >>= _) _ _ _
  refine wpAny_bind (wpAny_tupleHeld_zip hz hT fun g₁ z₁ s₁ => ?_)
  simp only [Bool.false_eq_true, if_false]
  refine wpAny_bind ?_
  rw [← Array.forIn_toList]
  simp only [List.forIn_cons, List.forIn_nil]
  refine wpAny_bind (wpAny_bind (wpAny_holding ?_))
  show wpAny _ _ (Builtin.SmallTypes.nextOf (.ref i1) >>= _) _ _ _
  refine wpAny_bind (RZ.nextOf_tuple_item (s := { s with heap := g₁ }) (h1.extBut s₁.extBut D.i1z) (ta.extBut s₁.extBut D.l1z) hx fun g₂ n₁ s₂ => wpAny_pure (wpAny_pure ?_))
  refine wpAny_bind (wpAny_bind (wpAny_holding ?_))
  show wpAny _ _ (Builtin.SmallTypes.nextOf (.ref i2) >>= _) _ _ _
  refine wpAny_bind (RZ.nextOf_tuple_item (s := { s with heap := g₂ }) ((h2.extBut s₁.extBut D.i2z).extBut s₂.extBut D.i12.symm) ((tb.extBut s₁.extBut D.l2z).extBut s₂.extBut D.l2i1) hy fun g₃ n₂ s₃ => wpAny_pure (wpAny_pure (wpAny_pure ?_)))
  show wpAny _ _ (newTuple [x, y] >>= _) _ _ _
  refine wpAny_bind (wpAny_newTuple (wpAny_pure ?_))
  have sz : g₃.objs.size = s.heap.objs.size := by rw [s₃.1, s₂.1, s₁.1]
  have z₃ : IsZipHeld g₃ z TI TO T true := s₃.extBut _ _ D.i2z.symm (s₂.extBut _ _ D.i1z.symm z₁)
  have kp : ∀ c o, c ≠ z → c ≠ i1 → c ≠ i2 → s.heap.get? c = some o → g₃.get? c = some o := fun c o c1 c2 c3 e => s₃.extBut _ _ c3 (s₂.extBut _ _ c2 (s₁.extBut _ _ c1 e))
  have n₃ : g₃.IsTupleIter i1 a (k + 1) := n₁.extBut s₃.extBut D.i12
  have np : IsPair (g₃.push { cls := .type "tuple", data := .seq #[x, y] }) g₃.objs.size x y := Heap.get?_push_size _ rfl
  refine ⟨_, rfl, ?_⟩
  show wpAny _ _ (pure _) _ _ _
  refine wpAny_pure ?_
  show Q (some (.ref g₃.objs.size)) _
  rw [sz] at np ⊢
  exact q _ (Heap.get?_push_of_some _ z₃) (n₃.at fun o e => Heap.get?_push_of_some _ e) (n₂.at fun o e => Heap.get?_push_of_some _ e) np fun c o c1 c2 c3 e => Heap.get?_push_of_some _ (kp c o c1 c2 c3 e)
/-- no more -/
theorem end_kept {z TI TO T i1 i2 a b : Addr} {f : Bool} {oT : Obj} {k : Nat} {xs : Array Value} {Q : Option Value → Shared → Prop} (calm : A.handled = none) (D : ZipApart z TI TO i1 i2 a b) (hz : IsZipHeld s.heap z TI TO T f) (hT : s.heap.get? T = some oT)
    (hp : IsPair s.heap TI (.ref i1) (.ref i2)) (h1 : s.heap.IsTupleIter i1 a k) (ta : s.heap.IsTuple a xs) (hx : xs[k]? = none) (q : ∀ h', (∀ c o, c ≠ z → c ≠ i1 → s.heap.get? c = some o → h'.get? c = some o) → Q none { s with heap := h' }) :
    wpAny (model prog w) A (pyNext (.ref z)) Q E s := by
  have ty : s.TypeIs (.ref z) "zip" := ⟨_, hz, rfl⟩
  unfold pyNext
  refine wpAny_bind (wpAny_attempt (wpAny_callSpecial?_slot (name := Str.ofString "__next__") ty F.slot_zip_next (wpAny_call_entry F.slot_zip_next ty F.entry_zip_next ?_ (F.args_zip_next_1 _))))
  show wpAny _ _ (field (.ref z) 2 >>= _) _ _ _
  refine wpAny_bind (wpAny_field hz rfl (x := .bool false) rfl ?_)
  show wpAny _ _ (field (.ref z) 3 >>= _) _ _ _
  refine wpAny_bind (wpAny_field hz rfl (x := .ref TI) rfl (wpAny_bind (wpAny_seqItems hp rfl ?_)))
  show wpAny _ _ (Builtin.SmallTypes.ownedTupleIsFree (.ref z) >>= _) _ _ _
  refine wpAny_bind (wpAny_tupleHeld_zip hz hT fun g₁ z₁ s₁ => ?_)
  simp only [Bool.false_eq_true, if_false]
  refine wpAny_bind ?_
  rw [← Array.forIn_toList]
  simp only [List.forIn_cons, List.forIn_nil]
  refine wpAny_bind (wpAny_bind (wpAny_holding ?_))
  show wpAny _ _ (Builtin.SmallTypes.nextOf (.ref i1) >>= _) _ _ _
  refine wpAny_bind (RZ.nextOf_tuple_end (s := { s with heap := g₁ }) calm (h1.extBut s₁.extBut D.i1z) (ta.extBut s₁.extBut D.l1z) hx fun g₂ e s₂ he => ?_)
  obtain ⟨o, ho, hc⟩ := he
  refine wpAny_bind (wpAny_isInstance (T := "StopIteration") (b := true) ⟨o, ho, hc⟩ isSubtype_stop ?_)
  exact wpAny_pure (q _ fun c o c1 c2 x => s₂ _ _ c2 (s₁.extBut _ _ c1 x))
end
end LZ


set_option Elab.async false
set_option linter.all false
set_option maxRecDepth 100000
set_option maxHeartbeats 4000000
namespace LZ
open PySem PySem.Spec PyProof.Rows
theorem cls_ne {h : Heap} {c : Addr} {o o' : Obj} (e : h.get? c = some o) (e' : h.get? c = some o') (n : o.cls ≠ o'.cls) : False := n (congrArg Obj.cls (Option.some.inj (e.symm.trans e')))
abbrev lstO (vs : List Value) (c : Nat) : Obj := { cls := .type "list", dict := none, data := .seq vs.toArray c, slots := #[] }
/-- the zip at its turn i -/
structure ZS (h : Heap) (z TI TO i1 i2 a b : Addr) (xs ys : Array Value) (i : Nat) : Prop where
  p : IsPair h TI (.ref i1) (.ref i2)
  o : ∃ x y, IsPair h TO x y
  n1 : h.IsTupleIter i1 a i
  n2 : h.IsTupleIter i2 b i
  ta : h.IsTuple a xs
  tb : h.IsTuple b ys
  zz : (i = 0 ∧ IsZip h z TI TO .none) ∨ ∃ T f x y, IsZipHeld h z TI TO T f ∧ IsPair h T x y
section
variable {prog : Program} {w : World} {A : Around} {E : Value → Shared → Prop} {s : Shared} {z TI TO i1 i2 a b S : Addr} {xs ys : Array Value} {h h' : Heap} {i : Nat}
/-- only the list at S is written -/
theorem ZS.keep (Z : ZS h z TI TO i1 i2 a b xs ys i) {vs : List Value} {c : Nat} (hS : h.get? S = some (lstO vs c)) (k : ∀ c o, c ≠ S → h.get? c = some o → h'.get? c = some o) : ZS h' z TI TO i1 i2 a b xs ys i := by
  have ne : ∀ {c : Addr} {o : Obj}, h.get? c = some o → o.cls ≠ .type "list" → c ≠ S := fun e ho q => by
    rw [q, hS] at e
    cases e
    exact ho rfl
  have pr : ∀ {T : Addr} {x y : Value}, IsPair h T x y → IsPair h' T x y := fun e => k _ _ (ne e (by simp)) e
  obtain ⟨x0, y0, o0⟩ := Z.o
  obtain ⟨o1, e1, c1, d1⟩ := Z.n1
  obtain ⟨o2, e2, c2, d2⟩ := Z.n2
  obtain ⟨o3, e3, c3, n3, d3⟩ := Z.ta
  obtain ⟨o4, e4, c4, n4, d4⟩ := Z.tb
  refine ⟨pr Z.p, ⟨x0, y0, pr o0⟩, ⟨o1, k _ _ (ne e1 (by rw [c1]; simp)) e1, c1, d1⟩, ⟨o2, k _ _ (ne e2 (by rw [c2]; simp)) e2, c2, d2⟩, ⟨o3, k _ _ (ne e3 (by rw [c3]; simp)) e3, c3, n3, d3⟩, ⟨o4, k _ _ (ne e4 (by rw [c4]; simp)) e4, c4, n4, d4⟩, ?_⟩
  rcases Z.zz with ⟨e, q⟩ | ⟨T, f, x, y, q, t⟩
  · exact .inl ⟨e, k _ _ (ne q (by simp)) q⟩
  · exact .inr ⟨T, f, x, y, k _ _ (ne q (by simp)) q, pr t⟩
theorem ZS.zip (Z : ZS h z TI TO i1 i2 a b xs ys i) : ∃ f0 f1 : Value, h.get? z = some { cls := .type "zip", dict := none, data := .fields #[f0, f1, .bool false, .ref TI, .ref TO], slots := #[] } := by
  rcases Z.zz with ⟨e, q⟩ | ⟨T, f, x, y, q, t⟩
  · exact ⟨_, _, q⟩
  · exact ⟨_, _, q⟩
/-- one turn -/
theorem ZS.next (Z : ZS s.heap z TI TO i1 i2 a b xs ys i) (D : ZipApart z TI TO i1 i2 a b) {x y : Value} (hx : xs[i]? = some x) (hy : ys[i]? = some y) {Q : Option Value → Shared → Prop}
    (q : ∀ h', ZS h' z TI TO i1 i2 a b xs ys (i + 1) → IsPair h' s.heap.objs.size x y → (∀ c o, c ≠ z → c ≠ TO → c ≠ i1 → c ≠ i2 → s.heap.get? c = some o → h'.get? c = some o) → Q (some (.ref s.heap.objs.size)) { s with heap := h' }) :
    wpAny (model prog w) A (pyNext (.ref z)) Q E s := by
  obtain ⟨x0, y0, o0⟩ := Z.o
  rcases Z.zz with ⟨e, g⟩ | ⟨T, f, xT, yT, g, t⟩
  · refine RZ.pyNext_zipT_item D g Z.p o0 Z.n1 Z.n2 Z.ta Z.tb hx hy fun h' a1 a2 a3 a4 a5 a6 a7 => ?_
    have lt : ∀ {c o}, s.heap.get? c = some o → s.heap.objs.size ≠ c := fun e => Nat.ne_of_gt (Heap.lt_size e)
    exact q h' ⟨a7 _ _ D.TIz D.TITO D.TIi1 D.TIi2 Z.p, ⟨_, _, a2⟩, a3, a4, Z.ta.at fun o e => a7 _ o D.l1z D.l1TO D.l1i1 D.l1i2 e, Z.tb.at fun o e => a7 _ o D.l2z D.l2TO D.l2i1 D.l2i2 e, .inr ⟨_, false, x, y, a1, a5⟩⟩ a5 a7
  · refine next_kept D g t Z.p Z.n1 Z.n2 Z.ta Z.tb hx hy fun h' a1 a3 a4 a5 a7 => ?_
    have kp : ∀ c o, c ≠ z → c ≠ TO → c ≠ i1 → c ≠ i2 → s.heap.get? c = some o → h'.get? c = some o := fun c o c1 _ c3 c4 e => a7 c o c1 c3 c4 e
    have nz : T ≠ z := fun e => by
      rw [e] at t
      exact cls_ne t g (by simp)
    have n1 : T ≠ i1 := fun e => by
      obtain ⟨o, e1, e2, _⟩ := Z.n1
      rw [e] at t
      exact cls_ne t e1 (by rw [e2]; simp)
    have n2 : T ≠ i2 := fun e => by
      obtain ⟨o, e1, e2, _⟩ := Z.n2
      rw [e] at t
      exact cls_ne t e1 (by rw [e2]; simp)
    exact q h' ⟨kp _ _ D.TIz D.TITO D.TIi1 D.TIi2 Z.p, ⟨_, _, a7 _ _ D.TOz D.TOi1 D.TOi2 o0⟩, a3, a4, Z.ta.at fun o e => kp _ o D.l1z D.l1TO D.l1i1 D.l1i2 e, Z.tb.at fun o e => kp _ o D.l2z D.l2TO D.l2i1 D.l2i2 e, .inr ⟨T, true, _, _, a1, a7 _ _ nz n1 n2 t⟩⟩ a5 kp
theorem ZS.fin (Z : ZS s.heap z TI TO i1 i2 a b xs ys i) (D : ZipApart z TI TO i1 i2 a b) (calm : A.handled = none) (hx : xs[i]? = none) {Q : Option Value → Shared → Prop}
    (q : ∀ h', (∀ c o, c ≠ z → c ≠ TO → c ≠ i1 → c ≠ i2 → s.heap.get? c = some o → h'.get? c = some o) → Q none { s with heap := h' }) : wpAny (model prog w) A (pyNext (.ref z)) Q E s := by
  obtain ⟨x0, y0, o0⟩ := Z.o
  rcases Z.zz with ⟨e, g⟩ | ⟨T, f, xT, yT, g, t⟩
  · exact RZ.pyNext_zipT_end calm D g Z.p o0 Z.n1 Z.n2 Z.ta Z.tb (.inl hx) q
  · exact end_kept calm D g t Z.p Z.n1 Z.ta hx fun h' k => q h' fun c o c1 _ c3 _ e => k c o c1 c3 e
/-- the pairs made so far -/
def Made (h : Heap) (xs ys : Array Value) (ts : List Addr) : Prop := ∀ (j : Nat) (T : Addr), ts[j]? = some T → ∃ x y, xs[j]? = some x ∧ ys[j]? = some y ∧ IsPair h T x y
theorem loop {n N : Nat} {res : Value} {R : Result → Shared → Prop} (D : ZipApart z TI TO i1 i2 a b) (calm : A.handled = none) (lx : xs.size = n) (ly : ys.size = n) (few : n ≤ 1000) (lz : z < N) (lO : TO < N) (l1 : i1 < N) (l2 : i2 < N) (lS : S < N) (d : Nat) :
    ∀ (i : Nat) (s : Shared) (ts : List Addr) (c : Nat), i + d = n → ts.length = i → ZS s.heap z TI TO i1 i2 a b xs ys i → s.heap.get? S = some (lstO (ts.map Value.ref) c) → Made s.heap xs ys ts → ts.Nodup → (∀ T ∈ ts, N ≤ T) → N ≤ s.heap.objs.size →
      (∀ h' ts' c', ts'.length = n → h'.get? S = some (lstO (ts'.map Value.ref) c') → Made h' xs ys ts' → ts'.Nodup → (∀ T ∈ ts', N ≤ T) → (∀ c o, c ≠ S → c ≠ z → c ≠ TO → c ≠ i1 → c ≠ i2 → s.heap.get? c = some o → h'.get? c = some o) → R (.ok (.ret res)) { s with heap := h' }) →
      codeAny (model prog w) A (.builtin "list.extend.loop" ⟨[.ref S, .ref z, res], []⟩) R s := by
  have sz : sizeLine = 16777216 := sizeLine_eq
  induction d with
  | zero =>
    intro i s ts c e el Z hS mk nd ge le then_
    obtain rfl : i = n := e
    refine codeAny_builtin F.entry_extend_loop ?_
    rw [Around.under_plainId F.plain_extend_loop _]
    show wpAny _ A.in1 (pyNext (.ref z) >>= _) _ _ s
    refine wpAny_bind (Z.fin D (show A.in1.handled = none by simp [calm]) (by rw [Array.getElem?_eq_none_iff]; omega) fun h' k => ?_)
    have big : ∀ {c T : Nat}, c < N → N ≤ T → T ≠ c := fun h1 h2 => by omega
    have nS : S ≠ z ∧ S ≠ TO ∧ S ≠ i1 ∧ S ≠ i2 := by
      obtain ⟨f0, f1, gz⟩ := Z.zip
      obtain ⟨x0, y0, o0⟩ := Z.o
      obtain ⟨o1, e1, c1, _⟩ := Z.n1
      obtain ⟨o2, e2, c2, _⟩ := Z.n2
      refine ⟨fun q => ?_, fun q => ?_, fun q => ?_, fun q => ?_⟩
      · rw [q] at hS; exact cls_ne hS gz (by simp)
      · rw [q] at hS; exact cls_ne hS o0 (by simp)
      · rw [q] at hS; exact cls_ne hS e1 (by rw [c1]; simp)
      · rw [q] at hS; exact cls_ne hS e2 (by rw [c2]; simp)
    refine wpAny_pure (then_ h' ts c el (k _ _ nS.1 nS.2.1 nS.2.2.1 nS.2.2.2 hS) (fun j T hj => ?_) nd ge fun c o _ c1 c2 c3 c4 e => k c o c1 c2 c3 c4 e)
    obtain ⟨x, y, p1, p2, p3⟩ := mk j T hj
    have gT := ge T (List.mem_of_getElem? hj)
    exact ⟨x, y, p1, p2, k _ _ (big lz gT) (big lO gT) (big l1 gT) (big l2 gT) p3⟩
  | succ d ih =>
    intro i s ts c e el Z hS mk nd ge le then_
    have lt : i < n := by omega
    obtain ⟨x, hx⟩ : ∃ x, xs[i]? = some x := ⟨_, Array.getElem?_eq_getElem (by omega)⟩
    obtain ⟨y, hy⟩ : ∃ y, ys[i]? = some y := ⟨_, Array.getElem?_eq_getElem (by omega)⟩
    refine codeAny_builtin F.entry_extend_loop ?_
    rw [Around.under_plainId F.plain_extend_loop _]
    show wpAny _ A.in1 (pyNext (.ref z) >>= _) _ _ s
    refine wpAny_bind (Z.next D hx hy fun h' Z' np k => ?_)
    have big : ∀ {c T : Nat}, c < N → N ≤ T → T ≠ c := fun h1 h2 => by omega
    have nS : S ≠ z ∧ S ≠ TO ∧ S ≠ i1 ∧ S ≠ i2 := by
      obtain ⟨f0, f1, gz⟩ := Z.zip
      obtain ⟨x0, y0, o0⟩ := Z.o
      obtain ⟨o1, e1, c1, _⟩ := Z.n1
      obtain ⟨o2, e2, c2, _⟩ := Z.n2
      refine ⟨fun q => ?_, fun q => ?_, fun q => ?_, fun q => ?_⟩
      · rw [q] at hS; exact cls_ne hS gz (by simp)
      · rw [q] at hS; exact cls_ne hS o0 (by simp)
      · rw [q] at hS; exact cls_ne hS e1 (by rw [c1]; simp)
      · rw [q] at hS; exact cls_ne hS e2 (by rw [c2]; simp)
    have hS' := k _ _ nS.1 nS.2.1 nS.2.2.1 nS.2.2.2 hS
    show wpAny _ A.in1 (updateSeq S (·.push (.ref s.heap.objs.size)) >>= _) _ _ _
    have sm : ((ts.map Value.ref).toArray).size ≤ sizeLine := by rw [List.size_toArray, List.length_map]; omega
    refine wpAny_bind (wpAny_updateSeq hS' rfl ?_ sm (by show (((ts.map Value.ref).toArray).push _).size ≤ sizeLine + 1; rw [Array.size_push]; omega))
    have hS2 := Heap.get?_update_self (Obj.mapSeq (·.push (.ref s.heap.objs.size))) hS' rfl
    have oth : ∀ c o, c ≠ S → h'.get? c = some o → (h'.update S (Obj.mapSeq (·.push (.ref s.heap.objs.size)))).get? c = some o := fun c o nc e => (Heap.get?_update_other _ _ (Ne.symm nc)).trans e
    obtain ⟨c2, eS⟩ : ∃ c2, Obj.mapSeq (·.push (.ref s.heap.objs.size)) (lstO (ts.map Value.ref) c) = lstO ((ts ++ [s.heap.objs.size]).map Value.ref) c2 := by
      simp [Obj.mapSeq]
    rw [eS] at hS2
    have Z2 := Z'.keep hS' oth
    have nTS : s.heap.objs.size ≠ S := Nat.ne_of_gt (Heap.lt_size hS)
    have mk2 : Made (h'.update S (Obj.mapSeq (·.push (.ref s.heap.objs.size)))) xs ys (ts ++ [s.heap.objs.size]) := fun j T hj => by
      by_cases hj2 : j < ts.length
      · rw [List.getElem?_append_left hj2] at hj
        obtain ⟨x', y', p1, p2, p3⟩ := mk j T hj
        have gT := ge T (List.mem_of_getElem? hj)
        exact ⟨x', y', p1, p2, oth _ _ (big lS gT) (k _ _ (big lz gT) (big lO gT) (big l1 gT) (big l2 gT) p3)⟩
      · rw [List.getElem?_append_right (by omega)] at hj
        have j0 : j = ts.length := by
          have := (List.getElem?_eq_some_iff.mp hj).1
          simp at this
          omega
        subst j0
        rw [Nat.sub_self, List.getElem?_cons_zero] at hj
        obtain rfl : s.heap.objs.size = T := Option.some.inj hj
        rw [el]
        exact ⟨x, y, hx, hy, oth _ _ nTS np⟩
    have fresh : s.heap.objs.size ∉ ts := fun m => by
      obtain ⟨j, hj⟩ := List.getElem?_of_mem m
      obtain ⟨x', y', _, _, p3⟩ := mk j _ hj
      exact Nat.lt_irrefl _ (Heap.lt_size p3)
    refine wpAny_pure ⟨plainId_quiet F.plain_extend_loop _, ih (i + 1) _ (ts ++ [s.heap.objs.size]) c2 (by omega) (by rw [List.length_append, el]; rfl) Z2 hS2 mk2 (L2.nd_snoc nd fresh) (fun T hT => ?_) ?_ fun h2 ts' c' a1 a2 a3 a4 a5 a6 => ?_⟩
    · rcases List.mem_append.mp hT with q | q
      · exact ge T q
      · rw [List.mem_singleton.mp q]
        exact le
    · exact Nat.le_trans le (Nat.le_of_lt (Heap.lt_size (oth _ _ nTS np)))
    · exact then_ h2 ts' c' a1 a2 a3 a4 a5 fun c o c0 c1 c2 c3 c4 e => a6 c o c0 c1 c2 c3 c4 (oth _ _ c0 (k _ _ c1 c2 c3 c4 e))
end
end LZ


set_option Elab.async false
set_option linter.all false
set_option maxRecDepth 100000
set_option maxHeartbeats 4000000
namespace LZ
open PySem PySem.Spec PyProof.Rows
theorem zip_len : typeLookup (.type "zip") "__len__" = pure none := am_miss_of_fast (by decide +kernel)
theorem zip_hint : typeLookup (.type "zip") "__length_hint__" = pure none := am_miss_of_fast (by decide +kernel)
section
variable {prog : Program} {w : World} {A : Around} {E : Value → Shared → Prop} {s : Shared} {z TI TO i1 i2 a b : Addr} {xs ys : Array Value}
theorem ZS.mono {h h' : Heap} {i : Nat} (Z : ZS h z TI TO i1 i2 a b xs ys i) (k : ∀ c o, h.get? c = some o → h'.get? c = some o) : ZS h' z TI TO i1 i2 a b xs ys i := by
  obtain ⟨x0, y0, o0⟩ := Z.o
  refine ⟨k _ _ Z.p, ⟨x0, y0, k _ _ o0⟩, Z.n1.at fun o e => k _ o e, Z.n2.at fun o e => k _ o e, Z.ta.at fun o e => k _ o e, Z.tb.at fun o e => k _ o e, ?_⟩
  rcases Z.zz with ⟨e, q⟩ | ⟨T, f, x, y, q, t⟩
  · exact .inl ⟨e, k _ _ q⟩
  · exact .inr ⟨T, f, x, y, k _ _ q, k _ _ t⟩
/-- list(z), z a zip of two tuples of one length that nobody has asked -/
theorem list_zip {n : Nat} {Q : Value → Shared → Prop} (D : ZipApart z TI TO i1 i2 a b) (calm : A.handled = none) (Z : ZS s.heap z TI TO i1 i2 a b xs ys 0) (gz0 : IsZip s.heap z TI TO .none) (lx : xs.size = n) (ly : ys.size = n) (few : n ≤ 1000)
    (q : ∀ h' ts c, ts.length = n → h'.get? s.heap.objs.size = some (lstO (ts.map Value.ref) c) → Made h' xs ys ts → ts.Nodup → (∀ T ∈ ts, s.heap.objs.size < T) → (∀ c o, c ≠ z → c ≠ TO → c ≠ i1 → c ≠ i2 → s.heap.get? c = some o → h'.get? c = some o) →
      Q (.ref s.heap.objs.size) { s with heap := h' }) : wpAny (model prog w) A (call (.type "list") [.ref z]) Q E s := by
  obtain ⟨f0, f1, gz⟩ := Z.zip
  obtain ⟨x0, y0, gO⟩ := Z.o
  obtain ⟨o1, g1, _⟩ := id Z.n1
  obtain ⟨o2, g2, _⟩ := id Z.n2
  have lz : z < s.heap.objs.size := Heap.lt_size gz
  refine callType_codes (Q₁ := fun obj s₁ => obj = .ref s.heap.objs.size ∧ s₁ = { s with heap := s.heap.push (lstO [] 0) }) F.called_list (F.typeCall_list_1 _) F.entry_list_init (code_list_new _ ⟨rfl, rfl⟩) fun obj s₁ e => ?_
  obtain ⟨rfl, rfl⟩ := e
  have gS : (s.heap.push (lstO [] 0)).get? s.heap.objs.size = some (lstO [] 0) := Heap.get?_push_size _ rfl
  refine ⟨⟨_, gS, rfl⟩, F.args_list_init_2 _ _, ?_⟩
  show wpAny _ A.in1.in1 (do let old ← Builtin.List.listItems (.ref s.heap.objs.size); Builtin.List.listUpdate (.ref s.heap.objs.size) (fun _ => #[]); letGo old.toList.reverse; Builtin.List.listExtendWith (.ref s.heap.objs.size) (.ref z) .none) _ _ _
  refine wpAny_bind ?_
  unfold Builtin.List.listItems
  refine wpAny_bind (wpAny_seqItems gS rfl (wpAny_pure ?_))
  show wpAny _ A.in1.in1 (updateSeq s.heap.objs.size (fun _ => #[]) >>= fun _ => letGo (#[] : Array Value).toList.reverse >>= fun _ => Builtin.List.listExtendWith (.ref s.heap.objs.size) (.ref z) .none) _ _ _
  refine wpAny_bind (wpAny_updateSeq gS rfl ?_)
  have gS2 := Heap.get?_update_self (Obj.mapSeq (fun _ => (#[] : Array Value))) gS rfl
  refine wpAny_bind (wpAny_letGo ?_)
  have oth2 : ∀ c o, c ≠ s.heap.objs.size → (s.heap.push (lstO [] 0)).get? c = some o → ((s.heap.push (lstO [] 0)).update s.heap.objs.size (Obj.mapSeq (fun _ => (#[] : Array Value)))).get? c = some o := fun c o nc e => (Heap.get?_update_other _ _ (Ne.symm nc)).trans e
  have nzS : z ≠ s.heap.objs.size := Nat.ne_of_lt lz
  have gz2 : IsZip ((s.heap.push (lstO [] 0)).update s.heap.objs.size (Obj.mapSeq (fun _ => (#[] : Array Value)))) z TI TO .none := oth2 _ _ nzS (Heap.get?_push_of_some _ gz0)
  have ty : ∀ {h : Heap} {g d t os}, IsZip h z TI TO .none → Shared.TypeIs ⟨h, g, d, t, os⟩ (.ref z) "zip" := fun e => ⟨_, e, rfl⟩
  unfold Builtin.List.listExtendWith
  refine wpAny_bind (wpAny_typeOf (ty gz2) ?_)
  have c1 : Builtin.List.listSameRef (.ref s.heap.objs.size) (.ref z) = false := by simp [Builtin.List.listSameRef, Ne.symm nzS]
  have c2 : (Value.type "zip" == Value.type "list") = false := by decide
  have c3 : (Value.type "zip" == Value.type "tuple") = false := by decide
  simp only [c1, c2, c3, Bool.or_false, Bool.false_eq_true, if_false]
  refine wpAny_bind (wpAny_pyIter_zip gz2 (wpAny_bind (wpAny_holding ?_)))
  unfold Builtin.List.listLengthHint
  refine wpAny_bind (wpAny_specialOf (ty gz2) zip_len ?_)
  show wpAny _ A.in1.in1 (specialOf (Value.ref z) (Str.ofString "__length_hint__") >>= _) _ _ _
  refine wpAny_bind (wpAny_specialOf (ty gz2) zip_hint (wpAny_pure ?_))
  show wpAny _ A.in1.in1 (rule "list.extend.makes-room" >>= fun _ => Builtin.List.listTouch (.ref s.heap.objs.size) >>= fun _ => again (.builtin "list.extend.loop" ⟨[.ref s.heap.objs.size, .ref z, .none], []⟩)) _ _ _
  refine wpAny_bind (wpAny_rule (wpAny_bind ?_))
  show wpAny _ A.in1.in1 (updateSeq s.heap.objs.size (·.push .none) >>= fun _ => updateSeq s.heap.objs.size (·.pop)) _ _ _
  refine wpAny_bind (wpAny_updateSeq gS2 rfl ?_)
  have gS3 := Heap.get?_update_self (Obj.mapSeq (·.push Value.none)) gS2 rfl
  refine wpAny_updateSeq (hz := by seq_fits) gS3 rfl ?_
  have gS4 := Heap.get?_update_self (Obj.mapSeq (·.pop)) gS3 rfl
  have oth4 : ∀ c o, c ≠ s.heap.objs.size → (s.heap.push (lstO [] 0)).get? c = some o → ((((s.heap.push (lstO [] 0)).update s.heap.objs.size (Obj.mapSeq (fun _ => (#[] : Array Value)))).update s.heap.objs.size (Obj.mapSeq (·.push Value.none))).update s.heap.objs.size (Obj.mapSeq (·.pop))).get? c = some o :=
    fun c o nc e => (Heap.get?_update_other _ _ (Ne.symm nc)).trans ((Heap.get?_update_other _ _ (Ne.symm nc)).trans (oth2 c o nc e))
  obtain ⟨c4, e4⟩ : ∃ c4, Obj.mapSeq (·.pop) (Obj.mapSeq (·.push Value.none) (Obj.mapSeq (fun _ => (#[] : Array Value)) (lstO [] 0))) = lstO (([] : List Addr).map Value.ref) c4 := ⟨_, rfl⟩
  rw [e4] at gS4
  have Z4 := (Z.mono fun c o e => Heap.get?_push_of_some _ e).keep gS oth4
  have big : s.heap.objs.size + 1 ≤ ((((s.heap.push (lstO [] 0)).update s.heap.objs.size (Obj.mapSeq (fun _ => (#[] : Array Value)))).update s.heap.objs.size (Obj.mapSeq (·.push Value.none))).update s.heap.objs.size (Obj.mapSeq (·.pop))).objs.size := Nat.succ_le_of_lt (Heap.lt_size gS4)
  refine wpAny_pure ⟨plainId_quiet F.plain_extend_loop _, loop (N := s.heap.objs.size + 1) D (show A.in1.handled = none by simp [calm]) lx ly few (Nat.lt_succ_of_lt lz) (Nat.lt_succ_of_lt (Heap.lt_size gO)) (Nat.lt_succ_of_lt (Heap.lt_size g1)) (Nat.lt_succ_of_lt (Heap.lt_size g2)) (Nat.lt_succ_self _) n 0 _ [] c4 (by omega) rfl Z4 gS4
    (fun j T hj => by simp at hj) List.nodup_nil (fun T hT => by simp at hT) big fun h' ts c a1 a2 a3 a4 a5 a6 => ?_⟩
  exact ⟨rfl, q h' ts c a1 a2 a3 a4 a5 fun c o k1 k2 k3 k4 e => a6 c o (Nat.ne_of_lt (Heap.lt_size e)) k1 k2 k3 k4 (oth4 _ _ (Nat.ne_of_lt (Heap.lt_size e)) (Heap.get?_push_of_some _ e))⟩
end
end LZ


set_option Elab.async false
set_option linter.all false
set_option maxRecDepth 100000
set_option maxHeartbeats 2000000
/-! list(zip(t, u)): the rule. -/
namespace BK
open PySem PySem.Spec PyProof.Rows L2
section
variable {X : Cx} {pins : List (Addr × Obj)} {σ : L2.St} {H : Hp} {s : Shared}
/-- nothing knows of the place a -/
structure Fr (X : Cx) (pins : List (Addr × Obj)) (a : Addr) : Prop where
  n0 : ∀ u, X.s_0.heap.get? a = some u → a ∈ X.ex ∨ X.H_0 a ≠ none
  nL : a ≠ X.env.locals
  nC : ∀ x c, X.env.cells.lookup x = some c → c ≠ a
  nP : ∀ p ∈ X.pn ++ pins, p.1 ≠ a
/-- a place above the heap -/
theorem Fr.of (I : Inv X pins σ H s) {a : Addr} (h : s.heap.objs.size ≤ a) : Fr X pins a := by
  have no : ∀ o, s.heap.get? a = some o → False := fun o e => Nat.lt_irrefl _ (Nat.lt_of_lt_of_le (Heap.lt_size e) h)
  refine ⟨fun u e => ?_, fun e => ?_, fun x c e z => ?_, fun p hp z => ?_⟩
  · by_cases hx : a ∈ X.ex
    · exact .inl hx
    · obtain ⟨o, q⟩ := I.base.there a u e hx
      exact (no o q).elim
  · obtain ⟨m, ⟨o, es, ep, q, _⟩, _⟩ := I.loc
    rw [e] at no
    exact no o q
  · obtain ⟨v, o, q, _⟩ := I.cell x c e
    rw [z] at q
    exact no o q
  · have q := (I.pin p hp).1
    rw [z] at q
    exact no _ q
theorem tell {a : Addr} {o : HO} (I : Inv X pins σ H s) (na : H a = none) (F : Fr X pins a) (ok : ObjOk X.prog X.w (upd H a o) s.heap a o) : Inv X pins σ (upd H a o) s := by
  have at_ : ∀ b u, H b = some u → upd H a o b = some u := same_new na
  refine ⟨I.ok, I.os, I.bare, ⟨I.base.keep, I.base.slot, fun b u e n hx => ?_, I.base.there, fun b xs e => at_ _ _ (I.base.tups b xs e), fun b u v e => at_ _ _ (I.base.frzs b u v e), fun b ps e => ?_⟩, I.loc, I.cell, ?_, fun x c e => ?_, fun p hp => ?_, fun b u e => ?_, I.len⟩
  · by_cases hb : b = a
    · subst hb
      exact ((F.n0 u e).elim (fun z => absurd z hx) fun z => absurd n z)
    · rw [upd_ne hb]
      exact I.base.free b u e n hx
  · obtain ⟨more, e'⟩ := I.base.tbls b ps e
    exact ⟨more, at_ _ _ e'⟩
  · rw [upd_ne F.nL.symm]
    exact I.free
  · rw [upd_ne (F.nC x c e)]
    exact I.freeC x c e
  · obtain ⟨h1, h2, h3⟩ := I.pin p hp
    exact ⟨h1, by rw [upd_ne (F.nP p hp)]; exact h2, h3⟩
  · by_cases hb : b = a
    · subst hb
      rw [upd_same] at e
      cases e
      exact ok
    · rw [upd_ne hb] at e
      exact (I.hok b u e).stay (fun _ _ _ q => q) (fun b q => at_ _ _ q) fun b xs q => at_ _ _ q
/-- new pairs are told of -/
theorem tell_pairs : ∀ (zs : List (Addr × V × V)) {H : Hp}, (zs.map (·.1)).Nodup → (∀ z ∈ zs, Fr X pins z.1 ∧ H z.1 = none ∧ ∃ u v, RelV z.2.1 u ∧ RelV z.2.2 v ∧ IsPair s.heap z.1 u v) → Inv X pins σ H s →
    ∃ H', Inv X pins σ H' s ∧ Same H H' ∧ (∀ z ∈ zs, H' z.1 = some (.tup [z.2.1, z.2.2])) ∧ ∀ a, H a = none → a ∉ zs.map (·.1) → H' a = none
  | [], H, _, _, I => ⟨H, I, fun _ _ e => e, fun _ h => by simp at h, fun _ e _ => e⟩
  | (a, x, y) :: r, H, nd, h, I => by
    rw [List.map_cons] at nd
    obtain ⟨n1, n2⟩ := List.nodup_cons.mp nd
    obtain ⟨F, na, u, v, ru, rv, hp⟩ := h _ List.mem_cons_self
    have I1 : Inv X pins σ (upd H a (.tup [x, y])) s := tell I na F ⟨(by show 2 ≤ sizeLine; decide), [u, v], .cons ru (.cons rv .nil), ⟨_, hp, rfl, _, rfl⟩⟩
    obtain ⟨H', I2, s2, at2, no2⟩ := tell_pairs r n2 (fun z hz => by
      obtain ⟨F', nz, q⟩ := h z (List.mem_cons_of_mem _ hz)
      refine ⟨F', ?_, q⟩
      have : z.1 ≠ a := fun e => n1 (by rw [← e]; exact List.mem_map.mpr ⟨z, hz, rfl⟩)
      rw [upd_ne this]
      exact nz) I1
    refine ⟨H', I2, (same_new na).trans s2, fun z hz => ?_, fun b e nb => ?_⟩
    · rcases List.mem_cons.mp hz with q | q
      · rw [q]
        exact s2 _ _ upd_same
      · exact at2 z q
    · rw [List.map_cons, List.mem_cons, not_or] at nb
      refine no2 b ?_ nb.2
      rw [upd_ne nb.1]
      exact e
end
theorem vals_refs : ∀ ts : List Addr, Vals (ts.map V.ref) (ts.map Value.ref)
  | [] => .nil
  | t :: r => .cons rfl (vals_refs r)
def tListZip (K : PySem.W.Frag) (ta : TA) : TE := fun σ H Q => ta σ H fun vs H1 => ∃ a b xs ys, vs = [.ref a, .ref b] ∧ SqT K H1 a xs ∧ SqT K H1 b ys ∧ xs.length = ys.length ∧ xs.length ≤ 1000 ∧
  ∀ (L : Addr) (ts : List Addr) (H' : Hp), Same H1 H' → H1 L = none → H' L = some (.lst (ts.map V.ref)) → ts.length = xs.length → (∀ (j : Nat) (T : Addr), ts[j]? = some T → ∃ x y, xs[j]? = some x ∧ ys[j]? = some y ∧ H' T = some (.tup [x, y])) → Q (.ref L) H'
section
variable {X : Cx}
theorem pe_listZip {e e2 : Expr} {ta : TA} {p p2 q pos : Pos} (hc : X.calm = true) (g1 : Gl X "list") (m1 : X.mg "list" = none) (g2 : Gl X "zip") (m2 : X.mg "zip" = none) (ha : PA X [e, e2] ta)
    (hs : starEach [e, e2] X.env = (false, eval e X.env) :: starEach [e2] X.env := by rfl) (hpl : (backTo q (starEach [e2] X.env)).any (·.1) = false := by rfl) : PE X (.Call (.Name "list" p) [.Call (.Name "zip" p2) [e, e2] [] q] [] pos) (tListZip X.K ta) := by
  refine ⟨fun pins s σ H Q I h => Call_ (ld_blt I g1 m1 boot_list (PyProof.Rows.callWith_type1 (PyProof.Rows.args_cons ?_ rfl) rfl rfl))⟩
  refine Call_ (ld_blt I g2 m2 PyProof.Rows.boot_zip (PyProof.Rows.callWith_type1 (thn (ha.run q pins s σ H _ I h) fun us s1 z => ?_) hs hpl))
  obtain ⟨vs, H1, I1, r1, a, b, xs, ys, rfl, sa, sb, el, few, k⟩ := z
  obtain ⟨u1, u2, rfl, ra, rb⟩ := vals2 r1
  obtain rfl : u1 = Value.ref a := ra
  obtain rfl : u2 = Value.ref b := rb
  obtain ⟨its, rx, ta, zx⟩ := I1.tuple sa
  obtain ⟨its2, ry, tb, zy⟩ := I1.tuple sb
  obtain ⟨oa, ga, _⟩ := id ta
  obtain ⟨ob, gb, _⟩ := id tb
  have lx : its.toArray.size = xs.length := by rw [List.size_toArray, rx.length]
  have ly : its2.toArray.size = xs.length := by rw [List.size_toArray, ← ry.length, el]
  refine RZ.call_zipT (show s1.heap.IsTuple a its.toArray from ta) (show s1.heap.IsTuple b its2.toArray from tb) fun h' hz hTI hTO h1 h2 hsz hk => PyProof.Rows.args_nil ?_
  have Z : LZ.ZS h' (s1.heap.objs.size + 4) (s1.heap.objs.size + 2) (s1.heap.objs.size + 3) s1.heap.objs.size (s1.heap.objs.size + 1) a b its.toArray its2.toArray 0 :=
    ⟨hTI, ⟨_, _, hTO⟩, h1, h2, (show s1.heap.IsTuple a its.toArray from ta).at fun o e => hk _ o e, (show s1.heap.IsTuple b its2.toArray from tb).at fun o e => hk _ o e, .inl ⟨rfl, hz⟩⟩
  refine LZ.list_zip (s := { s1 with heap := h' }) (PySem.W.ktu_apart s1.heap.objs.size a b (Heap.lt_size ga) (Heap.lt_size gb)) (I1.ok.hd hc) Z hz lx ly few fun h2 ts c a1 a2 a3 a4 a5 a6 => ?_
  have lt : ∀ {c : Addr} {o : Obj} (m : Nat), s1.heap.get? c = some o → c ≠ s1.heap.objs.size + m := fun m e => Nat.ne_of_lt (Nat.lt_of_lt_of_le (Heap.lt_size e) (Nat.le_add_right _ _))
  have kp : ∀ c o, s1.heap.get? c = some o → h2.get? c = some o := fun c o e => a6 c o (lt 4 e) (lt 3 e) (Nat.ne_of_lt (Heap.lt_size e)) (lt 1 e) (hk c o e)
  have I2 : Inv X pins σ H1 { s1 with heap := h2 } := I1.kept (t' := s1.toks) kp
  have up : s1.heap.objs.size ≤ h'.objs.size := by rw [hsz]; exact Nat.le_add_right _ _
  have ezs : (ts.zip (xs.zip ys)).map (·.1) = ts := by
    rw [List.map_fst_zip]
    rw [List.length_zip]
    omega
  have inz : ∀ z ∈ ts.zip (xs.zip ys), ∃ j, ts[j]? = some z.1 ∧ xs[j]? = some z.2.1 ∧ ys[j]? = some z.2.2 := fun z hz => by
    obtain ⟨j, hj⟩ := List.getElem?_of_mem hz
    obtain ⟨T, x, y⟩ := z
    obtain ⟨q1, q2⟩ := List.getElem?_zip_eq_some.mp hj
    obtain ⟨q3, q4⟩ := List.getElem?_zip_eq_some.mp q2
    exact ⟨j, q1, q3, q4⟩
  obtain ⟨H2, I3, s3, at3, no3⟩ := tell_pairs (ts.zip (xs.zip ys)) (by rw [ezs]; exact a4) (fun z hz => by
    obtain ⟨j, q1, q2, q3⟩ := inz z hz
    obtain ⟨u', v', w1, w2, w3⟩ := a3 j z.1 q1
    obtain ⟨u, w4, ru⟩ := rx.get q2
    obtain ⟨v, w5, rv⟩ := ry.get q3
    have e1 : u' = u := Option.some.inj (w1.symm.trans (by rw [List.getElem?_toArray]; exact w4))
    have e2 : v' = v := Option.some.inj (w2.symm.trans (by rw [List.getElem?_toArray]; exact w5))
    rw [e1, e2] at w3
    have le : s1.heap.objs.size ≤ z.1 := Nat.le_trans up (Nat.le_of_lt (a5 z.1 (List.mem_of_getElem? q1)))
    exact ⟨Fr.of I1 le, I1.hok.fresh le, u, v, ru, rv, w3⟩) I2
  have nL : H2 h'.objs.size = none := no3 _ (I1.hok.fresh up) (by
    rw [ezs]
    intro m
    exact Nat.lt_irrefl _ (a5 _ m))
  have I4 : Inv X pins σ (upd H2 h'.objs.size (.lst (ts.map V.ref))) { s1 with heap := h2 } := tell I3 nL (Fr.of I1 up) ⟨by rw [List.length_map, a1]; exact Nat.le_of_lt (small1000 few), ts.map Value.ref, c, vals_refs ts, a2⟩
  refine ⟨.ref h'.objs.size, _, I4, rfl, k h'.objs.size ts _ (s3.trans (same_new nL)) (I1.hok.fresh up) upd_same a1 fun j T hj => ?_⟩
  have jl : j < ts.length := (List.getElem?_eq_some_iff.mp hj).1
  have hx : xs[j]? = some xs[j] := List.getElem?_eq_getElem (by omega)
  have hy : ys[j]? = some ys[j] := List.getElem?_eq_getElem (by omega)
  have mem : (T, xs[j], ys[j]) ∈ ts.zip (xs.zip ys) := List.mem_of_getElem? (i := j) (List.getElem?_zip_eq_some.mpr ⟨hj, List.getElem?_zip_eq_some.mpr ⟨hx, hy⟩⟩)
  exact ⟨xs[j], ys[j], hx, hy, same_new nL _ _ (at3 _ mem)⟩
end
end BK


set_option Elab.async false
set_option maxRecDepth 100000
set_option maxHeartbeats 1000000
/-! parts_of. -/
namespace BK
open PySem PySem.Spec PyProof.Rows L2
/-- the words and the kinds of their parts -/
def kindTab : List (Str × List Str) := [("set", ["variable", "source"]), ("hold", ["token", "variable", "source"]), ("reset", ["token"]), ("drop", ["variable"]), ("show", ["variable"]), ("copy", ["context"]), ("within", ["context", "block"]),
  ("if", ["variable", "integer", "block", "block"]), ("with", ["variable", "source", "block"]), ("guard", ["block", "block"]), ("loop", ["block"]), ("leave", []), ("yield", []), ("fail", [])]
def kindsOf (w : Str) : Option (List Str) := (kindTab.find? fun e => decide (e.1 = w)).map (·.2)
theorem tab_few : (kindTab.all fun e => decide (e.2.length ≤ 4)) = true := by decide +kernel
theorem kinds_few {w : Str} {ks : List Str} (h : kindsOf w = some ks) : ks.length ≤ 4 := by
  unfold kindsOf at h
  cases e : kindTab.find? fun e => decide (e.1 = w) with
  | none => rw [e] at h; cases h
  | some x =>
    rw [e] at h
    have q : x.2 = ks := Option.some.inj h
    rw [← q]
    exact of_decide_eq_true (List.all_eq_true.mp tab_few x (List.mem_of_find?_eq_some e))
structure Parts (K : PySem.W.Frag) (mg : Str → Option Value) (w : World) : Prop where
  at_ : ∃ p, mg "PARTS" = some (.ref p) ∧ ∀ x ks, kindsOf x = some ks → ∃ t, KDct K w p x (.ref t) ∧ ∀ H, SqT K H t (ks.map V.str)
theorem cut1 (x : V) (r : List V) : cutV (x :: r) (some 1) none = r := by
  have e : HT.sIx (x :: r).length 0 (some 1) = 1 := by
    simp [HT.sIx]
  have e2 : HT.sIx (x :: r).length (x :: r).length none = r.length + 1 := by
    simp [HT.sIx]
  unfold cutV
  rw [e, e2]
  simp
def spParts (K : PySem.W.Frag) : Sp := fun vs H Q _ => ∃ v x rest ks, vs = [v] ∧ TrAt K H v (.tup (.str x :: rest)) ∧ kindsOf x = some ks ∧ rest.length = ks.length ∧
  ∀ (L : Addr) (ts : List Addr) (H' : Hp), Same H H' → H' L = some (.lst (ts.map V.ref)) → ts.length = ks.length → (∀ (j : Nat) (T : Addr), ts[j]? = some T → ∃ y t k, rest[j]? = some t ∧ ks[j]? = some k ∧ TrAt K H' y t ∧ H' T = some (.tup [y, .str k])) → Q (.ref L) H'
abbrev sParts : Stmt := top 23
theorem scParts : FnScope ["statement"] ["statement"] (defScope sParts) := ⟨rfl, rfl, rfl, by decide +kernel, rfl, by decide +kernel, by decide +kernel⟩
section
variable {P : Program} {w : World} {K : PySem.W.Frag} {mg : Str → Option Value} {base : Heap}
theorem ok_parts {f : Addr} {fd : FuncData} (F : Fun K "parts_of" "parts_of" sParts f fd) (U : Parts K mg w) (mL : mg "list" = none) (mZ : mg "zip" = none) : FnOk P w K mg base CX0 1 f fd ["statement"] (spParts K) := by
  refine F.ok scParts (fun vs H Q E h => ?_) (fun cdv A outer s H vs Q E hr h => ?_)
  · obtain ⟨v, x, rest, ks, rfl, _⟩ := h
    rfl
  · obtain ⟨v, x, rest, ks, rfl, tv, ek, el, k⟩ := h
    obtain ⟨p, gP, at_⟩ := U.at_
    obtain ⟨t, kd, st⟩ := at_ x ks ek
    refine ⟨_, pss_one (ps_ret (pe_listZip rfl (by rfl) mL (by rfl) mZ (pa_cons (pe_slice sl_tup (pv 0) (po_some pe_int) po_none) (pa_cons (pe_ix ix_kdict (pe_glob (v := .ref p) rfl gP rfl) (pe_ix ix_tup (pv 0) pe_int (fun _ _ => rfl)) (fun _ _ => rfl)) pa_nil)))), ?_⟩
    cases tv with
    | @tup a xs _ h tr =>
    cases tr with
    | @cons y ys _ _ hy rs =>
    cases hy with
    | str _ hx =>
    refine ⟨_, rfl, 1, rfl, a, _, rfl, h, (by rintro ⟨e, _⟩; simp [HT.sIx] at e), fun q nq => ?_⟩
    rw [cut1]
    have s1 := same_new (o := .tup ys) nq
    refine ⟨_, rfl, a, _, 0, _, rfl, rfl, sqt_same s1 h, at_of (j := 0) rfl rfl, p, x, .ref t, rfl, rfl, kd, ?_⟩
    refine ⟨q, t, ys, ks.map V.str, rfl, SqT.of upd_same, st _, by rw [rs.len, List.length_map]; exact el, by rw [rs.len, el]; have := kinds_few ek; omega, fun L ts H' s2 nL eL lt at2 => ?_⟩
    refine k L ts H' (s1.trans s2) eL (by rw [lt, rs.len]; exact el) fun j T hj => ?_
    obtain ⟨y', k', q1, q2, q3⟩ := at2 j T hj
    obtain ⟨t', q4, q5⟩ := (rs.same (s1.trans s2)).get q1
    rw [List.getElem?_map] at q2
    cases e : ks[j]? with
    | none => rw [e] at q2; cases q2
    | some kk =>
      rw [e] at q2
      obtain rfl : V.str kk = k' := Option.some.inj q2
      exact ⟨y', t', kk, q4, rfl, q5, q3⟩
end
end BK


set_option Elab.async false
set_option maxRecDepth 100000
set_option maxHeartbeats 1000000
/-! has_form. -/
namespace BK
open PySem PySem.Spec PyProof.Rows L2 RZ
def wordV : Tr → V
  | .tup (.str w :: _) => .str w
  | _ => .non
def fitsT (rest : List Tr) (ks : List Str) : Bool := decide (rest.length = ks.length) && (rest.zip ks).all fun e => partT e.1 e.2
def formT : Tr → Bool
  | .tup (.str w :: rest) => match kindsOf w with
    | some ks => fitsT rest ks
    | none => false
  | _ => false
theorem no_args {w : Str} {ks : List Str} (h : kindsOf w = some ks) : ("args" : Str) ∉ ks := by
  have all : (kindTab.all fun e => decide (("args" : Str) ∉ e.2)) = true := by decide +kernel
  unfold kindsOf at h
  cases e : kindTab.find? fun e => decide (e.1 = w) with
  | none => rw [e] at h; cases h
  | some x =>
    rw [e] at h
    have q : x.2 = ks := Option.some.inj h
    rw [← q]
    exact of_decide_eq_true (List.all_eq_true.mp all x (List.mem_of_find?_eq_some e))
theorem walk_zipT {K : PySem.W.Frag} {a b : Addr} {xs ys : List V} {n : Nat} (hn : n = min xs.length ys.length) : Walk (ItzT K a b) n (fun H => SqT K H a xs ∧ SqT K H b ys) (YPair (fun i => xs[i]?) (fun i => ys[i]?)) := by
  subst hn
  refine ⟨fun i _ hi q => ?_, fun _ q => ⟨xs, ys, q.1, q.2, by omega⟩, fun i H v H' _ q y => ?_⟩
  · have h1 : i < xs.length := by omega
    have h2 : i < ys.length := by omega
    exact ⟨xs, ys, xs[i], ys[i], q.1, q.2, by simp [h1], by simp [h2]⟩
  · obtain ⟨T, x, z, h1, h2, h3, h4, h5⟩ := y
    exact ⟨T, x, z, h1, h2, h3, h4 xs q.1, h5 ys q.2⟩
def spWord (K : PySem.W.Frag) : Sp := fun vs H Q _ => ∃ v t, vs = [v] ∧ TrAt K H v t ∧ Q (wordV t) H
def spFits (K : PySem.W.Frag) : Sp := fun vs H Q _ => ∃ v b t0 rest ks, vs = [v, .ref b] ∧ TrAt K H v (.tup (t0 :: rest)) ∧ SqT K H b (ks.map V.str) ∧ ks.length ≤ 1000 ∧ (("args" : Str) ∈ ks → ∀ t ∈ rest, ∀ ts, t = .tup ts → ts.length ≤ 4000000) ∧
  ∀ H', Same H H' → Q (.bl (fitsT rest ks)) H'
/-- the dict of the words as it is written -/
structure PartsD (K : PySem.W.Frag) (mg : Str → Option Value) (w : World) (p : Addr) (es : Array DictEntry) (n : Nat) : Prop where
  d : KDict K w p es n
  g : mg "PARTS" = some (.ref p)
  at_ : ∀ x ks, kindsOf x = some ks → ∃ t, PySem.W.nsIn K p x = some (some (.ref t)) ∧ ∀ H, SqT K H t (ks.map V.str)
  no : ∀ x, kindsOf x = none → PySem.W.nsIn K p x = some none
theorem PartsD.parts {K : PySem.W.Frag} {mg : Str → Option Value} {w : World} {p : Addr} {es : Array DictEntry} {n : Nat} (D : PartsD K mg w p es n) : Parts K mg w := ⟨p, D.g, fun x ks e => by
  obtain ⟨t, h1, h2⟩ := D.at_ x ks e
  exact ⟨t, ⟨es, n, _, D.d.at_, D.d.lit, h1, rfl⟩, h2⟩⟩
abbrev sWord : Stmt := top 20
abbrev sFits : Stmt := top 21
abbrev sForm : Stmt := top 22
theorem scWord : FnScope ["thing"] ["thing"] (defScope sWord) := ⟨rfl, rfl, rfl, by decide +kernel, rfl, by decide +kernel, by decide +kernel⟩
theorem scFits : FnScope ["thing", "kinds", "part", "kind"] ["thing", "kinds"] (defScope sFits) := ⟨rfl, rfl, rfl, by decide +kernel, rfl, by decide +kernel, by decide +kernel⟩
theorem scForm : FnScope ["thing", "word"] ["thing"] (defScope sForm) := ⟨rfl, rfl, rfl, by decide +kernel, rfl, by decide +kernel, by decide +kernel⟩
section
variable {P : Program} {w : World} {K : PySem.W.Frag} {mg : Str → Option Value} {base : Heap}
theorem ok_word {f : Addr} {fd : FuncData} (F : Fun K "word_of" "word_of" sWord f fd) (T : Forms mg) : FnOk P w K mg base CX0 1 f fd ["thing"] (spWord K) := by
  refine F.ok scWord (fun vs H Q E h => ?_) (fun cdv A outer s H vs Q E hr h => ?_)
  · obtain ⟨v, t, rfl, _⟩ := h
    rfl
  · obtain ⟨v, t, rfl, ht, k⟩ := h
    refine ⟨_, pss_cons (ps_if (PW.pt (pw_and (pt_val (pe_callB call_isi (by rfl) T.isi boot_isinstance (pa_cons (pv 0) (pa_cons (pe_bltn (v := .ty "tuple") (u := .type "tuple") (by rfl) T.tuple (by decide +kernel) rfl) pa_nil))))
        (pw_and (pt_cmpR op_gt (pe_callB call_len_seq (by rfl) T.len boot_len (pa_cons (pv 0) pa_nil)) pe_int (nomark _))
        (pw_and1 (pt_val (pe_callB call_isi (by rfl) T.isi boot_isinstance (pa_cons (pe_ix ix_tup (pv 0) pe_int (fun _ _ => rfl)) (pa_cons (pe_bltn (v := .ty "str") (u := .type "str") (by rfl) T.str (by decide +kernel) rfl) pa_nil)))))))) (pss_one (ps_ret (pe_ix ix_tup (pv 0) pe_int (fun _ _ => rfl)))) pss_nil)
      (pss_one (ps_ret pe_non)), ?_⟩
    refine ⟨_, rfl, v, .ty "tuple", .type (tyT t), .type "tuple", isTup t, rfl, .ty "tuple", ht.ty, k_tup K t, _, rfl, ?_⟩
    cases ht with
    | int i => exact iteF k
    | bl b => exact iteF k
    | str z hz => exact iteF k
    | non => exact iteF k
    | lst h => exact iteF k
    | dct h => exact iteF k
    | @tup a xs ts h tr =>
    refine iteT ⟨_, rfl, a, xs, rfl, .inr h, _, _, rfl, rfl, _, rfl, ?_⟩
    cases tr with
    | nil => exact iteF k
    | @cons y ys t0 rest hy rs =>
    refine ite2 (fun _ => ?_) (fun z => ?_)
    · refine ⟨_, rfl, a, _, 0, y, rfl, rfl, h, at_of (j := 0) rfl rfl, y, .ty "str", .type (tyT t0), .type "str", isStr t0, rfl, .ty "str", hy.ty, k_str K t0, _, rfl, ?_⟩
      cases hy with
      | int i => exact iteF k
      | bl b => exact iteF k
      | non => exact iteF k
      | lst h => exact iteF k
      | dct h => exact iteF k
      | tup h r => exact iteF k
      | str x hx => exact iteT ⟨_, rfl, a, _, 0, _, rfl, rfl, h, at_of (j := 0) rfl rfl, k⟩
    · have : ((y :: ys).length : Int) > 0 := by rw [List.length_cons]; omega
      exact absurd (decide_eq_true this) z
theorem ok_fits {f fP : Addr} {fd fdP : FuncData} (F : Fun K "fits" "fits" sFits f fd) (T : Forms mg) (mZ : mg "zip" = none)
    (GP : FnOk P w K mg base CX0 3 fP fdP ["thing", "kind"] (spPart K)) (bP : Binds K fdP ["thing", "kind"] []) (gP : mg "is_part" = some (.ref fP)) (kP : PySem.W.keepIn K (.ref fP) = true) : FnOk P w K mg base CX0 4 f fd ["thing", "kinds"] (spFits K) := by
  refine F.ok scFits (fun vs H Q E h => ?_) (fun cdv A outer s H vs Q E hr h => ?_)
  · obtain ⟨v, b, t0, rest, ks, rfl, _⟩ := h
    rfl
  · obtain ⟨v, b, t0, rest, ks, rfl, ht, sb, kl, na, k⟩ := h
    refine ⟨_, pss_cons (ps_if (pt_cmpR op_ne (pe_callB call_len_seq (by rfl) T.len boot_len (pa_cons (pv 0) pa_nil)) (pe_op op_add pe_int (pe_callB call_len_seq (by rfl) T.len boot_len (pa_cons (pv 1) pa_nil))) (nomark _)) (pss_one (ps_ret pe_bl)) pss_nil)
      (pss_one (ps_ret (pe_callB (cr_all rfl) (by rfl) T.all (by decide +kernel) (pa_cons (pe_lc (own := [("part", 2), ("kind", 3)]) (g := gTup K 2 (gCons (gName 2) (gCons (gName 3) gNil))) (tt := tYes) (te := tCall (spPart K) [] E0 (tCons (tVar 2) (tCons (tVar 3) tNil))) rfl scFits.nd
          (pi_zipA (by rfl) mZ (pa_cons (pe_slice sl_tup (pv 0) (po_some pe_int) po_none) (pa_cons (pv 1) pa_nil))) (blkOk_by (N := ["thing", "kinds", "part", "kind"]) (sc := defScope sFits) (by decide +kernel))
          (fun _ _ _ _ _ => by exact pg_tup rfl (pgs_cons (pg_name (i := 2) scFits.nd rfl (Or.inl rfl)) (pgs_cons (pg_name (i := 3) scFits.nd rfl (Or.inl rfl)) pgs_nil))) (fun _ _ _ _ _ => pts_nil)
          (fun _ _ _ _ _ => by exact pe_call GP hr rfl gP kP bP .nil pass0 (pa_cons (pv 2) (pa_cons (pv 3) pa_nil)))) pa_nil)))), ?_⟩
    have q0 := k H fun _ _ e => e
    cases ht with
    | @tup a xs _ h tr =>
    cases tr with
    | @cons y ys _ _ hy rs =>
    have rl := rs.len
    refine ⟨_, rfl, a, _, rfl, .inr h, _, rfl, b, _, rfl, .inr sb, _, _, rfl, rfl, rfl, _, rfl, ?_⟩
    have el : decide (V.int ((y :: ys).length : Nat) = V.int (1 + ((ks.map V.str).length : Nat))) = decide (rest.length = ks.length) := by
      rw [dec_int, List.length_cons, List.length_map, rl]
      by_cases z : rest.length = ks.length
      · rw [decide_eq_true z, beq_iff_eq]
        omega
      · rw [decide_eq_false z, beq_eq_false_iff_ne]
        omega
    rw [el]
    unfold fitsT at k q0
    by_cases hl : rest.length = ks.length
    · rw [decide_eq_true hl] at k ⊢
      rw [Bool.true_and] at k
      refine iteF ?_
      refine ⟨_, rfl, 1, rfl, a, _, rfl, h, (by rintro ⟨e, _⟩; simp [HT.sIx] at e), fun q nq => ?_⟩
      rw [cut1]
      have s1 := same_new (o := .tup ys) nq
      refine ⟨_, rfl, q, b, ys, ks.map V.str, rfl, .inr ⟨SqT.of upd_same, sqt_same s1 sb, fun G nG => ?_⟩⟩
      generalize eH1 : upd H q (.tup ys) = H1 at s1 nG ⊢
      have sq : SqT K H1 q ys := by rw [← eH1]; exact SqT.of upd_same
      refine lc_it (walk_zipT (K := K) (a := q) (b := b) (xs := ys) (ys := ks.map V.str) rfl) (fun i H2 => Same H1 H2 ∧ H2 G = some (.lst ((((rest.zip ks).take i).map fun e => partT e.1 e.2).map V.bl))) ⟨same_new nG, upd_same⟩ (fun i H2 _ ⟨s2, _⟩ => ⟨sqt_same s2 sq, sqt_same (s1.trans s2) sb⟩) ?_ ?_
      · rintro i z H2 H3 hi ⟨s2, e2⟩ ⟨U, y', k', rfl, nU, rfl, q1, q2⟩
        have sU := same_new (o := .tup [y', k']) nU
        obtain ⟨t', q3, ty'⟩ := (rs.same ((s1.trans s2).trans sU)).get q1
        have q2 : (ks.map V.str)[i]? = some k' := q2
        rw [List.getElem?_map] at q2
        cases eK : ks[i]? with
        | none => rw [eK] at q2; cases q2
        | some kk =>
        rw [eK] at q2
        obtain rfl : V.str kk = k' := Option.some.inj q2
        have ez : (rest.zip ks)[i]? = some (t', kk) := List.getElem?_zip_eq_some.mpr ⟨q3, eK⟩
        have il : i < ks.length := (List.getElem?_eq_some_iff.mp eK).1
        refine ⟨U, _, rfl, SqT.of upd_same, rfl, _, _, rfl, _, _, rfl, rfl, rfl, ?_⟩
        refine tyes ?_
        refine ⟨_, rfl, _, rfl, y', t', kk, rfl, ty', fun ea ts et => na (by rw [← ea]; exact List.mem_of_getElem? eK) t' (List.mem_of_getElem? q3) ts et, fun H3 s3 => ⟨_, s3 _ _ (sU _ _ e2), small1000 (by rw [List.length_map, List.length_map, List.length_take]; omega), fun b o e => ?_, ?_⟩⟩
        · rw [upd_ne (ne_of_none e nG)]
          exact s3 _ _ (sU _ _ (s2 b o e))
        · rw [upd_same, List.take_add_one, ez, List.map_append, List.map_append]
          rfl
      · rintro H2 ⟨s2, e2⟩
        have et : (rest.zip ks).take (min ys.length (ks.map V.str).length) = rest.zip ks := by
          rw [List.take_of_length_le]
          rw [List.length_zip, List.length_map]
          omega
        rw [et] at e2
        refine ⟨G, _, rfl, SqL.of e2, ?_⟩
        have ea : ((rest.zip ks).map fun e => partT e.1 e.2).all id = (rest.zip ks).all fun e => partT e.1 e.2 := by rw [List.all_map]; rfl
        rw [ea]
        exact k H2 (s1.trans s2)
    · rw [decide_eq_false hl] at q0 ⊢
      rw [Bool.false_and] at q0
      exact iteT q0
theorem ok_form {f fW fF p : Addr} {fd fdW fdF : FuncData} {es : Array DictEntry} {n : Nat} (F : Fun K "has_form" "has_form" sForm f fd) (D : PartsD K mg w p es n)
    (GW : FnOk P w K mg base CX0 1 fW fdW ["thing"] (spWord K)) (bW : Binds K fdW ["thing"] []) (gW : mg "word_of" = some (.ref fW)) (kW : PySem.W.keepIn K (.ref fW) = true)
    (GF : FnOk P w K mg base CX0 4 fF fdF ["thing", "kinds"] (spFits K)) (bF : Binds K fdF ["thing", "kinds"] []) (gF : mg "fits" = some (.ref fF)) (kF : PySem.W.keepIn K (.ref fF) = true) : FnOk P w K mg base CX0 5 f fd ["thing"] (spOf formT K) := by
  refine F.ok scForm (fun vs H Q E h => ?_) (fun cdv A outer s H vs Q E hr h => ?_)
  · obtain ⟨v, t, rfl, _⟩ := h
    rfl
  · obtain ⟨v, t, rfl, ht, k⟩ := h
    have hr1 : Room 1 _ := hr.mono (by decide)
    refine ⟨_, pss_cons (ps_set (i := 1) scForm.nd rfl (Or.inl rfl) (pe_call GW hr1 rfl gW kW bW .nil pass0 (pa_cons (pv 0) pa_nil)))
      (pss_one (ps_ret (pe_and (pe_cmpR (op_in_kdN D.d) (pv 1) (pe_glob (v := .ref p) rfl D.g rfl) rfl) (pe_one (pe_call GF hr rfl gF kF bF .nil pass0 (pa_cons (pv 0) (pa_cons (pe_ix ix_kdict (pe_glob (v := .ref p) rfl D.g rfl) (pv 1) (fun _ _ => rfl)) pa_nil))))))), ?_⟩
    refine ⟨_, rfl, v, t, rfl, ht, ?_⟩
    have q0 := k H fun _ _ e => e
    have no : wordV t = .non → formT t = false := fun e => by
      unfold wordV at e
      unfold formT
      split at e
      · cases e
      · rfl
    by_cases hw : ∃ x rest, t = .tup (.str x :: rest)
    · obtain ⟨x, rest, rfl⟩ := hw
      cases ek : kindsOf x with
      | none =>
        have e : formT (.tup (.str x :: rest)) = false := by
          show (match kindsOf x with
            | some ks => fitsT rest ks
            | none => false) = false
          rw [ek]
        rw [e] at q0
        exact ⟨_, rfl, rfl, .inr ⟨x, none, rfl, D.no x ek, _, rfl, iteF q0⟩⟩
      | some ks =>
        have e : formT (.tup (.str x :: rest)) = fitsT rest ks := by
          show (match kindsOf x with
            | some ks => fitsT rest ks
            | none => false) = fitsT rest ks
          rw [ek]
        rw [e] at k
        obtain ⟨t, nt, st⟩ := D.at_ x ks ek
        refine ⟨_, rfl, rfl, .inr ⟨x, some (.ref t), rfl, nt, _, rfl, iteT ?_⟩⟩
        refine ⟨_, rfl, _, rfl, p, x, .ref t, rfl, rfl, ⟨es, n, _, D.d.at_, D.d.lit, nt, rfl⟩, v, t, _, rest, ks, rfl, ht, st _, by have := kinds_few ek; omega, fun z => absurd z (no_args ek), k⟩
    · have e : wordV t = .non := by
        unfold wordV
        split
        · exact absurd ⟨_, _, rfl⟩ hw
        · rfl
      rw [no e] at q0
      rw [e]
      exact ⟨_, rfl, rfl, .inl ⟨rfl, _, rfl, iteF q0⟩⟩
end
end BK


set_option Elab.async false
set_option maxRecDepth 100000
set_option maxHeartbeats 1000000
/-! has_yield, can_stand. -/
namespace BK
open PySem PySem.Spec PyProof.Rows L2
def isYield : Tr → Bool
  | .tup (.str w :: rest) => formT (.tup (.str w :: rest)) && decide (w = "yield")
  | _ => false
def yieldT (ts : List Tr) : Bool := ts.any isYield
def spYield (K : PySem.W.Frag) : Sp := fun vs H Q _ => ∃ v ts, vs = [v] ∧ TrAt K H v (.tup ts) ∧ ∀ H', Same H H' → Q (.bl (yieldT ts)) H'
abbrev sYield : Stmt := top 34
theorem scYield : FnScope ["block", "thing"] ["block"] (defScope sYield) := ⟨rfl, rfl, rfl, by decide +kernel, rfl, by decide +kernel, by decide +kernel⟩
theorem form_shape : ∀ {t : Tr}, formT t = true → ∃ w r, t = .tup (.str w :: r)
  | .tup (.str w :: r), _ => ⟨w, r, rfl⟩
theorem yield_form {t : Tr} (h : formT t = false) : isYield t = false := by
  unfold isYield
  split
  · rw [h, Bool.false_and]
  · rfl
section
variable {P : Program} {w : World} {K : PySem.W.Frag} {mg : Str → Option Value} {base : Heap}
theorem ok_yield {f fF : Addr} {fd fdF : FuncData} (F : Fun K "has_yield" "has_yield" sYield f fd) (GF : FnOk P w K mg base CX0 5 fF fdF ["thing"] (spOf formT K)) (bF : Binds K fdF ["thing"] []) (gF : mg "has_form" = some (.ref fF)) (kF : PySem.W.keepIn K (.ref fF) = true) :
    FnOk P w K mg base CX0 6 f fd ["block"] (spYield K) := by
  refine F.ok scYield (fun vs H Q E h => ?_) (fun cdv A outer s H vs Q E hr h => ?_)
  · obtain ⟨v, ts, rfl, _⟩ := h
    rfl
  · obtain ⟨v, ts, rfl, ht, k⟩ := h
    cases ht with
    | @tup a xs _ h tr =>
    refine ⟨_, pss_cons (ps_for PassesOwn.never rfl (pi_tup (pv 0)) (pg_name (i := 1) scYield.nd rfl (Or.inl rfl))
        (pss_one (ps_if (PW.pt (pw_and (pt_val (pe_call GF hr rfl gF kF bF .nil pass0 (pa_cons (pv 1) pa_nil))) (pw_and1 (pt_cmpR op_eq (pe_ix ix_tup (pv 1) pe_int (fun _ _ => rfl)) pe_str (nomark _))))) (pss_one (ps_ret pe_bl)) pss_nil)))
      (pss_one (ps_ret pe_bl)), ?_⟩
    refine ⟨_, rfl, a, rfl, ⟨xs, h⟩, for_tup (K := K) (a := a) (xs := xs) (fun i σ H2 => (∃ v1, σ = [some (.ref a), v1]) ∧ Same H H2 ∧ yieldT (ts.take i) = false) ⟨⟨none, rfl⟩, fun _ _ e => e, rfl⟩ (fun i σ H2 _ ⟨_, s2, _⟩ => sqt_same s2 h) ?_ ?_⟩
    · rintro i y σ H2 hi ⟨⟨v1, rfl⟩, s2, n2⟩
      obtain ⟨t, ht, ty⟩ := (tr.same s2).get hi
      have et : ts.take (i + 1) = ts.take i ++ [t] := by rw [List.take_add_one, ht]; rfl
      have ey : yieldT (ts.take (i + 1)) = isYield t := by
        unfold yieldT at n2 ⊢
        rw [et, List.any_append, n2, Bool.false_or]
        simp
      have all : isYield t = true → yieldT ts = true := fun e => by
        unfold yieldT
        rw [List.any_eq_true]
        exact ⟨t, List.mem_of_getElem? ht, e⟩
      refine ⟨_, rfl, y, t, rfl, ty, fun H3 s3 => ⟨_, rfl, ?_⟩⟩
      cases ef : formT t with
      | false => exact iteF (iteF ⟨⟨_, rfl⟩, s2.trans s3, by rw [ey, yield_form ef]⟩)
      | true =>
        obtain ⟨wd, r, rfl⟩ := form_shape ef
        cases ty with
        | @tup b ys _ hb tb =>
        obtain ⟨w0, hw, tw⟩ := tb.get' (i := 0) (t := .str wd) rfl
        cases tw with
        | str _ hz =>
        refine iteT ⟨_, rfl, b, ys, 0, _, rfl, rfl, sqt_same s3 hb, at_of (j := 0) rfl hw, rfl, _, rfl, ?_⟩
        rw [eq_txt]
        have e : isYield (.tup (.str wd :: r)) = decide (wd = "yield") := by
          show (formT (.tup (.str wd :: r)) && decide (wd = "yield")) = _
          rw [ef, Bool.true_and]
        refine ite2 (fun z => ?_) (fun z => ?_)
        · have q := k H3 (s2.trans s3)
          rw [all (e.trans z)] at q
          exact q
        · exact ⟨⟨_, rfl⟩, s2.trans s3, by rw [ey, e]; simpa using z⟩
    · rintro σ H2 ⟨⟨v1, rfl⟩, s2, n2⟩
      have q := k H2 s2
      have et : ts.take xs.length = ts := by rw [tr.len, List.take_length]
      rw [et] at n2
      rw [n2] at q
      exact q
end
end BK


set_option Elab.async false
set_option maxRecDepth 100000
set_option maxHeartbeats 1000000
/-! can_stand. -/
namespace BK
open PySem PySem.Spec PyProof.Rows L2
theorem in_txts (z : Str) : ∀ zs : List Str, inV (.str z) (zs.map V.str) = decide (z ∈ zs)
  | [] => rfl
  | y :: r => by
    have ih := in_txts z r
    unfold inV at ih ⊢
    rw [List.map_cons, List.any_cons, ih]
    show (y == z || decide (z ∈ r)) = _
    by_cases e : y = z
    · simp [e]
    · have e' : ¬ z = y := fun q => e q.symm
      simp [e, e', List.mem_cons]
theorem flat_txts : ∀ zs : List Str, (zs.map V.str).all flatV = true
  | [] => rfl
  | y :: r => by
    rw [List.map_cons, List.all_cons, flat_txts r]
    rfl
/-- may a statement of the word x stand within the words as? -/
def canT (x : Str) (rest : List Tr) (as : List Str) : Bool :=
  if x = "yield" then !decide (("within" : Str) ∈ as) else if x = "leave" then decide (("loop" : Str) ∈ as) && !decide (("within" : Str) ∈ as) else if x = "loop" then (match rest with
    | .tup ts :: _ => yieldT ts
    | _ => false) else true
def spCan (K : PySem.W.Frag) : Sp := fun vs H Q _ => ∃ v b x rest as, vs = [v, .ref b] ∧ TrAt K H v (.tup (.str x :: rest)) ∧ SqT K H b (as.map V.str) ∧ (x = "loop" → ∃ ts r, rest = .tup ts :: r) ∧ ∀ H', Same H H' → Q (.bl (canT x rest as)) H'
abbrev sCan : Stmt := top 33
theorem scCan : FnScope ["statement", "around", "word"] ["statement", "around"] (defScope sCan) := ⟨rfl, rfl, rfl, by decide +kernel, rfl, by decide +kernel, by decide +kernel⟩
section
variable {P : Program} {w : World} {K : PySem.W.Frag} {mg : Str → Option Value} {base : Heap}
theorem ok_can {f fY : Addr} {fd fdY : FuncData} (F : Fun K "can_stand" "can_stand" sCan f fd) (GY : FnOk P w K mg base CX0 6 fY fdY ["block"] (spYield K)) (bY : Binds K fdY ["block"] []) (gY : mg "has_yield" = some (.ref fY)) (kY : PySem.W.keepIn K (.ref fY) = true) :
    FnOk P w K mg base CX0 7 f fd ["statement", "around"] (spCan K) := by
  refine F.ok scCan (fun vs H Q E h => ?_) (fun cdv A outer s H vs Q E hr h => ?_)
  · obtain ⟨v, b, x, rest, as, rfl, _⟩ := h
    rfl
  · obtain ⟨v, b, x, rest, as, rfl, tv, sb, lp, k⟩ := h
    refine ⟨_, pss_cons (ps_set (i := 2) scCan.nd rfl (Or.inl rfl) (pe_ix ix_tup (pv 0) pe_int (fun _ _ => rfl)))
      (pss_cons (ps_if (pt_cmpR op_eq (pv 2) pe_str (nomark _)) (pss_one (ps_ret (pe_cmpR op_notIn_seq pe_str (pv 1) rfl))) pss_nil)
      (pss_cons (ps_if (pt_cmpR op_eq (pv 2) pe_str (nomark _)) (pss_one (ps_ret (pe_and (pe_cmpR op_in_seq pe_str (pv 1) rfl) (pe_one (pe_cmpR op_notIn_seq pe_str (pv 1) rfl))))) pss_nil)
      (pss_cons (ps_if (pt_cmpR op_eq (pv 2) pe_str (nomark _)) (pss_one (ps_ret (pe_call GY hr rfl gY kY bY .nil pass0 (pa_cons (pe_ix ix_tup (pv 0) pe_int (fun _ _ => rfl)) pa_nil)))) pss_nil)
      (pss_one (ps_ret pe_bl))))), ?_⟩
    have q0 := k H fun _ _ e => e
    cases tv with
    | @tup a xs _ h tr =>
    cases tr with
    | @cons y ys _ _ hy rs =>
    cases hy with
    | str _ hx =>
    refine ⟨_, rfl, a, _, 0, _, rfl, rfl, h, at_of (j := 0) rfl rfl, ?_⟩
    refine ⟨_, rfl, rfl, _, rfl, ?_⟩
    rw [eq_txt]
    refine ite2 (fun z => ?_) (fun z => ?_)
    · have e1 : x = "yield" := of_decide_eq_true z
      refine ⟨_, rfl, b, _, rfl, .inr sb, rfl, flat_txts as, ?_⟩
      show Q (.bl (!inV (.str "within") (as.map V.str))) H
      rw [in_txts]
      unfold canT at q0
      rw [if_pos e1] at q0
      exact q0
    have e1 : ¬ x = "yield" := fun q => z (decide_eq_true q)
    refine ⟨_, rfl, rfl, _, rfl, ?_⟩
    rw [eq_txt]
    refine ite2 (fun z => ?_) (fun z => ?_)
    · have e2 : x = "leave" := of_decide_eq_true z
      unfold canT at q0
      rw [if_neg e1, if_pos e2] at q0
      refine ⟨_, rfl, b, _, rfl, .inr sb, rfl, flat_txts as, inV (.str "loop") (as.map V.str), rfl, ?_⟩
      rw [in_txts]
      cases e : decide (("loop" : Str) ∈ as) with
      | false =>
        rw [e, Bool.false_and] at q0
        exact iteF q0
      | true =>
        rw [e, Bool.true_and] at q0
        refine iteT ⟨_, rfl, b, _, rfl, .inr sb, rfl, flat_txts as, ?_⟩
        show Q (.bl (!inV (.str "within") (as.map V.str))) H
        rw [in_txts]
        exact q0
    have e2 : ¬ x = "leave" := fun q => z (decide_eq_true q)
    refine ⟨_, rfl, rfl, _, rfl, ?_⟩
    rw [eq_txt]
    refine ite2 (fun z => ?_) (fun z => ?_)
    · have e3 : x = "loop" := of_decide_eq_true z
      obtain ⟨ts, r, rfl⟩ := lp e3
      cases rs with
      | @cons y2 _ _ _ h2 _ =>
      refine ⟨_, rfl, a, _, 1, y2, rfl, rfl, h, at_of (j := 1) rfl rfl, y2, ts, rfl, h2, fun H' s' => ?_⟩
      have q := k H' s'
      unfold canT at q
      rw [if_neg e1, if_neg e2, if_pos e3] at q
      exact q
    · have e3 : ¬ x = "loop" := fun q => z (decide_eq_true q)
      unfold canT at q0
      rw [if_neg e1, if_neg e2, if_neg e3] at q0
      exact q0
end
end BK


set_option Elab.async false
set_option linter.all false
set_option maxRecDepth 100000
set_option maxHeartbeats 2000000
/-! enumerate(tuple). -/
namespace ET
open PySem PySem.Spec PyProof.Rows L2
theorem meets_enumT (l : Addr) (items : Array Value) :
    Meets (Builtin.«enumerate.__new__» ⟨[.type "enumerate", .ref l], []⟩) (fun _ R s => s.heap.IsTuple l items ∧
      R (.ok (.ret (.ref (s.heap.push { cls := .type "tuple_iterator", data := .fields #[.ref l, .int 0 0] }).objs.size)))
        { s with heap := (s.heap.push { cls := .type "tuple_iterator", data := .fields #[.ref l, .int 0 0] }).push { cls := .type "enumerate", data := .fields #[.none, .bool false, .ref s.heap.objs.size, rawInt 0, .none, .none] } }) :=
  .of_wp fun prog w A R s h => by
    obtain ⟨hp, g, d, tk, os⟩ := s; obtain ⟨h1, h⟩ := h
    have hsub := sub_enumerate
    have q1 : ∀ {A' : Around} {E : Value → Shared → Prop} {Q : Value → Shared → Prop}, Q (.ref hp.objs.size) ⟨hp.push { cls := .type "tuple_iterator", data := .fields #[.ref l, .int 0 0] }, g, d, tk, os⟩ → wpAny (model prog w) A' (pyIter (.ref l)) Q E ⟨hp, g, d, tk, os⟩ :=
      fun q => wpAny_pyIter_tuple h1 q
    wp_walk using q1
    refine wpAny_stack_any fun st => wpAny_pure ?_
    split
    · rename_i c _ _ _ _ _
      cases (c == Value.type "enumerate")
      · wp_walk using q1
        exact ⟨_, rfl, h⟩
      · wp_walk using q1
        exact ⟨_, rfl, h⟩
    · wp_walk using q1
      exact ⟨_, rfl, h⟩
section
variable {prog : Program} {w : World} {A : Around} {E : Value → Shared → Prop} {s : Shared}
theorem call_enumT {l : Addr} {items : Array Value} {Q : Value → Shared → Prop} (hL : s.heap.IsTuple l items)
    (h : ∀ h', IsEnum h' (s.heap.objs.size + 1) s.heap.objs.size 0 .none → h'.IsTupleIter s.heap.objs.size l 0 → h'.objs.size = s.heap.objs.size + 2 →
      (∀ b o, s.heap.get? b = some o → h'.get? b = some o) → Q (.ref (s.heap.objs.size + 1)) { s with heap := h' }) :
    wpAny (model prog w) A (call (.type "enumerate") [.ref l]) Q E s := by
  refine callType_new F.called_enumerate (by decide) (F.typeCall_enumerate_1 _) (F.newCall_enumerate_1 _) (fun obj => F.args_object_init_2 obj _) F.entry_enumerate_new
    (meets_enumT l items) ⟨hL, ?_⟩
  have hz : (s.heap.push { cls := .type "tuple_iterator", data := .fields #[.ref l, .int 0 0] }).objs.size = s.heap.objs.size + 1 := Heap.size_push ..
  show _ ∧ _
  rw [hz]
  have he : IsEnum ((s.heap.push { cls := .type "tuple_iterator", data := .fields #[.ref l, .int 0 0] }).push
      { cls := .type "enumerate", data := .fields #[.none, .bool false, .ref s.heap.objs.size, rawInt 0, .none, .none] }) (s.heap.objs.size + 1) s.heap.objs.size 0 .none := by
    have := Heap.get?_push_size (s.heap.push { cls := .type "tuple_iterator", data := .fields #[.ref l, .int 0 0] })
      (o := { cls := .type "enumerate", data := .fields #[.none, .bool false, .ref s.heap.objs.size, rawInt 0, .none, .none] }) rfl
    rw [hz] at this; exact this
  refine ⟨⟨_, he, rfl⟩, h _ he ⟨_, Heap.get?_push_of_some _ (Heap.get?_push_size _ rfl), rfl, rfl⟩ (by rw [Heap.size_push, hz]) fun b o x => Heap.get?_push_of_some _ (Heap.get?_push_of_some _ x)⟩
end
/-- the tuple at a, each item in a new pair -/
def IteT (K : PySem.W.Frag) (a : Addr) : It :=
  ⟨fun i H => ∃ (xs : List V) (x : V), SqT K H a xs ∧ xs[i]? = some x, fun i H v H' => ∃ T x, v = .ref T ∧ H T = none ∧ H' = upd H T (.tup [.int (i : Nat), x]) ∧ ∀ xs, SqT K H a xs → xs[i]? = some x, fun i H => ∃ xs : List V, SqT K H a xs ∧ xs.length ≤ i⟩
theorem turn_enumT {P : Program} {w : World} {K : PySem.W.Frag} {elts : List Expr} {kk : Nat} {tpos : Pos} (a e it : Addr) :
    Turn P w K (.Tuple elts kk tpos) (IteT K a) [e, it] e (fun i h => (∃ old, IsEnum h e it ((i : Nat) : Int) old) ∧ h.IsTupleIter it a i ∧ e ≠ it ∧ a ≠ it ∧ e ≠ a) where
  mem := by simp
  obj := fun i h st b hb => by
    obtain ⟨⟨old, he⟩, ⟨o, ho, hc, hd⟩, _⟩ := st
    have e' : b = e ∨ b = it := by simpa using hb
    rcases e' with z | z
    · rw [z]; exact ⟨_, he, fun v q => nomatch q⟩
    · rw [z]; exact ⟨o, ho, fun v q => by rw [hd] at q; cases q⟩
  keep := fun i h h' st k => let ⟨⟨old, he⟩, hi, hne⟩ := st; ⟨⟨old, k e (by simp) _ he⟩, hi.at fun o q => k it (by simp) o q, hne⟩
  item := by
    intro X hP hw hK hc i pins s σ H E I hf st hg
    subst hP hw hK
    obtain ⟨⟨old, he⟩, hit, hne, hai, hea⟩ := st
    obtain ⟨xs, x, hq, hx⟩ := hg
    obtain ⟨its, rv, p, hz⟩ := I.tuple hq
    obtain ⟨u, hu, ru⟩ := rv.get hx
    have hel : e < s.heap.objs.size := Heap.lt_size he
    have hil : it < s.heap.objs.size := by obtain ⟨_, q, _⟩ := hit; exact Heap.lt_size q
    have pt : s.heap.IsTuple a its.toArray := p
    have il : i < its.toArray.size := by
      have := (List.getElem?_eq_some_iff.mp hu).1
      simpa using this
    refine wpAny_pyNext_enum_itemD (Draws.tuple (I.ok.hd hc |> fun h => (show X.A.in1.handled = none by simpa using h)) it a hai its.toArray) he ⟨hit, pt⟩ il hne (by simp; exact ⟨hne, hea⟩) fun y h' tk hy ho hst' hT hsz hk => ?_
    have ey : y = u := Option.some.inj (hy.symm.trans (by simpa using hu))
    subst ey
    refine ⟨_, rfl, wpAny_letOwnedTupleGo_enum (s := { s with heap := h', toks := tk + 1 }) ho fun h'' he' sb => ?_⟩
    have hT2 : h''.get? s.heap.objs.size = some { cls := .type "tuple", data := .seq #[.int i tk, y] } := (sb.2 _ (Nat.ne_of_gt hel)).trans hT
    have new : ObjOk X.prog X.w (upd H s.heap.objs.size (.tup [.int (i : Nat), x])) h'' s.heap.objs.size (.tup [.int (i : Nat), x]) :=
      ⟨by show 2 ≤ sizeLine; decide, [.int i tk, y], .cons ⟨_, rfl⟩ (.cons ru .nil), ⟨_, hT2, rfl, _, rfl⟩⟩
    have I1 : Inv X pins σ (upd H s.heap.objs.size (.tup [.int (i : Nat), x])) { s with heap := h'', toks := tk + 1 } :=
      I.turnedNew (ch := [e, it]) (fun b ob hb q => (sb.2 b (fun z => hb (by simp [z]))).trans (hk b ob (fun z => hb (by simp [z])) (fun z => hb (by simp [z])) q)) hf (Nat.le_refl _) new
    refine ⟨.ref s.heap.objs.size, _, I1, rfl, ⟨_, x, rfl, I.hok.fresh (Nat.le_refl _), rfl, fun ys hy => by rw [I.tuple_inj hy hq]; exact hx⟩, ⟨⟨y, ?_⟩, hst'.1.at fun o q => (sb.2 it (Ne.symm hne)).trans q, hne, hai, hea⟩, fun b hb => ?_⟩
    · have e1 : ((i + 1 : Nat) : Int) = (i : Int) + 1 := by omega
      rw [e1]; exact he'
    · have hb' : b < s.heap.objs.size := by
        have e' : b = e ∨ b = it := by simpa using hb
        rcases e' with z | z
        · rw [z]; exact hel
        · rw [z]; exact hil
      rw [upd_ne (Nat.ne_of_lt hb')]
      exact (hf b hb).1
  done := by
    intro X hP hw hK hc i pins s σ H E I hf st hg
    subst hP hw hK
    obtain ⟨⟨old, he⟩, hit, hne, hai, hea⟩ := st
    obtain ⟨xs, hq, hx⟩ := hg
    obtain ⟨its, rv, p, hz⟩ := I.tuple hq
    obtain ⟨f0, f1, f2, f3, f4, f5⟩ := hf it (by simp)
    have hl := rv.length
    have pt : s.heap.IsTuple a its.toArray := p
    have hT : s.TypeIs (.ref e) "enumerate" := ⟨_, he, rfl⟩
    unfold pyNext
    refine wpAny_bind (wpAny_attempt (wpAny_callSpecial?_slot (name := Str.ofString "__next__") hT F.slot_enumerate_next
      (wpAny_call_entry F.slot_enumerate_next hT F.entry_enumerate_next ?_ (F.args_enumerate_next_1 _))))
    show wpAny _ _ (field (.ref e) 2 >>= _) _ _ _
    refine wpAny_bind (wpAny_field he rfl (x := .ref it) rfl ?_)
    refine wpAny_bind (RZ.nextOf_tuple_end (show X.A.in1.handled = none by simpa using I.ok.hd hc) hit pt (by simp; omega) fun h' x he' hx' => ?_)
    obtain ⟨o, ho, hc⟩ := hx'
    refine wpAny_bind (wpAny_isInstance (T := "StopIteration") (b := true) ⟨o, ho, hc⟩ isSubtype_stop ?_)
    exact wpAny_pure ⟨rfl, I.turned (t' := s.toks) (fun b o hb q => he' b o hb q) f0 f1 f3 f4 f5⟩
  self := fun A i s Q E st h => let ⟨⟨_, he⟩, _⟩ := st; wpAny_pyIter_enum he h
def iEnumT (K : PySem.W.Frag) (ta : TA) : TI := fun σ H R => ta σ H fun vs H1 => ∃ a xs, vs = [.ref a] ∧ SqT K H1 a xs ∧ R (IteT K a) H1
theorem pi_enumT {X : Cx} {e : Expr} {ta : TA} {p pos tpos : Pos} {elts : List Expr} {kk : Nat} (hg : Gl X "enumerate") (hm : X.mg "enumerate" = none) (ha : PA X [e] ta) (hs : starEach [e] X.env = [(false, eval e X.env)] := by rfl) :
    PI X (.Tuple elts kk tpos) (.Call (.Name "enumerate" p) [e] [] pos) (iEnumT X.K ta) := by
  refine ⟨fun pins s σ H R I h => ?_⟩
  refine Call_ (ld_blt I hg hm boot_enumerate (PyProof.Rows.callWith_type1 (thn (ha.run pos pins s σ H _ I h) fun us s1 ⟨vs, H1, I1, r1, q1⟩ => ?_) hs rfl))
  obtain ⟨a, xs, ex, hq, q⟩ := q1
  subst ex
  cases r1 with
  | cons r rr =>
    cases rr
    cases r
    obtain ⟨its, rv, p', hz⟩ := I1.tuple hq
    have pt : s1.heap.IsTuple a its.toArray := p'
    obtain ⟨oa, ga, _⟩ := id pt
    have la : a < s1.heap.objs.size := Heap.lt_size ga
    refine call_enumT pt fun h' he hit hsz hk => wpAny_pyIter_enum he ?_
    have I2 : Inv X pins σ H1 { s1 with heap := h' } := I1.kept (t' := s1.toks) hk
    refine ⟨s1.heap.objs.size + 1, [s1.heap.objs.size + 1, s1.heap.objs.size], _, _, H1, rfl, I2, turn_enumT a (s1.heap.objs.size + 1) s1.heap.objs.size, ⟨⟨.none, he⟩, hit, Nat.succ_ne_self _, Nat.ne_of_lt la, Nat.ne_of_gt (Nat.lt_succ_of_lt la)⟩, fun b hb => ?_, q⟩
    have e' : b = s1.heap.objs.size + 1 ∨ b = s1.heap.objs.size := by simpa using hb
    have hle : s1.heap.objs.size ≤ b := by
      rcases e' with z | z
      · rw [z]; exact Nat.le_add_right _ _
      · rw [z]; exact Nat.le_refl _
    exact I1.fpOk hle (I1.hok.fresh hle)
theorem walk_enumT {K : PySem.W.Frag} {a : Addr} {xs : List V} : Walk (IteT K a) xs.length (fun H => SqT K H a xs) (YPair (fun i => some (.int (i : Nat))) (fun i => xs[i]?)) := by
  refine ⟨fun i _ hi q => ⟨xs, xs[i], q, by simp [hi]⟩, fun _ q => ⟨xs, q, Nat.le_refl _⟩, fun i H v H' _ q y => ?_⟩
  obtain ⟨T, x, h1, h2, h3, h4⟩ := y
  exact ⟨T, .int (i : Nat), x, h1, h2, h3, rfl, h4 xs q⟩
end ET


set_option Elab.async false
set_option maxRecDepth 100000
set_option maxHeartbeats 1000000
/-! Check: what it keeps; knows. -/
namespace BK
open PySem PySem.Spec PyProof.Rows L2 RZ ET
abbrev Km := List (Str × Str)
def kk (m : Km) : List (Key × V) := m.map fun e => (.inr e.1, .str e.2)
def kget (m : Km) (s : Str) : Option Str := (m.find? fun e => decide (e.1 = s)).map (·.2)
def slotK (k : Str) : Bool := decide (k = "context") || decide (k = "token")
def varK (k : Str) : Bool := decide (k = "variable") || decide (k = "source")
/-- the parts of a statement by the kinds so far: the slots' kinds, the variables -/
def knowsT (vars : List Str) : List (Tr × Str) → Km → Bool × Km
  | [], m => (true, m)
  | (.str s, k) :: r, m => if slotK k = true then (match kget m s with
      | none => knowsT vars r (m ++ [(s, k)])
      | some k' => if k' = k then knowsT vars r m else (false, m))
    else if varK k = true then (if s ∈ vars then knowsT vars r m else (false, m)) else knowsT vars r m
  | (_, _) :: r, m => knowsT vars r m
theorem kk_len (m : Km) : (kk m).length = m.length := by unfold kk; rw [List.length_map]
theorem inrE (a b : Str) : ((Sum.inr a : Key) = Sum.inr b) = (a = b) := propext ⟨fun h => Sum.inr.inj h, fun h => congrArg _ h⟩
theorem valV_kk (k : Str) : ∀ m : Km, valV (kk m) (.inr k) = (kget m k).map V.str
  | [] => rfl
  | e :: r => by
    have ih := valV_kk k r
    unfold valV kk kget at ih ⊢
    rw [List.map_cons, List.find?_cons, List.find?_cons]
    by_cases h : e.1 = k
    · simp [h]
    · simp only [inrE, decide_eq_false h]
      exact ih
theorem putK_kk {m : Km} {s k : Str} (h : kget m s = none) : putK (kk m) (.inr s) (.str k) = kk (m ++ [(s, k)]) := by
  unfold putK
  have z : ((kk m).any fun e => decide (e.1 = (.inr s : Key))) = false := by
    unfold kk
    rw [List.any_map, List.any_eq_false]
    intro e he
    simp only [Function.comp, inrE, decide_eq_true_eq]
    intro q
    unfold kget at h
    have : m.find? (fun e => decide (e.1 = s)) = none := by
      cases e : m.find? (fun e => decide (e.1 = s)) with
      | none => rfl
      | some x => rw [e] at h; cases h
    rw [List.find?_eq_none] at this
    exact this e he (decide_eq_true q)
  rw [z, if_neg Bool.false_ne_true]
  unfold kk
  rw [List.map_append]
  rfl
theorem knows_len {vars : List Str} : ∀ (l : List (Tr × Str)) (m : Km), (knowsT vars l m).2.length ≤ m.length + l.length
  | [], m => by simp [knowsT]
  | (.str s, k) :: r, m => by
    unfold knowsT
    have h1 := knows_len (vars := vars) r m
    have h2 := knows_len (vars := vars) r (m ++ [(s, k)])
    rw [List.length_append] at h2
    simp only [List.length_cons, List.length_nil] at h2 ⊢
    split
    · split
      · omega
      · split
        · omega
        · simp only; omega
    · split
      · split
        · omega
        · simp only; omega
      · omega
  | (.non, _) :: r, m => by have h1 := knows_len (vars := vars) r m; unfold knowsT; simp only [List.length_cons]; omega
  | (.bl _, _) :: r, m => by have h1 := knows_len (vars := vars) r m; unfold knowsT; simp only [List.length_cons]; omega
  | (.int _, _) :: r, m => by have h1 := knows_len (vars := vars) r m; unfold knowsT; simp only [List.length_cons]; omega
  | (.lst, _) :: r, m => by have h1 := knows_len (vars := vars) r m; unfold knowsT; simp only [List.length_cons]; omega
  | (.dct, _) :: r, m => by have h1 := knows_len (vars := vars) r m; unfold knowsT; simp only [List.length_cons]; omega
  | (.tup _, _) :: r, m => by have h1 := knows_len (vars := vars) r m; unfold knowsT; simp only [List.length_cons]; omega
/-- where a check keeps its things -/
structure CA where
  p : Addr
  v : Addr
  d : Addr
def cfs (a : CA) (met : Nat) : List (Str × V) := [("variables", .ref a.v), ("kinds", .ref a.d), ("met", .int (met : Nat))]
structure CkAt (K : PySem.W.Frag) (C : Addr) (H : Hp) (a : CA) (vars : List Str) (m : Km) (met : Nat) : Prop where
  ob : ∃ dx, H a.p = some (.ins C dx (cfs a met))
  dc : H a.d = some (.dK (kk m))
  vs : SqT K H a.v (vars.map V.str)
/-- all stays but the check and its dict of kinds -/
def ButC (a : CA) (H H' : Hp) : Prop := ∀ b o, H b = some o → b ≠ a.p → b ≠ a.d → H' b = some o
theorem ButC.refl (a : CA) (H : Hp) : ButC a H H := fun _ _ e _ _ => e
theorem ButC.trans {a : CA} {H H1 H2 : Hp} (x : ButC a H H1) (y : ButC a H1 H2) : ButC a H H2 := fun c o e h1 h2 => y c o (x c o e h1 h2) h1 h2
theorem ButC.of {a : CA} {H H' : Hp} (e : Same H H') : ButC a H H' := fun c o h _ _ => e c o h
section
variable {K : PySem.W.Frag} {C : Addr} {H H' : Hp} {a : CA} {vars : List Str} {m m' : Km} {met met' : Nat}
theorem CkAt.same (c : CkAt K C H a vars m met) (e : Same H H') : CkAt K C H' a vars m met := by
  obtain ⟨⟨dx, ob⟩, dc, vs⟩ := c
  exact ⟨⟨dx, e _ _ ob⟩, e _ _ dc, sqt_same e vs⟩
/-- a tuple stays -/
theorem ButC.tup (b : ButC a H H') (c : CkAt K C H a vars m met) {t : Addr} {xs : List V} (h : SqT K H t xs) : SqT K H' t xs := by
  obtain ⟨⟨dx, ob⟩, dc, _⟩ := c
  rcases h with (h | ⟨o, h⟩) | h
  · exact .inl (.inl (b _ _ h (ne_of h ob (by intro z; cases z)) (ne_of h dc (by intro z; cases z))))
  · exact .inl (.inr ⟨o, b _ _ h (ne_of h ob (by intro z; cases z)) (ne_of h dc (by intro z; cases z))⟩)
  · exact .inr h
theorem ButC.lst (b : ButC a H H') (c : CkAt K C H a vars m met) {t : Addr} {xs : List V} (h : SqL K H t xs) : SqL K H' t xs := by
  obtain ⟨⟨dx, ob⟩, dc, _⟩ := c
  rcases h with (h | ⟨o, h⟩) | h
  · exact .inl (.inl (b _ _ h (ne_of h ob (by intro z; cases z)) (ne_of h dc (by intro z; cases z))))
  · exact .inl (.inr ⟨o, b _ _ h (ne_of h ob (by intro z; cases z)) (ne_of h dc (by intro z; cases z))⟩)
  · exact .inr h
mutual
theorem TrAt.but (b : ButC a H H') (c : CkAt K C H a vars m met) (c' : CkAt K C H' a vars m' met') : ∀ {v : V} {t : Tr}, TrAt K H v t → TrAt K H' v t
  | _, _, .non => .non
  | _, _, .bl b => .bl b
  | _, _, .int i => .int i
  | _, _, .str s h => .str s h
  | _, _, .lst h => .lst (b.lst c h)
  | _, _, .dct (a := x) (kvs := kvs) h => by
    by_cases z : x = a.d
    · rw [z]
      exact .dct c'.dc
    · obtain ⟨⟨dx, ob⟩, dc, _⟩ := c
      exact .dct (b _ _ h (ne_of h ob (by intro z; cases z)) z)
  | _, _, .tup h k => .tup (b.tup c h) (TrAll.but b c c' k)
theorem TrAll.but (b : ButC a H H') (c : CkAt K C H a vars m met) (c' : CkAt K C H' a vars m' met') : ∀ {vs : List V} {ts : List Tr}, TrAll K H vs ts → TrAll K H' vs ts
  | _, _, .nil => .nil
  | _, _, .cons h k => .cons (h.but b c c') (k.but b c c')
end
theorem CkAt.ne (c : CkAt K C H a vars m met) : a.p ≠ a.d := by
  obtain ⟨⟨dx, ob⟩, dc, _⟩ := c
  exact ne_of ob dc (by intro z; cases z)
end
structure TxK (K : PySem.W.Frag) (mg : Str → Option Value) (C : Addr) : Prop where
  cl : Cls K C
  nV : NoAttr K C "variables"
  nK : NoAttr K C "kinds"
  nM : NoAttr K C "met"
  mgC : mg "Check" = some (.ref C)
theorem cfs_v (a : CA) (n : Nat) : (cfs a n).lookup ("variables" : Str) = some (.ref a.v) := by rfl
theorem cfs_k (a : CA) (n : Nat) : (cfs a n).lookup ("kinds" : Str) = some (.ref a.d) := by rfl
theorem cfs_m (a : CA) (n : Nat) : (cfs a n).lookup ("met" : Str) = some (.int (n : Nat)) := by rfl
theorem put_met (a : CA) (n : Nat) : putF "met" (.int ((n : Int) + 1)) (cfs a n) = cfs a (n + 1) := by rfl
theorem cfs_no (a : CA) (n : Nat) {m : Str} (h1 : ¬ m = "variables") (h2 : ¬ m = "kinds") (h3 : ¬ m = "met") : (cfs a n).lookup m = none := by
  have e1 : (m == ("variables" : Str)) = false := beq_eq_false_iff_ne.mpr h1
  have e2 : (m == ("kinds" : Str)) = false := beq_eq_false_iff_ne.mpr h2
  have e3 : (m == ("met" : Str)) = false := beq_eq_false_iff_ne.mpr h3
  unfold cfs
  simp only [List.lookup, e1, e2, e3]
end BK


set_option Elab.async false
set_option maxRecDepth 100000
set_option maxHeartbeats 1000000
/-! knows. -/
namespace BK
open PySem PySem.Spec PyProof.Rows L2 RZ ET
abbrev cCheck : Stmt := top 32
abbrev sCInit : Stmt := inClass cCheck 0
abbrev sFault : Stmt := inClass cCheck 1
abbrev sTakes : Stmt := inClass cCheck 2
abbrev sKnows : Stmt := inClass cCheck 3
def spKnows (K : PySem.W.Frag) (C : Addr) : Sp := fun vs H Q _ => ∃ a v vars m met x rest ks, vs = [.ref a.p, v] ∧ CkAt K C H a vars m met ∧ m.length ≤ 900 ∧ TrAt K H v (.tup (.str x :: rest)) ∧ kindsOf x = some ks ∧ fitsT rest ks = true ∧
  ∀ H', CkAt K C H' a vars (knowsT vars (rest.zip ks) m).2 met → ButC a H H' → Q (.bl (knowsT vars (rest.zip ks) m).1) H'
theorem scKnows : FnScope ["self", "statement", "part", "kind", "is_variable"] ["self", "statement"] (defScope sKnows) := ⟨rfl, rfl, rfl, by decide +kernel, rfl, by decide +kernel, by decide +kernel⟩
theorem inV_two (a b z : Str) : inV (.str z) [.str a, .str b] = (decide (z = a) || decide (z = b)) := by
  have := in_txts z [a, b]
  rw [show [V.str a, V.str b] = [a, b].map V.str from rfl, this]
  simp
/-- a part of a slot's kind is a name -/
theorem slot_name {t : Tr} {k : Str} (h : partT t k = true) (s : slotK k = true) : ∃ z, t = .str z := by
  unfold slotK at s
  have e : nameT t = true := by
    rcases Bool.or_eq_true_iff.mp s with s | s
    · have e := of_decide_eq_true s
      subst e
      exact h
    · have e := of_decide_eq_true s
      subst e
      exact h
  cases t with
  | str z => exact ⟨z, rfl⟩
  | non => cases e
  | bl b => cases e
  | int i => cases e
  | lst => cases e
  | dct => cases e
  | tup ts => cases e
theorem slot_not_var {k : Str} (s : slotK k = true) : varK k = false := by
  unfold slotK at s
  rcases Bool.or_eq_true_iff.mp s with s | s
  · have e := of_decide_eq_true s
    subst e
    decide
  · have e := of_decide_eq_true s
    subst e
    decide
theorem knows_other {vars : List Str} {t : Tr} {k : Str} {r : List (Tr × Str)} {m : Km} (h : slotK k = false) (h2 : varK k = false ∨ isStr t = false) : knowsT vars ((t, k) :: r) m = knowsT vars r m := by
  cases t with
  | str s =>
    rcases h2 with h2 | h2
    · show (if slotK k = true then _ else (if varK k = true then _ else knowsT vars r m)) = knowsT vars r m
      rw [h, h2, if_neg Bool.false_ne_true, if_neg Bool.false_ne_true]
    · cases h2
  | _ => rfl
section
variable {P : Program} {w : World} {K : PySem.W.Frag} {mg : Str → Option Value} {base : Heap}
theorem ok_knows {C f fQ : Addr} {fd fdQ : FuncData} (F : Fun K "knows" "Check.knows" sKnows f fd) (T : Forms mg) (U : Kinds K mg) (X : TxK K mg C)
    (GQ : FnOk P w K mg base CX0 1 fQ fdQ ["statement"] (spParts K)) (bQ : Binds K fdQ ["statement"] []) (gQ : mg "parts_of" = some (.ref fQ)) (kQ : PySem.W.keepIn K (.ref fQ) = true) : FnOk P w K mg base CX0 2 f fd ["self", "statement"] (spKnows K C) := by
  refine F.ok scKnows (fun vs H Q E h => ?_) (fun cdv A outer s H vs Q E hr h => ?_)
  · obtain ⟨a, v, vars, m, met, x, rest, ks, rfl, _⟩ := h
    rfl
  · obtain ⟨a, v, vars, m, met, x, rest, ks, rfl, cA, ml, ht, ek, ef, k⟩ := h
    obtain ⟨aK, gK, sK⟩ := U.kd
    have hu := hu_of hr
    refine ⟨_, pss_cons (ps_for PassesOwn.never rfl (pi_list (pe_call GQ hr rfl gQ kQ bQ .nil pass0 (pa_cons (pv 1) pa_nil)))
        (pg_tup rfl (pgs_cons (pg_name (i := 2) scKnows.nd rfl (Or.inl rfl)) (pgs_cons (pg_name (i := 3) scKnows.nd rfl (Or.inl rfl)) pgs_nil)))
        (C8.pss_cut (ps_if (PW.pt (pw_and (pt_cmpR op_in_seq (pv 3) (pe_glob (v := .ref aK) rfl gK rfl) rfl)
            (pw_and1 (pt_cmpR op_ne (pe_dsetd (pe_fld (pv 0) rfl) (pv 2) (pv 3) ⟨rfl, rfl, rfl, rfl⟩) (pv 3) (nomark _))))) (pss_one (ps_ret pe_bl)) pss_nil)
        (pss_cons (ps_set (i := 4) scKnows.nd rfl (Or.inl rfl) (pe_and (pe_cmpR op_in_seq (pv 3) (pe_tup (pa_cons pe_str (pa_cons pe_str pa_nil))) rfl)
            (pe_one (pe_callB call_isi (by rfl) T.isi boot_isinstance (pa_cons (pv 2) (pa_cons (pe_bltn (v := .ty "str") (u := .type "str") (by rfl) T.str (by decide +kernel) rfl) pa_nil))))))
        (pss_one (ps_if (PW.pt (pw_and (pt_val (pv 4)) (pw_and1 (pt_cmpR op_notIn_seq (pv 2) (pe_fld (pv 0) rfl) rfl)))) (pss_one (ps_ret pe_bl)) pss_nil)))))
      (pss_one (ps_ret pe_bl)), ?_⟩
    have el : rest.length = ks.length := by
      unfold fitsT at ef
      exact of_decide_eq_true (Bool.and_eq_true_iff.mp ef).1
    have ep : ∀ p ∈ rest.zip ks, partT p.1 p.2 = true := by
      unfold fitsT at ef
      exact List.all_eq_true.mp (Bool.and_eq_true_iff.mp ef).2
    have kl := kinds_few ek
    refine ⟨_, rfl, v, x, rest, ks, rfl, ht, ek, el, fun L ts H1 s1 eL lt at1 => ?_⟩
    have c1 := cA.same s1
    have zl : (rest.zip ks).length = ts.length := by rw [List.length_zip]; omega
    refine ⟨L, rfl, ⟨_, SqL.of eL⟩, for_list (K := K) (a := L) (xs := ts.map V.ref) (fun i σ H2 => ∃ (v2 v3 v4 : Option V) (mi : Km), σ = [some (.ref a.p), some v, v2, v3, v4] ∧ CkAt K C H2 a vars mi met ∧ ButC a H1 H2 ∧ knowsT vars (rest.zip ks) m = knowsT vars ((rest.zip ks).drop i) mi ∧ mi.length ≤ m.length + i)
      ⟨none, none, none, m, rfl, c1, ButC.refl _ _, rfl, Nat.le_refl _⟩ (fun i σ H2 _ ⟨_, _, _, mi, _, c2, b2, _⟩ => b2.lst c1 (SqL.of eL)) ?_ ?_⟩
    · rintro i y σ H2 hi ⟨v2, v3, v4, mi, rfl, c2, b2, e2, l2⟩
      rw [List.getElem?_map] at hi
      cases eT : ts[i]? with
      | none => rw [eT] at hi; cases hi
      | some U =>
      rw [eT] at hi
      obtain rfl : V.ref U = y := Option.some.inj hi
      obtain ⟨y', t', k', q1, q2, q3, q4⟩ := at1 i U eT
      have ez : (rest.zip ks)[i]? = some (t', k') := List.getElem?_zip_eq_some.mpr ⟨q1, q2⟩
      have il : i < (rest.zip ks).length := (List.getElem?_eq_some_iff.mp ez).1
      have ed : (rest.zip ks).drop i = (t', k') :: (rest.zip ks).drop (i + 1) := by
        rw [List.drop_eq_getElem_cons il]
        congr 1
        exact Option.some.inj ((List.getElem?_eq_getElem il).symm.trans ez)
      rw [ed] at e2
      have pt := ep _ (List.mem_of_getElem? ez)
      have ty : TrAt K H2 y' t' := q3.but b2 c1 c2
      refine ⟨U, _, rfl, b2.tup c1 (SqT.of q4), rfl, _, _, rfl, _, _, rfl, rfl, ?_⟩
      obtain ⟨⟨dx, ob⟩, dc, vs⟩ := id c2
      -- the slots' kinds
      refine ⟨fun σ H3 => ∃ mj : Km, σ = [some (.ref a.p), some v, some y', some (.str k'), v4] ∧ CkAt K C H3 a vars mj met ∧ ButC a H1 H3 ∧ mj.length ≤ m.length + (i + 1) ∧ (slotK k' = true → knowsT vars (rest.zip ks) m = knowsT vars ((rest.zip ks).drop (i + 1)) mj) ∧ (slotK k' = false → mj = mi), ?_, ?_⟩
      · refine ⟨_, rfl, aK, _, rfl, .inr (sK _), rfl, rfl, _, rfl, ?_⟩
        rw [show inV (.str k') [.str "context", .str "token"] = slotK k' from inV_two _ _ _]
        refine ite2 (fun hs => ?_) (fun hs => ?_)
        · have hs : slotK k' = true := hs
          obtain ⟨z, rfl⟩ := slot_name pt hs
          cases ty with
          | str _ hz =>
          have eq : knowsT vars (rest.zip ks) m = (match kget mi z with
              | none => knowsT vars ((rest.zip ks).drop (i + 1)) (mi ++ [(z, k')])
              | some k2 => if k2 = k' then knowsT vars ((rest.zip ks).drop (i + 1)) mi else (false, mi)) := by
            rw [e2]
            show (if slotK k' = true then _ else _) = _
            rw [if_pos hs]
            all_goals (cases kget mi z <;> rfl)
          refine ⟨_, rfl, a.p, C, dx, _, _, rfl, ob, X.cl, X.nK, cfs_k a met, a.d, rfl, .inl ⟨_, .inl dc⟩, _, rfl, _, rfl, kk mi, .inr z, dc, rfl, small1000 (by rw [kk_len]; rw [zl, lt] at il; omega), fun w hw => ?_, fun hno => ?_⟩
          · rw [valV_kk] at hw
            cases eg : kget mi z with
            | none => rw [eg] at hw; cases hw
            | some k2 =>
              rw [eg] at hw eq
              obtain rfl : V.str k2 = w := Option.some.inj hw
              refine ⟨_, rfl, rfl, _, rfl, ?_⟩
              rw [show decide (V.str k2 = V.str k') = decide (k2 = k') from eq_txt _ _]
              by_cases h2 : k2 = k'
              · rw [decide_eq_true h2]
                have e4 : knowsT vars (rest.zip ks) m = knowsT vars ((rest.zip ks).drop (i + 1)) mi := by
                  rw [eq]
                  exact if_pos h2
                exact iteF ⟨mi, rfl, c2, b2, by omega, fun _ => e4, fun hn => Bool.noConfusion (hs.symm.trans hn)⟩
              · rw [decide_eq_false h2]
                refine iteT ?_
                have e4 : knowsT vars (rest.zip ks) m = (false, mi) := by
                  rw [eq]
                  exact if_neg h2
                have q := k H2 (by rw [e4]; exact c2) ((ButC.of s1).trans b2)
                rw [e4] at q
                exact q
          · rw [valV_kk] at hno
            cases eg : kget mi z with
            | some k2 => rw [eg] at hno; cases hno
            | none =>
              rw [eg] at eq
              rw [putK_kk eg]
              refine ⟨_, rfl, rfl, _, rfl, ?_⟩
              rw [show decide (V.str k' = V.str k') = true from decide_eq_true rfl]
              have ne := c2.ne
              refine iteF ⟨mi ++ [(z, k')], rfl, ⟨⟨dx, by rw [upd_ne ne]; exact ob⟩, upd_same, ?_⟩, fun b o e h1 h2 => ?_, by rw [List.length_append]; simp; omega, fun _ => eq, fun hn => ?_⟩
              · rcases vs with (h | ⟨o, h⟩) | h
                · exact .inl (.inl (by rw [upd_ne (ne_of h dc (by intro z; cases z))]; exact h))
                · exact .inl (.inr ⟨o, by rw [upd_ne (ne_of h dc (by intro z; cases z))]; exact h⟩)
                · exact .inr h
              · rw [upd_ne h2]
                exact b2 b o e h1 h2
              · rw [hs] at hn; cases hn
        · have hs' : slotK k' = false := by
            have : ¬ (slotK k' = true) := hs
            simpa using this
          exact ⟨mi, rfl, c2, b2, by omega, fun z => Bool.noConfusion (hs'.symm.trans z), fun _ => rfl⟩
      rintro σ H3 ⟨mj, rfl, c3, b3, l3, yes, no⟩
      have ty3 : TrAt K H3 y' t' := q3.but b3 c1 c3
      obtain ⟨⟨dx3, ob3⟩, dc3, vs3⟩ := id c3
      refine ⟨_, rfl, (by show 2 ≤ sizeLine; decide), fun tp ntp => ?_⟩
      have s4 := same_new (o := .tup [.str "variable", .str "source"]) ntp
      refine ⟨tp, _, rfl, .inr (SqT.of upd_same), rfl, rfl, _, rfl, ?_⟩
      rw [show inV (.str k') [.str "variable", .str "source"] = varK k' from inV_two _ _ _]
      have fin : ∀ (v4 : Option V), knowsT vars (rest.zip ks) m = knowsT vars ((rest.zip ks).drop (i + 1)) mj → ∃ (v2 v3 v4' : Option V) (mi : Km), [some (V.ref a.p), some v, some y', some (V.str k'), v4] = [some (.ref a.p), some v, v2, v3, v4'] ∧ CkAt K C (upd H3 tp (.tup [.str "variable", .str "source"])) a vars mi met ∧
          ButC a H1 (upd H3 tp (.tup [.str "variable", .str "source"])) ∧ knowsT vars (rest.zip ks) m = knowsT vars ((rest.zip ks).drop (i + 1)) mi ∧ mi.length ≤ m.length + (i + 1) := fun v4 e => ⟨_, _, _, mj, rfl, c3.same s4, b3.trans (ButC.of s4), e, l3⟩
      cases hs : slotK k' with
      | true =>
        rw [slot_not_var hs]
        exact iteF ⟨_, rfl, _, rfl, iteF (fin _ (yes hs))⟩
      | false =>
        have em := no hs
        subst em
        cases hv : varK k' with
        | false =>
          refine iteF ⟨_, rfl, _, rfl, iteF (fin _ ?_)⟩
          rw [e2]
          exact knows_other hs (.inl hv)
        | true =>
          refine iteT ⟨_, rfl, y', .ty "str", .type (tyT t'), .type "str", isStr t', rfl, .ty "str", (ty3.same s4).ty, k_str K t', ?_⟩
          refine ⟨_, rfl, _, rfl, ?_⟩
          cases ei : isStr t' with
          | false =>
            refine iteF (fin _ ?_)
            rw [e2]
            exact knows_other hs (.inr ei)
          | true =>
            obtain ⟨z, rfl⟩ : ∃ z, t' = .str z := by
              cases t' with
              | str z => exact ⟨z, rfl⟩
              | _ => cases ei
            cases ty3 with
            | str _ hz =>
            have e5 : knowsT vars (rest.zip ks) m = if z ∈ vars then knowsT vars ((rest.zip ks).drop (i + 1)) mj else (false, mj) := by
              rw [e2]
              show (if slotK k' = true then _ else (if varK k' = true then _ else _)) = _
              rw [hs, hv, if_neg Bool.false_ne_true, if_pos rfl]
            refine iteT ⟨_, rfl, _, rfl, a.p, C, dx3, _, _, rfl, s4 _ _ ob3, X.cl, X.nV, cfs_v a met, a.v, _, rfl, .inr (sqt_same s4 vs3), rfl, flat_txts vars, _, rfl, ?_⟩
            rw [in_txts]
            by_cases hm : z ∈ vars
            · rw [decide_eq_true hm]
              refine iteF (fin _ ?_)
              rw [e5, if_pos hm]
            · rw [decide_eq_false hm]
              refine iteT ?_
              rw [if_neg hm] at e5
              have q := k (upd H3 tp (.tup [.str "variable", .str "source"])) (by rw [e5]; exact c3.same s4) (((ButC.of s1).trans b3).trans (ButC.of s4))
              rw [e5] at q
              exact q
    · rintro σ H2 ⟨v2, v3, v4, mi, rfl, c2, b2, e2, _⟩
      have e3 : (rest.zip ks).drop (ts.map V.ref).length = [] := by
        rw [List.length_map, ← zl, List.drop_length]
      rw [e3] at e2
      have e4 : knowsT vars (rest.zip ks) m = (true, mi) := e2
      have q := k H2 (by rw [e4]; exact c2) ((ButC.of s1).trans b2)
      rw [e4] at q
      exact q
end
end BK


set_option Elab.async false
set_option maxRecDepth 100000
set_option maxHeartbeats 1000000
/-! takes; __init__. -/
namespace BK
open PySem PySem.Spec PyProof.Rows L2 RZ ET
def takesT (vars : List Str) (t : Tr) (as : List Str) (m : Km) (n : Nat) : Bool × Km :=
  if 16 < n ∨ 4 < as.length then (false, m) else match t with
    | .tup (.str x :: rest) => match kindsOf x with
      | some ks => if fitsT rest ks = true then ((knowsT vars (rest.zip ks) m).1 && canT x rest as, (knowsT vars (rest.zip ks) m).2) else (false, m)
      | none => (false, m)
    | _ => (false, m)
def spTakes (K : PySem.W.Frag) (C : Addr) : Sp := fun vs H Q _ => ∃ a v ar vars m met t as, vs = [.ref a.p, v, .ref ar] ∧ CkAt K C H a vars m met ∧ m.length ≤ 900 ∧ TrAt K H v t ∧ SqT K H ar (as.map V.str) ∧
  ∀ H', CkAt K C H' a vars (takesT vars t as m (met + 1)).2 (met + 1) → ButC a H H' → Q (.bl (takesT vars t as m (met + 1)).1) H'
theorem scTakes : FnScope ["self", "statement", "around"] ["self", "statement", "around"] (defScope sTakes) := ⟨rfl, rfl, rfl, by decide +kernel, rfl, by decide +kernel, by decide +kernel⟩
theorem loop_kinds : kindsOf ("loop" : Str) = some [("block" : Str)] := by decide +kernel
theorem form_parts {x : Str} {rest : List Tr} (h : formT (.tup (.str x :: rest)) = true) : ∃ ks, kindsOf x = some ks ∧ fitsT rest ks = true := by
  have h : (match kindsOf x with
    | some ks => fitsT rest ks
    | none => false) = true := h
  cases e : kindsOf x with
  | none => rw [e] at h; cases h
  | some ks => rw [e] at h; exact ⟨ks, rfl, h⟩
theorem loop_block {rest : List Tr} {ks : List Str} (e : kindsOf ("loop" : Str) = some ks) (h : fitsT rest ks = true) : ∃ ts r, rest = .tup ts :: r := by
  rw [loop_kinds] at e
  obtain rfl := Option.some.inj e
  unfold fitsT at h
  obtain ⟨h1, h2⟩ := Bool.and_eq_true_iff.mp h
  have h1 := of_decide_eq_true h1
  match rest, h1 with
  | [t], _ =>
    have h2 : (partT t "block" && true) = true := h2
    rw [Bool.and_true] at h2
    have h3 : isTup t = true := h2
    cases t with
    | tup ts => exact ⟨ts, [], rfl⟩
    | _ => cases h3
theorem gt_cast (n : Nat) (k : Nat) : decide ((n : Int) > (k : Int)) = decide (k < n) := by
  by_cases h : k < n
  · rw [decide_eq_true h]
    exact decide_eq_true (by omega)
  · rw [decide_eq_false h]
    exact decide_eq_false (by omega)
structure Most (mg : Str → Option Value) : Prop where
  ms : ∃ t, mg "MOST_STATEMENTS" = some (.int 16 t)
  ma : ∃ t, mg "MOST_AROUND" = some (.int 4 t)
section
variable {P : Program} {w : World} {K : PySem.W.Frag} {mg : Str → Option Value} {base : Heap}
theorem ok_takes {C f fF fK fC : Addr} {fd fdF fdK fdC : FuncData} (F : Fun K "takes" "Check.takes" sTakes f fd) (T : Forms mg) (M : Most mg) (X : TxK K mg C)
    (GF : FnOk P w K mg base CX0 5 fF fdF ["thing"] (spOf formT K)) (bF : Binds K fdF ["thing"] []) (gF : mg "has_form" = some (.ref fF)) (kF : PySem.W.keepIn K (.ref fF) = true)
    (GK : FnOk P w K mg base CX0 2 fK fdK ["self", "statement"] (spKnows K C)) (bK : Binds K fdK ["self", "statement"] []) (mK : Meth K C "knows" fK)
    (GC : FnOk P w K mg base CX0 7 fC fdC ["statement", "around"] (spCan K)) (bC : Binds K fdC ["statement", "around"] []) (gC : mg "can_stand" = some (.ref fC)) (kC : PySem.W.keepIn K (.ref fC) = true) :
    FnOk P w K mg base CX0 8 f fd ["self", "statement", "around"] (spTakes K C) := by
  refine F.ok scTakes (fun vs H Q E h => ?_) (fun cdv A outer s H vs Q E hr h => ?_)
  · obtain ⟨a, v, ar, vars, m, met, t, as, rfl, _⟩ := h
    rfl
  · obtain ⟨a, v, ar, vars, m, met, t, as, rfl, cA, ml, ht, sa, k⟩ := h
    obtain ⟨t1, gS⟩ := M.ms
    obtain ⟨t2, gA⟩ := M.ma
    have hr5 : Room 5 _ := hr.mono (by decide)
    have hr2 : Room 2 _ := hr.mono (by decide)
    refine ⟨_, C8.pss_cut (ps_fldaug (pv 0) pe_int in_add)
      (pss_cons (ps_if (PW.pt (pw_or (pt_cmpR op_gt (pe_fld (pv 0) rfl) (pe_glob (v := .int 16) rfl gS ⟨_, rfl⟩) rfl)
          (pw_or1 (pt_cmpR op_gt (pe_callB call_len_seq (by rfl) T.len boot_len (pa_cons (pv 2) pa_nil)) (pe_glob (v := .int 4) rfl gA ⟨_, rfl⟩) rfl)))) (pss_one (ps_ret pe_bl)) pss_nil)
      (pss_one (ps_ret (pe_and (pe_call GF hr5 rfl gF kF bF .nil pass0 (pa_cons (pv 1) pa_nil)) (pe_and (pe_meth (pv 0) X.cl mK GK hr2 bK .nil pass0 (pa_cons (pv 1) pa_nil))
        (pe_one (pe_call GC hr rfl gC kC bC .nil pass0 (pa_cons (pv 1) (pa_cons (pv 2) pa_nil))))))))), ?_⟩
    obtain ⟨⟨dx, ob⟩, dc, vs⟩ := id cA
    have ne := cA.ne
    refine ⟨fun σ H1 => σ = [some (.ref a.p), some v, some (.ref ar)] ∧ CkAt K C H1 a vars m (met + 1) ∧ ButC a H H1, ?_, ?_⟩
    · refine ⟨_, rfl, a.p, C, dx, _, _, rfl, ob, X.cl, X.nM, cfs_m a met, _, _, rfl, rfl, dx, _, ob, (by decide : 3 < 1000), rfl, ⟨⟨dx, upd_same⟩, ?_, ?_⟩, fun b o e h1 _ => ?_⟩
      · rw [upd_ne ne.symm]; exact dc
      · rcases vs with (h | ⟨o, h⟩) | h
        · exact .inl (.inl (by rw [upd_ne (ne_of h ob (by intro z; cases z))]; exact h))
        · exact .inl (.inr ⟨o, by rw [upd_ne (ne_of h ob (by intro z; cases z))]; exact h⟩)
        · exact .inr h
      · rw [upd_ne h1]; exact e
    rintro σ H1 ⟨rfl, c1, b1⟩
    have ht1 := ht.but b1 cA c1
    have sa1 := b1.tup cA sa
    obtain ⟨⟨dx1, ob1⟩, dc1, vs1⟩ := id c1
    have over : 16 < met + 1 ∨ 4 < as.length → Q (.bl false) H1 := fun z => by
      have e : takesT vars t as m (met + 1) = (false, m) := if_pos z
      have q := k H1 (by rw [e]; exact c1) b1
      rw [e] at q
      exact q
    refine ⟨_, rfl, a.p, C, dx1, _, _, rfl, ob1, X.cl, X.nM, cfs_m a (met + 1), _, _, rfl, rfl, _, rfl, ?_⟩
    rw [show decide (((met + 1 : Nat) : Int) > 16) = decide (16 < met + 1) from gt_cast (met + 1) 16]
    refine ite2 (fun z => ?_) (fun z => ?_)
    · exact over (.inl (of_decide_eq_true z))
    have n1 : ¬ 16 < met + 1 := fun q => z (decide_eq_true q)
    refine ⟨_, rfl, ar, _, rfl, .inr sa1, _, _, rfl, rfl, _, rfl, ?_⟩
    rw [show decide (((as.map V.str).length : Int) > 4) = decide (4 < as.length) by rw [List.length_map]; exact gt_cast as.length 4]
    refine ite2 (fun z => ?_) (fun z => ?_)
    · exact over (.inr (of_decide_eq_true z))
    have n2 : ¬ 4 < as.length := fun q => z (decide_eq_true q)
    have n3 : ¬ (16 < met + 1 ∨ 4 < as.length) := fun q => q.elim n1 n2
    refine ⟨_, rfl, v, t, rfl, ht1, fun H2 s2 => ⟨_, rfl, ?_⟩⟩
    have c2 := c1.same s2
    have b2 := b1.trans (ButC.of s2)
    cases ef : formT t with
    | false =>
      refine iteF ?_
      have e : takesT vars t as m (met + 1) = (false, m) := by
        unfold takesT
        rw [if_neg n3]
        split
        · rename_i x rest
          have ef : (match kindsOf x with
            | some ks => fitsT rest ks
            | none => false) = false := ef
          cases ek : kindsOf x with
          | none => rfl
          | some ks =>
            rw [ek] at ef
            have ef : fitsT rest ks = false := ef
            simp only
            rw [ef, if_neg Bool.false_ne_true]
        · rfl
      have q := k H2 (by rw [e]; exact c2) b2
      rw [e] at q
      exact q
    | true =>
      obtain ⟨x, rest, rfl⟩ := form_shape ef
      obtain ⟨ks, ek, e1⟩ := form_parts ef
      have e : takesT vars (.tup (.str x :: rest)) as m (met + 1) = ((knowsT vars (rest.zip ks) m).1 && canT x rest as, (knowsT vars (rest.zip ks) m).2) := by
        unfold takesT
        rw [if_neg n3]
        simp only
        rw [ek]
        simp only
        rw [if_pos e1]
      rw [e] at k
      refine iteT ⟨_, rfl, a.p, dx1, _, rfl, s2 _ _ ob1, cfs_no a _ (by decide +kernel) (by decide +kernel) (by decide +kernel), _, rfl, a, v, vars, m, met + 1, x, rest, ks, rfl, c2, ml, ht1.same s2, ek, e1, fun H3 c3 b3 => ⟨_, rfl, ?_⟩⟩
      have b4 := b2.trans b3
      cases e5 : (knowsT vars (rest.zip ks) m).1 with
      | false =>
        have q := k H3 c3 b4
        rw [e5, Bool.false_and] at q
        exact iteF q
      | true =>
        refine iteT ⟨_, rfl, _, rfl, v, ar, x, rest, as, rfl, (ht1.same s2).but b3 c2 c3, b3.tup c2 (sqt_same s2 sa1), fun q => ?_, fun H4 s4 => ?_⟩
        · subst q
          exact loop_block ek e1
        · have q := k H4 (c3.same s4) (b4.trans (ButC.of s4))
          rw [e5, Bool.true_and] at q
          exact q
end
end BK


set_option Elab.async false
set_option maxRecDepth 100000
set_option maxHeartbeats 1000000
/-! Check's __init__. -/
namespace BK
open PySem PySem.Spec PyProof.Rows L2 RZ ET
def pairKm : Tr → Option (Str × Str)
  | .tup [.str s, .str k] => some (s, k)
  | _ => none
def kindsP : Tr → Km
  | .tup ts => ts.filterMap pairKm
  | _ => []
theorem kget_none {m : Km} {s : Str} (h : s ∉ m.map (·.1)) : kget m s = none := by
  unfold kget
  have : m.find? (fun e => decide (e.1 = s)) = none := by
    rw [List.find?_eq_none]
    intro e he
    simp only [decide_eq_true_eq]
    intro q
    exact h (List.mem_map.mpr ⟨e, he, q⟩)
  rw [this]
  rfl
theorem kind_str {t : Tr} (h : kindT t = true) : ∃ k, t = .str k := by
  cases t with
  | str k => exact ⟨k, rfl⟩
  | _ => cases h
theorem name_str {t : Tr} (h : nameT t = true) : ∃ k, t = .str k := by
  cases t with
  | str k => exact ⟨k, rfl⟩
  | _ => cases h
theorem param_shape {t : Tr} (h : paramT t = true) (n : nameT (firstT t) = true) : ∃ s k, t = .tup [.str s, .str k] ∧ kindT (.str k) = true := by
  obtain ⟨s, k, rfl⟩ := param_two h
  have h : kindT k = true := h
  have n : nameT s = true := n
  obtain ⟨k', rfl⟩ := kind_str h
  obtain ⟨s', rfl⟩ := name_str n
  exact ⟨s', k', rfl, h⟩
theorem kinds_keys : ∀ {ts : List Tr}, ts.all paramT = true → (ts.map firstT).all nameT = true → (ts.filterMap pairKm).map (·.1) = texts (ts.map firstT)
  | [], _, _ => rfl
  | t :: r, h, n => by
    rw [List.all_cons, Bool.and_eq_true] at h
    rw [List.map_cons, List.all_cons, Bool.and_eq_true] at n
    obtain ⟨s, k, rfl, _⟩ := param_shape h.1 n.1
    have ih := kinds_keys h.2 n.2
    show s :: (r.filterMap pairKm).map (·.1) = s :: texts (r.map firstT)
    rw [ih]
theorem params_split {ts : List Tr} (h : paramsT (.tup ts) = true) : ts.length ≤ 2 ∧ ts.all paramT = true ∧ (ts.map firstT).all nameT = true ∧ (texts (ts.map firstT)).Nodup := by
  rw [params_tup, Bool.and_eq_true, Bool.and_eq_true] at h
  obtain ⟨⟨h1, h2⟩, h3⟩ := h
  unfold diffT at h3
  rw [Bool.and_eq_true] at h3
  exact ⟨of_decide_eq_true h1, h2, h3.1, of_decide_eq_true h3.2⟩
theorem kindsP_len {t : Tr} (h : paramsT t = true) : (kindsP t).length ≤ 2 := by
  cases t with
  | tup ts =>
    have := (params_split h).1
    exact Nat.le_trans (List.length_filterMap_le _ _) this
  | _ => cases h
def spCInit (K : PySem.W.Frag) (C : Addr) : Sp := fun vs H Q _ => ∃ (x dx va : Addr) (pv : V) (vars : List Str) (pt : Tr), vs = [.ref x, .ref va, pv] ∧ H x = some (.ins C dx []) ∧ SqT K H va (vars.map V.str) ∧ TrAt K H pv pt ∧ paramsT pt = true ∧
  ∀ (d : Addr) (H' : Hp), H d = none → CkAt K C H' ⟨x, va, d⟩ vars (kindsP pt) 0 → (∀ b o, H b = some o → b ≠ x → H' b = some o) → Q .non H'
theorem scCInit : FnScope ["self", "variables", "params", "slot", "kind"] ["self", "variables", "params"] (defScope sCInit) := ⟨rfl, rfl, rfl, by decide +kernel, rfl, by decide +kernel, by decide +kernel⟩
section
variable {P : Program} {w : World} {K : PySem.W.Frag} {mg : Str → Option Value} {base : Heap}
theorem ok_cinit {C f : Addr} {fd : FuncData} (F : Fun K "__init__" "Check.__init__" sCInit f fd) (X : TxK K mg C) : FnOk P w K mg base CX0 1 f fd ["self", "variables", "params"] (spCInit K C) := by
  refine F.ok scCInit (fun vs H Q E h => ?_) (fun cdv A outer s H vs Q E hr h => ?_)
  · obtain ⟨x, dx, va, pv, vars, pt, rfl, _⟩ := h
    rfl
  · obtain ⟨x, dx, va, pvv, vars, pt, rfl, ob, sv, tp, hp, k⟩ := h
    have hu := hu_of hr
    refine ⟨_, pss_cons (ps_fld (pv 0) (pv 1) rfl)
      (pss_cons (ps_fld (pv 0) (pe_dc (own := [("slot", 3), ("kind", 4)]) (g := gTup K 2 (gCons (gName 3) (gCons (gName 4) gNil))) (tt := tYes) rfl scCInit.nd (pi_tup (pv 2))
          (blkOk_by (N := ["self", "variables", "params", "slot", "kind"]) (sc := defScope sCInit) (by decide +kernel))
          (fun _ _ _ _ _ => by exact pg_tup rfl (pgs_cons (pg_name (i := 3) scCInit.nd rfl (Or.inl rfl)) (pgs_cons (pg_name (i := 4) scCInit.nd rfl (Or.inl rfl)) pgs_nil))) (fun _ _ _ _ _ => pts_nil)
          (fun _ _ _ _ _ => pv 3) (fun _ _ _ _ _ => pv 4)) rfl)
      (pss_one (ps_fld (pv 0) pe_int rfl))), ?_⟩
    have keepT : ∀ {H1 H2 : Hp} {t : Addr} {xs : List V} {fs : List (Str × V)}, H1 x = some (.ins C dx fs) → (∀ b o, H1 b = some o → b ≠ x → H2 b = some o) → SqT K H1 t xs → SqT K H2 t xs := fun {H1 H2 t xs fs} e1 kp h => by
      rcases h with (h | ⟨o, h⟩) | h
      · exact .inl (.inl (kp _ _ h (ne_of h e1 (by intro z; cases z))))
      · exact .inl (.inr ⟨o, kp _ _ h (ne_of h e1 (by intro z; cases z))⟩)
      · exact .inr h
    cases tp with
    | @tup pa xs ts hT tr =>
    obtain ⟨l2, hall, hnm, hnd⟩ := params_split hp
    refine ⟨_, rfl, _, rfl, x, C, dx, _, rfl, ob, X.cl, X.nV, by decide, ?_⟩
    have kp1 : ∀ o b u, H b = some u → b ≠ x → (upd H x o) b = some u := fun o b u e n => by rw [upd_ne n]; exact e
    have hT1 := keepT ob (kp1 (.ins C dx (putF "variables" (.ref va) []))) hT
    have ob1 : (upd H x (.ins C dx (putF "variables" (.ref va) []))) x = some (.ins C dx [("variables", .ref va)]) := upd_same
    have k1 := kp1 (.ins C dx (putF "variables" (.ref va) []))
    generalize upd H x (.ins C dx (putF "variables" (.ref va) [])) = H1 at hT1 ob1 k1 ⊢
    have tr1 : TrAll K H1 xs ts := by
      have sm : ∀ b o, H b = some o → b ≠ x → H1 b = some o := k1
      have one : ∀ {v : V} {t : Tr}, TrAt K H v t → paramT t = true → nameT (firstT t) = true → TrAt K H1 v t := fun {v t} h p n => by
        obtain ⟨s, kd, rfl, _⟩ := param_shape p n
        cases h with
        | @tup b ys _ hb tb =>
        cases tb with
        | cons h1 r1 =>
        cases r1 with
        | cons h2 r2 =>
        cases r2 with
        | nil =>
        cases h1 with
        | str _ z1 =>
        cases h2 with
        | str _ z2 => exact .tup (keepT ob sm hb) (.cons (.str _ z1) (.cons (.str _ z2) .nil))
      have all : ∀ {vs : List V} {us : List Tr}, TrAll K H vs us → us.all paramT = true → (us.map firstT).all nameT = true → TrAll K H1 vs us := fun {vs us} h => by
        induction vs generalizing us with
        | nil => cases h; exact fun _ _ => .nil
        | cons v r ih =>
          cases h with
          | cons h1 h2 =>
            intro p n
            rw [List.all_cons, Bool.and_eq_true] at p
            rw [List.map_cons, List.all_cons, Bool.and_eq_true] at n
            exact .cons (one h1 p.1 n.1) (ih h2 p.2 n.2)
      exact all tr hall hnm
    refine ⟨_, rfl, pa, rfl, ⟨_, hT1⟩, fun D nD => ?_⟩
    have sD := same_new (o := .dK []) nD
    have nxD : x ≠ D := ne_of_none ob1 nD
    refine dc_tup (K := K) (a := pa) (xs := xs) (fun i H2 => H2 D = some (.dK (kk ((ts.take i).filterMap pairKm))) ∧ ∀ b o, H1 b = some o → H2 b = some o)
      ⟨upd_same, sD⟩ (fun i H2 _ ⟨_, s2⟩ => sqt_same s2 hT1) ?_ ?_
    · rintro i y H2 hi ⟨e2, s2⟩
      obtain ⟨t, ht, ty⟩ := (tr1.same s2).get hi
      have pt : paramT t = true := List.all_eq_true.mp hall t (List.mem_of_getElem? ht)
      have nt : nameT (firstT t) = true := List.all_eq_true.mp hnm _ (List.mem_map.mpr ⟨t, List.mem_of_getElem? ht, rfl⟩)
      obtain ⟨s, kd, rfl, hkd⟩ := param_shape pt nt
      have il : i < ts.length := (List.getElem?_eq_some_iff.mp ht).1
      have et : ts.take (i + 1) = ts.take i ++ [.tup [.str s, .str kd]] := by rw [List.take_add_one, ht]; rfl
      cases ty with
      | @tup b ys _ hb tb =>
      have l2 := tb.len
      cases tb with
      | cons h1 r1 =>
      cases r1 with
      | cons h2 r2 =>
      cases r2 with
      | nil =>
      cases h1 with
      | str _ z1 =>
      cases h2 with
      | str _ z2 =>
      refine ⟨b, _, rfl, hb, rfl, _, _, rfl, _, _, rfl, rfl, rfl, ?_⟩
      refine tyes ?_
      refine ⟨_, rfl, _, rfl, _, .inr s, rfl, e2, small1000 ?_, ?_, fun b o e => ?_⟩
      · rw [kk_len]
        have := List.length_filterMap_le pairKm (ts.take i)
        rw [List.length_take] at this
        omega
      · rw [upd_same, et, List.filterMap_append]
        have hk : (ts.filterMap pairKm).map (·.1) = texts (ts.map firstT) := kinds_keys hall hnm
        have none_ : kget ((ts.take i).filterMap pairKm) s = none := by
          refine kget_none fun hm => ?_
          rw [← hk] at hnd
          have ed : ts = ts.take i ++ (.tup [.str s, .str kd]) :: ts.drop (i + 1) := by
            have e1 := (List.take_append_drop i ts).symm
            rw [List.drop_eq_getElem_cons il] at e1
            rw [(Option.some.inj ((List.getElem?_eq_getElem il).symm.trans ht))] at e1
            exact e1
          rw [ed, List.filterMap_append, List.map_append] at hnd
          have := (List.nodup_append.mp hnd).2.2 _ hm s List.mem_cons_self
          exact this rfl
        rw [putK_kk none_]
        rfl
      · rw [upd_ne (ne_of_none e nD)]
        exact s2 b o e
    · rintro H2 ⟨e2, s2⟩
      have et : ts.take xs.length = ts := by rw [tr.len, List.take_length]
      rw [et] at e2
      refine ⟨_, rfl, x, C, dx, _, rfl, s2 _ _ ob1, X.cl, X.nK, (show 1 < 1000 by decide), ?_⟩
      refine ⟨_, rfl, x, C, dx, _, rfl, upd_same, X.cl, X.nM, (show 2 < 1000 by decide), ?_⟩
      have hD0 : H D = none := by
        cases e : H D with
        | none => rfl
        | some o =>
          by_cases z : D = x
          · exact absurd z.symm nxD
          · rw [k1 _ _ e z] at nD; cases nD
      refine k D _ hD0 ⟨⟨dx, upd_same⟩, ?_, ?_⟩ fun b o e n => ?_
      · rw [upd_ne nxD.symm, upd_ne nxD.symm]
        exact e2
      · refine keepT (H1 := H2) (s2 _ _ ob1) (fun b o e n => ?_) (sqt_same s2 (keepT ob k1 sv))
        rw [upd_ne n, upd_ne n]
        exact e
      · rw [upd_ne n, upd_ne n]
        exact s2 _ _ (k1 _ _ e n)
    | _ => cases hp
end
end BK


set_option Elab.async false
set_option maxRecDepth 100000
set_option maxHeartbeats 2000000
/-! fault_in. -/
namespace BK
open PySem PySem.Spec PyProof.Rows L2 RZ ET
def tupTs : Tr → List Tr
  | .tup ts => ts
  | _ => []
def blocksT (t : Tr) : List (List Tr) := ((tupTs t).filter isTup).map tupTs
def wordS : Tr → Str
  | .tup (.str w :: _) => w
  | _ => Str.empty
abbrev Ck := Km × Nat
abbrev Fl := Option (List Nat) × Ck
def blocksIn (f : List Tr → Ck → Fl) : List (List Tr) → Nat → Ck → Fl
  | [], _, c => (none, c)
  | b :: r, j, c => match f b c with
    | (some w, c') => (some (j :: w), c')
    | (none, c') => blocksIn f r (j + 1) c'
def faultL (vars : List Str) (rec : List Tr → List Str → Ck → Fl) (as : List Str) : List Tr → Nat → Ck → Fl
  | [], _, c => (none, c)
  | t :: r, i, c => match takesT vars t as c.1 (c.2 + 1) with
    | (false, m) => (some [i], (m, c.2 + 1))
    | (true, m) => match blocksIn (fun b c => rec b (as ++ [wordS t]) c) (blocksT t) 0 (m, c.2 + 1) with
      | (some w, c') => (some (i :: w), c')
      | (none, c') => faultL vars rec as r (i + 1) c'
def faultD (vars : List Str) : Nat → List Tr → List Str → Ck → Fl
  | 0, b, as, c => faultL vars (fun _ _ c => (none, c)) as b 0 c
  | d + 1, b, as, c => faultL vars (faultD vars d) as b 0 c
def recF (vars : List Str) : Nat → List Tr → List Str → Ck → Fl
  | 0 => fun _ _ c => (none, c)
  | d + 1 => faultD vars d
theorem faultD_eq (vars : List Str) (d : Nat) (b : List Tr) (as : List Str) (c : Ck) : faultD vars d b as c = faultL vars (recF vars d) as b 0 c := by cases d <;> rfl
def wayV (l : List Nat) : List V := l.map fun n : Nat => V.int (n : Int)
/-- the bounds of what was met -/
def Few (c : Ck) : Prop := c.2 ≤ 16 ∧ c.1.length ≤ 10 + 4 * c.2
def spFault (K : PySem.W.Frag) (C : Addr) (d : Nat) : Sp := fun vs H Q _ => ∃ a v wy ar vars c ts w0 as, vs = [.ref a.p, v, .ref wy, .ref ar] ∧ CkAt K C H a vars c.1 c.2 ∧ Few c ∧ TrAt K H v (.tup ts) ∧ SqT K H wy (wayV w0) ∧ w0.length + 2 * d ≤ 100 ∧ SqT K H ar (as.map V.str) ∧ as.length + d = 5 ∧
  ∀ H', CkAt K C H' a vars (faultD vars d ts as c).2.1 (faultD vars d ts as c).2.2 → ButC a H H' → ((faultD vars d ts as c).1 = none → Few (faultD vars d ts as c).2 → Q .non H') ∧ ∀ w t, (faultD vars d ts as c).1 = some w → SqT K H' t (wayV (w0 ++ w)) → Q (.ref t) H'
def spRec (K : PySem.W.Frag) (C : Addr) : Nat → Sp
  | 0 => fun _ _ _ _ => False
  | d + 1 => spFault K C d
theorem takes_deep {vars : List Str} {t : Tr} {as : List Str} {m : Km} {n : Nat} (h : 4 < as.length) : takesT vars t as m n = (false, m) := if_pos (.inr h)
theorem takes_few {vars : List Str} {t : Tr} {as : List Str} {m m' : Km} {n : Nat} (h : takesT vars t as m n = (true, m')) (hm : m.length + 4 ≤ 10 + 4 * n) : n ≤ 16 ∧ as.length ≤ 4 ∧ m'.length ≤ 10 + 4 * n ∧ ∃ x rest ks, t = .tup (.str x :: rest) ∧ kindsOf x = some ks ∧ fitsT rest ks = true := by
  unfold takesT at h
  by_cases z : 16 < n ∨ 4 < as.length
  · rw [if_pos z] at h
    cases h
  · rw [if_neg z] at h
    have z1 : ¬ 16 < n := fun q => z (.inl q)
    have z2 : ¬ 4 < as.length := fun q => z (.inr q)
    split at h
    · rename_i x rest
      cases ek : kindsOf x with
      | none => rw [ek] at h; cases h
      | some ks =>
        rw [ek] at h
        simp only at h
        by_cases ef : fitsT rest ks = true
        · rw [if_pos ef] at h
          have e2 := congrArg Prod.snd h
          simp only at e2
          have := knows_len (vars := vars) (rest.zip ks) m
          have kf := kinds_few ek
          rw [List.length_zip] at this
          rw [e2] at this
          exact ⟨by omega, by omega, by omega, x, rest, ks, rfl, ek, ef⟩
        · rw [if_neg ef] at h
          cases h
    · cases h
theorem blocks_form {x : Str} {rest : List Tr} : blocksT (.tup (.str x :: rest)) = (rest.filter isTup).map tupTs := rfl
end BK


set_option Elab.async false
set_option maxRecDepth 100000
set_option maxHeartbeats 4000000
/-! fault_in: the step. -/
namespace BK
open PySem PySem.Spec PyProof.Rows L2 RZ ET
theorem way_snoc (w : List Nat) (i : Nat) : wayV (w ++ [i]) = wayV w ++ [.int (i : Nat)] := by unfold wayV; rw [List.map_append]; rfl
theorem way_ne (w : List Nat) (i : Nat) : wayV (w ++ [i]) ≠ [] := by
  rw [way_snoc]
  simp
theorem way_len (w : List Nat) : (wayV w).length = w.length := by unfold wayV; rw [List.length_map]
abbrev nFault : List Str := ["self", "block", "way", "around", "number", "statement", "here", "inside", "at", "inner", "fault"]
theorem scFault : FnScope nFault ["self", "block", "way", "around"] (defScope sFault) := ⟨rfl, rfl, rfl, by decide +kernel, rfl, by decide +kernel, by decide +kernel⟩
section
variable {P : Program} {w : World} {K : PySem.W.Frag} {mg : Str → Option Value} {base : Heap}
/-- t + (x,) -/
theorem cat_one {X : Cx} {H : Hp} {wy : Addr} {xs : List V} {x : V} {Q : VK} (hw : SqT X.K H wy xs) (hl : xs.length ≤ 1000) (k : ∀ (q : Addr) (H' : Hp), Same H H' → SqT X.K H' q (xs ++ [x]) → Q (.ref q) H') :
    (∀ p, H p = none → rCatA X.K (.ref wy) (.ref p) (upd H p (.tup [x])) Q) := fun p np => by
  have s1 := same_new (o := .tup [x]) np
  have big : sizeLine = 16777216 := sizeLine_eq
  refine ⟨wy, p, xs, [x], rfl, rfl, sqt_same s1 hw, SqT.of upd_same, by simp; omega, fun e => ?_, fun _ e => (by cases e), fun _ _ q nq => ?_⟩
  · subst e
    exact k p _ s1 (SqT.of upd_same)
  · exact k q _ (s1.trans (same_new nq)) (SqT.of upd_same)
theorem ok_fault_step {C f fT fB : Addr} {fd fdT fdB : FuncData} (F : Fun K "fault_in" "Check.fault_in" sFault f fd) (X : TxK K mg C) (mE : mg "enumerate" = none)
    (GT : FnOk P w K mg base CX0 8 fT fdT ["self", "statement", "around"] (spTakes K C)) (bT : Binds K fdT ["self", "statement", "around"] []) (mT : Meth K C "takes" fT)
    (GB : FnOk P w K mg base CX0 1 fB fdB ["statement"] (spBlocks K)) (bB : Binds K fdB ["statement"] []) (gB : mg "blocks_of" = some (.ref fB)) (kB : PySem.W.keepIn K (.ref fB) = true)
    (bF : Binds K fd ["self", "block", "way", "around"] []) (mF : Meth K C "fault_in" f) (d : Nat)
    (GR : FnOk P w K mg base CX0 (8 + d) f fd ["self", "block", "way", "around"] (spRec K C d)) : FnOk P w K mg base CX0 (8 + d + 1) f fd ["self", "block", "way", "around"] (spFault K C d) := by
  refine F.ok scFault (fun vs H Q E h => ?_) (fun cdv A outer s H vs Q E hr h => ?_)
  · obtain ⟨a, v, wy, ar, vars, c, ts, w0, as, rfl, _⟩ := h
    rfl
  · obtain ⟨a, v, wy, ar, vars, c, ts, w0, as, rfl, cA, fw, ht, sw, wl, sa, al, k⟩ := h
    have hr8 : Room 8 _ := hr.mono (by omega)
    have hr1 : Room 1 _ := hr.mono (by omega)
    refine ⟨_, pss_cons (ps_for PassesOwn.never rfl (pi_enumT (by rfl) mE (pa_cons (pv 1) pa_nil))
        (pg_tup rfl (pgs_cons (pg_name (i := 4) scFault.nd rfl (Or.inl rfl)) (pgs_cons (pg_name (i := 5) scFault.nd rfl (Or.inl rfl)) pgs_nil)))
        (C8.pss_cut (ps_set (i := 6) scFault.nd rfl (Or.inl rfl) (pe_op op_catA (pv 2) (pe_tup (pa_cons (pv 4) pa_nil))))
        (C8.pss_cut (ps_if (pt_not (pt_val (pe_meth (pv 0) X.cl mT GT hr8 bT .nil pass0 (pa_cons (pv 5) (pa_cons (pv 3) pa_nil))))) (pss_one (ps_ret (pv 6))) pss_nil)
        (C8.pss_cut (ps_set (i := 7) scFault.nd rfl (Or.inl rfl) (pe_op op_catA (pv 3) (pe_tup (pa_cons (pe_ix ix_tup (pv 5) pe_int (fun _ _ => rfl)) pa_nil))))
        (pss_one (ps_for PassesOwn.never rfl (pi_enum (by rfl) mE (pa_cons (pe_call GB hr1 rfl gB kB bB .nil pass0 (pa_cons (pv 5) pa_nil)) pa_nil))
          (pg_tup rfl (pgs_cons (pg_name (i := 8) scFault.nd rfl (Or.inl rfl)) (pgs_cons (pg_name (i := 9) scFault.nd rfl (Or.inl rfl)) pgs_nil)))
          (pss_cons (ps_set (i := 10) scFault.nd rfl (Or.inl rfl) (pe_meth (pv 0) X.cl mF GR hr bF .nil pass0 (pa_cons (pv 9) (pa_cons (pe_op op_catA (pv 6) (pe_tup (pa_cons (pv 8) pa_nil))) (pa_cons (pv 7) pa_nil)))))
          (pss_one (ps_if (pt_cmp (pc_notN (pv 10))) (pss_one (ps_ret (pv 10))) pss_nil)))))))))
      (pss_one (ps_ret pe_non)), ?_⟩
    rw [faultD_eq] at k
    cases ht with
    | @tup b xs _ h tr =>
    have xl := tr.len
    refine ⟨_, rfl, b, xs, rfl, h, for_it (walk_enumT (K := K) (a := b) (xs := xs)) (fun i σ H2 => ∃ (v4 v5 v6 v7 v8 v9 v10 : Option V) (c2 : Ck), σ = [some (.ref a.p), some (.ref b), some (.ref wy), some (.ref ar), v4, v5, v6, v7, v8, v9, v10] ∧ CkAt K C H2 a vars c2.1 c2.2 ∧ ButC a H H2 ∧ Few c2 ∧
        faultL vars (recF vars d) as ts 0 c = faultL vars (recF vars d) as (ts.drop i) i c2)
      ⟨none, none, none, none, none, none, none, c, rfl, cA, ButC.refl _ _, fw, rfl⟩ (fun i σ H2 _ ⟨_, _, _, _, _, _, _, c2, _, _, b2, _⟩ => b2.tup cA h) ?_ ?_⟩
    · rintro i y σ H2 H3 hi ⟨v4, v5, v6, v7, v8, v9, v10, c2, rfl, k2, b2, f2, e2⟩ ⟨T, xi, y', rfl, nT, rfl, q1, q2⟩
      obtain rfl : V.int (i : Nat) = xi := Option.some.inj q1
      have q2 : xs[i]? = some y' := q2
      have sT := same_new (o := .tup [.int (i : Nat), y']) nT
      obtain ⟨t, q3, _⟩ := tr.get q2
      have il : i < ts.length := (List.getElem?_eq_some_iff.mp q3).1
      have ed : ts.drop i = t :: ts.drop (i + 1) := by
        rw [List.drop_eq_getElem_cons il]
        congr 1
        exact Option.some.inj ((List.getElem?_eq_getElem il).symm.trans q3)
      rw [ed] at e2
      have k3 := k2.same sT
      have b3 := b2.trans (ButC.of sT)
      have getY : ∀ {H' : Hp} {c' : Ck}, CkAt K C H' a vars c'.1 c'.2 → ButC a H H' → TrAt K H' y' t := fun {H' c'} kc bc => by
        obtain ⟨t', q4, ty⟩ := TrAll.get (tr.but bc cA kc) q2
        obtain rfl : t = t' := Option.some.inj (q3.symm.trans q4)
        exact ty
      refine ⟨T, _, rfl, SqT.of upd_same, rfl, _, _, rfl, _, _, rfl, rfl, ?_⟩
      generalize upd H2 T (.tup [.int (i : Nat), y']) = H3 at k3 b3 sT ⊢
      -- here
      refine ⟨fun σ H4 => ∃ hw : Addr, σ = [some (.ref a.p), some (.ref b), some (.ref wy), some (.ref ar), some (.int (i : Nat)), some y', some (.ref hw), v7, v8, v9, v10] ∧ SqT K H4 hw (wayV (w0 ++ [i])) ∧ CkAt K C H4 a vars c2.1 c2.2 ∧ ButC a H H4, ?_, ?_⟩
      · refine ⟨_, rfl, _, rfl, (by show 1 ≤ sizeLine; decide), ?_⟩
        refine cat_one (X := (cxOf CX0 P w K mg base nFault "Check.fault_in" (defScope sFault) f cdv A outer s H E).nox) (b3.tup cA sw) (by rw [way_len]; omega) fun q H4 s4 hq => ?_
        rw [← way_snoc] at hq
        exact ⟨q, rfl, hq, k3.same s4, b3.trans (ButC.of s4)⟩
      rintro σ H4 ⟨hw, rfl, hs, k4, b4⟩
      clear k3 b3 sT
      obtain ⟨⟨dx, ob⟩, dc, _⟩ := id k4
      -- takes
      refine ⟨fun σ H5 => ∃ m : Km, σ = [some (.ref a.p), some (.ref b), some (.ref wy), some (.ref ar), some (.int (i : Nat)), some y', some (.ref hw), v7, v8, v9, v10] ∧ takesT vars t as c2.1 (c2.2 + 1) = (true, m) ∧ CkAt K C H5 a vars m (c2.2 + 1) ∧ ButC a H H5 ∧ SqT K H5 hw (wayV (w0 ++ [i])), ?_, ?_⟩
      · refine ⟨_, rfl, a.p, dx, _, rfl, ob, cfs_no a _ (by decide +kernel) (by decide +kernel) (by decide +kernel), _, rfl, _, rfl, a, y', ar, vars, c2.1, c2.2, t, as, rfl, k4, by have := f2.1; have := f2.2; omega, getY k4 b4, b4.tup cA sa, fun H5 k5 b5 => ⟨_, rfl, ?_⟩⟩
        have b45 := b4.trans b5
        have hs5 := b5.tup k4 hs
        cases e5 : takesT vars t as c2.1 (c2.2 + 1) with
        | mk bt m =>
        rw [e5] at k5
        cases bt with
        | true => exact iteF ⟨m, rfl, rfl, k5, b45, hs5⟩
        | false =>
          have e6 : faultL vars (recF vars d) as ts 0 c = (some [i], (m, c2.2 + 1)) := by
            rw [e2]
            show (match takesT vars t as c2.1 (c2.2 + 1) with
              | (false, m) => (some [i], (m, c2.2 + 1))
              | (true, m) => match blocksIn (fun b c => recF vars d b (as ++ [wordS t]) c) (blocksT t) 0 (m, c2.2 + 1) with
                | (some w, c') => (some (i :: w), c')
                | (none, c') => faultL vars (recF vars d) as (ts.drop (i + 1)) (i + 1) c') = _
            rw [e5]
          rw [e6] at k
          exact iteT ⟨_, rfl, (k H5 k5 b45).2 [i] hw rfl hs5⟩
      rintro σ H5 ⟨m, rfl, e5, k5, b5, hs5⟩
      obtain ⟨n16, a4, ml, x, rest, ks, rfl, ek, ef⟩ := takes_few e5 (by have := f2.2; omega)
      have rl : rest.length = ks.length := by
        unfold fitsT at ef
        exact of_decide_eq_true (Bool.and_eq_true_iff.mp ef).1
      have kf := kinds_few ek
      -- inside
      refine ⟨fun σ H6 => ∃ ins : Addr, σ = [some (.ref a.p), some (.ref b), some (.ref wy), some (.ref ar), some (.int (i : Nat)), some y', some (.ref hw), some (.ref ins), v8, v9, v10] ∧ CkAt K C H6 a vars m (c2.2 + 1) ∧ ButC a H H6 ∧ SqT K H6 hw (wayV (w0 ++ [i])) ∧ SqT K H6 ins ((as ++ [x]).map V.str), ?_, ?_⟩
      · have ty5 := getY (c' := (m, c2.2 + 1)) k5 b5
        cases ty5 with
        | @tup yb ys _ hy ty =>
        cases ty with
        | @cons y0 yr _ _ h0 r0 =>
        cases h0 with
        | str _ hx =>
        refine ⟨_, rfl, _, rfl, yb, _, 0, _, rfl, rfl, hy, at_of (j := 0) rfl rfl, (by show 1 ≤ sizeLine; decide), ?_⟩
        refine cat_one (X := (cxOf CX0 P w K mg base nFault "Check.fault_in" (defScope sFault) f cdv A outer s H E).nox) (b5.tup cA sa) (by rw [List.length_map]; omega) fun q H6 s6 hq => ?_
        refine ⟨q, rfl, k5.same s6, b5.trans (ButC.of s6), sqt_same s6 hs5, ?_⟩
        rw [List.map_append]
        exact hq
      rintro σ H6 ⟨ins, rfl, k6, b6, hs6, si6⟩
      -- the blocks
      cases d with
      | zero => omega
      | succ d =>
      have eL : faultL vars (recF vars (d + 1)) as ts 0 c = (match blocksIn (fun b c => faultD vars d b (as ++ [x]) c) ((rest.filter isTup).map tupTs) 0 (m, c2.2 + 1) with
          | (some w, c') => (some (i :: w), c')
          | (none, c') => faultL vars (recF vars (d + 1)) as (ts.drop (i + 1)) (i + 1) c') := by
        rw [e2]
        show (match takesT vars (.tup (.str x :: rest)) as c2.1 (c2.2 + 1) with
          | (false, m) => (some [i], (m, c2.2 + 1))
          | (true, m) => match blocksIn (fun b c => faultD vars d b (as ++ [x]) c) ((rest.filter isTup).map tupTs) 0 (m, c2.2 + 1) with
            | (some w, c') => (some (i :: w), c')
            | (none, c') => faultL vars (recF vars (d + 1)) as (ts.drop (i + 1)) (i + 1) c') = _
        rw [e5]
      refine ⟨_, rfl, y', (.str x :: rest), rfl, getY (c' := (m, c2.2 + 1)) k6 b6, by rw [List.length_cons]; omega, fun D bs H7 s7 nD eD tb => ?_⟩
      have tb : TrAll K H7 bs (rest.filter isTup) := tb
      have k7 := k6.same s7
      have b7 := b6.trans (ButC.of s7)
      have hs7 := sqt_same s7 hs6
      have si7 := sqt_same s7 si6
      refine ⟨D, bs, rfl, SqL.of eD, for_it (walk_enum (K := K) (a := D) (xs := bs)) (fun j σ H8 => ∃ (v8 v9 v10 : Option V) (c3 : Ck), σ = [some (.ref a.p), some (.ref b), some (.ref wy), some (.ref ar), some (.int (i : Nat)), some y', some (.ref hw), some (.ref ins), v8, v9, v10] ∧ CkAt K C H8 a vars c3.1 c3.2 ∧ ButC a H7 H8 ∧ Few c3 ∧
          blocksIn (fun b c => faultD vars d b (as ++ [x]) c) ((rest.filter isTup).map tupTs) 0 (m, c2.2 + 1) = blocksIn (fun b c => faultD vars d b (as ++ [x]) c) (((rest.filter isTup).map tupTs).drop j) j c3)
        ⟨v8, v9, v10, (m, c2.2 + 1), rfl, k7, ButC.refl _ _, ⟨n16, ml⟩, rfl⟩ (fun j σ H8 _ ⟨_, _, _, c3, _, _, b8, _⟩ => b8.lst k7 (SqL.of eD)) ?_ ?_⟩
      · rintro j z σ H8 H9 hj ⟨v8, v9, v10, c3, rfl, k8, b8, f3, e3⟩ ⟨U, xj, z', rfl, nU, rfl, q5, q6⟩
        obtain rfl : V.int (j : Nat) = xj := Option.some.inj q5
        have q6 : bs[j]? = some z' := q6
        have sU := same_new (o := .tup [.int (j : Nat), z']) nU
        have k9 := k8.same sU
        have b9 := b8.trans (ButC.of sU)
        obtain ⟨u, q7, tz⟩ := TrAll.get (tb.but b9 k7 k9) q6
        have iu : isTup u = true := (List.mem_filter.mp (List.mem_of_getElem? q7)).2
        obtain ⟨us, rfl⟩ : ∃ us, u = .tup us := by
          cases u with
          | tup us => exact ⟨us, rfl⟩
          | _ => cases iu
        have q8 : ((rest.filter isTup).map tupTs)[j]? = some us := by rw [List.getElem?_map, q7]; rfl
        have jl : j < ((rest.filter isTup).map tupTs).length := (List.getElem?_eq_some_iff.mp q8).1
        have ed3 : ((rest.filter isTup).map tupTs).drop j = us :: ((rest.filter isTup).map tupTs).drop (j + 1) := by
          rw [List.drop_eq_getElem_cons jl]
          congr 1
          exact Option.some.inj ((List.getElem?_eq_getElem jl).symm.trans q8)
        rw [ed3] at e3
        obtain ⟨⟨dx9, ob9⟩, dc9, _⟩ := id k9
        refine ⟨U, _, rfl, SqT.of upd_same, rfl, _, _, rfl, _, _, rfl, rfl, ?_⟩
        generalize upd H8 U (.tup [.int (j : Nat), z']) = H9 at k9 b9 tz ob9 dc9 ⊢
        refine ⟨_, rfl, a.p, dx9, _, rfl, ob9, cfs_no a _ (by decide +kernel) (by decide +kernel) (by decide +kernel), _, rfl, _, rfl, _, rfl, (by show 1 ≤ sizeLine; decide), ?_⟩
        refine cat_one (X := (cxOf CX0 P w K mg base nFault "Check.fault_in" (defScope sFault) f cdv A outer s H E).nox) (b9.tup k7 hs7) (by rw [way_len, List.length_append]; simp; omega) fun q H10 s10 hq => ?_
        rw [← way_snoc] at hq
        have k10 := k9.same s10
        have b10 := b9.trans (ButC.of s10)
        refine ⟨_, rfl, a, z', q, ins, vars, c3, us, w0 ++ [i] ++ [j], as ++ [x], rfl, k10, f3, tz.same s10, hq, by simp; omega, b10.tup k7 si7, by simp; omega, fun H11 k11 b11 => ?_⟩
        have b711 := b10.trans b11
        cases e11 : faultD vars d us (as ++ [x]) c3 with
        | mk r c4 =>
        rw [e11] at k11
        have e12 : blocksIn (fun b c => faultD vars d b (as ++ [x]) c) ((rest.filter isTup).map tupTs) 0 (m, c2.2 + 1) = (match (r, c4) with
            | (some w, c') => (some (j :: w), c')
            | (none, c') => blocksIn (fun b c => faultD vars d b (as ++ [x]) c) (((rest.filter isTup).map tupTs).drop (j + 1)) (j + 1) c') := by
          rw [e3, ← e11]
          rfl
        refine ⟨fun er fw4 => ?_, fun w4 t4 er ht4 => ?_⟩
        · have er : r = none := er
          subst er
          refine ⟨_, rfl, _, rfl, iteF ⟨_, _, _, c4, rfl, k11, b711, fw4, e12⟩⟩
        · have er : r = some w4 := er
          subst er
          have e12 : blocksIn (fun b c => faultD vars d b (as ++ [x]) c) ((rest.filter isTup).map tupTs) 0 (m, c2.2 + 1) = (some (j :: w4), c4) := e12
          rw [e12] at eL
          have eL : faultL vars (recF vars (d + 1)) as ts 0 c = (some (i :: j :: w4), c4) := eL
          rw [eL] at k
          refine ⟨_, rfl, _, rfl, iteT ⟨_, rfl, (k H11 k11 (b7.trans b711)).2 _ t4 rfl ?_⟩⟩
          have : w0 ++ [i] ++ [j] ++ w4 = w0 ++ (i :: j :: w4) := by simp
          rw [this] at ht4
          exact ht4
      · rintro σ H8 ⟨v8, v9, v10, c3, rfl, k8, b8, f3, e3⟩
        have e0 : ((rest.filter isTup).map tupTs).drop bs.length = [] := by
          rw [tb.len, ← List.length_map (f := tupTs), List.drop_length]
        rw [e0] at e3
        have e3 : blocksIn (fun b c => faultD vars d b (as ++ [x]) c) ((rest.filter isTup).map tupTs) 0 (m, c2.2 + 1) = (none, c3) := e3
        rw [e3] at eL
        exact ⟨_, _, _, _, _, _, _, c3, rfl, k8, b7.trans b8, f3, eL⟩
    · rintro σ H2 ⟨v4, v5, v6, v7, v8, v9, v10, c2, rfl, k2, b2, f2, e2⟩
      have e0 : ts.drop xs.length = [] := by rw [xl, List.drop_length]
      rw [e0] at e2
      have e2 : faultL vars (recF vars d) as ts 0 c = (none, c2) := e2
      rw [e2] at k
      exact (k H2 k2 b2).1 rfl f2
end
end BK


set_option Elab.async false
set_option maxRecDepth 100000
set_option maxHeartbeats 2000000
/-! fault_of_pieces. -/
namespace BK
open PySem PySem.Spec PyProof.Rows L2 RZ ET
inductive Place where
  | empty
  | vars
  | at_ (i : Nat)
  | way (i : Nat) (w : List Nat)
def intsT (w : List Nat) : List Tr := w.map fun n : Nat => Tr.int (n : Int)
def placeT : Place → Tr
  | .empty => .tup []
  | .vars => .tup [.str "vars"]
  | .at_ i => .tup [.int (i : Nat)]
  | .way i w => .tup [.int (i : Nat), .tup (intsT w)]
def resT : Option Place → Tr
  | none => .non
  | some p => placeT p
def paramsOf : Tr → Tr
  | .tup [_, p, _] => p
  | _ => .non
def blockOf : Tr → List Tr
  | .tup [_, _, .tup ts] => ts
  | _ => []
def piecesL (vars : List Str) : List Tr → Nat → List Str → Option Place
  | [], _, _ => none
  | t :: r, i, ns => if tripleT t = true ∧ wordS t ∉ ns then
      match (faultD vars 5 (blockOf t) [] (kindsP (paramsOf t), 0)).1 with
      | some w => some (.way i w)
      | none => piecesL vars r (i + 1) (ns ++ [wordS t])
    else some (.at_ i)
theorem triple_shape {t : Tr} (h : tripleT t = true) : ∃ n p bts, t = .tup [.str n, p, .tup bts] ∧ paramsT p = true := by
  unfold tripleT at h
  split at h
  · rename_i n p b
    rw [Bool.and_eq_true, Bool.and_eq_true] at h
    obtain ⟨⟨h1, h2⟩, h3⟩ := h
    obtain ⟨s, rfl⟩ := name_str h1
    cases b with
    | tup bts => exact ⟨s, p, bts, rfl, h2⟩
    | _ => cases h3
  · cases h
def spPieces (K : PySem.W.Frag) : Sp := fun vs H Q _ => ∃ va pa vars xs ts, vs = [.ref va, .ref pa] ∧ SqT K H va (vars.map V.str) ∧ SqT K H pa xs ∧ TrAll K H xs ts ∧ ts.length ≤ 900 ∧ ∀ v H', Same H H' → TrAt K H' v (resT (piecesL vars ts 0 [])) → Q v H'
abbrev sPieces : Stmt := top 38
theorem scPieces : FnScope ["variables", "pieces", "names", "number", "piece", "way"] ["variables", "pieces"] (defScope sPieces) := ⟨rfl, rfl, rfl, by decide +kernel, rfl, by decide +kernel, by decide +kernel⟩
theorem wayV_tr {K : PySem.W.Frag} {H : Hp} : ∀ w : List Nat, TrAll K H (wayV w) (intsT w)
  | [] => .nil
  | n :: r => .cons (.int _) (wayV_tr r)
section
variable {P : Program} {w : World} {K : PySem.W.Frag} {mg : Str → Option Value} {base : Heap}
theorem fn_false {k : Nat} {f : Addr} {fd : FuncData} {ps : List Str} (bd : ∀ vs : List V, True) : FnOk P w K mg base CX0 k f fd ps (fun _ _ _ _ => False) := by
  constructor
  all_goals intros
  all_goals first | contradiction | (exfalso; assumption)
theorem ok_fault {C f fT fB : Addr} {fd fdT fdB : FuncData} (F : Fun K "fault_in" "Check.fault_in" sFault f fd) (X : TxK K mg C) (mE : mg "enumerate" = none)
    (GT : FnOk P w K mg base CX0 8 fT fdT ["self", "statement", "around"] (spTakes K C)) (bT : Binds K fdT ["self", "statement", "around"] []) (mT : Meth K C "takes" fT)
    (GB : FnOk P w K mg base CX0 1 fB fdB ["statement"] (spBlocks K)) (bB : Binds K fdB ["statement"] []) (gB : mg "blocks_of" = some (.ref fB)) (kB : PySem.W.keepIn K (.ref fB) = true)
    (bF : Binds K fd ["self", "block", "way", "around"] []) (mF : Meth K C "fault_in" f) : ∀ d, FnOk P w K mg base CX0 (8 + d + 1) f fd ["self", "block", "way", "around"] (spFault K C d)
  | 0 => ok_fault_step F X mE GT bT mT GB bB gB kB bF mF 0 (fn_false fun _ => trivial)
  | d + 1 => ok_fault_step F X mE GT bT mT GB bB gB kB bF mF (d + 1) (ok_fault F X mE GT bT mT GB bB gB kB bF mF d)
end
end BK


set_option Elab.async false
set_option maxRecDepth 100000
set_option maxHeartbeats 2000000
namespace BK
open PySem PySem.Spec PyProof.Rows L2 RZ ET
section
variable {P : Program} {w : World} {K : PySem.W.Frag} {mg : Str → Option Value} {base : Heap}
theorem ok_pieces {C f fT fI fF : Addr} {fd fdT fdI fdF : FuncData} (F : Fun K "fault_of_pieces" "fault_of_pieces" sPieces f fd) (X : TxK K mg C) (mE : mg "enumerate" = none)
    (GT : FnOk P w K mg base CX0 4 fT fdT ["thing"] (spOf tripleT K)) (bT : Binds K fdT ["thing"] []) (gT : mg "is_triple" = some (.ref fT)) (kT : PySem.W.keepIn K (.ref fT) = true)
    (M : Mk K C fI) (GI : FnOk P w K mg base CX0 1 fI fdI ["self", "variables", "params"] (spCInit K C)) (bI : Binds K fdI ["self", "variables", "params"] [])
    (GF : FnOk P w K mg base CX0 14 fF fdF ["self", "block", "way", "around"] (spFault K C 5)) (bF : Binds K fdF ["self", "block", "way", "around"] []) (mF : Meth K C "fault_in" fF) :
    FnOk P w K mg base CX0 15 f fd ["variables", "pieces"] (spPieces K) := by
  refine F.ok scPieces (fun vs H Q E h => ?_) (fun cdv A outer s H vs Q E hr h => ?_)
  · obtain ⟨va, pa, vars, xs, ts, rfl, _⟩ := h
    rfl
  · obtain ⟨va, pa, vars, xs, ts, rfl, sv, sp, tr, tl, k⟩ := h
    have hr4 : Room 4 _ := hr.mono (by decide)
    have hr2 : Room 2 _ := hr.mono (by decide)
    refine ⟨_, pss_cons (ps_set (i := 2) scPieces.nd rfl (Or.inl rfl) (pe_lst pa_nil))
      (pss_cons (ps_for PassesOwn.never rfl (pi_enumT (by rfl) mE (pa_cons (pv 1) pa_nil))
        (pg_tup rfl (pgs_cons (pg_name (i := 3) scPieces.nd rfl (Or.inl rfl)) (pgs_cons (pg_name (i := 4) scPieces.nd rfl (Or.inl rfl)) pgs_nil)))
        (C8.pss_cut (ps_if (PW.pt (pw_or (pt_not (pt_val (pe_call GT hr4 rfl gT kT bT .nil pass0 (pa_cons (pv 4) pa_nil))))
            (pw_or1 (pt_cmpR op_in_seq (pe_ix ix_tup (pv 4) pe_int (fun _ _ => rfl)) (pv 2) rfl)))) (pss_one (ps_ret (pe_tup (pa_cons (pv 3) pa_nil)))) pss_nil)
        (C8.pss_cut (ps_expr (pe_bm PySem.F.plainAttrs_list PySem.F.slot_list_append PySem.F.type_list_append mt_append (pv 2) (pa_cons (pe_ix ix_tup (pv 4) pe_int (fun _ _ => rfl)) pa_nil)))
        (pss_cons (ps_set (i := 5) scPieces.nd rfl (Or.inl rfl) (pe_meth (pe_make M GI hr2 rfl X.mgC bI .nil pass0 (pa_cons (pv 0) (pa_cons (pe_ix ix_tup (pv 4) pe_int (fun _ _ => rfl)) pa_nil))) X.cl mF GF hr bF .nil pass0
            (pa_cons (pe_ix ix_tup (pv 4) pe_int (fun _ _ => rfl)) (pa_cons (pe_tup pa_nil) (pa_cons (pe_tup pa_nil) pa_nil)))))
        (pss_one (ps_if (pt_cmp (pc_notN (pv 5))) (pss_one (ps_ret (pe_tup (pa_cons (pv 3) (pa_cons (pv 5) pa_nil))))) pss_nil))))))
      (pss_one (ps_ret pe_non))), ?_⟩
    refine ⟨Nat.zero_le _, fun nl nnl => ?_⟩
    have s0 := same_new (o := .lst []) nnl
    refine ⟨_, rfl, pa, xs, rfl, sqt_same s0 sp, for_it (walk_enumT (K := K) (a := pa) (xs := xs)) (fun i σ H2 => ∃ (v3 v4 v5 : Option V) (ns : List Str), σ = [some (.ref va), some (.ref pa), some (.ref nl), v3, v4, v5] ∧ Same H H2 ∧ H2 nl = some (.lst (ns.map V.str)) ∧ ns.length = i ∧ piecesL vars ts 0 [] = piecesL vars (ts.drop i) i ns)
      ⟨none, none, none, [], rfl, s0, upd_same, rfl, rfl⟩ (fun i σ H2 _ ⟨_, _, _, _, _, s2, _⟩ => sqt_same s2 sp) ?_ ?_⟩
    · rintro i y σ H2 H3 hi ⟨v3, v4, v5, ns, rfl, s2, en, nsl, e2⟩ ⟨T, xi, y', rfl, nT, rfl, q1, q2⟩
      obtain rfl : V.int (i : Nat) = xi := Option.some.inj q1
      have q2 : xs[i]? = some y' := q2
      have sT := same_new (o := .tup [.int (i : Nat), y']) nT
      obtain ⟨t, q3, _⟩ := tr.get q2
      have il : i < ts.length := (List.getElem?_eq_some_iff.mp q3).1
      have ed : ts.drop i = t :: ts.drop (i + 1) := by
        rw [List.drop_eq_getElem_cons il]
        congr 1
        exact Option.some.inj ((List.getElem?_eq_getElem il).symm.trans q3)
      rw [ed] at e2
      have getY : ∀ {H' : Hp}, Same H H' → TrAt K H' y' t := fun {H'} s' => by
        obtain ⟨t', q4, ty⟩ := (tr.same s').get q2
        obtain rfl : t = t' := Option.some.inj (q3.symm.trans q4)
        exact ty
      refine ⟨T, _, rfl, SqT.of upd_same, rfl, _, _, rfl, _, _, rfl, rfl, ?_⟩
      have s3 := s2.trans sT
      have en3 := sT _ _ en
      generalize upd H2 T (.tup [.int (i : Nat), y']) = H3 at s3 en3 ⊢
      clear sT
      have bad : ∀ H4, Same H H4 → ¬ (tripleT t = true ∧ wordS t ∉ ns) → 1 ≤ sizeLine ∧ ∀ p, H4 p = none → Q (.ref p) (upd H4 p (.tup [.int (i : Nat)])) := fun H4 s4 hn => by
        refine ⟨by decide, fun p np => k _ _ (s4.trans (same_new np)) ?_⟩
        have e : piecesL vars ts 0 [] = some (.at_ i) := by
          rw [e2]
          show (if tripleT t = true ∧ wordS t ∉ ns then _ else some (Place.at_ i)) = _
          rw [if_neg hn]
        rw [e]
        exact .tup (SqT.of upd_same) (.cons (.int _) .nil)
      -- is it a triple of a new name?
      refine ⟨fun σ H4 => σ = [some (.ref va), some (.ref pa), some (.ref nl), some (.int (i : Nat)), some y', v5] ∧ Same H H4 ∧ H4 nl = some (.lst (ns.map V.str)) ∧ tripleT t = true ∧ wordS t ∉ ns, ?_, ?_⟩
      · refine ⟨_, rfl, y', t, rfl, getY s3, fun H4 s4 => ⟨_, rfl, ?_⟩⟩
        have s34 := s3.trans s4
        cases et : tripleT t with
        | false => exact iteT ⟨_, rfl, bad H4 s34 fun z => by rw [et] at z; cases z.1⟩
        | true =>
          refine iteF ?_
          obtain ⟨n, p, bts, rfl, hp⟩ := triple_shape et
          have ty := getY s34
          cases ty with
          | @tup b ys _ hb tb =>
          obtain ⟨u0, g0, t0⟩ := tb.get' (i := 0) (t := .str n) rfl
          cases t0 with
          | str _ z0 =>
          refine ⟨_, rfl, b, ys, 0, _, rfl, rfl, hb, at_of (j := 0) rfl g0, _, rfl, nl, _, rfl, .inl (SqL.of (s4 _ _ en3)), rfl, flat_txts ns, _, rfl, ?_⟩
          rw [in_txts]
          by_cases hm : n ∈ ns
          · rw [decide_eq_true hm]
            exact iteT ⟨_, rfl, bad H4 s34 fun z => z.2 hm⟩
          · rw [decide_eq_false hm]
            exact iteF ⟨rfl, s34, s4 _ _ en3, rfl, hm⟩
      rintro σ H4 ⟨rfl, s4, en4, et, hm⟩
      obtain ⟨n, p, bts, rfl, hp⟩ := triple_shape et
      -- names.append
      refine ⟨fun σ H5 => σ = [some (.ref va), some (.ref pa), some (.ref nl), some (.int (i : Nat)), some y', v5] ∧ Same H H5 ∧ H5 nl = some (.lst ((ns ++ [n]).map V.str)), ?_, ?_⟩
      · have ty := getY s4
        cases ty with
        | @tup b ys _ hb tb =>
        obtain ⟨u0, g0, t0⟩ := tb.get' (i := 0) (t := .str n) rfl
        cases t0 with
        | str _ z0 =>
        refine ⟨_, rfl, .inl ⟨rfl, _, SqL.of en4⟩, _, rfl, b, ys, 0, _, rfl, rfl, hb, at_of (j := 0) rfl g0, nl, _, _, rfl, rfl, en4, small1000 (by rw [List.length_map]; omega), rfl, fun b o e => ?_, ?_⟩
        · rw [upd_ne (ne_of_none e nnl)]
          exact s4 b o e
        · rw [upd_same, List.map_append]
          rfl
      rintro σ H5 ⟨rfl, s5, en5⟩
      -- Check(..).fault_in(..)
      have ty := getY s5
      cases ty with
      | @tup b ys _ hb tb =>
      obtain ⟨u1, g1, t1⟩ := tb.get' (i := 1) (t := p) rfl
      obtain ⟨u2, g2, t2⟩ := tb.get' (i := 2) (t := .tup bts) rfl
      refine ⟨_, rfl, _, rfl, b, ys, 1, u1, rfl, rfl, hb, at_of (j := 1) rfl g1, fun x dx nx ndx nxd => ?_⟩
      have s6 : Same H5 (upd (upd H5 dx (.own x)) x (.ins C dx [])) := fun b o e => by
        rw [upd_ne (ne_of_none e nx), upd_ne (ne_of_none e ndx)]
        exact e
      refine ⟨x, dx, va, u1, vars, p, rfl, upd_same, sqt_same (s5.trans s6) sv, t1.same s6, hp, fun d H7 nd c7 kp => ⟨rfl, ?_⟩⟩
      have s57 : Same H5 H7 := fun b o e => kp b o (s6 b o e) (ne_of_none e nx)
      have nd5 : H5 d = none := s6.free nd
      obtain ⟨⟨dx7, ob7⟩, dc7, _⟩ := id c7
      refine ⟨x, dx7, _, rfl, ob7, cfs_no ⟨x, va, d⟩ 0 (by decide +kernel) (by decide +kernel) (by decide +kernel), _, rfl, b, ys, 2, u2, rfl, rfl, sqt_same s57 hb, at_of (j := 2) rfl g2, Nat.zero_le _, fun e1 ne1 => ⟨Nat.zero_le _, fun e2' ne2 => ?_⟩⟩
      have sE := (same_new (o := .tup []) ne1).trans (same_new (o := .tup []) ne2)
      have s59 := s57.trans sE
      refine ⟨⟨x, va, d⟩, u2, e1, e2', vars, (kindsP p, 0), bts, [], [], rfl, c7.same sE, ⟨Nat.zero_le _, by have := kindsP_len hp; show (kindsP p).length ≤ 10 + 4 * 0; omega⟩, t2.same s59, SqT.of (by rw [upd_ne (ne_of_none upd_same ne2), upd_same]; rfl), by decide, SqT.of upd_same, rfl, fun H10 c10 b10 => ?_⟩
      have s510 : Same H5 H10 := fun b o e => b10 b o (s59 b o e) (ne_of_none e nx) (ne_of_none e nd5)
      have sH := s5.trans s510
      have step : piecesL vars ts 0 [] = (match (faultD vars 5 bts [] (kindsP p, 0)).1 with
          | some w => some (.way i w)
          | none => piecesL vars (ts.drop (i + 1)) (i + 1) (ns ++ [n])) := by
        rw [e2]
        show (if tripleT (.tup [.str n, p, .tup bts]) = true ∧ n ∉ ns then _ else _) = _
        rw [if_pos ⟨et, hm⟩]
        rfl
      refine ⟨fun er fw => ?_, fun w4 t4 er ht4 => ?_⟩
      · have er : (faultD vars 5 bts [] (kindsP p, 0)).1 = none := er
        rw [er] at step
        refine ⟨_, rfl, _, rfl, iteF ⟨_, _, _, ns ++ [n], rfl, sH, s510 _ _ en5, by rw [List.length_append, nsl]; rfl, step⟩⟩
      · have er : (faultD vars 5 bts [] (kindsP p, 0)).1 = some w4 := er
        rw [er] at step
        have step : piecesL vars ts 0 [] = some (.way i w4) := step
        refine ⟨_, rfl, _, rfl, iteT ⟨_, rfl, _, rfl, (show 2 ≤ sizeLine by decide), fun q nq => k _ _ (sH.trans (same_new nq)) ?_⟩⟩
        rw [step]
        have ht5 : SqT K H10 t4 (wayV w4) := ht4
        exact .tup (SqT.of upd_same) (.cons (.int _) (.cons (.tup (sqt_same (same_new nq) ht5) (wayV_tr w4)) .nil))
    · rintro σ H2 ⟨v3, v4, v5, ns, rfl, s2, _, _, e2⟩
      have e0 : ts.drop xs.length = [] := by rw [tr.len, List.drop_length]
      rw [e0] at e2
      have q := k .non H2 s2
      rw [e2] at q
      exact q .non
end
end BK


set_option Elab.async false
set_option maxRecDepth 100000
set_option maxHeartbeats 2000000
/-! fault_of, need_book, is_book. -/
namespace BK
open PySem PySem.Spec PyProof.Rows L2 RZ ET
def faultT : Tr → Option Place
  | .tup [.tup vs, .tup ps] => if 6 < ps.length then some .empty else if 1 ≤ vs.length ∧ vs.length ≤ 3 ∧ diffT vs = true then piecesL (texts vs) ps 0 [] else some .vars
  | _ => some .empty
def spFaultOf (K : PySem.W.Frag) : Sp := fun vs H Q _ => ∃ v t, vs = [v] ∧ TrAt K H v t ∧ ∀ u H', Same H H' → TrAt K H' u (resT (faultT t)) → Q u H'
abbrev sFaultOf : Stmt := top 39
abbrev sNeed : Stmt := top 40
abbrev sBadInit : Stmt := inClass (top 3) 0
theorem scFaultOf : FnScope ["thing", "variables", "pieces"] ["thing"] (defScope sFaultOf) := ⟨rfl, rfl, rfl, by decide +kernel, rfl, by decide +kernel, by decide +kernel⟩
theorem scNeed : FnScope ["thing", "place"] ["thing"] (defScope sNeed) := ⟨rfl, rfl, rfl, by decide +kernel, rfl, by decide +kernel, by decide +kernel⟩
theorem scBadInit : FnScope ["self", "place"] ["self", "place"] (defScope sBadInit) := ⟨rfl, rfl, rfl, by decide +kernel, rfl, by decide +kernel, by decide +kernel⟩
structure MostB (mg : Str → Option Value) : Prop where
  mp : ∃ t, mg "MOST_PIECES" = some (.int 6 t)
  mv : ∃ t, mg "MOST_VARS" = some (.int 3 t)
def isBookT (t : Tr) : Bool := (faultT t).isNone
section
variable {P : Program} {w : World} {K : PySem.W.Frag} {mg : Str → Option Value} {base : Heap}
theorem ok_faultOf {f fT fD fP : Addr} {fd fdT fdD fdP : FuncData} (F : Fun K "fault_of" "fault_of" sFaultOf f fd) (T : Forms mg) (M : MostB mg)
    (GT : FnOk P w K mg base CX0 1 fT fdT ["thing", "count"] (spTuple K)) (bT : Binds K fdT ["thing", "count"] []) (gT : mg "is_tuple" = some (.ref fT)) (kT : PySem.W.keepIn K (.ref fT) = true)
    (GD : FnOk P w K mg base CX0 2 fD fdD ["things"] (spDiff K)) (bD : Binds K fdD ["things"] []) (gD : mg "are_different_names" = some (.ref fD)) (kD : PySem.W.keepIn K (.ref fD) = true)
    (GP : FnOk P w K mg base CX0 15 fP fdP ["variables", "pieces"] (spPieces K)) (bP : Binds K fdP ["variables", "pieces"] []) (gP : mg "fault_of_pieces" = some (.ref fP)) (kP : PySem.W.keepIn K (.ref fP) = true) :
    FnOk P w K mg base CX0 16 f fd ["thing"] (spFaultOf K) := by
  refine F.ok scFaultOf (fun vs H Q E h => ?_) (fun cdv A outer s H vs Q E hr h => ?_)
  · obtain ⟨v, t, rfl, _⟩ := h
    rfl
  · obtain ⟨v, t, rfl, ht, k⟩ := h
    obtain ⟨t1, gM⟩ := M.mp
    obtain ⟨t2, gV⟩ := M.mv
    have hr1 : Room 1 _ := hr.mono (by decide)
    have hr2 : Room 2 _ := hr.mono (by decide)
    refine ⟨_, C8.pss_cut (ps_if (PW.pt (pw_or (pt_not (pt_val (pe_call GT hr1 rfl gT kT bT .nil pass0 (pa_cons (pv 0) (pa_cons pe_int pa_nil)))))
        (pw_or (pt_not (pt_val (pe_callB call_isi (by rfl) T.isi boot_isinstance (pa_cons (pe_ix ix_tup (pv 0) pe_int (fun _ _ => rfl)) (pa_cons (pe_bltn (v := .ty "tuple") (u := .type "tuple") (by rfl) T.tuple (by decide +kernel) rfl) pa_nil)))))
        (pw_or1 (pt_not (pt_val (pe_callB call_isi (by rfl) T.isi boot_isinstance (pa_cons (pe_ix ix_tup (pv 0) pe_int (fun _ _ => rfl)) (pa_cons (pe_bltn (v := .ty "tuple") (u := .type "tuple") (by rfl) T.tuple (by decide +kernel) rfl) pa_nil))))))))) (pss_one (ps_ret (pe_tup pa_nil))) pss_nil)
      (pss_cons (ps_asg (pv 0) (pg_tup rfl (pgs_cons (pg_name (i := 1) scFaultOf.nd rfl (Or.inl rfl)) (pgs_cons (pg_name (i := 2) scFaultOf.nd rfl (Or.inl rfl)) pgs_nil))))
      (pss_cons (ps_if (pt_cmpR op_gt (pe_callB call_len_seq (by rfl) T.len boot_len (pa_cons (pv 2) pa_nil)) (pe_glob (v := .int 6) rfl gM ⟨_, rfl⟩) rfl) (pss_one (ps_ret (pe_tup pa_nil))) pss_nil)
      (C8.pss_cut (ps_if (PW.pt (pw_or (pt_not (pt_chain op_le op_le pe_int (pe_callB call_len_seq (by rfl) T.len boot_len (pa_cons (pv 1) pa_nil)) (pe_glob (v := .int 3) rfl gV ⟨_, rfl⟩)))
        (pw_or1 (pt_not (pt_val (pe_call GD hr2 rfl gD kD bD .nil pass0 (pa_cons (pv 1) pa_nil))))))) (pss_one (ps_ret (pe_tup (pa_cons pe_str pa_nil)))) pss_nil)
      (pss_one (ps_ret (pe_call GP hr rfl gP kP bP .nil pass0 (pa_cons (pv 1) (pa_cons (pv 2) pa_nil)))))))), ?_⟩
    have emp : ∀ H1, Same H H1 → faultT t = some .empty → ([] : List V).length ≤ sizeLine ∧ ∀ p, H1 p = none → Q (.ref p) (upd H1 p (.tup [])) := fun H1 s1 e => by
      refine ⟨Nat.zero_le _, fun p np => k _ _ (s1.trans (same_new np)) ?_⟩
      rw [e]
      exact .tup (SqT.of upd_same) .nil
    refine ⟨fun σ H1 => ∃ (a va pa : Addr) (vs ps : List V) (tv tp : List Tr), σ = [some (.ref a), none, none] ∧ H1 = H ∧ t = .tup [.tup tv, .tup tp] ∧ SqT K H a [.ref va, .ref pa] ∧ SqT K H va vs ∧ TrAll K H vs tv ∧ SqT K H pa ps ∧ TrAll K H ps tp, ?_, ?_⟩
    · refine ⟨_, rfl, v, t, 2, rfl, ht, _, rfl, ?_⟩
      cases ht with
      | int i => exact iteT (emp H (fun _ _ e => e) rfl)
      | bl b => exact iteT (emp H (fun _ _ e => e) rfl)
      | str z hz => exact iteT (emp H (fun _ _ e => e) rfl)
      | non => exact iteT (emp H (fun _ _ e => e) rfl)
      | lst h => exact iteT (emp H (fun _ _ e => e) rfl)
      | dct h => exact iteT (emp H (fun _ _ e => e) rfl)
      | @tup a xs ts h tr =>
      by_cases l2 : ts.length = 2
      · obtain ⟨x1, x2, rfl⟩ : ∃ x1 x2, ts = [x1, x2] := by
          match ts, l2 with
          | [x1, x2], _ => exact ⟨x1, x2, rfl⟩
        refine iteF ?_
        cases tr with
        | @cons y1 _ _ _ h1 r1 =>
        cases r1 with
        | @cons y2 _ _ _ h2 r2 =>
        cases r2 with
        | nil =>
        refine ⟨_, rfl, a, _, 0, y1, rfl, rfl, h, at_of (j := 0) rfl rfl, y1, .ty "tuple", .type (tyT x1), .type "tuple", isTup x1, rfl, .ty "tuple", h1.ty, k_tup K x1, _, rfl, ?_⟩
        cases e1 : isTup x1 with
        | false =>
          refine iteT (emp H (fun _ _ e => e) ?_)
          cases x1 with
          | tup _ => cases e1
          | _ => rfl
        | true =>
          refine iteF ⟨_, rfl, a, _, 1, y2, rfl, rfl, h, at_of (j := 1) rfl rfl, y2, .ty "tuple", .type (tyT x2), .type "tuple", isTup x2, rfl, .ty "tuple", h2.ty, k_tup K x2, _, rfl, ?_⟩
          cases e2 : isTup x2 with
          | false =>
            refine iteT (emp H (fun _ _ e => e) ?_)
            cases x2 with
            | tup _ => cases e2
            | _ => cases x1 <;> rfl
          | true =>
            cases h1 with
            | @tup va vs tv hv tv' =>
              cases h2 with
              | @tup pa ps tp hp tp' => exact iteF ⟨a, va, pa, vs, ps, tv, tp, rfl, rfl, rfl, h, hv, tv', hp, tp'⟩
              | _ => cases e2
            | _ => cases e1
      · have e0 : decide ((ts.length : Int) = 2) = false := decide_eq_false (by omega)
        show (if (!decide ((ts.length : Int) = 2)) = true then _ else _)
        rw [e0]
        refine iteT (emp H (fun _ _ e => e) ?_)
        match ts, l2 with
        | [], _ => rfl
        | [x1], _ => cases x1 <;> rfl
        | [_, _], h => exact absurd rfl h
        | x1 :: x2 :: _ :: _, _ => cases x1 <;> cases x2 <;> rfl
    rintro σ H1 ⟨a, va, pa, vs, ps, tv, tp, rfl, rfl, rfl, ha, hv, tv', hp, tp'⟩
    have vl := tv'.len
    have pl := tp'.len
    refine ⟨_, rfl, a, _, rfl, ha, rfl, _, _, rfl, _, _, rfl, rfl, ?_⟩
    refine ⟨_, rfl, pa, _, rfl, .inr hp, _, _, rfl, rfl, _, rfl, ?_⟩
    rw [show decide ((ps.length : Int) > 6) = decide (6 < ps.length) from gt_cast ps.length 6, pl]
    refine ite2 (fun z => ?_) (fun z => ?_)
    · have z := of_decide_eq_true z
      refine emp H1 (fun _ _ e => e) ?_
      show (if 6 < tp.length then some Place.empty else _) = _
      rw [if_pos z]
    have n6 : ¬ 6 < tp.length := fun q => z (decide_eq_true q)
    have eF : faultT (.tup [.tup tv, .tup tp]) = if 1 ≤ tv.length ∧ tv.length ≤ 3 ∧ diffT tv = true then piecesL (texts tv) tp 0 [] else some .vars := by
      show (if 6 < tp.length then some Place.empty else _) = _
      rw [if_neg n6]
    have bad : ∀ H2, Same H1 H2 → ¬ (1 ≤ tv.length ∧ tv.length ≤ 3 ∧ diffT tv = true) → 1 ≤ sizeLine ∧ ∀ p, H2 p = none → Q (.ref p) (upd H2 p (.tup [.str "vars"])) := fun H2 s2 hn => by
      refine ⟨by decide, fun p np => k _ _ (s2.trans (same_new np)) ?_⟩
      rw [eF, if_neg hn]
      exact .tup (SqT.of upd_same) (.cons (.str _ (by decide +kernel)) .nil)
    refine ⟨fun σ H2 => σ = [some (.ref a), some (.ref va), some (.ref pa)] ∧ Same H1 H2 ∧ 1 ≤ tv.length ∧ tv.length ≤ 3 ∧ diffT tv = true, ?_, ?_⟩
    · refine ⟨_, rfl, va, _, rfl, .inr hv, _, _, rfl, rfl, _, rfl, ?_⟩
      refine ite2 (fun z1 => ?_) (fun z1 => ?_)
      · have z1 : (1 : Int) ≤ (vs.length : Int) := of_decide_eq_true z1
        refine ⟨_, _, rfl, rfl, _, rfl, ?_⟩
        refine ite2 (fun z2 => ?_) (fun z2 => ?_)
        · have z2 : ¬ ((vs.length : Int) ≤ 3) := by simpa using z2
          exact bad H1 (fun _ _ e => e) fun q => by omega
        · have z2 : (vs.length : Int) ≤ 3 := by simpa using z2
          refine ⟨_, rfl, va, vs, tv, rfl, .inr hv, tv', by omega, fun H2 s2 => ⟨_, rfl, ?_⟩⟩
          cases ed : diffT tv with
          | false => exact iteT (bad H2 s2 fun q => by rw [ed] at q; cases q.2.2)
          | true => exact iteF ⟨rfl, s2, by omega, by omega, rfl⟩
      · have z1 : ¬ ((1 : Int) ≤ (vs.length : Int)) := fun q => z1 (decide_eq_true q)
        exact ⟨_, rfl, iteT (bad H1 (fun _ _ e => e) fun q => by omega)⟩
    rintro σ H2 ⟨rfl, s2, l1, l3, ed⟩
    have exs : vs = (texts tv).map V.str := by
      unfold diffT at ed
      exact names_texts tv' (Bool.and_eq_true_iff.mp ed).1
    refine ⟨_, rfl, _, rfl, va, pa, texts tv, ps, tp, rfl, ?_, sqt_same s2 hp, tp'.same s2, by omega, fun u H3 s3 tu => k u H3 (s2.trans s3) ?_⟩
    · rw [← exs]; exact sqt_same s2 hv
    · rw [eF, if_pos ⟨l1, l3, ed⟩]
      exact tu
/-! BadBook -/
def spBadI (K : PySem.W.Frag) (C : Addr) : Sp := fun vs H Q _ => ∃ a v, vs = [.ref a, v] ∧ H a = some (exo a C none) ∧ ∀ dx, H dx = none → dx ≠ a → Q .non (upd (upd H dx (exd dx [("place", v)])) a (exo a C (some dx)))
theorem ok_badInit {C f : Addr} {fd : FuncData} (F : Fun K "__init__" "BadBook.__init__" sBadInit f fd) (T : OexC K C) (np : PySem.W.findIn K (.ref C) "place" = some none) : FnOk P w K mg base CX0 1 f fd ["self", "place"] (spBadI K C) := by
  refine F.ok scBadInit (fun vs H Q E h => ?_) (fun cdv A outer s H vs Q E hr h => ?_)
  · obtain ⟨a, v, rfl, _⟩ := h
    rfl
  · obtain ⟨a, v, rfl, ha, k⟩ := h
    refine ⟨_, pss_one (ps_ost (pv 0) (pv 1)), ?_⟩
    exact ⟨_, rfl, _, rfl, a, C, rfl, T, np, .inl ⟨ha, fun dx nd ne => k dx nd ne⟩⟩
def spNeed (K : PySem.W.Frag) (CB : Addr) : Sp := fun vs H Q E => ∃ v t, vs = [v] ∧ TrAt K H v t ∧ (faultT t = none → ∀ H', Same H H' → Q v H') ∧
  ∀ p, faultT t = some p → ∀ pv d H', Same H H' → H d = none → H' d = some (.xd [("place", pv)]) → TrAt K H' pv (placeT p) → E (.ref CB) (some d) H'
theorem ok_need {CB f fO fI : Addr} {fd fdO fdI : FuncData} (F : Fun K "need_book" "need_book" sNeed f fd) (GO : FnOk P w K mg base CX0 16 fO fdO ["thing"] (spFaultOf K)) (bO : Binds K fdO ["thing"] []) (gO : mg "fault_of" = some (.ref fO)) (kO : PySem.W.keepIn K (.ref fO) = true)
    (T : OexC K CB) (gB : mg "BadBook" = some (.ref CB)) (iC : PySem.W.findIn K (.ref CB) "__init__" = some (some (.ref fI))) (tI : PySem.W.typeIn K (.ref fI) = some (.type "function")) (GI : FnOk P w K mg base CX0 1 fI fdI ["self", "place"] (spBadI K CB)) (bI : Binds K fdI ["self", "place"] []) :
    FnOk P w K mg base (L2.CX P w) 17 f fd ["thing"] (spNeed K CB) := by
  refine F.okX scNeed (fun vs H Q E h => ?_) (fun cdv A outer s H vs Q E hr h => ?_)
  · obtain ⟨v, t, rfl, _⟩ := h
    rfl
  · obtain ⟨v, t, rfl, ht, k1, k2⟩ := h
    have hr2 : Room 2 _ := hr.mono (by decide)
    refine ⟨_, pss_cons (ps_set (i := 1) scNeed.nd rfl (Or.inl rfl) (pe_call GO hr rfl gO kO bO .nil pass0 (pa_cons (pv 0) pa_nil)))
      (pss_cons (ps_if (pt_cmp (pc_notN (pv 1))) (pss_one (ps_raise rfl (takes_of rfl rfl rfl rfl) (pmk_oex T iC tI GI hr2 bI .nil pass0 (by rfl) gB (pa_cons (pv 1) pa_nil)))) pss_nil)
      (pss_one (ps_ret (pv 0)))), ?_⟩
    refine ⟨_, rfl, v, t, rfl, ht, fun u H1 s1 tu => ?_⟩
    cases e : faultT t with
    | none =>
      rw [e] at tu
      have tu : TrAt K H1 u .non := tu
      cases tu
      exact ⟨_, rfl, _, rfl, iteF ⟨_, rfl, k1 e H1 s1⟩⟩
    | some p =>
      rw [e] at tu
      have tu : TrAt K H1 u (placeT p) := tu
      have : ∃ a, u = .ref a := by
        cases p <;> (cases tu; exact ⟨_, rfl⟩)
      obtain ⟨a, rfl⟩ := this
      refine ⟨_, rfl, _, rfl, iteT ⟨_, rfl, (show 1 ≤ 1000 by decide), fun b nb => ⟨b, .ref a, rfl, upd_same, fun d nd ne => ⟨rfl, d, _, upd_same, by rw [upd_ne ne, upd_same], ?_, ?_⟩⟩⟩⟩
      · rw [upd_ne ne] at nd; exact nd
      · rw [upd_ne ne] at nd
        have sm : Same H1 (upd (del (upd (upd (upd H1 b (exo b CB none)) d (exd d [("place", .ref a)])) b (exo b CB (some d))) b) d (.xd [("place", .ref a)])) := fun c o ec => by
          have h1 := ne_of_none ec nb
          have h2 := ne_of_none ec nd
          rw [upd_ne h2, del_ne h1, upd_ne h1, upd_ne h2, upd_ne h1]
          exact ec
        exact k2 p e (.ref a) d _ (s1.trans sm) (s1.free nd) upd_same (tu.same sm)
end
end BK


set_option Elab.async false
set_option maxRecDepth 100000
set_option maxHeartbeats 2000000
set_option linter.unusedVariables false
/-! what is right, is of statements; how many they are -/
namespace BK
open PySem PySem.Spec PyProof.Rows L2
def okD : Nat → List Tr → Prop
  | 0, ts => ts = []
  | d + 1, ts => ∀ t ∈ ts, formT t = true ∧ ∀ b ∈ blocksT t, okD d b
def metD : Nat → List Tr → Nat
  | 0, _ => 0
  | d + 1, ts => (ts.map fun t => 1 + ((blocksT t).map (metD d)).sum).sum
theorem blocksIn_none {f : List Tr → Ck → Fl} {m : List Tr → Nat} {p : List Tr → Prop} (hf : ∀ b c c', f b c = (none, c') → p b ∧ c'.2 = c.2 + m b) : ∀ (bs : List (List Tr)) (j : Nat) (c c' : Ck), blocksIn f bs j c = (none, c') → (∀ b ∈ bs, p b) ∧ c'.2 = c.2 + (bs.map m).sum
  | [], _, c, c', h => by
    cases h
    exact ⟨fun b hb => (by cases hb), rfl⟩
  | b :: r, j, c, c', h => by
    have h : (match f b c with
      | (some w, c') => (some (j :: w), c')
      | (none, c') => blocksIn f r (j + 1) c') = (none, c') := h
    cases e : f b c with
    | mk x c1 =>
    rw [e] at h
    cases x with
    | some w => cases h
    | none =>
      obtain ⟨h1, h2⟩ := hf b c c1 e
      obtain ⟨h3, h4⟩ := blocksIn_none hf r (j + 1) c1 c' h
      refine ⟨fun z hz => ?_, ?_⟩
      · rcases List.mem_cons.mp hz with rfl | hz
        · exact h1
        · exact h3 z hz
      · rw [List.map_cons, List.sum_cons]
        omega
theorem takes_form {vars : List Str} {t : Tr} {as : List Str} {m m' : Km} {n : Nat} (h : takesT vars t as m n = (true, m')) : formT t = true ∧ n ≤ 16 ∧ as.length ≤ 4 := by
  unfold takesT at h
  by_cases z : 16 < n ∨ 4 < as.length
  · rw [if_pos z] at h
    cases h
  · rw [if_neg z] at h
    have z1 : ¬ 16 < n := fun q => z (.inl q)
    have z2 : ¬ 4 < as.length := fun q => z (.inr q)
    split at h
    · rename_i x rest
      cases ek : kindsOf x with
      | none => rw [ek] at h; cases h
      | some ks =>
        rw [ek] at h
        simp only at h
        by_cases ef : fitsT rest ks = true
        · refine ⟨?_, by omega, by omega⟩
          show (match kindsOf x with
            | some ks => fitsT rest ks
            | none => false) = true
          rw [ek]
          exact ef
        · rw [if_neg ef] at h
          cases h
    · cases h
theorem faultL_none {vars : List Str} {rec : List Tr → List Str → Ck → Fl} {as : List Str} {m : List Tr → Nat} {p : List Tr → Prop} (hf : ∀ w b c c', as.length ≤ 4 → rec b (as ++ [w]) c = (none, c') → p b ∧ c'.2 = c.2 + m b) : ∀ (ts : List Tr) (i : Nat) (c c' : Ck), faultL vars rec as ts i c = (none, c') →
    (∀ t ∈ ts, formT t = true ∧ as.length ≤ 4 ∧ ∀ b ∈ blocksT t, p b) ∧ c'.2 = c.2 + (ts.map fun t => 1 + ((blocksT t).map m).sum).sum
  | [], _, c, c', h => by
    cases h
    exact ⟨fun b hb => (by cases hb), rfl⟩
  | t :: r, i, c, c', h => by
    have h : (match takesT vars t as c.1 (c.2 + 1) with
      | (false, m) => (some [i], (m, c.2 + 1))
      | (true, m) => match blocksIn (fun b c => rec b (as ++ [wordS t]) c) (blocksT t) 0 (m, c.2 + 1) with
        | (some w, c') => (some (i :: w), c')
        | (none, c') => faultL vars rec as r (i + 1) c') = (none, c') := h
    cases e : takesT vars t as c.1 (c.2 + 1) with
    | mk b k =>
    rw [e] at h
    cases b with
    | false => cases h
    | true =>
      obtain ⟨f1, f2, f3⟩ := takes_form e
      simp only at h
      cases e2 : blocksIn (fun b c => rec b (as ++ [wordS t]) c) (blocksT t) 0 (k, c.2 + 1) with
      | mk x c1 =>
      rw [e2] at h
      cases x with
      | some w => cases h
      | none =>
        obtain ⟨h1, h2⟩ := blocksIn_none (m := m) (p := p) (fun b c c' hb => hf _ b c c' f3 hb) _ _ _ _ e2
        obtain ⟨h3, h4⟩ := faultL_none hf r (i + 1) c1 c' h
        refine ⟨fun z hz => ?_, ?_⟩
        · rcases List.mem_cons.mp hz with rfl | hz
          · exact ⟨f1, f3, h1⟩
          · exact h3 z hz
        · rw [List.map_cons, List.sum_cons]
          have h2 : c1.2 = c.2 + 1 + ((blocksT t).map m).sum := h2
          omega
theorem fault_ok (vars : List Str) : ∀ (d : Nat) (ts : List Tr) (as : List Str) (c c' : Ck), as.length + d = 5 → faultD vars d ts as c = (none, c') → okD d ts ∧ c'.2 = c.2 + metD d ts
  | 0, ts, as, c, c', hl, h => by
    rw [faultD_eq] at h
    obtain ⟨h1, h2⟩ := faultL_none (m := fun _ => 0) (p := fun _ => True) (fun w b c c' q _ => absurd q (by omega)) ts 0 c c' h
    cases ts with
    | nil => cases h; exact ⟨rfl, rfl⟩
    | cons t r => exact absurd (h1 t List.mem_cons_self).2.1 (by omega)
  | d + 1, ts, as, c, c', hl, h => by
    rw [faultD_eq] at h
    obtain ⟨h1, h2⟩ := faultL_none (rec := faultD vars d) (m := metD d) (p := okD d) (fun w b c c' q hb => fault_ok vars d b (as ++ [w]) c c' (by simp; omega) hb) ts 0 c c' h
    exact ⟨fun t ht => ⟨(h1 t ht).1, (h1 t ht).2.2⟩, h2⟩
/-- no more than sixteen are met -/
theorem faultL_few {vars : List Str} {rec : List Tr → List Str → Ck → Fl} {as : List Str} (hf : ∀ b as c, c.2 ≤ 16 → (rec b as c).1 = none → (rec b as c).2.2 ≤ 16) : ∀ (ts : List Tr) (i : Nat) (c : Ck), c.2 ≤ 16 → (faultL vars rec as ts i c).1 = none → (faultL vars rec as ts i c).2.2 ≤ 16
  | [], _, c, hc, _ => hc
  | t :: r, i, c, hc, h => by
    unfold faultL at h ⊢
    cases e : takesT vars t as c.1 (c.2 + 1) with
    | mk b k =>
    rw [e] at h
    cases b with
    | false => cases h
    | true =>
      obtain ⟨_, f2, _⟩ := takes_form e
      simp only at h ⊢
      have bl : ∀ (bs : List (List Tr)) (j : Nat) (c : Ck), c.2 ≤ 16 → (blocksIn (fun b c => rec b (as ++ [wordS t]) c) bs j c).1 = none → (blocksIn (fun b c => rec b (as ++ [wordS t]) c) bs j c).2.2 ≤ 16 := by
        intro bs
        induction bs with
        | nil => exact fun _ c hc _ => hc
        | cons b bs ih =>
          intro j c hc h
          unfold blocksIn at h ⊢
          cases e3 : rec b (as ++ [wordS t]) c with
          | mk x c1 =>
          rw [e3] at h
          cases x with
          | some w => cases h
          | none =>
            have := hf b (as ++ [wordS t]) c hc (by rw [e3])
            rw [e3] at this
            exact ih (j + 1) c1 this h
      cases e2 : blocksIn (fun b c => rec b (as ++ [wordS t]) c) (blocksT t) 0 (k, c.2 + 1) with
      | mk x c1 =>
      rw [e2] at h
      cases x with
      | some w => cases h
      | none =>
        have := bl (blocksT t) 0 (k, c.2 + 1) f2 (by rw [e2])
        rw [e2] at this
        exact faultL_few hf r (i + 1) c1 this h
theorem faultD_few (vars : List Str) : ∀ (d : Nat) (ts : List Tr) (as : List Str) (c : Ck), c.2 ≤ 16 → (faultD vars d ts as c).1 = none → (faultD vars d ts as c).2.2 ≤ 16
  | 0, ts, as, c, hc, h => by
    rw [faultD_eq] at h ⊢
    exact faultL_few (fun _ _ _ hc _ => hc) ts 0 c hc h
  | d + 1, ts, as, c, hc, h => by
    rw [faultD_eq] at h ⊢
    exact faultL_few (fun b as c hc h => faultD_few vars d b as c hc h) ts 0 c hc h
/-- of a right piece: its statements, at most sixteen -/
theorem block_right {vars : List Str} {ts : List Tr} {km : Km} (h : (faultD vars 5 ts [] (km, 0)).1 = none) : okD 5 ts ∧ metD 5 ts ≤ 16 := by
  cases e : faultD vars 5 ts [] (km, 0) with
  | mk x c' =>
  rw [e] at h
  have h : x = none := h
  subst h
  obtain ⟨h1, h2⟩ := fault_ok vars 5 ts [] (km, 0) c' rfl e
  have h3 := faultD_few vars 5 ts [] (km, 0) (Nat.zero_le _) (by rw [e])
  rw [e] at h3
  have h2 : c'.2 = 0 + metD 5 ts := h2
  have h3 : c'.2 ≤ 16 := h3
  exact ⟨h1, by omega⟩
end BK

set_option Elab.async false
set_option maxRecDepth 100000
set_option maxHeartbeats 4000000
set_option linter.unusedVariables false
/-! what a right book is -/
namespace BK
open PySem PySem.Spec PyProof.Rows L2
theorem no_value {w : Str} {ks : List Str} (h : kindsOf w = some ks) : ("value" : Str) ∉ ks := by
  have all : (kindTab.all fun e => decide (("value" : Str) ∉ e.2)) = true := by decide +kernel
  unfold kindsOf at h
  cases e : kindTab.find? fun e => decide (e.1 = w) with
  | none => rw [e] at h; cases h
  | some x =>
    rw [e] at h
    have q : x.2 = ks := Option.some.inj h
    rw [← q]
    exact of_decide_eq_true (List.all_eq_true.mp all x (List.mem_of_find?_eq_some e))
theorem word_few {w : Str} {ks : List Str} (h : kindsOf w = some ks) : w.length ≤ 20 := by
  have all : (kindTab.all fun e => decide (e.1.length ≤ 20)) = true := by decide +kernel
  unfold kindsOf at h
  cases e : kindTab.find? fun e => decide (e.1 = w) with
  | none => rw [e] at h; cases h
  | some x =>
    have q : x.1 = w := of_decide_eq_true (List.find?_some (p := fun e : Str × List Str => decide (e.1 = w)) e)
    rw [← q]
    exact of_decide_eq_true (List.all_eq_true.mp all x (List.mem_of_find?_eq_some e))
theorem name_short {s : Str} (h : nameS s = true) : s.length ≤ 20 := by
  unfold nameS at h
  rw [Bool.and_eq_true, Bool.and_eq_true, decide_eq_true_eq, decide_eq_true_eq] at h
  have := h.1.2
  omega
theorem pieces_right {vars : List Str} : ∀ (ts : List Tr) (i : Nat) (ns : List Str), piecesL vars ts i ns = none → ∀ t ∈ ts, tripleT t = true ∧ okD 5 (blockOf t) ∧ metD 5 (blockOf t) ≤ 16
  | [], _, _, _, t, ht => by cases ht
  | t :: r, i, ns, h, u, hu => by
    have h : (if tripleT t = true ∧ wordS t ∉ ns then
      match (faultD vars 5 (blockOf t) [] (kindsP (paramsOf t), 0)).1 with
      | some w => some (.way i w)
      | none => piecesL vars r (i + 1) (ns ++ [wordS t])
    else some (.at_ i)) = none := h
    by_cases z : tripleT t = true ∧ wordS t ∉ ns
    · rw [if_pos z] at h
      cases e : (faultD vars 5 (blockOf t) [] (kindsP (paramsOf t), 0)).1 with
      | some w => rw [e] at h; cases h
      | none =>
        rw [e] at h
        rcases List.mem_cons.mp hu with rfl | hu
        · exact ⟨z.1, block_right e⟩
        · exact pieces_right r _ _ h u hu
    · rw [if_neg z] at h
      cases h
theorem book_right {t : Tr} (h : faultT t = none) : ∃ vs ps, t = .tup [.tup vs, .tup ps] ∧ ps.length ≤ 6 ∧ vs.length ≤ 3 ∧ vs.all nameT = true ∧ ∀ u ∈ ps, tripleT u = true ∧ okD 5 (blockOf u) ∧ metD 5 (blockOf u) ≤ 16 := by
  unfold faultT at h
  split at h
  · rename_i vs ps
    split at h
    · cases h
    · rename_i n6
      split at h
      · rename_i z
        refine ⟨vs, ps, rfl, by omega, z.2.1, ?_, pieces_right ps 0 [] h⟩
        have := z.2.2
        unfold diffT at this
        exact (Bool.and_eq_true_iff.mp this).1
      · cases h
  · cases h
end BK

set_option Elab.async false
set_option linter.all false
set_option maxRecDepth 100000
set_option maxHeartbeats 2000000
/-! try: .. except (four classes) as e: c = e, the error held behind the suite; what is asked of it. -/
namespace BK
open PySem PySem.Spec PyProof.Rows L2
theorem flying_keeps {B h h' : Heap} {l : List Env} {e : Addr} {Z : Obj → Prop} (R : HandSPX.FlyingZ B l e Z h) (k : ∀ b o, h.get? b = some o → h'.get? b = some o) : HandSPX.FlyingZ B l e Z h' := by
  obtain ⟨f1, f2, f3, oe, ws, T, oT, ts, he, hc, hd, h1, hn, hne, hT, hdT, h3⟩ := R
  exact ⟨fun b o q => k b o (f1 b o q), f2, f3.of_keeps fun b o q _ => ⟨o, k b o q, rfl⟩, oe, ws, T, oT, ts, k _ _ he, hc, hd, h1, hn, hne, k _ _ hT, hdT, h3⟩
/-- an error of the class cls with its own dict d stands at a -/
def EO (a : Addr) (cls : Value) (d : Option Addr) : HO := .ext fun h => ∃ (oe : Obj) (vs : Array Value), h.get? a = some oe ∧ oe.cls = cls ∧ oe.dict = d ∧ oe.data = .fields vs
theorem eo_ok {P : Program} {w : World} {H : Hp} {h : Heap} {a : Addr} {cls : Value} {d : Option Addr} {oe : Obj} {vs : Array Value} (he : h.get? a = some oe) (hc : oe.cls = cls) (hd : oe.dict = d) (hv : oe.data = .fields vs) : ObjOk P w H h a (EO a cls d) :=
  ⟨⟨oe, vs, he, hc, hd, hv⟩, ⟨_, he⟩, fun h1 h2 z k => by
    obtain ⟨oe, vs, q, r⟩ := z
    exact ⟨oe, vs, k _ q, r⟩⟩
theorem eo_at {P : Program} {w : World} {H : Hp} {h : Heap} {a : Addr} {cls : Value} {d : Option Addr} (hok : HOk P w H h) (he : H a = some (EO a cls d)) : ∃ (oe : Obj) (vs : Array Value), h.get? a = some oe ∧ oe.cls = cls ∧ oe.dict = d ∧ oe.data = .fields vs := by
  have z : ObjOk P w H h a (.ext fun h => ∃ (oe : Obj) (vs : Array Value), h.get? a = some oe ∧ oe.cls = cls ∧ oe.dict = d ∧ oe.data = .fields vs) := hok a _ he
  exact z.1
section
variable {X : Cx} {pins : List (Addr × Obj)} {σ : L2.St} {H : Hp} {s : Shared}
/-- an object that no entry knew is told of from now on -/
theorem inv_track {a : Addr} {o : HO} (I : Inv X pins σ H s) (na : H a = none) (n0 : ∀ u, X.s_0.heap.get? a = some u → a ∈ X.ex ∨ X.H_0 a ≠ none) (nL : a ≠ X.env.locals) (nC : ∀ x c, X.env.cells.lookup x = some c → c ≠ a) (nP : ∀ p ∈ X.pn ++ pins, p.1 ≠ a)
    (ok : ObjOk X.prog X.w (upd H a o) s.heap a o) : Inv X pins σ (upd H a o) s := by
  have at_ : ∀ b u, H b = some u → upd H a o b = some u := fun b u e => by
    rw [upd_ne (ne_of_none e na)]
    exact e
  refine ⟨I.ok, I.os, I.bare, ⟨I.base.keep, I.base.slot, fun b u e n hx => ?_, I.base.there, fun b xs e => at_ _ _ (I.base.tups b xs e), fun b u v e => at_ _ _ (I.base.frzs b u v e), fun b ps e => ?_⟩, I.loc, I.cell, ?_, fun x c e => ?_, fun p hp => ?_, fun b u e => ?_, I.len⟩
  · by_cases hb : b = a
    · rw [hb] at e n hx
      rcases n0 u e with z | z
      · exact absurd z hx
      · exact absurd n z
    · rw [upd_ne hb]
      exact I.base.free b u e n hx
  · obtain ⟨more, e'⟩ := I.base.tbls b ps e
    exact ⟨more, at_ _ _ e'⟩
  · rw [upd_ne nL.symm]
    exact I.free
  · rw [upd_ne (nC x c e)]
    exact I.freeC x c e
  · obtain ⟨h1, h2, h3⟩ := I.pin p hp
    exact ⟨h1, by rw [upd_ne (nP p hp)]; exact h2, h3⟩
  · by_cases hb : b = a
    · rw [hb, upd_same] at e
      cases e
      rw [hb]
      exact ok
    · rw [upd_ne hb] at e
      exact (I.hok b u e).stay (fun _ _ _ q => q) (fun b q => at_ _ _ q) fun b xs q => at_ _ _ q
/-- out of a suite, its error still pinned -/
theorem inv_unsuite {a : Addr} {q : Addr × Obj} {pn' : List (Addr × Obj)} (I : Inv (X.suite a (q :: (X.pn ++ pins))) pn' σ H s) (ok : X.Ok) : Inv X (q :: pins) σ H s :=
  ⟨ok, I.os, I.bare, I.base, I.loc, I.cell, I.free, I.freeC, fun p hp => by
    refine I.pin p (List.mem_append_left _ ?_)
    rcases List.mem_append.mp hp with z | z
    · exact List.mem_cons_of_mem _ (List.mem_append_left _ z)
    · rcases List.mem_cons.mp z with z | z
      · rw [z]
        exact List.mem_cons_self
      · exact List.mem_cons_of_mem _ (List.mem_append_right _ z), I.hok, I.len⟩
end
/-- what 'except x as n: m = n' wishes of an exception of the body: n in slot i, m in slot j -/
def wKeep (K : PySem.W.Frag) (cs : List Value) (len i j : Nat) (Wout : WX) (D : Ends) : WX := fun cls d σ H =>
  ∃ b, PySem.W.exmAny K cls cs = some b ∧ (b = true → σ.length = len → ∀ a, H a = none → D.nx (((σ.set i (some (.ref a))).set j (some (.ref a))).set i none) (upd H a (EO a cls d))) ∧ (b = false → Wout cls d σ H)
section
variable {X : Cx} {x1 x2 x3 x4 n m : Str} {c1 c2 c3 c4 : Value} {i j kk : Nat} {body : List Stmt} {np1 np2 np3 np4 tpos p1 p2 p3 pos pos' : Pos} {tb : WX → TS} {Wout : WX}
theorem ps_try_keep (hs : X.stack = X.env :: X.outer) (hf : X.env.frame = some X.env.locals) (hex : X.ex = []) (hN : X.N.Nodup) (hi : X.N[i]? = some n) (hln : X.env.kindOf n = some .local) (hj : X.N[j]? = some m) (hlm : X.env.scope.names.lookup m = some .local)
    (hlt : i < X.N.length) (hij : i ≠ j) (hc1 : Names X x1 c1) (hc2 : Names X x2 c2) (hc3 : Names X x3 c3) (hc4 : Names X x4 c4) (tk : Takes X Wout)
    (hb : ∀ (W : WX) (pn : List (Addr × Obj)) (xe : Value → Shared → Prop), Takes (X.tr pn xe) W → PassesOwn (model X.prog X.w) X.A X.env xe → PSs (X.tr pn xe) body (tb W))
    (hd1 : (n == ("__debug__" : Str)) = false := by decide) (hd2 : (n == ("__classdict__" : Str)) = false := by decide) :
    PS X (.Try body [.ExceptHandler (some (.Tuple [.Name x1 np1, .Name x2 np2, .Name x3 np3, .Name x4 np4] kk tpos)) (some n) [.Assign [.Name m p1] (.Name n p2) p3] pos'] [] [] pos) (fun D σ H => tb (wKeep X.K [c1, c2, c3, c4] X.N.length i j Wout D) D σ H) := by
  refine ⟨fun pins s σ H D I h => ?_⟩
  have ok := I.ok
  have frm : X.A.frames = some (X.env :: X.outer) := ok.frames.trans (congrArg some hs)
  refine wpAny_Try_except (wpAny_mono ((hb (wKeep X.K [c1, c2, c3, c4] X.N.length i j Wout D) (X.pn ++ pins) (fun e s₁ => wpAny (model X.prog X.w) X.A (noteFrame e X.env) (fun _ s₂ => wpAny (model X.prog X.w) X.A (setFlight e none)
    (fun _ s₃ => wpAny (model X.prog X.w) X.A (handleBy e X.env [.ExceptHandler (some (.Tuple [.Name x1 np1, .Name x2 np2, .Name x3 np3, .Name x4 np4] kk tpos)) (some n) [.Assign [.Name m p1] (.Name n p2) p3] pos']) (SP X pins D) X.xe s₃) X.xe s₂) X.xe s₁)
    (fun u s' air => ?_) PassesOwn.looking).run [] s σ H D (I.toTry _) h) (fun f s1 hsp => ?_) (fun _ _ z => z))
  · -- an error comes out of the body
    obtain ⟨a, B, sI, pins', σ', H', cls, d, rfl, JT, nb, up, sky, na, os, ag, b, hb1, hyes, hno⟩ := air
    have J : Inv X pins σ' H' sI := JT.ofTry ok
    have sky1 : Sky B (X.env :: X.outer) a (Zc cls d) X.env.locals s'.heap := hs ▸ sky
    show wpAny (model X.prog X.w) X.A (noteFrame (.ref a) X.env) _ _ _
    refine Sky.land Zc.steady frm hf sky1 fun hA flA upA => ?_
    have JA : Inv X pins σ' H' { s' with heap := hA } := J.landed nb flA.1 (up.trans upA) os ag
    obtain ⟨oA, vA, getA, zA, dA⟩ := flA.there
    have out : a ∉ frs (X.env :: X.outer) := fun hm => by
      obtain ⟨_, o', e', bad⟩ := flA.2.2.1.mem hm
      rw [getA] at e'
      cases e'
      exact bad _ dA
    have nL : a ≠ X.env.locals := fun z => out (List.mem_filterMap.mpr ⟨X.env, List.mem_cons_self, by rw [hf, z]⟩)
    have nF : a ∉ X.fs := fun hm => by
      obtain ⟨e, he, q⟩ := List.mem_filterMap.mp hm
      exact out (List.mem_filterMap.mpr ⟨e, List.mem_cons_of_mem _ he, q⟩)
    have noB : ∀ o, sI.heap.get? a = some o → False := fun o e => by
      have z := nb a o e (by rw [hs]; exact out)
      rw [flA.2.1] at z
      cases z
    have SA := JA.suite getA dA na nL nF
    refine wpAny_handleBy_cons (codeAny_handlers_test ?_) (by intro q; cases q)
    have name : ∀ {x : Str} {c : Value} {np : Pos} {Q : Value → Shared → Prop} {E : Value → Shared → Prop}, Names X x c → Q c { s' with heap := hA } → wpAny (model X.prog X.w) (X.A.mark (some (.ref a))) (eval (.Name x np) X.env) Q E { s' with heap := hA } := fun {x c np Q E} hc q => by
      obtain ⟨hg, hdbg, hm | ⟨hm, hv, hnn⟩⟩ := hc
      · exact ld_glob (X := X.suite a ((a, oA) :: (X.pn ++ pins))) SA hg hm q hdbg
      · exact ld_blt (X := X.suite a ((a, oA) :: (X.pn ++ pins))) SA hg hm hv q hnn hdbg
    refine wpAny_Tuple ?_
    refine wpAny_items_cons (name hc1 ?_)
    refine wpAny_items_cons (name hc2 ?_)
    refine wpAny_items_cons (name hc3 ?_)
    refine wpAny_items_cons (name hc4 ?_)
    refine wpAny_items_nil ⟨by size_fits, ?_⟩
    have kp : ∀ q o, hA.get? q = some o → (hA.push { cls := .type "tuple", data := .seq [c1, c2, c3, c4].toArray }).get? q = some o := fun _ _ z => Heap.get?_push_of_some _ z
    have LT : PySem.W.Looks (model X.prog X.w) hA (typeOf (.ref a)) cls := fun A Q E s k q => wpAny_typeOf_ref (k _ _ getA) (by rw [zA.1]; exact q)
    refine (PySem.W.exm_tup4 (fun c o e => kp c o (JA.kIn c o e)) (LT.keeps kp) (Heap.get?_push_size hA rfl) hb1).here ?_
    have flA := flying_keeps flA kp
    have upA : s'.heap.UpToSlots (hA.push { cls := .type "tuple", data := .seq [c1, c2, c3, c4].toArray }) := upA.trans fun c o e _ => ⟨o.slots, kp c o e⟩
    clear SA JA LT name
    dsimp only
    generalize hA.push { cls := .type "tuple", data := .seq [c1, c2, c3, c4].toArray } = hT at flA upA ⊢
    cases b with
    | false =>
      show wpAny _ X.A (handleBy (.ref a) X.env []) _ _ _
      refine wpAny_handleBy_nil ?_
      obtain ⟨_, _, _, oe, vs, T, oT, _, he, _, hd, h1, _⟩ := id flA
      have fin : wpAny (model X.prog X.w) X.A (setFlight (.ref a) X.env.frame) (fun _ s4 => wpAny (model X.prog X.w) X.A (throw (.ref a) : Sem Flow) (SP X pins D) X.xe s4) X.xe { s' with heap := hT } := by
        rw [hf]
        exact HandSPX.setFlight_upZ flA fun hB fB upB => wpAny_throw (tk _ _ ⟨a, B, sI, pins, σ', H', cls, d, rfl, J, nb, (up.trans upA).trans upB, .inr (.inr (by rw [hs]; exact fB)), na, os, ag, hno rfl⟩)
      unfold PySem.passOn
      refine wpAny_bind (wpAny_field he hd h1 ?_)
      rw [if_neg (show ¬ ((Value.ref T == Value.none) = true) from by simp)]
      first
        | exact wpAny_bind (wpAny_pure (wpAny_bind fin))
        | exact wpAny_bind fin
    | true =>
      refine codeAny_handlers_suite_as (HandSPX.lands_againZ flA fun hB flB upB => ?_)
      have JB : Inv X pins σ' H' { s' with heap := hB } := J.landed nb flB.1 ((up.trans upA).trans upB) os ag
      obtain ⟨oB, vB, getB, zB, dB⟩ := flB.there
      refine store_ok (X := X.suite a ((a, oB) :: (X.pn ++ pins))) (v := .ref a) (JB.suite getB dB na nL nF) hN hi (.inl hln) rfl (fun s5 S5 => ?_) (.inr hln)
      have li : i < σ'.length := by rw [J.len]; exact hlt
      have put : PSs (X.suite a ((a, oB) :: (X.pn ++ pins))) [.Assign [.Name m p1] (.Name n p2) p3] (tAsg (tVar i) (gName j)) := pss_one (ps_set (hf := .inr hlm) hN hj (.inl hlm) (pe_var hi (.inl hln) hd1 hd2))
      refine wpAny_mono (put.run [] s5 _ H' { nx := fun σ6 H6 => σ6 = (σ'.set i (some (.ref a))).set j (some (.ref a)) ∧ H6 = H', rt := fun _ _ => False, bk := fun _ _ => False, ct := fun _ _ => False } S5 ⟨_, List.getElem?_set_self li, rfl, rfl⟩) (fun f s6 hsp => ?_) (fun _ _ z => False.elim z)
      cases f with
      | next =>
        obtain ⟨σ6, H6, S6, rfl, rfl⟩ := hsp
        refine gone_ok (inv_unsuite S6 ok) hN hi hln fun s7 J7 => ?_
        obtain ⟨get7, _⟩ := J7.pin (a, oB) (List.mem_append_right _ List.mem_cons_self)
        have J8 : Inv X pins _ H6 s7 := J7.pins_of fun p hp => J7.pin p (List.mem_append_right _ (List.mem_cons_of_mem _ hp))
        refine ⟨_, _, inv_track J8 na (fun u e => ?_) nL (fun y cc e z => ?_) (fun p hp z => ?_) (eo_ok (cls := cls) (d := d) get7 zB.1 zB.2 dB), hyes rfl J.len a na⟩
        · refine .inr fun hz => ?_
          exact noB _ (J.base.keep a u e hz nF (by rw [hex]; simp))
        · obtain ⟨v, o, ho, hdd⟩ := J7.cell y cc e
          rw [z, get7] at ho
          cases ho
          rw [show oB.data = _ from hdd] at dB
          cases dB
        · obtain ⟨e, _⟩ := J.pin p hp
          rw [z] at e
          exact noB _ e
      | brk =>
        obtain ⟨_, _, _, z⟩ := hsp
        exact z.elim
      | cont =>
        obtain ⟨_, _, _, z⟩ := hsp
        exact z.elim
      | ret u =>
        obtain ⟨_, _, _, _, _, z⟩ := hsp
        exact z.elim
  · cases f with
    | next =>
      obtain ⟨σ', H', J', q⟩ := hsp
      exact wpAny_execs_nil ⟨σ', H', J'.ofTry ok, q⟩
    | brk =>
      obtain ⟨σ', H', J', q⟩ := hsp
      exact ⟨σ', H', J'.ofTry ok, q⟩
    | cont =>
      obtain ⟨σ', H', J', q⟩ := hsp
      exact ⟨σ', H', J'.ofTry ok, q⟩
    | ret u =>
      obtain ⟨v, σ', H', J', r, q⟩ := hsp
      exact ⟨v, σ', H', J'.ofTry ok, r, q⟩
end

structure ErrF (K : PySem.W.Frag) (C : Addr) : Prop where
  ga : PySem.W.findIn K (.ref C) "__getattribute__" = some (some (.builtin "BaseException.__getattribute__"))
  gg : PySem.W.findIn K (.ref C) "__getattr__" = some none
  exC : PySem.W.subIn K (.ref C) (.type "BaseException") = some true
  hdC : PySem.W.hasDictIn K C = true
  noN : PySem.W.findIn K (.ref C) "place" = some none
/-- what isinstance asks of the class at C -/
structure IsFacts (K : PySem.W.Frag) (C : Addr) : Prop where
  cl : (PySem.W.clsIn K C).isSome = true
  ha : PySem.W.findIn K (.ref C) "__class__" = some (some (.builtin "object.__class__"))
  hn : PySem.W.specialIn K (.builtin "object.__class__") "__get__" = some (some (.builtin "getset_descriptor.__get__"))
  tk : PySem.W.takesIn K (.builtin "object.__class__") = some true
  hm : PySem.W.mroIn K C (.type "object") = some true
section
variable {X : Cx} {pins : List (Addr × Obj)} {σ : L2.St} {H : Hp} {s : Shared} {CF : Addr}
theorem eo_inst {a d : Addr} {fs : List (Str × V)} (I : Inv X pins σ H s) (e : H a = some (EO a (.ref CF) (some d))) (ed : H d = some (.xd fs)) : ∃ oe od, PySem.W.InstAt s.heap a oe CF (some od) ∧ ∃ mA : Str → Option Value, (∀ name, PySem.W.lookIn name od = some (mA name)) ∧ ∀ f, RelO (fs.lookup f) (mA f) := by
  obtain ⟨oe, vs, h1, h2, h3, h4⟩ := eo_at I.hok e
  obtain ⟨mA, hns, hr⟩ := (show ObjOk X.prog X.w H s.heap d (.xd fs) from I.hok d _ ed)
  obtain ⟨od, ho, hl⟩ := lookIn_ns hns
  exact ⟨oe, od, ⟨h1, h2, by unfold PySem.W.notCls; rw [h4], by rw [h3]; exact ho⟩, mA, hl, hr⟩
/-- isinstance(e, c), isinstance(e, (c1, c2)) -/
theorem call_isiEO (R : ErrF X.K CF) (T : IsFacts X.K CF) : CallR X (.builtin "isinstance") (fun xs H Q => ∃ (a d : Addr) (fs : List (Str × V)) (c : V) (u : Value) (b : Bool), xs = [.ref a, c] ∧ ClsV c u ∧ H a = some (EO a (.ref CF) (some d)) ∧ H d = some (.xd fs) ∧
    PySem.W.kitOne X.K (.ref CF) u = some b ∧ Q (.bl b) H) := by
  intro pins s σ H xs us Q I r h
  obtain ⟨a, d, fs, c, u, b, rfl, k, ea, ed, e, q⟩ := h
  obtain ⟨u1, u2, rfl, r1, r2⟩ := vals2 r
  obtain rfl : u1 = Value.ref a := r1
  have e2 := k.eq r2
  subst e2
  obtain ⟨oe, od, J, _⟩ := eo_inst I ea ed
  exact PySem.W.kia_one (PySem.W.kitx_exc T.cl R.ga R.gg R.exC T.ha T.hn T.tk T.hm) I.kIn J e (fun z => nomatch z) fun tk => ⟨.bl b, H, I.tok tk, rfl, q⟩
theorem call_isiEOT (R : ErrF X.K CF) (T : IsFacts X.K CF) : CallR X (.builtin "isinstance") (fun xs H Q => ∃ (a d tp : Addr) (fs : List (Str × V)) (cs : List V) (us : List Value) (b : Bool), xs = [.ref a, .ref tp] ∧ H tp = some (.tup cs) ∧ Paired ClsV cs us ∧
    H a = some (EO a (.ref CF) (some d)) ∧ H d = some (.xd fs) ∧ PySem.W.kitAny X.K (.ref CF) us = some b ∧ Q (.bl b) H) := by
  intro pins s σ H xs us Q I r h
  obtain ⟨a, d, tp, fs, cs, ws, b, rfl, hT, k, ea, ed, e, q⟩ := h
  obtain ⟨u1, u2, rfl, r1, r2⟩ := vals2 r
  obtain rfl : u1 = Value.ref a := r1
  obtain rfl : u2 = Value.ref tp := r2
  obtain ⟨_, its, rv, o, h1, h2, n, h3⟩ := (show ObjOk X.prog X.w H s.heap tp (.tup cs) from I.hok tp _ hT)
  have e3 := ClsV.all k rv
  subst e3
  obtain ⟨oc, oc2, dt, sl⟩ := o
  simp only at h2 h3
  subst h2 h3
  obtain ⟨oe, od, J, _⟩ := eo_inst I ea ed
  exact PySem.W.kia_tup (PySem.W.kitx_exc T.cl R.ga R.gg R.exC T.ha T.hn T.tk T.hm) I.kIn J h1 e (fun z => nomatch z) fun tk => ⟨.bl b, H, I.tok tk, rfl, q⟩
/-- e.place -/
def tPlace (CF : Addr) (te : TE) : TE := fun σ H Q => te σ H fun x H1 => ∃ (a d : Addr) (v : V), x = .ref a ∧ H1 a = some (EO a (.ref CF) (some d)) ∧ H1 d = some (.xd [("place", v)]) ∧ Q v H1
theorem pe_place {e : Expr} {te : TE} {pos : Pos} (R : ErrF X.K CF) (he : PE X e te) (hb : attributeBase e "place" X.env (eval e X.env) = eval e X.env := by rfl) : PE X (.Attribute e "place" pos) (tPlace CF te) := by
  refine ⟨fun pins s σ H Q I h => ?_⟩
  refine attr_of hb (thn (he.run pins s σ H _ I h) fun u s1 hh => ?_)
  obtain ⟨x, H1, I1, rx, a, d, v, rfl, ea, ed, q⟩ := hh
  obtain rfl : u = Value.ref a := rx
  obtain ⟨oe, od, J, mA, hl, hr⟩ := eo_inst I1 ea ed
  have l : List.lookup ("place" : Str) [(("place" : Str), v)] = some v := by simp [List.lookup]
  obtain ⟨u, hu, ru⟩ := RelO.some_of (v := v) (o := mA "place") (by rw [← l]; exact hr "place")
  exact HandSPX.exc_get I1.kIn J R.ga R.gg R.exC (PySem.W.findObj_own R.hdC R.noN rfl (by rw [hl, hu])) (handed_of ru) ⟨v, H1, I1.tok _, ru, q⟩
end
end BK


set_option Elab.async false
set_option maxRecDepth 100000
set_option maxHeartbeats 1000000
/-! repr of data: where no repr runs around; trees that are shown. -/
namespace BK
open PySem PySem.Spec PyProof.Rows L2
/-- a def's promise, called where no guarded call runs around -/
structure FnG (P : Program) (w : World) (K : PySem.W.Frag) (mg : Str → Option Value) (base : Heap) (k : Nat) (f : Addr) (fd : FuncData) (ps : List Str) (sp : Sp) : Prop where
  len : ∀ vs H Q E, sp vs H Q E → vs.length = ps.length
  run : ∀ (A : Around) (outer : List Env) (s : Shared) (H : Hp) (us : List Value) (vs : List V) (Q : VK) (E : XK), A.guards = some [] → Room k A → Env0 P w K mg base A outer s H → BindsTo s fd ⟨us, []⟩ (ps.zip us) → Vals vs us → sp vs H Q E →
    codeAny (model P w) A (.call (.ref f) ⟨us, []⟩) (CR CX0 outer P w H s Q E) s
section
variable {P : Program} {w : World} {K : PySem.W.Frag} {mg : Str → Option Value} {base : Heap}
theorem fng_of {k : Nat} {f : Addr} {name qual : Str} {params : Arguments} {body : List Stmt} {scope : Scope} {dV kV doc pm cdv ct oc : Value} {an od : Option Addr} {osl : Array (Option Value)} {N ps : List Str} {sp : Sp}
    (lk : K.lookup f = some ⟨oc, od, .func (PySem.W.fnOf name qual params body scope dV kV doc pm an cdv ct), osl⟩) (hcd : PySem.W.codeIn K cdv qual = true) (S : FnScope N ps scope) (len : ∀ vs H Q E, sp vs H Q E → vs.length = ps.length)
    (hbody : ∀ (A : Around) (outer : List Env) (s : Shared) (H : Hp) (vs : List V) (Q : VK) (E : XK), A.guards = some [] → Room k (A.deeper (envOfC qual scope s.heap.objs.size f cdv)) → sp vs H Q E →
      ∃ t, PSs (cxOf CX0 P w K mg base N qual scope f cdv A outer s H E).nox body t ∧ t { nx := fun _ H' => Q .non H', rt := Q } (L2.start N vs) H) :
    FnG P w K mg base (k + 1) f (PySem.W.fnOf name qual params body scope dV kV doc pm an cdv ct) ps sp :=
  ⟨len, fun A outer s H us vs Q E gd hr e0 hb r hsp => LamX.run_ofS lk hcd S hr e0 hb r (len _ _ _ _ hsp) fun hr' => by
    obtain ⟨t, ht, q⟩ := hbody A outer s H vs Q E gd hr' hsp
    exact ⟨t, ht.nox, q⟩⟩
end
section
variable {X : Cx} {k : Nat} {f : Addr} {fd : FuncData} {ps : List Str} {sp : Sp} {x : Str} {p pos : Pos} {e : Expr} {es : List Expr} {t : TA}
theorem pe_callG (F : FnG X.prog X.w X.K X.mg X.base k f fd ps sp) (gd : X.A.guards = some []) (hr : Room k X.A) (hg : Gl X x) (hm : X.mg x = some (.ref f)) (hk : PySem.W.keepIn X.K (.ref f) = true) (hb : L2.Binds X.K fd ps []) (ha : PA X (e :: es) t)
    (hdb : (x == ("__debug__" : Str)) = false := by decide) (he : starEach (e :: es) X.env = (false, eval e X.env) :: starEach es X.env := by rfl) (hpl : (backTo pos (starEach es X.env)).any (·.1) = false := by rfl) :
    PE X (.Call (.Name x p) (e :: es) [] pos) (tCall sp [] E0 t) := by
  refine ⟨fun pins s σ H Q I h => wpAny_Call_Name_kw (ld_glob I hg hm (PySem.W.callWith_K (h₀ := X.base) I.ok.mod.kin hk (thn (ha.run pos pins s σ H _ I h) fun us s1 hh => ?_) he hpl) hdb)⟩
  obtain ⟨vs, H1, I1, r, q⟩ := hh
  rw [List.append_nil] at q
  have hl : (us ++ []).length = ps.length := by
    rw [List.append_nil, ← r.length]
    exact F.len _ _ _ _ q
  have bd := hb s1 us I1.kIn hl
  rw [List.append_nil] at bd
  refine ⟨I1.kIn, wpAny_call (codeAny_mono (F.run X.A X.stack s1 H1 us vs Q E0 gd hr I1.env0 bd r q) fun r s' hq => ?_)⟩
  match r, hq with
  | .ok (.ret u), hq => exact I1.after hq
/-- repr of lists and tuples of data -/
theorem call_reprD (gd : X.A.guards = some []) (hr : Room 0 X.A) : CallR X (.builtin "repr") (fun xs H Q => ∃ (a : Addr) (d : PyData), xs = [.ref a] ∧ Dp X.K H (.ref a) d ∧ d.showable = true ∧ d.hasDict = false ∧ d.depth ≤ 60 ∧ d.shown.length ≤ sizeLine ∧ Q (.str d.shown) H) := by
  intro pins s σ H xs us Q I r h
  obtain ⟨a, d, rfl, hd, hs, hn, hp, hz, q⟩ := h
  obtain ⟨u, rfl, rx⟩ := vals1 r
  obtain rfl : u = Value.ref a := rx
  obtain ⟨as, rd⟩ := Dp.reads I d (.ref a) _ hd rfl
  have hu := hr.units
  exact repr_of_reads' rd hs (PyData.noDict_hsm hn) gd (by omega) (fun _ _ e => e) (fun h' u tk hk => ⟨.str d.shown, H, I.kept hk, ⟨u, rfl⟩, q⟩) hz
end

/-! trees as data -/
mutual
def pdT : Tr → PyData
  | .non => .none
  | .bl b => .bool b
  | .int i => .int i
  | .str s => .str s
  | .lst => .none
  | .dct => .none
  | .tup ts => .tuple (pdTs ts)
def pdTs : List Tr → List PyData
  | [] => []
  | t :: r => pdT t :: pdTs r
end
mutual
/-- no list, no dict; short ints, short texts -/
def dataT : Tr → Bool
  | .non => true
  | .bl _ => true
  | .int i => decide (i.natAbs < 10 ^ 60)
  | .str s => s.cps.toList.all (fun c => decide (c ≤ 122)) && decide (s.length ≤ 100)
  | .lst => false
  | .dct => false
  | .tup ts => dataTs ts
def dataTs : List Tr → Bool
  | [] => true
  | t :: r => dataT t && dataTs r
end
mutual
def depT : Tr → Nat
  | .tup ts => depTs ts + 1
  | _ => 0
def depTs : List Tr → Nat
  | [] => 0
  | t :: r => max (depT t) (depTs r)
end
mutual
def sizT : Tr → Nat
  | .tup ts => sizTs ts
  | _ => 0
def sizTs : List Tr → Nat
  | [] => 0
  | t :: r => sizT t + 1 + sizTs r
end
structure ReprOk (t : Tr) : Prop where
  da : dataT t = true
  de : depT t ≤ 50
  si : (pdT t).weight ≤ 150000
section
variable {K : PySem.W.Frag} {H : Hp}
mutual
theorem TrAt.dp : ∀ {v : V} {t : Tr}, TrAt K H v t → dataT t = true → Dp K H v (pdT t)
  | _, _, .non, _ => by simp only [pdT]; exact .non
  | _, _, .bl b, _ => by simp only [pdT]; exact .bl b
  | _, _, .int i, _ => by simp only [pdT]; exact .int i
  | _, _, .str s _, _ => by simp only [pdT]; exact .str s
  | _, _, .lst _, e => by simp [dataT] at e
  | _, _, .dct _, e => by simp [dataT] at e
  | _, _, .tup h k, e => by
    simp only [dataT] at e
    simp only [pdT]
    exact .tup h (TrAll.dp k e)
theorem TrAll.dp : ∀ {vs : List V} {ts : List Tr}, TrAll K H vs ts → dataTs ts = true → DpAll K H vs (pdTs ts)
  | _, _, .nil, _ => by simp only [pdTs]; exact .nil
  | _, _, .cons h k, e => by
    simp only [dataTs, Bool.and_eq_true] at e
    simp only [pdTs]
    exact .cons (h.dp e.1) (k.dp e.2)
end
end
theorem ten_log {v : Int} (h : v.natAbs < 10 ^ 60) : v.natAbs.log2 < 200 := by
  by_cases z : v.natAbs = 0
  · rw [z]; decide
  · rw [Nat.log2_lt z]
    exact Nat.lt_trans h (by decide +kernel)
mutual
theorem pd_show : ∀ t : Tr, dataT t = true → (pdT t).showable = true
  | .non, _ => by simp [pdT, PyData.showable]
  | .bl _, _ => by simp [pdT, PyData.showable]
  | .int i, e => by
    simp only [dataT, decide_eq_true_eq] at e
    simp only [pdT, PyData.showable, decide_eq_true_eq]
    exact Nat.lt_trans (ten_log e) (by decide)
  | .str _, _ => by simp [pdT, PyData.showable]
  | .lst, _ => by simp [pdT, PyData.showable]
  | .dct, _ => by simp [pdT, PyData.showable]
  | .tup ts, e => by
    simp only [dataT] at e
    simp only [pdT, PyData.showable]
    exact pds_show ts e
theorem pds_show : ∀ ts : List Tr, dataTs ts = true → PyData.showableAll (pdTs ts) = true
  | [], _ => by simp [pdTs, PyData.showableAll]
  | t :: r, e => by
    simp only [dataTs, Bool.and_eq_true] at e
    simp only [pdTs, PyData.showableAll, pd_show t e.1, pds_show r e.2, Bool.and_self]
end
mutual
theorem pd_noDict : ∀ t : Tr, (pdT t).hasDict = false
  | .non => by simp [pdT, PyData.hasDict]
  | .bl _ => by simp [pdT, PyData.hasDict]
  | .int _ => by simp [pdT, PyData.hasDict]
  | .str _ => by simp [pdT, PyData.hasDict]
  | .lst => by simp [pdT, PyData.hasDict]
  | .dct => by simp [pdT, PyData.hasDict]
  | .tup ts => by
    simp only [pdT, PyData.hasDict]
    exact pds_noDict ts
theorem pds_noDict : ∀ ts : List Tr, PyData.hasDictAll (pdTs ts) = false
  | [] => by simp [pdTs, PyData.hasDictAll]
  | t :: r => by simp only [pdTs, PyData.hasDictAll, pd_noDict t, pds_noDict r, Bool.or_self]
end
mutual
theorem pd_depth : ∀ t : Tr, (pdT t).depth = depT t
  | .non => by simp [pdT, PyData.depth, depT]
  | .bl _ => by simp [pdT, PyData.depth, depT]
  | .int _ => by simp [pdT, PyData.depth, depT]
  | .str _ => by simp [pdT, PyData.depth, depT]
  | .lst => by simp [pdT, PyData.depth, depT]
  | .dct => by simp [pdT, PyData.depth, depT]
  | .tup ts => by simp only [pdT, PyData.depth, depT, pds_depth ts]
theorem pds_depth : ∀ ts : List Tr, PyData.depthAll (pdTs ts) = depTs ts
  | [] => by simp [pdTs, PyData.depthAll, depTs]
  | t :: r => by simp only [pdTs, PyData.depthAll, depTs, pd_depth t, pds_depth r]
end
mutual
theorem pd_leaves : ∀ t : Tr, dataT t = true → PyData.leavesShort 100 (pdT t) = true
  | .non, _ => by simp [pdT, PyData.leavesShort]
  | .bl _, _ => by simp [pdT, PyData.leavesShort]
  | .int i, e => by
    simp only [dataT, decide_eq_true_eq] at e
    simp only [pdT, PyData.leavesShort, decide_eq_true_eq]
    have : (toString i).length ≤ 60 + 1 := int_text_length_le10 (by decide) e
    have q := PyProof.Rows.int_text_len_1921 (Nat.lt_trans (ten_log e) (by decide : 200 < 1920))
    show (Str.ofString (toString i)).length ≤ 100
    rw [PySem.ofString_length]
    omega
  | .str s, e => by
    simp only [dataT, Bool.and_eq_true] at e
    simp only [pdT, PyData.leavesShort]
    rw [List.all_eq_true]
    intro c hc
    have := of_decide_eq_true (List.all_eq_true.mp e.1 c hc)
    exact decide_eq_true (by omega)
  | .lst, _ => by simp [pdT, PyData.leavesShort]
  | .dct, _ => by simp [pdT, PyData.leavesShort]
  | .tup ts, e => by
    simp only [dataT] at e
    simp only [pdT, PyData.leavesShort]
    exact pds_leaves ts e
theorem pds_leaves : ∀ ts : List Tr, dataTs ts = true → PyData.leavesShortAll 100 (pdTs ts) = true
  | [], _ => by simp [pdTs, PyData.leavesShortAll]
  | t :: r, e => by
    simp only [dataTs, Bool.and_eq_true] at e
    simp only [pdTs, PyData.leavesShortAll, pd_leaves t e.1, pds_leaves r e.2, Bool.and_self]
end
mutual
theorem pd_weight : ∀ t : Tr, dataT t = true → (pdT t).weight ≤ 300 * sizT t + 250
  | .non, _ => by simp [pdT, PyData.weight]
  | .bl _, _ => by simp [pdT, PyData.weight]
  | .int i, e => by
    simp only [dataT, decide_eq_true_eq] at e
    simp only [pdT, PyData.weight]
    have := ten_log e
    split <;> omega
  | .str s, e => by
    simp only [dataT, Bool.and_eq_true] at e
    simp only [pdT, PyData.weight]
    have : s.cps.size ≤ 100 := of_decide_eq_true e.2
    omega
  | .lst, _ => by simp [pdT, PyData.weight]
  | .dct, _ => by simp [pdT, PyData.weight]
  | .tup ts, e => by
    simp only [dataT] at e
    simp only [pdT, PyData.weight, sizT]
    have := pds_weight ts e
    omega
theorem pds_weight : ∀ ts : List Tr, dataTs ts = true → PyData.weightAll (pdTs ts) ≤ 300 * sizTs ts
  | [], _ => by simp [pdTs, PyData.weightAll]
  | t :: r, e => by
    simp only [dataTs, Bool.and_eq_true] at e
    have h1 := pd_weight t e.1
    have h2 := pds_weight r e.2
    simp only [pdTs, PyData.weightAll, sizTs]
    omega
end
/-- what repr asks of [t, b] -/
theorem repr_pair {t : Tr} (h : ReprOk t) (b : Bool) : (PyData.list [pdT t, .bool b]).showable = true ∧ (PyData.list [pdT t, .bool b]).hasDict = false ∧ (PyData.list [pdT t, .bool b]).depth ≤ 60 ∧ (PyData.list [pdT t, .bool b]).shown.length ≤ sizeLine := by
  refine ⟨by simp only [PyData.showable, PyData.showableAll, pd_show t h.da, Bool.and_self], by simp only [PyData.hasDict, PyData.hasDictAll, pd_noDict t, Bool.or_self], ?_, ?_⟩
  · simp only [PyData.depth, PyData.depthAll, pd_depth]
    have := h.de
    omega
  · have l : PyData.leavesShort 100 (.list [pdT t, .bool b]) = true := by simp only [PyData.leavesShort, PyData.leavesShortAll, pd_leaves t h.da, Bool.and_self]
    have := PyData.shown_le 100 (by decide) _ l
    have w := pd_weight t h.da
    have s := h.si
    simp only [PyData.weight, PyData.weightAll] at this
    rw [sizeLine_eq]
    omega
/-- what repr asks of [[t], b] -/
theorem repr_found {t : Tr} (h : ReprOk t) (b : Bool) : (PyData.list [.list [pdT t], .bool b]).showable = true ∧ (PyData.list [.list [pdT t], .bool b]).hasDict = false ∧ (PyData.list [.list [pdT t], .bool b]).depth ≤ 60 ∧ (PyData.list [.list [pdT t], .bool b]).shown.length ≤ sizeLine := by
  refine ⟨by simp only [PyData.showable, PyData.showableAll, pd_show t h.da, Bool.and_self], by simp only [PyData.hasDict, PyData.hasDictAll, pd_noDict t, Bool.or_self], ?_, ?_⟩
  · simp only [PyData.depth, PyData.depthAll, pd_depth]
    have := h.de
    omega
  · have l : PyData.leavesShort 100 (.list [.list [pdT t], .bool b]) = true := by simp only [PyData.leavesShort, PyData.leavesShortAll, pd_leaves t h.da, Bool.and_self]
    have := PyData.shown_le 100 (by decide) _ l
    have w := pd_weight t h.da
    have s := h.si
    simp only [PyData.weight, PyData.weightAll] at this
    rw [sizeLine_eq]
    omega
end BK


set_option Elab.async false
set_option maxRecDepth 100000
set_option maxHeartbeats 1000000
set_option linter.unusedSimpArgs false
/-! evaluation of single statements -/
namespace BK
open PySem PySem.Spec PyProof.Rows L2
theorem ko_set : kindsOf ("set" : Str) = some [("variable" : Str), ("source" : Str)] := by decide +kernel
theorem ko_hold : kindsOf ("hold" : Str) = some [("token" : Str), ("variable" : Str), ("source" : Str)] := by decide +kernel
theorem ko_reset : kindsOf ("reset" : Str) = some [("token" : Str)] := by decide +kernel
theorem ko_drop : kindsOf ("drop" : Str) = some [("variable" : Str)] := by decide +kernel
theorem ko_show : kindsOf ("show" : Str) = some [("variable" : Str)] := by decide +kernel
theorem ko_copy : kindsOf ("copy" : Str) = some [("context" : Str)] := by decide +kernel
theorem ko_within : kindsOf ("within" : Str) = some [("context" : Str), ("block" : Str)] := by decide +kernel
theorem ko_if : kindsOf ("if" : Str) = some [("variable" : Str), ("integer" : Str), ("block" : Str), ("block" : Str)] := by decide +kernel
theorem ko_with : kindsOf ("with" : Str) = some [("variable" : Str), ("source" : Str), ("block" : Str)] := by decide +kernel
theorem ko_guard : kindsOf ("guard" : Str) = some [("block" : Str), ("block" : Str)] := by decide +kernel
theorem ko_loop : kindsOf ("loop" : Str) = some [("block" : Str)] := by decide +kernel
theorem ko_leave : kindsOf ("leave" : Str) = some [] := by decide +kernel
theorem ko_yield : kindsOf ("yield" : Str) = some [] := by decide +kernel
theorem ko_fail : kindsOf ("fail" : Str) = some [] := by decide +kernel
theorem ko_Set : kindsOf ("Set" : Str) = none := by decide +kernel
theorem ko_jump : kindsOf ("jump" : Str) = none := by decide +kernel
theorem ko_empty : kindsOf ("" : Str) = none := by decide +kernel
theorem ko_make : kindsOf ("make" : Str) = none := by decide +kernel
theorem ko_step : kindsOf ("step" : Str) = none := by decide +kernel
theorem ko_close : kindsOf ("close" : Str) = none := by decide +kernel
theorem pt_variable (t : Tr) : partT t "variable" = nameT t := rfl
theorem pt_token (t : Tr) : partT t "token" = nameT t := rfl
theorem pt_context (t : Tr) : partT t "context" = nameT t := rfl
theorem pt_block (t : Tr) : partT t "block" = isTup t := rfl
theorem pt_integer (t : Tr) : partT t "integer" = numT 99 t := rfl
theorem pt_source (t : Tr) : partT t "source" = (numT 99 t || nameT t) := by
  unfold partT
  rw [if_neg (by decide), if_neg (by decide), if_neg (by decide), if_neg (by decide)]
  cases numT 99 t <;> simp
theorem sl_context : slotK "context" = true := by decide
theorem sl_token : slotK "token" = true := by decide
theorem sl_variable : slotK "variable" = false := by decide
theorem sl_source : slotK "source" = false := by decide
theorem sl_block : slotK "block" = false := by decide
theorem sl_integer : slotK "integer" = false := by decide
theorem va_variable : varK "variable" = true := by decide
theorem va_source : varK "source" = true := by decide
theorem va_block : varK "block" = false := by decide
theorem va_integer : varK "integer" = false := by decide
theorem ct1 : (("context" : Str) = "token") = False := by simp only [eq_iff_iff, iff_false]; decide
theorem ct2 : (("token" : Str) = "context") = False := by simp only [eq_iff_iff, iff_false]; decide
def one1 (vars : List Str) (km : Km) (n : Nat) (t : Tr) : Fl := match takesT vars t [] km (n + 1) with
  | (false, m) => (some [], (m, n + 1))
  | (true, m) => blocksIn (fun b c => faultD vars 4 b [wordS t] c) (blocksT t) 0 (m, n + 1)
theorem ca_set (r : List Tr) (as : List Str) : canT "set" r as = true := by unfold canT; rw [if_neg (by decide), if_neg (by decide), if_neg (by decide)]
theorem ca_hold (r : List Tr) (as : List Str) : canT "hold" r as = true := by unfold canT; rw [if_neg (by decide), if_neg (by decide), if_neg (by decide)]
theorem ca_reset (r : List Tr) (as : List Str) : canT "reset" r as = true := by unfold canT; rw [if_neg (by decide), if_neg (by decide), if_neg (by decide)]
theorem ca_drop (r : List Tr) (as : List Str) : canT "drop" r as = true := by unfold canT; rw [if_neg (by decide), if_neg (by decide), if_neg (by decide)]
theorem ca_show (r : List Tr) (as : List Str) : canT "show" r as = true := by unfold canT; rw [if_neg (by decide), if_neg (by decide), if_neg (by decide)]
theorem ca_copy (r : List Tr) (as : List Str) : canT "copy" r as = true := by unfold canT; rw [if_neg (by decide), if_neg (by decide), if_neg (by decide)]
theorem ca_within (r : List Tr) (as : List Str) : canT "within" r as = true := by unfold canT; rw [if_neg (by decide), if_neg (by decide), if_neg (by decide)]
theorem ca_if (r : List Tr) (as : List Str) : canT "if" r as = true := by unfold canT; rw [if_neg (by decide), if_neg (by decide), if_neg (by decide)]
theorem ca_with (r : List Tr) (as : List Str) : canT "with" r as = true := by unfold canT; rw [if_neg (by decide), if_neg (by decide), if_neg (by decide)]
theorem ca_guard (r : List Tr) (as : List Str) : canT "guard" r as = true := by unfold canT; rw [if_neg (by decide), if_neg (by decide), if_neg (by decide)]
theorem ca_fail (r : List Tr) (as : List Str) : canT "fail" r as = true := by unfold canT; rw [if_neg (by decide), if_neg (by decide), if_neg (by decide)]
theorem ca_yield (r : List Tr) (as : List Str) : canT "yield" r as = !decide (("within" : Str) ∈ as) := by unfold canT; rw [if_pos rfl]
theorem ca_leave (r : List Tr) (as : List Str) : canT "leave" r as = (decide (("loop" : Str) ∈ as) && !decide (("within" : Str) ∈ as)) := by unfold canT; rw [if_neg (by decide), if_pos rfl]
theorem ca_loop (ts : List Tr) (r : List Tr) (as : List Str) : canT "loop" (.tup ts :: r) as = yieldT ts := by unfold canT; rw [if_neg (by decide), if_neg (by decide), if_pos rfl]
theorem isy (w : Str) (r : List Tr) : isYield (.tup (.str w :: r)) = (formT (.tup (.str w :: r)) && decide (w = "yield")) := rfl
theorem isy_l : isYield .lst = false := rfl
theorem isy_s (s : Str) : isYield (.str s) = false := rfl
theorem formW (w : Str) (r : List Tr) : formT (.tup (.str w :: r)) = (match kindsOf w with
    | some ks => fitsT r ks
    | none => false) := rfl
theorem na_Ab : nameS "Ab" = false := by decide +kernel
theorem na_empty : nameS "" = false := by decide +kernel
theorem na_nine : nameS "abcdefghi" = false := by decide +kernel
theorem na_ab : nameS "a b" = false := by decide +kernel
theorem na_x1 : nameS "x1" = false := by decide +kernel
theorem na_A : nameS "A" = false := by decide +kernel
theorem na_X : nameS "X" = false := by decide +kernel
def goodT (x y c t : Str) : List Tr := [(.tup [(.str "set"), (.str x), (.int 0)]),
  (.tup [(.str "set"), (.str x), (.int 99)]),
  (.tup [(.str "set"), (.str x), (.str y)]),
  (.tup [(.str "set"), (.str y), (.str y)]),
  (.tup [(.str "hold"), (.str t), (.str x), (.int 5)]),
  (.tup [(.str "hold"), (.str t), (.str y), (.str x)]),
  (.tup [(.str "reset"), (.str t)]),
  (.tup [(.str "drop"), (.str x)]),
  (.tup [(.str "show"), (.str y)]),
  (.tup [(.str "copy"), (.str c)]),
  (.tup [(.str "fail")]),
  (.tup [(.str "yield")]),
  (.tup [(.str "guard"), (.tup []), (.tup [])]),
  (.tup [(.str "within"), (.str c), (.tup [])]),
  (.tup [(.str "within"), (.str c), (.tup [(.tup [(.str "show"), (.str y)])])]),
  (.tup [(.str "if"), (.str x), (.int 0), (.tup []), (.tup [])]),
  (.tup [(.str "if"), (.str y), (.int 99), (.tup [(.tup [(.str "show"), (.str y)])]), (.tup [(.tup [(.str "yield")])])]),
  (.tup [(.str "with"), (.str x), (.str y), (.tup [])]),
  (.tup [(.str "with"), (.str y), (.int 7), (.tup [(.tup [(.str "yield")])])]),
  (.tup [(.str "guard"), (.tup [(.tup [(.str "fail")])]), (.tup ([(.tup [(.str "show"), (.str y)])] ++ [(.tup [(.str "yield")])]))]),
  (.tup [(.str "loop"), (.tup [(.tup [(.str "yield")])])]),
  (.tup [(.str "loop"), (.tup ([(.tup [(.str "show"), (.str y)])] ++ [(.tup [(.str "yield")])]))]),
  (.tup [(.str "loop"), (.tup ([(.tup [(.str "leave")])] ++ [(.tup [(.str "yield")])]))]),
  (.tup [(.str "loop"), (.tup ([(.tup [(.str "loop"), (.tup [(.tup [(.str "yield")])])])] ++ [(.tup [(.str "yield")])]))]),
  (.tup [(.str "loop"), (.tup ([(.tup [(.str "yield")])] ++ [(.tup [(.str "guard"), (.tup [(.tup [(.str "leave")])]), (.tup [(.tup [(.str "if"), (.str x), (.int 1), (.tup [(.tup [(.str "leave")])]), (.tup [])])])])]))]),
  (.tup [(.str "loop"), (.tup ([(.tup [(.str "yield")])] ++ [(.tup [(.str "with"), (.str x), (.int 0), (.tup ([(.tup [(.str "leave")])] ++ [(.tup [(.str "yield")])]))])]))])]
def plainT (x y c t none : Str) : List Tr := [.non,
  (.int 5),
  (.str "set"),
  (.tup []),
  .lst,
  .dct,
  (.tup [(.str "")]),
  (.tup [(.str "Set"), (.str x), (.int 0)]),
  (.tup [(.str "jump")]),
  .lst,
  (.tup [(.tup [(.str "yield")])]),
  (.tup [.non]),
  (.tup [(.str "set")]),
  (.tup [(.str "set"), (.str x)]),
  (.tup [(.str "set"), (.str x), (.int 0), (.int 0)]),
  (.tup [(.str "set"), (.str x), (.int 100)]),
  (.tup [(.str "set"), (.str x), (.int (-1))]),
  (.tup [(.str "set"), (.str x), (.bl true)]),
  (.tup [(.str "set"), (.str x), .non]),
  (.tup [(.str "set"), (.str x), (.str none)]),
  (.tup [(.str "set"), (.str none), (.int 0)]),
  (.tup [(.str "set"), (.int 5), (.int 0)]),
  (.tup [(.str "set"), (.str x), (.tup [(.str x)])]),
  (.tup [(.str "set"), (.str x), (.str "")]),
  .lst,
  (.tup [(.str "hold"), (.str t), (.str x)]),
  (.tup [(.str "hold"), (.str c), (.str x), (.int 5)]),
  (.tup [(.str "hold"), (.str t), (.str none), (.int 5)]),
  (.tup [(.str "hold"), (.str t), (.str x), (.str none)]),
  (.tup [(.str "hold"), (.str t), (.str x), (.int 100)]),
  (.tup [(.str "hold"), (.str "Ab"), (.str x), (.int 5)]),
  (.tup [(.str "hold"), (.str ""), (.str x), (.int 5)]),
  (.tup [(.str "hold"), (.str "abcdefghi"), (.str x), (.int 5)]),
  (.tup [(.str "hold"), .non, (.str x), (.int 5)]),
  (.tup [(.str "hold"), (.str x), (.int 5)]),
  (.tup [(.str "reset")]),
  (.tup [(.str "reset"), (.str c)]),
  (.tup [(.str "reset"), (.int 5)]),
  (.tup [(.str "reset"), (.str "a b")]),
  (.tup [(.str "reset"), (.str t), (.str t)]),
  (.tup [(.str "drop"), (.str none)]),
  (.tup [(.str "drop")]),
  (.tup [(.str "drop"), (.int 0)]),
  (.tup [(.str "show"), (.str none)]),
  (.tup [(.str "show"), (.str x), (.str y)]),
  (.tup [(.str "show"), .non]),
  (.tup [(.str "show"), (.int 7)]),
  (.tup [(.str "copy"), (.str t)]),
  (.tup [(.str "copy")]),
  (.tup [(.str "copy"), (.tup [(.str c)])]),
  (.tup [(.str "copy"), (.str "x1")]),
  (.tup [(.str "leave")]),
  (.tup [(.str "leave"), (.int 0)]),
  (.tup [(.str "yield"), (.int 0)]),
  (.tup [(.str "fail"), (.str "own")]),
  (.tup [(.str "yield"), (.tup [])]),
  (.tup [(.str "make"), (.str c), (.str x), (.tup [])]),
  (.tup [(.str "step"), (.str c)]),
  (.tup [(.str "close"), (.str c)]),
  (.tup [(.str "reset"), .lst])]
def blocksW (x y c t none : Str) : List Tr := [(.tup [(.str "within"), (.str t), (.tup [])]),
  (.tup [(.str "within"), (.str c)]),
  (.tup [(.str "within"), (.str c), .lst]),
  (.tup [(.str "within"), (.str c), .non]),
  (.tup [(.str "within"), (.str c), (.str "yield")]),
  (.tup [(.str "within"), (.tup []), (.str c)]),
  (.tup [(.str "within"), (.str c), (.tup []), (.tup [])]),
  (.tup [(.str "if"), (.str x), (.int 100), (.tup []), (.tup [])]),
  (.tup [(.str "if"), (.str x), (.int (-1)), (.tup []), (.tup [])]),
  (.tup [(.str "if"), (.str x), (.bl false), (.tup []), (.tup [])]),
  (.tup [(.str "if"), (.str x), (.str y), (.tup []), (.tup [])]),
  (.tup [(.str "if"), (.str none), (.int 0), (.tup []), (.tup [])]),
  (.tup [(.str "if"), (.str x), (.int 0), (.tup [])]),
  (.tup [(.str "if"), (.str x), (.int 0), (.tup []), .lst]),
  (.tup [(.str "if"), (.str x), (.int 0), .non, (.tup [])]),
  (.tup [(.str "if"), (.int 0), (.str x), (.tup []), (.tup [])]),
  (.tup [(.str "with"), (.str x), (.tup [])]),
  (.tup [(.str "with"), (.str x), (.int 0), .lst]),
  (.tup [(.str "with"), (.str none), (.int 0), (.tup [])]),
  (.tup [(.str "with"), (.str x), (.str none), (.tup [])]),
  (.tup [(.str "with"), (.str x), (.int 100), (.tup [])]),
  (.tup [(.str "with"), (.int 0), (.str x), (.tup [])]),
  (.tup [(.str "guard"), (.tup [])]),
  (.tup [(.str "guard"), (.tup []), (.tup []), (.tup [])]),
  (.tup [(.str "guard"), .lst, (.tup [])]),
  (.tup [(.str "guard"), (.tup []), (.int 0)]),
  (.tup [(.str "loop")]),
  (.tup [(.str "loop"), (.tup [])]),
  (.tup [(.str "loop"), .lst]),
  (.tup [(.str "loop"), (.tup [(.tup [(.str "show"), (.str x)])])]),
  (.tup [(.str "loop"), (.tup [.lst])]),
  (.tup [(.str "loop"), (.tup [(.tup [(.str "if"), (.str x), (.int 0), (.tup [(.tup [(.str "yield")])]), (.tup [(.tup [(.str "yield")])])])])]),
  (.tup [(.str "loop"), (.tup [(.str "yield")])]),
  (.tup [(.str "loop"), (.tup [(.tup [(.str "loop"), (.tup [(.tup [(.str "yield")])])])])]),
  (.tup [(.str "loop"), (.tup [(.tup [(.str "yield")])]), (.tup [(.tup [(.str "yield")])])]),
  (.tup [(.str "loop"), (.tup [(.tup [(.str "yield"), (.int 0)])])])]
def withinP (x c none : Str) : List (Tr × List Nat) := [((.tup [(.str "within"), (.str c), (.tup ([(.tup [(.str "show"), (.str x)])] ++ [(.tup [(.str "yield")])]))]), [0, 1]),
  ((.tup [(.str "within"), (.str c), (.tup [(.tup [(.str "loop"), (.tup [(.tup [(.str "yield")])])])])]), [0, 0, 0, 0]),
  ((.tup [(.str "within"), (.str c), (.tup [(.tup [(.str "guard"), (.tup []), (.tup [(.tup [(.str "if"), (.str x), (.int 0), (.tup []), (.tup [(.tup [(.str "yield")])])])])])])]), [0, 0, 1, 0, 1, 0]),
  ((.tup [(.str "guard"), (.tup [(.tup [(.str "show"), (.str x)])]), (.tup [(.tup [(.str "show"), (.str none)])])]), [1, 0]),
  ((.tup [(.str "if"), (.str x), (.int 0), (.tup [(.tup [(.str "fail")])]), (.tup [(.tup [(.str "fail")]), (.tup [(.str "leave")])])]), [1, 1]),
  ((.tup [(.str "with"), (.str x), (.int 0), (.tup [(.tup [(.str "loop"), (.tup [(.tup [(.str "fail")])])])])]), [0, 0]),
  ((.tup [(.str "loop"), (.tup ([(.tup [(.str "yield")])] ++ [(.tup [(.str "within"), (.str c), (.tup [(.tup [(.str "leave")])])])]))]), [0, 1, 0, 0]),
  ((.tup [(.str "within"), (.str c), (.tup [(.tup [(.str "loop"), (.tup ([(.tup [(.str "leave")])] ++ [(.tup [(.str "yield")])]))])])]), [0, 0, 0, 0]),
  ((.tup [(.str "within"), (.str c), (.tup [(.tup [(.str "show"), (.str x)]), (.tup [(.str "loop"), (.tup ([(.tup [(.str "yield")])] ++ [(.tup [(.str "leave")])]))])])]), [0, 1, 0, 0]),
  ((.tup [(.str "loop"), (.tup ([(.tup [(.str "show"), (.str none)])] ++ [(.tup [(.str "yield")])]))]), [0, 0]),
  ((.tup [(.str "loop"), (.tup ([(.tup [(.str "yield")])] ++ [.non]))]), [0, 1]),
  ((.tup [(.str "guard"), (.tup [(.tup [(.str "guard"), (.tup []), (.tup [(.tup [(.str "reset"), (.str c)])])])]), (.tup [])]), [0, 0, 1, 0])]
def withinT (x c none : Str) : List Tr := [(.tup [(.tup [(.str "within"), (.str c), (.tup ([(.tup [(.str "show"), (.str x)])] ++ [(.tup [(.str "yield")])]))]), (.tup [(.int 0), (.int 1)])]),
  (.tup [(.tup [(.str "within"), (.str c), (.tup [(.tup [(.str "loop"), (.tup [(.tup [(.str "yield")])])])])]), (.tup [(.int 0), (.int 0), (.int 0), (.int 0)])]),
  (.tup [(.tup [(.str "within"), (.str c), (.tup [(.tup [(.str "guard"), (.tup []), (.tup [(.tup [(.str "if"), (.str x), (.int 0), (.tup []), (.tup [(.tup [(.str "yield")])])])])])])]), (.tup [(.int 0), (.int 0), (.int 1), (.int 0), (.int 1), (.int 0)])]),
  (.tup [(.tup [(.str "guard"), (.tup [(.tup [(.str "show"), (.str x)])]), (.tup [(.tup [(.str "show"), (.str none)])])]), (.tup [(.int 1), (.int 0)])]),
  (.tup [(.tup [(.str "if"), (.str x), (.int 0), (.tup [(.tup [(.str "fail")])]), (.tup [(.tup [(.str "fail")]), (.tup [(.str "leave")])])]), (.tup [(.int 1), (.int 1)])]),
  (.tup [(.tup [(.str "with"), (.str x), (.int 0), (.tup [(.tup [(.str "loop"), (.tup [(.tup [(.str "fail")])])])])]), (.tup [(.int 0), (.int 0)])]),
  (.tup [(.tup [(.str "loop"), (.tup ([(.tup [(.str "yield")])] ++ [(.tup [(.str "within"), (.str c), (.tup [(.tup [(.str "leave")])])])]))]), (.tup [(.int 0), (.int 1), (.int 0), (.int 0)])]),
  (.tup [(.tup [(.str "within"), (.str c), (.tup [(.tup [(.str "loop"), (.tup ([(.tup [(.str "leave")])] ++ [(.tup [(.str "yield")])]))])])]), (.tup [(.int 0), (.int 0), (.int 0), (.int 0)])]),
  (.tup [(.tup [(.str "within"), (.str c), (.tup [(.tup [(.str "show"), (.str x)]), (.tup [(.str "loop"), (.tup ([(.tup [(.str "yield")])] ++ [(.tup [(.str "leave")])]))])])]), (.tup [(.int 0), (.int 1), (.int 0), (.int 0)])]),
  (.tup [(.tup [(.str "loop"), (.tup ([(.tup [(.str "show"), (.str none)])] ++ [(.tup [(.str "yield")])]))]), (.tup [(.int 0), (.int 0)])]),
  (.tup [(.tup [(.str "loop"), (.tup ([(.tup [(.str "yield")])] ++ [.non]))]), (.tup [(.int 0), (.int 1)])]),
  (.tup [(.tup [(.str "guard"), (.tup [(.tup [(.str "guard"), (.tup []), (.tup [(.tup [(.str "reset"), (.str c)])])])]), (.tup [])]), (.tup [(.int 0), (.int 0), (.int 1), (.int 0)])])]
def piecesW (name c : Str) : List Tr := [.non,
  (.int 5),
  (.str name),
  (.tup []),
  (.tup [(.str name)]),
  (.tup [(.str name), (.tup [])]),
  (.tup [(.str name), (.tup []), (.tup []), (.tup [])]),
  .lst,
  (.tup [(.str ""), (.tup []), (.tup [])]),
  (.tup [(.str "A"), (.tup []), (.tup [])]),
  (.tup [(.int 5), (.tup []), (.tup [])]),
  (.tup [(.str "abcdefghi"), (.tup []), (.tup [])]),
  (.tup [(.str "a b"), (.tup []), (.tup [])]),
  (.tup [(.str "x1"), (.tup []), (.tup [])]),
  (.tup [.non, (.tup []), (.tup [])]),
  (.tup [(.tup []), (.str name), (.tup [])]),
  (.tup [(.tup [(.str name)]), (.tup []), (.tup [])]),
  (.tup [(.str name), .non, (.tup [])]),
  (.tup [(.str name), .lst, (.tup [])]),
  (.tup [(.str name), (.tup [(.str c)]), (.tup [])]),
  (.tup [(.str name), (.tup [(.tup [(.str c)])]), (.tup [])]),
  (.tup [(.str name), (.tup [(.tup [(.str c), (.str "piece")])]), (.tup [])]),
  (.tup [(.str name), (.tup [(.tup [(.str c), (.str "context"), (.int 0)])]), (.tup [])]),
  (.tup [(.str name), (.tup [(.tup [(.str ""), (.str "context")])]), (.tup [])]),
  (.tup [(.str name), (.tup [.lst]), (.tup [])]),
  (.tup [(.str name), (.tup [(.tup [(.int 5), (.str "token")])]), (.tup [])]),
  (.tup [(.str name), (.tup [(.tup [(.str c), .non])]), (.tup [])]),
  (.tup [(.str name), (.tup [(.tup [(.str c), (.str "token")]), (.tup [(.str c), (.str "token")])]), (.tup [])]),
  (.tup [(.str name), (.tup [(.tup [(.str c), (.str "context")]), (.tup [(.str c), (.str "token")])]), (.tup [])]),
  (.tup [(.str name), (.tup [(.tup [(.str "context"), (.str "slot")])]), (.tup [])]),
  (.tup [(.str name), (.tup [(.tup [(.str c), (.tup [(.str "token")])])]), (.tup [])]),
  (.tup [(.str name), (.tup []), .non]),
  (.tup [(.str name), (.tup []), .lst]),
  (.tup [(.str name), (.tup []), (.str "yield")]),
  (.tup [(.str name), (.tup []), .lst]),
  (.tup [(.str name), (.tup []), (.int 0)]),
  (.tup [(.str name), (.tup []), .dct]),
  (.tup [.lst, (.tup []), (.tup [])])]
theorem fd4 (vars : List Str) (b : List Tr) (as : List Str) (c : Ck) : faultD vars 4 b as c = faultL vars (faultD vars 3) as b 0 c := rfl
theorem fd3 (vars : List Str) (b : List Tr) (as : List Str) (c : Ck) : faultD vars 3 b as c = faultL vars (faultD vars 2) as b 0 c := rfl
theorem fd2 (vars : List Str) (b : List Tr) (as : List Str) (c : Ck) : faultD vars 2 b as c = faultL vars (faultD vars 1) as b 0 c := rfl
theorem fd1 (vars : List Str) (b : List Tr) (as : List Str) (c : Ck) : faultD vars 1 b as c = faultL vars (faultD vars 0) as b 0 c := rfl
theorem good_ok (x y c t : Str) (hx : nameS x = true) (hy : nameS y = true) (hc : nameS c = true) (ht : nameS t = true) (km : Km) (kc : kget km c = some ("context" : Str)) (kt : kget km t = some ("token" : Str)) (n : Nat) (hn : n ≤ 3) :
   ∀ one ∈ goodT x y c t, (one1 [x, y] km n one).1 = none ∧ (one1 [x, y] km n one).2.1 = km ∧ (one1 [x, y] km n one).2.2 ≤ n + 8 := by
  have b1 : ¬ 16 < n + 1 := by omega
  have b2 : ¬ 16 < n + 2 := by omega
  have b3 : ¬ 16 < n + 3 := by omega
  have b4 : ¬ 16 < n + 4 := by omega
  have b5 : ¬ 16 < n + 5 := by omega
  have b6 : ¬ 16 < n + 6 := by omega
  have b7 : ¬ 16 < n + 7 := by omega
  have b8 : ¬ 16 < n + 8 := by omega
  have b9 : ¬ 16 < n + 9 := by omega
  intro one h
  simp only [goodT, List.mem_cons, List.not_mem_nil, or_false] at h
  rcases h with rfl | rfl | rfl | rfl | rfl | rfl | rfl | rfl | rfl | rfl | rfl | rfl | rfl | rfl | rfl | rfl | rfl | rfl | rfl | rfl | rfl | rfl | rfl | rfl | rfl | rfl
  all_goals simp (decide := true) [one1, takesT, ko_set, ko_hold, ko_reset, ko_drop, ko_show, ko_copy, ko_within, ko_if, ko_with, ko_guard, ko_loop, ko_leave, ko_yield, ko_fail, ko_Set, ko_jump, ko_empty, ko_make, ko_step, ko_close, fitsT, pt_variable, pt_token, pt_context, pt_block, pt_integer, pt_source, numT, nameT, hx, hy, hc, ht, knowsT, sl_token, sl_context, sl_variable, sl_source, sl_block, sl_integer, va_variable, va_source, va_block, va_integer, kc, kt, ct1, ct2, ca_set, ca_hold, ca_reset, ca_drop, ca_show, ca_copy, ca_within, ca_if, ca_with, ca_guard, ca_fail, ca_yield, ca_leave, ca_loop, yieldT, isy, formW, blocksT, tupTs, isTup, blocksIn, fd4, fd3, fd2, fd1, faultL, List.filter_cons, wordS, b1, b2, b3, b4, b5, b6, b7, b8, b9, Nat.add_assoc]
end BK


set_option Elab.async false
set_option maxRecDepth 100000
set_option maxHeartbeats 4000000
set_option linter.unusedVariables false
set_option linter.unusedSimpArgs false
/-! what is right can be shown; statements within others -/
namespace BK
open PySem PySem.Spec PyProof.Rows L2
theorem name_data {z : Str} (h : nameS z = true) : dataT (.str z) = true := by
  unfold nameS at h
  rw [Bool.and_eq_true, Bool.and_eq_true, decide_eq_true_eq, decide_eq_true_eq] at h
  simp only [dataT, Bool.and_eq_true, decide_eq_true_eq]
  refine ⟨?_, by have := h.1.2; omega⟩
  rw [List.all_eq_true]
  intro c hc
  have hm := of_decide_eq_true (List.all_eq_true.mp h.2 c hc)
  have al : (alpha.cps.toList.all fun c => decide (c ≤ 122)) = true := by decide +kernel
  exact List.all_eq_true.mp al c hm
theorem words_data {w : Str} {ks : List Str} (h : kindsOf w = some ks) : dataT (.str w) = true := by
  have all : (kindTab.all fun e => dataT (.str e.1)) = true := by decide +kernel
  unfold kindsOf at h
  cases e : kindTab.find? fun e => decide (e.1 = w) with
  | none => rw [e] at h; cases h
  | some x =>
    have q : x.1 = w := of_decide_eq_true (List.find?_some (p := fun e : Str × List Str => decide (e.1 = w)) e)
    rw [← q]
    exact List.all_eq_true.mp all x (List.mem_of_find?_eq_some e)
/-- a tree that is shown, so deep, so great -/
structure Sh (t : Tr) (de si : Nat) : Prop where
  da : dataT t = true
  de : depT t ≤ de
  si : (pdT t).weight ≤ si
structure Shs (ts : List Tr) (de si : Nat) : Prop where
  da : dataTs ts = true
  de : depTs ts ≤ de
  si : PyData.weightAll (pdTs ts) ≤ si
theorem Shs.nil : Shs [] 0 0 := ⟨rfl, Nat.le_refl _, by simp only [pdTs, PyData.weightAll]; exact Nat.le_refl _⟩
theorem Shs.cons {t : Tr} {r : List Tr} {d d' s s' : Nat} (h : Sh t d s) (k : Shs r d' s') : Shs (t :: r) (max d d') (s + 1 + s') :=
  ⟨by simp only [dataTs, h.da, k.da, Bool.and_self], by simp only [depTs]; have := h.de; have := k.de; omega, by simp only [pdTs, PyData.weightAll]; have := h.si; have := k.si; omega⟩
theorem Shs.tup {ts : List Tr} {d s : Nat} (h : Shs ts d s) : Sh (.tup ts) (d + 1) s := ⟨by simp only [dataT, h.da], by simp only [depT]; have := h.de; omega, by simp only [pdT, PyData.weight]; exact h.si⟩
theorem Shs.all : ∀ {ts : List Tr} {d s : Nat}, (∀ t ∈ ts, Sh t d s) → Shs ts d (ts.length * (s + 1))
  | [], _, _, _ => ⟨rfl, Nat.zero_le _, by simp only [pdTs, PyData.weightAll]; exact Nat.zero_le _⟩
  | t :: r, d, s, h => by
    have k := (Shs.cons (h t List.mem_cons_self) (Shs.all (ts := r) fun x hx => h x (List.mem_cons_of_mem _ hx)))
    exact ⟨k.da, Nat.le_trans k.de (by omega), by
      have := k.si
      rw [List.length_cons, Nat.add_mul]
      omega⟩
theorem Sh.mono {t : Tr} {d s d' s' : Nat} (h : Sh t d s) (h1 : d ≤ d') (h2 : s ≤ s') : Sh t d' s' := ⟨h.da, Nat.le_trans h.de h1, Nat.le_trans h.si h2⟩
theorem Shs.mono {t : List Tr} {d s d' s' : Nat} (h : Shs t d s) (h1 : d ≤ d') (h2 : s ≤ s') : Shs t d' s' := ⟨h.da, Nat.le_trans h.de h1, Nat.le_trans h.si h2⟩
theorem sh_str {z : Str} (h : dataT (.str z) = true) (hl : z.length ≤ 20) : Sh (.str z) 0 20 := ⟨h, by simp [depT], by simp only [pdT, PyData.weight]; exact hl⟩
theorem sh_int {i : Int} (h : i.natAbs ≤ 1000) : Sh (.int i) 0 20 := ⟨by
    simp only [dataT, decide_eq_true_eq]
    exact Nat.lt_of_le_of_lt h (by decide +kernel), by simp [depT], by
    simp only [pdT, PyData.weight]
    split
    · exact Nat.zero_le _
    · rename_i z
      have nz : i.natAbs ≠ 0 := by simpa using z
      have : i.natAbs.log2 < 10 := (Nat.log2_lt nz).mpr (Nat.lt_of_le_of_lt h (by decide))
      omega⟩
def sumBig (f : Tr → Nat) (ts : List Tr) : Nat := (ts.map f).sum
theorem right_part {t : Tr} {k : Str} (h : partT t k = true) (n1 : k ≠ "args") (n2 : k ≠ "value") (nt : isTup t = false) : Sh t 0 20 := by
  by_cases n3 : k = "block"
  · subst n3
    have h : isTup t = true := h
    rw [nt] at h
    cases h
  have num : numT 99 t = true → Sh t 0 20 := fun h => by
    cases t with
    | int i =>
      have h : (decide (0 ≤ i) && decide (i ≤ 99)) = true := h
      rw [Bool.and_eq_true, decide_eq_true_eq, decide_eq_true_eq] at h
      exact sh_int (by omega)
    | _ => exact Bool.noConfusion (show false = true from h)
  have nam : nameT t = true → Sh t 0 20 := fun h => by
    cases t with
    | str s => exact sh_str (name_data h) (name_short h)
    | _ => exact Bool.noConfusion (show false = true from h)
  unfold partT at h
  rw [if_neg n3, if_neg n1] at h
  split at h
  · exact num h
  · split at h
    · rename_i z
      exact num z.2
    · exact nam h
theorem right_parts (d : Nat) (m : List Tr → Nat) : ∀ (rest : List Tr) (ks : List Str), (rest.zip ks).all (fun e => partT e.1 e.2) = true → rest.length = ks.length → ("args" : Str) ∉ ks → ("value" : Str) ∉ ks →
    (∀ b ∈ (rest.filter isTup).map tupTs, Shs b (2 * d) (130 * m b)) → Shs rest (2 * d + 1) (21 * rest.length + 130 * (((rest.filter isTup).map tupTs).map m).sum)
  | [], ks, _, _, _, _, _ => ⟨rfl, Nat.zero_le _, by simp only [pdTs, PyData.weightAll]; exact Nat.zero_le _⟩
  | t :: r, [], _, h, _, _, _ => by cases h
  | t :: r, k :: ks, h, hl, na, nv, hb => by
    have h : (partT t k && (r.zip ks).all fun e => partT e.1 e.2) = true := h
    rw [Bool.and_eq_true] at h
    have hl2 : r.length = ks.length := Nat.succ.inj hl
    cases t with
    | tup ts =>
      rw [List.filter_cons_of_pos (show isTup (.tup ts) = true from rfl), List.map_cons] at hb
      rw [List.filter_cons_of_pos (show isTup (.tup ts) = true from rfl), List.map_cons, List.map_cons, List.sum_cons]
      have ih := right_parts d m r ks h.2 hl2 (fun z => na (List.mem_cons_of_mem _ z)) (fun z => nv (List.mem_cons_of_mem _ z)) fun b q => hb b (List.mem_cons_of_mem _ q)
      have hd := (hb _ List.mem_cons_self).tup
      have k := Shs.cons hd ih
      refine Shs.mono k (by omega) ?_
      rw [List.length_cons]
      show 130 * m ts + 1 + _ ≤ 21 * (r.length + 1) + 130 * (m ts + _)
      omega
    | _ =>
      rw [List.filter_cons_of_neg (by intro z; exact Bool.noConfusion z)] at hb
      rw [List.filter_cons_of_neg (by intro z; exact Bool.noConfusion z)]
      have ih := right_parts d m r ks h.2 hl2 (fun z => na (List.mem_cons_of_mem _ z)) (fun z => nv (List.mem_cons_of_mem _ z)) hb
      have hd := right_part h.1 (fun z => na (by rw [z]; exact List.mem_cons_self)) (fun z => nv (by rw [z]; exact List.mem_cons_self)) rfl
      have k := Shs.cons hd ih
      refine Shs.mono k (by omega) ?_
      rw [List.length_cons]
      omega
theorem sums_le {f g : Tr → Nat} : ∀ {ts : List Tr}, (∀ t ∈ ts, Sh t (f t) (g t)) → ∀ D, (∀ t ∈ ts, f t ≤ D) → Shs ts D ((ts.map fun t => 1 + g t).sum)
  | [], _, _, _ => ⟨rfl, Nat.zero_le _, by simp only [pdTs, PyData.weightAll]; exact Nat.zero_le _⟩
  | t :: r, h, D, hD => by
    have k := Shs.cons ((h t List.mem_cons_self).mono (hD t List.mem_cons_self) (Nat.le_refl _)) (sums_le (ts := r) (fun x hx => h x (List.mem_cons_of_mem _ hx)) D fun x hx => hD x (List.mem_cons_of_mem _ hx))
    refine k.mono (by omega) ?_
    rw [List.map_cons, List.sum_cons]
    omega
theorem form_three {t : Tr} (h : formT t = true) : ∃ x rest ks, t = .tup (.str x :: rest) ∧ kindsOf x = some ks ∧ fitsT rest ks = true := by
  cases t with
  | tup l =>
    cases l with
    | nil => exact Bool.noConfusion (show false = true from h)
    | cons y rest =>
      cases y with
      | str x =>
        have h : (match kindsOf x with
          | some ks => fitsT rest ks
          | none => false) = true := h
        cases ek : kindsOf x with
        | none => rw [ek] at h; cases h
        | some ks => rw [ek] at h; exact ⟨x, rest, ks, rfl, ek, h⟩
      | _ => exact Bool.noConfusion (show false = true from h)
  | _ => exact Bool.noConfusion (show false = true from h)
theorem right_block : ∀ (d : Nat) (ts : List Tr), okD d ts → Shs ts (2 * d) (130 * metD d ts)
  | 0, ts, h => by
    have h : ts = [] := h
    subst h
    exact ⟨rfl, Nat.zero_le _, by simp only [pdTs, PyData.weightAll]; exact Nat.zero_le _⟩
  | d + 1, ts, h => by
    have q : Shs ts (2 * d + 2) ((ts.map fun t => 1 + (105 + 130 * ((blocksT t).map (metD d)).sum)).sum) := by
      refine sums_le (f := fun _ => 2 * d + 2) (g := fun t => 105 + 130 * ((blocksT t).map (metD d)).sum) (fun t ht => ?_) _ fun _ _ => Nat.le_refl _
      obtain ⟨hf, hb⟩ := h t ht
      obtain ⟨x, rest, ks, rfl, ek, hf⟩ := form_three hf
      unfold fitsT at hf
      rw [Bool.and_eq_true, decide_eq_true_eq] at hf
      have kf := kinds_few ek
      have k := Shs.tup (Shs.cons (sh_str (words_data ek) (word_few ek)) (right_parts d (metD d) rest ks hf.2 hf.1 (no_args ek) (no_value ek) fun b hb' => right_block d b (hb b hb')))
      refine k.mono (by omega) ?_
      show 20 + 1 + (21 * rest.length + 130 * (((rest.filter isTup).map tupTs).map (metD d)).sum) ≤ 105 + 130 * (((rest.filter isTup).map tupTs).map (metD d)).sum
      omega
    refine q.mono (by omega) ?_
    show _ ≤ 130 * (ts.map fun t => 1 + ((blocksT t).map (metD d)).sum).sum
    clear q h
    induction ts with
    | nil => exact Nat.le_refl _
    | cons t r ih =>
      rw [List.map_cons, List.sum_cons, List.map_cons, List.sum_cons]
      omega
theorem kind_data {t : Tr} (h : paramT t = true) (hn : nameT (firstT t) = true) : Sh t 1 42 := by
  unfold paramT at h
  split at h
  · rename_i a k
    have hn : nameT a = true := hn
    obtain ⟨n, rfl⟩ := name_str hn
    cases k with
    | str k =>
      have h : (decide (k = "context") || decide (k = "token")) = true := h
      rw [Bool.or_eq_true, decide_eq_true_eq, decide_eq_true_eq] at h
      have hk : dataT (.str k) = true := by rcases h with rfl | rfl <;> decide +kernel
      have hl : k.length ≤ 20 := by rcases h with rfl | rfl <;> decide
      exact Shs.tup (Shs.cons (sh_str (name_data hn) (name_short hn)) (Shs.cons (sh_str hk hl) Shs.nil))
    | _ => exact Bool.noConfusion (show false = true from h)
  · cases h
theorem piece_shown {t : Tr} (ht : tripleT t = true) (ho : okD 5 (blockOf t)) (hm : metD 5 (blockOf t) ≤ 16) : Sh t 12 2200 := by
  obtain ⟨nm, pt, bts, rfl, hp⟩ := triple_shape ht
  have nn : nameS nm = true := by
    have tp : (nameS nm && paramsT pt && true) = true := ht
    rw [Bool.and_eq_true, Bool.and_eq_true] at tp
    exact tp.1.1
  obtain ⟨ts, rfl⟩ : ∃ ts, pt = .tup ts := by
    cases pt with
    | tup ts => exact ⟨ts, rfl⟩
    | _ => exact Bool.noConfusion (show false = true from hp)
  obtain ⟨l2, hpar, na, _⟩ := params_split hp
  have k1 : Shs ts 1 (ts.length * 43) := Shs.all fun t ht => kind_data (List.all_eq_true.mp hpar t ht) (List.all_eq_true.mp na _ (List.mem_map.mpr ⟨t, ht, rfl⟩))
  have hm : metD 5 bts ≤ 16 := hm
  exact (Shs.tup (Shs.cons (sh_str (name_data nn) (name_short nn)) (Shs.cons k1.tup (Shs.cons (right_block 5 bts ho).tup Shs.nil)))).mono (by omega) (by omega)
theorem right_repr {t : Tr} (h : faultT t = none) : ReprOk t := by
  obtain ⟨vs, ps, rfl, l6, l3, nv, rp⟩ := book_right h
  have k1 : Shs vs 0 (vs.length * 21) := Shs.all fun t ht => by
    have := List.all_eq_true.mp nv t ht
    obtain ⟨s, rfl⟩ := name_str this
    exact sh_str (name_data this) (name_short this)
  have k2 : Shs ps 12 (ps.length * 2201) := Shs.all fun t ht => piece_shown (rp t ht).1 (rp t ht).2.1 (rp t ht).2.2
  have k := (Shs.tup (Shs.cons k1.tup (Shs.cons k2.tup Shs.nil)))
  exact ⟨k.da, Nat.le_trans k.de (by omega), Nat.le_trans k.si (by omega)⟩
/-- a book and its place, as the law asks -/
def PairK (p : Tr) : Prop := ∃ t pl, p = .tup [t, pl] ∧ pl = resT (faultT t) ∧ (faultT t = none → ReprOk t) ∧ ∀ q, faultT t = some q → ReprOk (placeT q)
theorem pair_none {t : Tr} (h : faultT t = none) : PairK (.tup [t, .non]) := ⟨t, .non, rfl, (by rw [h]; rfl), fun _ => right_repr h, fun q e => (by rw [h] at e; cases e)⟩
theorem pair_some {t : Tr} {q : Place} (h : faultT t = some q) (r : ReprOk (placeT q)) : PairK (.tup [t, placeT q]) := ⟨t, placeT q, rfl, (by rw [h]; rfl), fun e => (by rw [h] at e; cases e), fun q' e => (by rw [h] at e; cases e; exact r)⟩
theorem ints_shown : ∀ {w : List Nat}, (∀ n ∈ w, n ≤ 1000) → Shs (intsT w) 0 (21 * w.length)
  | [], _ => Shs.nil
  | n :: r, h => by
    have k := Shs.cons (sh_int (i := (n : Int)) (by have := h n List.mem_cons_self; omega)) (ints_shown (w := r) fun x hx => h x (List.mem_cons_of_mem _ hx))
    exact Shs.mono k (by omega) (by rw [List.length_cons]; omega)
theorem way_shown {i : Nat} {w : List Nat} (hi : i ≤ 1000) (h : ∀ n ∈ w, n ≤ 1000) (hl : w.length ≤ 1000) : ReprOk (placeT (.way i w)) := by
  have a := sh_int (i := (i : Int)) (by omega)
  have k := Shs.tup (Shs.cons a (Shs.cons (ints_shown h).tup Shs.nil))
  exact ⟨k.da, Nat.le_trans k.de (by decide), Nat.le_trans k.si (by omega)⟩
end BK

set_option Elab.async false
set_option maxRecDepth 100000
set_option maxHeartbeats 4000000
set_option linter.unusedVariables false
set_option linter.unusedSimpArgs false
/-! statements within others, evaluated -/
namespace BK
open PySem PySem.Spec PyProof.Rows L2
def stF (vars : List Str) (d : Nat) (as : List Str) (km : Km) (n : Nat) (t : Tr) : Fl := match takesT vars t as km (n + 1) with
  | (false, m) => (some [], (m, n + 1))
  | (true, m) => blocksIn (fun b c => recF vars d b (as ++ [wordS t]) c) (blocksT t) 0 (m, n + 1)
theorem faultL_st (vars : List Str) (d : Nat) (as : List Str) (t : Tr) (r : List Tr) (i : Nat) (km : Km) (n : Nat) : faultL vars (recF vars d) as (t :: r) i (km, n) = (match stF vars d as km n t with
    | (some w, c') => (some (i :: w), c')
    | (none, c') => faultL vars (recF vars d) as r (i + 1) c') := by
  show (match takesT vars t as km (n + 1) with
    | (false, m) => (some [i], (m, n + 1))
    | (true, m) => match blocksIn (fun b c => recF vars d b (as ++ [wordS t]) c) (blocksT t) 0 (m, n + 1) with
      | (some w, c') => (some (i :: w), c')
      | (none, c') => faultL vars (recF vars d) as r (i + 1) c') = _
  unfold stF
  cases takesT vars t as km (n + 1) with
  | mk b m => cases b <;> rfl
def showS (x : Str) : Tr := .tup [.str "show", .str x]
def yieldS : Tr := .tup [.str "yield"]
def failS : Tr := .tup [.str "fail"]
def guardS (a b : List Tr) : Tr := .tup [.str "guard", .tup a, .tup b]
def loopS (a : List Tr) : Tr := .tup [.str "loop", .tup a]
def withS (x : Str) (n : Tr) (a : List Tr) : Tr := .tup [.str "with", .str x, n, .tup a]
def ifS (x : Str) (n : Tr) (a b : List Tr) : Tr := .tup [.str "if", .str x, n, .tup a, .tup b]
section
variable {vars : List Str} {x : Str} {as : List Str} {km : Km} {n : Nat}
theorem tk_show (hx : nameS x = true) (hm : x ∈ vars) (ha : as.length ≤ 4) (hn : n ≤ 16) : takesT vars (showS x) as km n = (true, km) := by
  have b1 : ¬ 16 < n := by omega
  have b2 : ¬ 4 < as.length := by omega
  simp (decide := true) [takesT, showS, ko_show, fitsT, pt_variable, nameT, hx, knowsT, sl_variable, va_variable, hm, ca_show, b1, b2]
theorem tk_yield (hw : ("within" : Str) ∉ as) (ha : as.length ≤ 4) (hn : n ≤ 16) : takesT vars yieldS as km n = (true, km) := by
  have b1 : ¬ 16 < n := by omega
  have b2 : ¬ 4 < as.length := by omega
  simp (decide := true) [takesT, yieldS, ko_yield, fitsT, knowsT, ca_yield, b1, b2, hw]
theorem tk_fail (ha : as.length ≤ 4) (hn : n ≤ 16) : takesT vars failS as km n = (true, km) := by
  have b1 : ¬ 16 < n := by omega
  have b2 : ¬ 4 < as.length := by omega
  simp (decide := true) [takesT, failS, ko_fail, fitsT, knowsT, ca_fail, b1, b2]
theorem tk_guard {a b : List Tr} (ha : as.length ≤ 4) (hn : n ≤ 16) : takesT vars (guardS a b) as km n = (true, km) := by
  have b1 : ¬ 16 < n := by omega
  have b2 : ¬ 4 < as.length := by omega
  simp (decide := true) [takesT, guardS, ko_guard, fitsT, pt_block, isTup, knowsT, ca_guard, b1, b2]
theorem yield_yes {a : List Tr} : yieldT (yieldS :: a) = true := by
  have e : isYield yieldS = true := by decide +kernel
  simp [yieldT, e]
theorem tk_loop {a : List Tr} (hy : yieldT a = true) (ha : as.length ≤ 4) (hn : n ≤ 16) : takesT vars (loopS a) as km n = (true, km) := by
  have b1 : ¬ 16 < n := by omega
  have b2 : ¬ 4 < as.length := by omega
  simp (decide := true) [takesT, loopS, ko_loop, fitsT, pt_block, isTup, knowsT, ca_loop, b1, b2, hy]
theorem tk_with {a : List Tr} (hx : nameS x = true) (hm : x ∈ vars) (ha : as.length ≤ 4) (hn : n ≤ 16) : takesT vars (withS x (.int 0) a) as km n = (true, km) := by
  have b1 : ¬ 16 < n := by omega
  have b2 : ¬ 4 < as.length := by omega
  simp (decide := true) [takesT, withS, ko_with, fitsT, pt_variable, pt_source, pt_block, isTup, nameT, numT, hx, knowsT, sl_variable, va_variable, sl_source, va_source, sl_block, va_block, hm, ca_with, b1, b2]
theorem tk_if {a b : List Tr} (hx : nameS x = true) (hm : x ∈ vars) (ha : as.length ≤ 4) (hn : n ≤ 16) : takesT vars (ifS x (.int 0) a b) as km n = (true, km) := by
  have b1 : ¬ 16 < n := by omega
  have b2 : ¬ 4 < as.length := by omega
  simp (decide := true) [takesT, ifS, ko_if, fitsT, pt_variable, pt_integer, pt_block, isTup, nameT, numT, hx, knowsT, sl_variable, va_variable, sl_integer, va_integer, sl_block, va_block, hm, ca_if, b1, b2]
theorem tk_over {t : Tr} (ha : 4 < as.length) : takesT vars t as km n = (false, km) := by
  unfold takesT
  rw [if_pos (.inr ha)]
theorem tk_many {t : Tr} (hn : 16 < n) : takesT vars t as km n = (false, km) := by
  unfold takesT
  rw [if_pos (.inl hn)]
end
/-- a statement's answer, at depth d -/
def Ok1 (vars : List Str) (d : Nat) (t : Tr) (r : Option (List Nat)) (s : Nat) : Prop := ∀ (as : List Str) (km : Km) (n : Nat), ("within" : Str) ∉ as → as.length + d = 5 → n + s ≤ 16 → ∃ n', stF vars d as km n t = (r, (km, n')) ∧ n' ≤ n + s
section
variable {vars : List Str} {x : Str} {d s : Nat} {one : Tr} {r : Option (List Nat)}
theorem k_over (t : Tr) : Ok1 vars 0 t (some []) 1 := fun as km n _ hl _ => ⟨n + 1, by
  unfold stF
  rw [tk_over (by omega)], Nat.le_refl _⟩
theorem k_show (hx : nameS x = true) (hm : x ∈ vars) : Ok1 vars (d + 1) (showS x) none 1 := fun as km n _ hl hn => ⟨n + 1, by
  unfold stF
  rw [tk_show hx hm (by omega) (by omega)]
  rfl, Nat.le_refl _⟩
theorem k_yield : Ok1 vars (d + 1) yieldS none 1 := fun as km n hw hl hn => ⟨n + 1, by
  unfold stF
  rw [tk_yield hw (by omega) (by omega)]
  rfl, Nat.le_refl _⟩
theorem k_fail : Ok1 vars (d + 1) failS none 1 := fun as km n hw hl hn => ⟨n + 1, by
  unfold stF
  rw [tk_fail (by omega) (by omega)]
  rfl, Nat.le_refl _⟩
theorem nilD (vars : List Str) (d : Nat) (as : List Str) (c : Ck) : faultD vars d [] as c = (none, c) := by rw [faultD_eq]; rfl
theorem k_guard0 : Ok1 vars (d + 1) (guardS [] []) none 1 := fun as km n hw hl hn => ⟨n + 1, by
  unfold stF
  rw [tk_guard (by omega) (by omega)]
  show blocksIn (fun b c => faultD vars d b (as ++ [("guard" : Str)]) c) [[], []] 0 (km, n + 1) = _
  unfold blocksIn
  simp only [nilD]
  unfold blocksIn
  simp only [nilD]
  rfl, Nat.le_refl _⟩
def nestK (x k : Str) (one : Tr) : Tr := if k = "guard" then guardS [] [one] else if k = "loop" then loopS [yieldS, one] else if k = "with" then withS x (.int 0) [one] else ifS x (.int 0) [one] []
def wayK (k : Str) : List Nat := if k = "guard" then [1, 0] else if k = "loop" then [0, 1] else [0, 0]
def four : List Str := ["guard", "loop", "with", "if"]
/-- one statement in a block -/
theorem run_one (h : Ok1 vars d one r s) (as : List Str) (km : Km) (n i : Nat) (hw : ("within" : Str) ∉ as) (hl : as.length + d = 5) (hn : n + s ≤ 16) : ∃ n', faultL vars (recF vars d) as [one] i (km, n) = (r.map (i :: ·), (km, n')) ∧ n' ≤ n + s := by
  obtain ⟨n', e, hn'⟩ := h as km n hw hl hn
  refine ⟨n', ?_, hn'⟩
  rw [faultL_st, e]
  cases r <;> rfl
theorem nin (as : List Str) {k : Str} (hw : ("within" : Str) ∉ as) (hk : k ≠ "within") : ("within" : Str) ∉ as ++ [k] := fun z => by
  rcases List.mem_append.mp z with z | z
  · exact hw z
  · exact hk (List.mem_singleton.mp z).symm
theorem k_nest {k : Str} (hk : k ∈ four) (hx : nameS x = true) (hm : x ∈ vars) (h : Ok1 vars d one r s) (hd : k = "loop" → 1 ≤ d) : Ok1 vars (d + 1) (nestK x k one) (r.map (wayK k ++ ·)) (s + 2) := by
  intro as km n hw hl hn
  have ha : as.length ≤ 4 := by omega
  simp only [four, List.mem_cons, List.not_mem_nil, or_false] at hk
  have l1 : ∀ k : Str, (as ++ [k]).length + d = 5 := fun k => by rw [List.length_append, List.length_singleton]; omega
  rcases hk with rfl | rfl | rfl | rfl
  · obtain ⟨n', e, hn'⟩ := run_one h (as ++ [("guard" : Str)]) km (n + 1) 0 (nin as hw (by decide)) (l1 _) (by omega)
    refine ⟨n', ?_, by omega⟩
    show stF vars (d + 1) as km n (guardS [] [one]) = (r.map (fun z => 1 :: 0 :: z), (km, n'))
    unfold stF
    rw [tk_guard ha (by omega)]
    show blocksIn (fun b c => faultD vars d b (as ++ [("guard" : Str)]) c) [[], [one]] 0 (km, n + 1) = _
    unfold blocksIn
    simp only [nilD]
    unfold blocksIn
    simp only [faultD_eq, e]
    cases r <;> rfl
  · obtain ⟨d, rfl⟩ : ∃ d', d = d' + 1 := ⟨d - 1, by have := hd rfl; omega⟩
    obtain ⟨n1, e1, hn1⟩ := k_yield (vars := vars) (d := d) (as ++ [("loop" : Str)]) km (n + 1) (nin as hw (by decide)) (l1 _) (by omega)
    obtain ⟨n', e, hn'⟩ := run_one h (as ++ [("loop" : Str)]) km n1 1 (nin as hw (by decide)) (l1 _) (by omega)
    refine ⟨n', ?_, by omega⟩
    show stF vars (d + 1 + 1) as km n (loopS [yieldS, one]) = (r.map (fun z => 0 :: 1 :: z), (km, n'))
    unfold stF
    rw [tk_loop yield_yes ha (by omega)]
    show blocksIn (fun b c => faultD vars (d + 1) b (as ++ [("loop" : Str)]) c) [[yieldS, one]] 0 (km, n + 1) = _
    unfold blocksIn
    simp only [faultD_eq, faultL_st vars (d + 1) (as ++ [("loop" : Str)]) yieldS, e1, e]
    cases r <;> rfl
  · obtain ⟨n', e, hn'⟩ := run_one h (as ++ [("with" : Str)]) km (n + 1) 0 (nin as hw (by decide)) (l1 _) (by omega)
    refine ⟨n', ?_, by omega⟩
    show stF vars (d + 1) as km n (withS x (.int 0) [one]) = (r.map (fun z => 0 :: 0 :: z), (km, n'))
    unfold stF
    rw [tk_with hx hm ha (by omega)]
    show blocksIn (fun b c => faultD vars d b (as ++ [("with" : Str)]) c) [[one]] 0 (km, n + 1) = _
    unfold blocksIn
    simp only [faultD_eq, e]
    cases r <;> rfl
  · obtain ⟨n', e, hn'⟩ := run_one h (as ++ [("if" : Str)]) km (n + 1) 0 (nin as hw (by decide)) (l1 _) (by omega)
    refine ⟨n', ?_, by omega⟩
    show stF vars (d + 1) as km n (ifS x (.int 0) [one] []) = (r.map (fun z => 0 :: 0 :: z), (km, n'))
    unfold stF
    rw [tk_if hx hm ha (by omega)]
    show blocksIn (fun b c => faultD vars d b (as ++ [("if" : Str)]) c) [[one], []] 0 (km, n + 1) = _
    unfold blocksIn
    simp only [faultD_eq, e]
    cases r with
    | some w => rfl
    | none =>
      show blocksIn _ [[]] 1 (km, n') = _
      unfold blocksIn
      rfl
theorem k_loop_in (hx : nameS x = true) (t : Tr) : Ok1 vars 1 (nestK x "loop" t) (some [0, 0]) 2 := by
  intro as km n hw hl hn
  have l1 : (as ++ [("loop" : Str)]).length + 0 = 5 := by rw [List.length_append, List.length_singleton]; omega
  obtain ⟨n1, e1, hn1⟩ := k_over (vars := vars) yieldS (as ++ [("loop" : Str)]) km (n + 1) (nin as hw (by decide)) l1 (by omega)
  refine ⟨n1, ?_, by omega⟩
  show stF vars 1 as km n (loopS [yieldS, t]) = _
  unfold stF
  rw [tk_loop yield_yes (by omega) (by omega)]
  show blocksIn (fun b c => faultD vars 0 b (as ++ [("loop" : Str)]) c) [[yieldS, t]] 0 (km, n + 1) = _
  unfold blocksIn
  simp only [faultD_eq, faultL_st vars 0 (as ++ [("loop" : Str)]) yieldS, e1]
def nestL (x : Str) (ks : List Str) (one : Tr) : Tr := ks.foldr (nestK x) one
def wayL (ks : List Str) : List Nat := (ks.map wayK).flatten
theorem k_nests (hx : nameS x = true) (hm : x ∈ vars) : ∀ (ks : List Str) {d s : Nat} {r : Option (List Nat)}, (∀ k ∈ ks, k ∈ four) → 1 ≤ d → Ok1 vars d one r s → Ok1 vars (d + ks.length) (nestL x ks one) (r.map (wayL ks ++ ·)) (s + 2 * ks.length)
  | [], d, s, r, _, _, h => by
    have e : r.map (wayL [] ++ ·) = r := by cases r <;> rfl
    rw [e]
    exact h
  | k :: ks, d, s, r, hk, hd, h => by
    have ih := k_nests hx hm ks (fun z hz => hk z (List.mem_cons_of_mem _ hz)) hd h
    have q := k_nest (hk k List.mem_cons_self) hx hm ih (fun _ => by omega)
    have e : (r.map (wayL ks ++ ·)).map (wayK k ++ ·) = r.map (wayL (k :: ks) ++ ·) := by
      cases r with
      | none => rfl
      | some w => simp [wayL]
    rw [e] at q
    rw [List.length_cons, show s + 2 * (ks.length + 1) = s + 2 * ks.length + 2 from by omega]
    exact q
end
end BK

set_option Elab.async false
set_option maxRecDepth 100000
set_option maxHeartbeats 4000000
set_option linter.unusedVariables false
set_option linter.unusedSimpArgs false
/-! blocks that are right: the slots' kinds are told by a function -/
namespace BK
open PySem PySem.Spec PyProof.Rows L2
def KmOk (κ : Str → Str) (km : Km) : Prop := ∀ p ∈ km, p.2 = κ p.1
def SrcG (vars : List Str) (s : Tr) : Prop := (∃ i : Int, s = .int i ∧ 0 ≤ i ∧ i ≤ 99) ∨ ∃ z : Str, s = .str z ∧ z ∈ vars
structure VarsG (vars : List Str) : Prop where
  nm : ∀ v ∈ vars, nameS v = true
section
variable {vars : List Str} {κ : Str → Str} {as : List Str} {km : Km} {n : Nat}
theorem kget_ok {s k : Str} (h : KmOk κ km) (e : kget km s = some k) : k = κ s := by
  unfold kget at e
  cases f : km.find? (fun e => decide (e.1 = s)) with
  | none => rw [f] at e; cases e
  | some p =>
    rw [f] at e
    have e2 : p.2 = k := Option.some.inj e
    have e1 : p.1 = s := of_decide_eq_true (List.find?_some (p := fun e : Str × Str => decide (e.1 = s)) f)
    rw [← e2, ← e1]
    exact h p (List.mem_of_find?_eq_some f)
theorem knows_slot {s k : Str} {r : List (Tr × Str)} (h : KmOk κ km) (hk : slotK k = true) (e : κ s = k) : ∃ km', knowsT vars ((.str s, k) :: r) km = knowsT vars r km' ∧ KmOk κ km' := by
  have eq : knowsT vars ((.str s, k) :: r) km = (match kget km s with
      | none => knowsT vars r (km ++ [(s, k)])
      | some k' => if k' = k then knowsT vars r km else (false, km)) := by
    rw [knowsT, if_pos hk]
    all_goals (cases kget km s <;> rfl)
  rw [eq]
  cases g : kget km s with
  | none =>
    refine ⟨km ++ [(s, k)], rfl, fun p hp => ?_⟩
    rcases List.mem_append.mp hp with hp | hp
    · exact h p hp
    · rw [List.mem_singleton.mp hp]; exact e.symm
  | some k' =>
    have := kget_ok h g
    refine ⟨km, ?_, h⟩
    show (if k' = k then _ else _) = _
    rw [if_pos (this.trans e)]
theorem knows_var {s k : Str} {r : List (Tr × Str)} (hk : slotK k = false) (hv : varK k = true) (hm : s ∈ vars) : knowsT vars ((.str s, k) :: r) km = knowsT vars r km := by
  rw [knowsT, if_neg (by rw [hk]; decide), if_pos hv, if_pos hm]
theorem knows_src {s : Tr} {r : List (Tr × Str)} (h : SrcG vars s) : knowsT vars ((s, ("source" : Str)) :: r) km = knowsT vars r km := by
  rcases h with ⟨i, rfl, _⟩ | ⟨z, rfl, hz⟩
  · rfl
  · exact knows_var sl_source va_source hz
theorem knows_tup {ts : List Tr} {k : Str} {r : List (Tr × Str)} : knowsT vars ((.tup ts, k) :: r) km = knowsT vars r km := rfl
theorem knows_int {i : Int} {k : Str} {r : List (Tr × Str)} : knowsT vars ((.int i, k) :: r) km = knowsT vars r km := rfl
theorem take_of {x : Str} {rest : List Tr} {ks : List Str} {km' : Km} (hn : n ≤ 16) (ha : as.length ≤ 4) (ek : kindsOf x = some ks) (ef : fitsT rest ks = true) (hk : knowsT vars (rest.zip ks) km = (true, km')) (hc : canT x rest as = true) : takesT vars (.tup (.str x :: rest)) as km n = (true, km') := by
  unfold takesT
  rw [if_neg (by omega)]
  simp only [ek]
  rw [if_pos ef, hk, hc]
  rfl
theorem src_fit {s : Tr} (hV : VarsG vars) (h : SrcG vars s) : partT s "source" = true := by
  rcases h with ⟨i, rfl, h0, h1⟩ | ⟨z, rfl, hz⟩
  · simp (decide := true) [pt_source, numT, h0, h1]
  · simp (decide := true) [pt_source, nameT, hV.nm z hz]
theorem var_fit {v : Str} (hV : nameS v = true) : partT (.str v) "variable" = true := by simp (decide := true) [pt_variable, nameT, hV]
theorem fit1 {a : Tr} {k : Str} (h : partT a k = true) : fitsT [a] [k] = true := by simp [fitsT, h]
theorem fit2 {a b : Tr} {k l : Str} (h : partT a k = true) (h2 : partT b l = true) : fitsT [a, b] [k, l] = true := by simp [fitsT, h, h2]
theorem fit3 {a b c : Tr} {k l m : Str} (h : partT a k = true) (h2 : partT b l = true) (h3 : partT c m = true) : fitsT [a, b, c] [k, l, m] = true := by simp [fitsT, h, h2, h3]
theorem fit4 {a b c d : Tr} {k l m o : Str} (h : partT a k = true) (h2 : partT b l = true) (h3 : partT c m = true) (h4 : partT d o = true) : fitsT [a, b, c, d] [k, l, m, o] = true := by simp [fitsT, h, h2, h3, h4]
theorem slot_fit {s k : Str} (hs : nameS s = true) (hk : slotK k = true) : partT (.str s) k = true := by
  unfold slotK at hk
  rw [Bool.or_eq_true, decide_eq_true_eq, decide_eq_true_eq] at hk
  rcases hk with rfl | rfl
  · have e : partT (.str s) "context" = nameT (.str s) := by unfold partT; simp (decide := true)
    rw [e]; exact hs
  · have e : partT (.str s) "token" = nameT (.str s) := by unfold partT; simp (decide := true)
    rw [e]; exact hs
theorem blk_fit {ts : List Tr} : partT (.tup ts) "block" = true := by simp (decide := true) [pt_block, isTup]
end
def leaveS : Tr := .tup [.str "leave"]
/-- statements without others within -/
inductive GLeaf (vars : List Str) (κ : Str → Str) : Bool → Bool → Tr → Prop
  | yield {l : Bool} : GLeaf vars κ true l yieldS
  | show_ {f l : Bool} {v : Str} (h : v ∈ vars) : GLeaf vars κ f l (showS v)
  | set {f l : Bool} {v : Str} {s : Tr} (h : v ∈ vars) (hs : SrcG vars s) : GLeaf vars κ f l (.tup [.str "set", .str v, s])
  | hold {f l : Bool} {t v : Str} {s : Tr} (ht : nameS t = true) (hk : κ t = "token") (h : v ∈ vars) (hs : SrcG vars s) : GLeaf vars κ f l (.tup [.str "hold", .str t, .str v, s])
  | reset {f l : Bool} {t : Str} (ht : nameS t = true) (hk : κ t = "token") : GLeaf vars κ f l (.tup [.str "reset", .str t])
  | drop {f l : Bool} {v : Str} (h : v ∈ vars) : GLeaf vars κ f l (.tup [.str "drop", .str v])
  | leave {f : Bool} : GLeaf vars κ f true leaveS
  | fail {f l : Bool} : GLeaf vars κ f l failS
  | copy {f l : Bool} {c : Str} (hc : nameS c = true) (hk : κ c = "context") : GLeaf vars κ f l (.tup [.str "copy", .str c])
mutual
/-- a statement at which d levels are left, whether a yield may stand there, a leave; how many statements it is -/
inductive GS (vars : List Str) (κ : Str → Str) : Nat → Bool → Bool → Tr → Nat → Prop
  | leaf {d : Nat} {f l : Bool} {t : Tr} (h : GLeaf vars κ f l t) : GS vars κ (d + 1) f l t 1
  | within {d : Nat} {f l : Bool} {c : Str} {ts : List Tr} {m : Nat} (hc : nameS c = true) (hk : κ c = "context") (h : GB vars κ d false false ts m) : GS vars κ (d + 1) f l (.tup [.str "within", .str c, .tup ts]) (m + 1)
  | with_ {d : Nat} {f l : Bool} {v : Str} {s : Tr} {ts : List Tr} {m : Nat} (hv : v ∈ vars) (hs : SrcG vars s) (h : GB vars κ d f l ts m) : GS vars κ (d + 1) f l (.tup [.str "with", .str v, s, .tup ts]) (m + 1)
  | loop {d : Nat} {l : Bool} {ts : List Tr} {m : Nat} (h : GB vars κ d true true ts m) (hy : yieldT ts = true) : GS vars κ (d + 1) true l (loopS ts) (m + 1)
  | if_ {d : Nat} {f l : Bool} {v : Str} {i : Int} {a b : List Tr} {m k : Nat} (hv : v ∈ vars) (h0 : 0 ≤ i) (h1 : i ≤ 99) (ha : GB vars κ d f l a m) (hb : GB vars κ d f l b k) : GS vars κ (d + 1) f l (ifS v (.int i) a b) (m + k + 1)
  | guard {d : Nat} {f l : Bool} {a b : List Tr} {m k : Nat} (ha : GB vars κ d f l a m) (hb : GB vars κ d f l b k) : GS vars κ (d + 1) f l (guardS a b) (m + k + 1)
inductive GB (vars : List Str) (κ : Str → Str) : Nat → Bool → Bool → List Tr → Nat → Prop
  | nil {d : Nat} {f l : Bool} : GB vars κ d f l [] 0
  | cons {d : Nat} {f l : Bool} {t : Tr} {ts : List Tr} {m k : Nat} (h : GS vars κ d f l t m) (r : GB vars κ d f l ts k) : GB vars κ d f l (t :: ts) (m + k)
end
/-- what is around -/
structure Ard (f l : Bool) (d : Nat) (as : List Str) : Prop where
  len : as.length + d = 5
  fr : f = true → ("within" : Str) ∉ as
  lp : l = true → ("loop" : Str) ∈ as ∧ ("within" : Str) ∉ as
section
variable {vars : List Str} {κ : Str → Str} {as : List Str} {km : Km} {n d : Nat} {f l : Bool}
theorem leaf_ok {t : Tr} (hV : VarsG vars) (h : GLeaf vars κ f l t) (A : Ard f l (d + 1) as) (hk : KmOk κ km) (hn : n + 1 ≤ 16) : ∃ km', stF vars (d + 1) as km n t = (none, (km', n + 1)) ∧ KmOk κ km' := by
  have ha : as.length ≤ 4 := by have := A.len; omega
  have fin : ∀ {km'}, takesT vars t as km (n + 1) = (true, km') → blocksT t = [] → stF vars (d + 1) as km n t = (none, (km', n + 1)) := fun {km'} e b => by
    unfold stF
    rw [e, b]
    rfl
  cases h with
  | yield => exact ⟨km, fin (tk_yield (A.fr rfl) ha hn) rfl, hk⟩
  | show_ h => exact ⟨km, fin (tk_show (hV.nm _ h) h ha hn) rfl, hk⟩
  | set h hs =>
    refine ⟨km, fin (take_of hn ha ko_set (fit2 (var_fit (hV.nm _ h)) (src_fit hV hs)) ?_ (by rw [ca_set])) ?_, hk⟩
    · show knowsT vars [(_, "variable"), (_, "source")] km = _
      rw [knows_var sl_variable va_variable h, knows_src hs]; rfl
    · rcases hs with ⟨i, rfl, _⟩ | ⟨z, rfl, _⟩ <;> rfl
  | hold ht he h hs =>
    obtain ⟨km', e, hk'⟩ := knows_slot (vars := vars) (r := [(Tr.str _, ("variable" : Str)), (_, ("source" : Str))]) hk sl_token he
    refine ⟨km', fin (take_of hn ha ko_hold (fit3 (slot_fit ht sl_token) (var_fit (hV.nm _ h)) (src_fit hV hs)) ?_ (by rw [ca_hold])) ?_, hk'⟩
    · show knowsT vars [(_, "token"), (_, "variable"), (_, "source")] km = _
      rw [e, knows_var sl_variable va_variable h, knows_src hs]; rfl
    · rcases hs with ⟨i, rfl, _⟩ | ⟨z, rfl, _⟩ <;> rfl
  | reset ht he =>
    obtain ⟨km', e, hk'⟩ := knows_slot (vars := vars) (r := []) hk sl_token he
    exact ⟨km', fin (take_of hn ha ko_reset (fit1 (slot_fit ht sl_token)) e (by rw [ca_reset])) rfl, hk'⟩
  | drop h =>
    refine ⟨km, fin (take_of hn ha ko_drop (fit1 (var_fit (hV.nm _ h))) ?_ (by rw [ca_drop])) rfl, hk⟩
    show knowsT vars [(_, "variable")] km = _
    rw [knows_var sl_variable va_variable h]; rfl
  | leave =>
    obtain ⟨h1, h2⟩ := A.lp rfl
    exact ⟨km, fin (take_of hn ha ko_leave rfl rfl (by simp (decide := true) [canT, h1, h2])) rfl, hk⟩
  | fail => exact ⟨km, fin (tk_fail ha hn) rfl, hk⟩
  | copy hc he =>
    obtain ⟨km', e, hk'⟩ := knows_slot (vars := vars) (r := []) hk sl_context he
    exact ⟨km', fin (take_of hn ha ko_copy (fit1 (slot_fit hc sl_context)) e (by rw [ca_copy])) rfl, hk'⟩
theorem Ard.into (A : Ard f l (d + 1) as) {k : Str} (hk : k ≠ "within") (nk : k ≠ "loop") : Ard f l d (as ++ [k]) := by
  refine ⟨by have := A.len; rw [List.length_append, List.length_singleton]; omega, fun e z => ?_, fun e => ⟨List.mem_append_left _ (A.lp e).1, fun z => ?_⟩⟩
  · rcases List.mem_append.mp z with z | z
    · exact A.fr e z
    · exact hk (List.mem_singleton.mp z).symm
  · rcases List.mem_append.mp z with z | z
    · exact (A.lp e).2 z
    · exact hk (List.mem_singleton.mp z).symm
theorem Ard.loop (A : Ard true l (d + 1) as) : Ard true true d (as ++ [("loop" : Str)]) := by
  have nw : ("within" : Str) ∉ as ++ [("loop" : Str)] := fun z => by
    rcases List.mem_append.mp z with z | z
    · exact A.fr rfl z
    · revert z; decide
  exact ⟨by have := A.len; rw [List.length_append, List.length_singleton]; omega, fun _ => nw, fun _ => ⟨List.mem_append_right _ (List.mem_singleton.mpr rfl), nw⟩⟩
theorem Ard.within (A : Ard f l (d + 1) as) : Ard false false d (as ++ [("within" : Str)]) := ⟨by have := A.len; rw [List.length_append, List.length_singleton]; omega, (fun e => nomatch e), (fun e => nomatch e)⟩
end
mutual
theorem gs_ok {vars : List Str} {κ : Str → Str} (hV : VarsG vars) : ∀ {d : Nat} {f l : Bool} {t : Tr} {m : Nat}, GS vars κ d f l t m → ∀ (as : List Str) (km : Km) (n : Nat), Ard f l d as → KmOk κ km → n + m ≤ 16 → ∃ km', stF vars d as km n t = (none, (km', n + m)) ∧ KmOk κ km'
  | _, _, _, _, _, .leaf h, as, km, n, A, hk, hn => leaf_ok hV h A hk hn
  | d + 1, f, l, _, _, .within (c := c) (ts := ts) (m := m) hc he h, as, km, n, A, hk, hn => by
    have ha : as.length ≤ 4 := by have := A.len; omega
    obtain ⟨km1, e, hk1⟩ := knows_slot (vars := vars) (r := [(.tup ts, ("block" : Str))]) hk sl_context he
    obtain ⟨km2, e2, hk2⟩ := gb_ok hV h (as ++ [("within" : Str)]) km1 (n + 1) 0 A.within hk1 (by omega)
    refine ⟨km2, ?_, hk2⟩
    unfold stF
    rw [take_of (by omega) ha ko_within (fit2 (slot_fit hc sl_context) blk_fit) e (by rw [ca_within])]
    show blocksIn (fun b c => faultD vars d b (as ++ [("within" : Str)]) c) [ts] 0 (km1, n + 1) = _
    unfold blocksIn
    simp only [faultD_eq, e2]
    unfold blocksIn
    rw [show n + 1 + m = n + (m + 1) by omega]
  | d + 1, f, l, _, _, .with_ (v := v) (s := s) (ts := ts) (m := m) hv hs h, as, km, n, A, hk, hn => by
    have ha : as.length ≤ 4 := by have := A.len; omega
    obtain ⟨km2, e2, hk2⟩ := gb_ok hV h (as ++ [("with" : Str)]) km (n + 1) 0 (A.into (by decide) (by decide)) hk (by omega)
    refine ⟨km2, ?_, hk2⟩
    unfold stF
    rw [take_of (by omega) ha ko_with (fit3 (var_fit (hV.nm _ hv)) (src_fit hV hs) blk_fit) (by
      show knowsT vars [(_, "variable"), (_, "source"), (_, "block")] km = _
      rw [knows_var sl_variable va_variable hv, knows_src hs, knows_tup]; rfl) (by rw [ca_with])]
    have eb : blocksT (.tup [.str "with", .str v, s, .tup ts]) = [ts] := by rcases hs with ⟨i, rfl, _⟩ | ⟨z, rfl, _⟩ <;> rfl
    rw [eb]
    show blocksIn (fun b c => faultD vars d b (as ++ [("with" : Str)]) c) [ts] 0 (km, n + 1) = _
    unfold blocksIn
    simp only [faultD_eq, e2]
    unfold blocksIn
    rw [show n + 1 + m = n + (m + 1) by omega]
  | d + 1, _, l, _, _, .loop (ts := ts) (m := m) h hy, as, km, n, A, hk, hn => by
    have ha : as.length ≤ 4 := by have := A.len; omega
    obtain ⟨km2, e2, hk2⟩ := gb_ok hV h (as ++ [("loop" : Str)]) km (n + 1) 0 A.loop hk (by omega)
    refine ⟨km2, ?_, hk2⟩
    unfold stF
    rw [tk_loop hy ha (by omega)]
    show blocksIn (fun b c => faultD vars d b (as ++ [("loop" : Str)]) c) [ts] 0 (km, n + 1) = _
    unfold blocksIn
    simp only [faultD_eq, e2]
    unfold blocksIn
    rw [show n + 1 + m = n + (m + 1) by omega]
  | d + 1, f, l, _, _, .if_ (v := v) (i := i) (a := a) (b := b) (m := m) (k := k) hv h0 h1 hA hB, as, km, n, A, hk, hn => by
    have ha : as.length ≤ 4 := by have := A.len; omega
    obtain ⟨km2, e2, hk2⟩ := gb_ok hV hA (as ++ [("if" : Str)]) km (n + 1) 0 (A.into (by decide) (by decide)) hk (by omega)
    obtain ⟨km3, e3, hk3⟩ := gb_ok hV hB (as ++ [("if" : Str)]) km2 (n + 1 + m) 0 (A.into (by decide) (by decide)) hk2 (by omega)
    refine ⟨km3, ?_, hk3⟩
    unfold stF
    have ei : partT (.int i) "integer" = true := by simp (decide := true) [pt_integer, numT, h0, h1]
    have tk : takesT vars (ifS v (.int i) a b) as km (n + 1) = (true, km) := take_of (by omega) ha ko_if (fit4 (var_fit (hV.nm _ hv)) ei blk_fit blk_fit) (by
      show knowsT vars [(_, "variable"), (_, "integer"), (_, "block"), (_, "block")] km = _
      rw [knows_var sl_variable va_variable hv, knows_int, knows_tup, knows_tup]; rfl) (by rw [ca_if])
    rw [tk]
    show blocksIn (fun b c => faultD vars d b (as ++ [("if" : Str)]) c) [a, b] 0 (km, n + 1) = _
    unfold blocksIn
    simp only [faultD_eq, e2]
    unfold blocksIn
    simp only [faultD_eq, e3]
    unfold blocksIn
    rw [show n + 1 + m + k = n + (m + k + 1) by omega]
  | d + 1, f, l, _, _, .guard (a := a) (b := b) (m := m) (k := k) hA hB, as, km, n, A, hk, hn => by
    have ha : as.length ≤ 4 := by have := A.len; omega
    obtain ⟨km2, e2, hk2⟩ := gb_ok hV hA (as ++ [("guard" : Str)]) km (n + 1) 0 (A.into (by decide) (by decide)) hk (by omega)
    obtain ⟨km3, e3, hk3⟩ := gb_ok hV hB (as ++ [("guard" : Str)]) km2 (n + 1 + m) 0 (A.into (by decide) (by decide)) hk2 (by omega)
    refine ⟨km3, ?_, hk3⟩
    unfold stF
    rw [tk_guard ha (by omega)]
    show blocksIn (fun b c => faultD vars d b (as ++ [("guard" : Str)]) c) [a, b] 0 (km, n + 1) = _
    unfold blocksIn
    simp only [faultD_eq, e2]
    unfold blocksIn
    simp only [faultD_eq, e3]
    unfold blocksIn
    rw [show n + 1 + m + k = n + (m + k + 1) by omega]
theorem gb_ok {vars : List Str} {κ : Str → Str} (hV : VarsG vars) : ∀ {d : Nat} {f l : Bool} {ts : List Tr} {m : Nat}, GB vars κ d f l ts m → ∀ (as : List Str) (km : Km) (n i : Nat), Ard f l d as → KmOk κ km → n + m ≤ 16 → ∃ km', faultL vars (recF vars d) as ts i (km, n) = (none, (km', n + m)) ∧ KmOk κ km'
  | _, _, _, _, _, .nil, as, km, n, i, A, hk, hn => ⟨km, rfl, hk⟩
  | d, f, l, _, _, .cons (t := t) (ts := ts) (m := m) (k := k) h r, as, km, n, i, A, hk, hn => by
    obtain ⟨km1, e1, hk1⟩ := gs_ok hV h as km n A hk (by omega)
    obtain ⟨km2, e2, hk2⟩ := gb_ok hV r as km1 (n + m) (i + 1) A hk1 (by omega)
    refine ⟨km2, ?_, hk2⟩
    rw [faultL_st, e1]
    show faultL vars (recF vars d) as ts (i + 1) (km1, n + m) = _
    rw [e2, Nat.add_assoc]
end
theorem blk_ok {vars : List Str} {κ : Str → Str} {ts : List Tr} {m : Nat} {km : Km} (hV : VarsG vars) (h : GB vars κ 5 true false ts m) (hk : KmOk κ km) (hm : m ≤ 16) : (faultD vars 5 ts [] (km, 0)).1 = none := by
  obtain ⟨km', e, _⟩ := gb_ok hV h [] km 0 0 ⟨rfl, fun _ => by simp, (fun e => nomatch e)⟩ hk (by omega)
  rw [faultD_eq, e]
end BK

set_option Elab.async false
set_option maxRecDepth 100000
set_option maxHeartbeats 1000000
/-! expressions that make trees. -/
namespace BK
open PySem PySem.Spec PyProof.Rows L2
/-- the slots that hold trees -/
def Gt (K : PySem.W.Frag) (L : List (Nat × Tr)) (σ : L2.St) (H : Hp) : Prop := ∀ p ∈ L, ∃ v, σ[p.1]? = some (some v) ∧ TrAt K H v p.2
theorem Gt.same {K : PySem.W.Frag} {L : List (Nat × Tr)} {σ : L2.St} {H H' : Hp} (g : Gt K L σ H) (e : Same H H') : Gt K L σ H' := fun p hp => by
  obtain ⟨v, h1, h2⟩ := g p hp
  exact ⟨v, h1, h2.same e⟩
def ETr (X : Cx) (L : List (Nat × Tr)) (e : Expr) (t : Tr) : Prop := ∃ te : TE, PE X e te ∧ ∀ σ H Q, Gt X.K L σ H → (∀ v H', Same H H' → TrAt X.K H' v t → Q v H') → te σ H Q
def EAr (X : Cx) (L : List (Nat × Tr)) (es : List Expr) (ts : List Tr) : Prop := ∃ ta : TA, PA X es ta ∧ ∀ σ H Q, Gt X.K L σ H → (∀ vs H', Same H H' → TrAll X.K H' vs ts → Q vs H') → ta σ H Q
/-- a new list of trees -/
def ELi (X : Cx) (L : List (Nat × Tr)) (e : Expr) (ts : List Tr) : Prop := ∃ te : TE, PE X e te ∧ ∀ σ H Q, Gt X.K L σ H → (∀ a vs H', Same H H' → H a = none → H' a = some (.lst vs) → TrAll X.K H' vs ts → Q (.ref a) H') → te σ H Q
section
variable {X : Cx} {L : List (Nat × Tr)}
theorem et_var {i : Nat} {x : Str} {pos : Pos} {t : Tr} (h : PE X (.Name x pos) (tVar i)) (m : (i, t) ∈ L) : ETr X L (.Name x pos) t := ⟨_, h, fun σ H Q g k => by
  obtain ⟨v, h1, h2⟩ := g _ m
  exact ⟨v, h1, k v H (fun _ _ e => e) h2⟩⟩
theorem et_str {s : Str} {j : Nat} {pos : Pos} (h : s.length ≤ sizeLine := by decide +kernel) : ETr X L (.Constant (.str s) j pos) (.str s) := ⟨_, pe_str, fun _ H _ _ k => k _ H (fun _ _ e => e) (.str s h)⟩
theorem et_int {i : Int} {j : Nat} {pos : Pos} : ETr X L (.Constant (.int i) j pos) (.int i) := ⟨_, pe_int, fun _ H _ _ k => k _ H (fun _ _ e => e) (.int i)⟩
theorem et_neg {i : Int} {j : Nat} {pos pos' : Pos} : ETr X L (.UnaryOp .USub (.Constant (.int i) j pos) pos') (.int (-i)) := ⟨_, pe_un un_neg pe_int, fun _ H _ _ k => ⟨i, rfl, k _ H (fun _ _ e => e) (.int (-i))⟩⟩
theorem et_bl {b : Bool} {j : Nat} {pos : Pos} : ETr X L (.Constant (.bool b) j pos) (.bl b) := ⟨_, pe_bl, fun _ H _ _ k => k _ H (fun _ _ e => e) (.bl b)⟩
theorem et_non {j : Nat} {pos : Pos} : ETr X L (.Constant .none j pos) .non := ⟨_, pe_non, fun _ H _ _ k => k _ H (fun _ _ e => e) .non⟩
theorem ea_nil : EAr X L [] [] := ⟨_, pa_nil, fun _ H _ _ k => k _ H (fun _ _ e => e) .nil⟩
theorem ea_cons {e : Expr} {es : List Expr} {t : Tr} {ts : List Tr} (h : ETr X L e t) (r : EAr X L es ts) (hs : starEach (e :: es) X.env = (false, eval e X.env) :: starEach es X.env := by rfl) : EAr X L (e :: es) (t :: ts) := by
  obtain ⟨te, p, q⟩ := h
  obtain ⟨ta, p2, q2⟩ := r
  exact ⟨_, pa_cons p p2 hs, fun σ H Q g k => q σ H _ g fun v H1 s1 h1 => q2 σ H1 _ (g.same s1) fun vs H2 s2 h2 => k _ H2 (s1.trans s2) (.cons (h1.same s2) h2)⟩
theorem et_tup {es : List Expr} {k : Nat} {pos : Pos} {ts : List Tr} (h : EAr X L es ts) (hl : es.length ≤ 1000 := by exact Nat.le_of_ble_eq_true rfl) (hl2 : ts.length = es.length := by rfl) : ETr X L (.Tuple es k pos) (.tup ts) := by
  obtain ⟨ta, p, q⟩ := h
  refine ⟨_, pe_tup p, fun σ H Q g k => q σ H _ g fun vs H1 s1 h1 => ⟨?_, fun p np => k _ _ (s1.trans (same_new np)) (.tup (SqT.of upd_same) (h1.same (same_new np)))⟩⟩
  rw [h1.len, hl2, sizeLine_eq]
  omega
theorem et_lst {es : List Expr} {pos : Pos} {ts : List Tr} (h : EAr X L es ts) (hl : es.length ≤ 1000 := by exact Nat.le_of_ble_eq_true rfl) (hl2 : ts.length = es.length := by rfl) : ETr X L (.List es pos) .lst := by
  obtain ⟨ta, p, q⟩ := h
  refine ⟨_, pe_lst p, fun σ H Q g k => q σ H _ g fun vs H1 s1 h1 => ⟨?_, fun p np => k _ _ (s1.trans (same_new np)) (.lst (SqL.of upd_same))⟩⟩
  rw [h1.len, hl2, sizeLine_eq]
  omega
theorem et_dct {pos : Pos} : ETr X L (.Dict [] [] pos) .dct := ⟨_, pe_dnewK, fun _ _ _ _ k => fun p np => k _ _ (same_new np) (.dct upd_same)⟩
theorem et_cat {a b : Expr} {pos : Pos} {xs ys : List Tr} (h1 : ETr X L a (.tup xs)) (h2 : ETr X L b (.tup ys)) (l1 : xs.length ≤ 1000 := by exact Nat.le_of_ble_eq_true rfl) (l2 : ys.length ≤ 1000 := by exact Nat.le_of_ble_eq_true rfl) : ETr X L (.BinOp a .Add b pos) (.tup (xs ++ ys)) := by
  obtain ⟨ta, p1, q1⟩ := h1
  obtain ⟨tb, p2, q2⟩ := h2
  refine ⟨_, pe_op op_catA p1 p2, fun σ H Q g k => q1 σ H _ g fun v H1 s1 t1 => q2 σ H1 _ (g.same s1) fun u H2 s2 t2 => ?_⟩
  have t1 := t1.same s2
  have s12 := s1.trans s2
  cases t1 with
  | @tup aa vs _ ha ta' =>
  cases t2 with
  | @tup bb us _ hb tb' =>
  have e1 := ta'.len
  have e2 := tb'.len
  refine ⟨aa, bb, vs, us, rfl, rfl, ha, hb, by rw [sizeLine_eq]; omega, fun e => ?_, fun _ e => ?_, fun _ _ p np => ?_⟩
  · subst e
    cases ta'
    exact k _ _ s12 (.tup hb tb')
  · subst e
    cases tb'
    rw [List.append_nil] at k
    exact k _ _ s12 (.tup ha ta')
  · have app : ∀ {vs us : List V} {xs ys : List Tr} {H : Hp}, TrAll X.K H vs xs → TrAll X.K H us ys → TrAll X.K H (vs ++ us) (xs ++ ys) := fun {vs us xs ys H} h1 h2 => by
      induction vs generalizing xs with
      | nil => cases h1; exact h2
      | cons v r ih => cases h1 with | cons a b => exact .cons a (ih b)
    exact k _ _ (s12.trans (same_new np)) (.tup (SqT.of upd_same) ((app ta' tb').same (same_new np)))
theorem el_disp {es : List Expr} {pos : Pos} {ts : List Tr} (h : EAr X L es ts) (hl : es.length ≤ 1000 := by exact Nat.le_of_ble_eq_true rfl) (hl2 : ts.length = es.length := by rfl) : ELi X L (.List es pos) ts := by
  obtain ⟨ta, p, q⟩ := h
  refine ⟨_, pe_lst p, fun σ H Q g k => q σ H _ g fun vs H1 s1 h1 => ⟨?_, fun p np => k p vs _ (s1.trans (same_new np)) (s1.free np) upd_same (h1.same (same_new np))⟩⟩
  rw [h1.len, hl2, sizeLine_eq]
  omega
end
theorem TrAll.app {K : PySem.W.Frag} {H : Hp} : ∀ {vs us : List V} {xs ys : List Tr}, TrAll K H vs xs → TrAll K H us ys → TrAll K H (vs ++ us) (xs ++ ys)
  | _, _, _, _, .nil, h => h
  | _, _, _, _, .cons a b, h => .cons a (TrAll.app b h)
/-- some = some + [..] -/
theorem some_cat {X : Cx} {L : List (Nat × Tr)} {i : Nat} {te : TE} {us ts : List Tr} {σ : L2.St} {H0 H : Hp} {a : Addr} {vs : List V} {Q : VK} (r : ∀ σ H Q, Gt X.K L σ H → (∀ a vs H', Same H H' → H a = none → H' a = some (.lst vs) → TrAll X.K H' vs us → Q (.ref a) H') → te σ H Q)
    (g : Gt X.K L σ H) (hσ : σ[i]? = some (some (.ref a))) (s : Same H0 H) (e : H a = some (.lst vs)) (tr : TrAll X.K H vs ts) (lt : ts.length ≤ 500) (lu : us.length ≤ 500)
    (k : ∀ p ws H', Same H0 H' → Same H H' → H0 p = none → H' p = some (.lst ws) → TrAll X.K H' ws (ts ++ us) → Q (.ref p) H') : tOp rCat (tVar i) te σ H Q := by
  refine ⟨.ref a, hσ, r σ H _ g fun b ws H1 s1 nb eb tb => ?_⟩
  have e1 := s1 _ _ e
  have l1 := tr.len
  have l2 := tb.len
  refine ⟨a, b, vs, ws, rfl, rfl, e1, eb, by rw [sizeLine_eq]; omega, fun p np => ?_⟩
  have s2 := same_new (o := .lst (vs ++ ws)) np
  exact k p _ _ ((s.trans s1).trans s2) (s1.trans s2) ((s.trans s1).free np) upd_same (((tr.same s1).app tb).same s2)
/-- some.append(..) -/
theorem some_app {X : Cx} {L : List (Nat × Tr)} {i : Nat} {te : TE} {u : Tr} {ts : List Tr} {σ : L2.St} {H0 H : Hp} {a : Addr} {vs : List V} {Q : VK} (r : ∀ σ H Q, Gt X.K L σ H → (∀ v H', Same H H' → TrAt X.K H' v u → Q v H') → te σ H Q)
    (g : Gt X.K L σ H) (hσ : σ[i]? = some (some (.ref a))) (s : Same H0 H) (na : H0 a = none) (e : H a = some (.lst vs)) (tr : TrAll X.K H vs ts) (lt : ts.length ≤ 500)
    (k : ∀ ws H', Same H0 H' → H' a = some (.lst ws) → TrAll X.K H' ws (ts ++ [u]) → (∀ v t, TrAt X.K H v t → TrAt X.K H' v t) → Q .non H') : tBM X.K "list" rAppend (tVar i) (tCons te tNil) σ H Q := by
  refine ⟨.ref a, hσ, .inl ⟨rfl, _, SqL.of e⟩, r σ H _ g fun v H1 s1 t1 => ?_⟩
  have e1 := s1 _ _ e
  have l1 := tr.len
  refine ⟨a, vs, v, rfl, rfl, e1, by rw [sizeLine_eq]; omega, ?_⟩
  refine k (vs ++ [v]) _ (fun b o eb => ?_) upd_same (((tr.same s1).updL e1).app (.cons (t1.updL e1) .nil)) fun v t h => (h.same s1).updL e1
  rw [upd_ne (ne_of_none eb na)]
  exact s1 _ _ (s _ _ eb)
/-! the parts of a text -/
def stAt (s : Stmt) (j : Nat) : Stmt := (defBody s).getD j (.Pass ⟨0, 0, 0, 0⟩)
def noE : Expr := .Constant .none 0 ⟨0, 0, 0, 0⟩
def valueOf : Stmt → Expr
  | .Assign _ v _ => v
  | .Return (some v) _ => v
  | .Expr v _ => v
  | _ => noE
def rightOf : Expr → Expr
  | .BinOp _ _ b _ => b
  | _ => noE
def argOf : Expr → Expr
  | .Call _ (a :: _) _ _ => a
  | _ => noE
def eltsOf : Expr → List Expr
  | .Tuple es _ _ => es
  | _ => []
end BK


set_option Elab.async false
set_option linter.all false
set_option maxRecDepth 100000
set_option maxHeartbeats 4000000
/-! tuple * int, of any number of times. -/
namespace L2
open PySem PySem.Spec PyProof.Rows
open AutoSeq1 (wpAny_loadPart')
theorem tuple_mul1 (l : Addr) (items : Array Value) (n : Nat) (dd : Option Addr) (sl : Array (Option Value)) (u : Tok) :
    Meets (Builtin.«tuple.__mul__» ⟨[.ref l, .int 1 u], []⟩) (fun _ R s => s.heap.get? l = some { cls := .type "tuple", dict := dd, data := .seq items n, slots := sl } ∧
      R (.ok (.ret (Value.ref l))) s) :=
  .of_wp fun prog w A R s h => by
    obtain ⟨hp, g, d, tk, os⟩ := s
    obtain ⟨hl, h⟩ := h
    have f1 := AutoSeq1.idx_int
    have c0 : (decide ((1 : Int) < -(2 ^ 63)) || decide ((1 : Int) ≥ 2 ^ 63)) = false := by decide
    have c1 : (items.isEmpty || (1 : Int) == 1) = true := by simp
    wp_walk using wpAny_loadPart' hl
    repeat (first
      | (refine wpAny_ite_false (decide_eq_false (by rw [c0]; exact Bool.false_ne_true)) ?_; wp_walk using wpAny_loadPart' hl)
      | (refine wpAny_ite_true (decide_eq_true c1) ?_; wp_walk using wpAny_loadPart' hl))
    exact ⟨_, rfl, h⟩
theorem tuple_mul0 (l : Addr) (items : Array Value) (n : Nat) (dd : Option Addr) (sl : Array (Option Value)) (u : Tok) (ne : items.isEmpty = false) :
    Meets (Builtin.«tuple.__mul__» ⟨[.ref l, .int 0 u], []⟩) (fun _ R s => s.heap.get? l = some { cls := .type "tuple", dict := dd, data := .seq items n, slots := sl } ∧
      R (.ok (.ret (Value.ref s.heap.objs.size))) { s with heap := s.heap.push { cls := Value.type "tuple", data := Data.seq #[] }, toks := s.toks }) :=
  .of_wp fun prog w A R s h => by
    obtain ⟨hp, g, d, tk, os⟩ := s
    obtain ⟨hl, h⟩ := h
    have f1 := AutoSeq1.idx_int
    have c0 : (decide ((0 : Int) < -(2 ^ 63)) || decide ((0 : Int) ≥ 2 ^ 63)) = false := by decide
    have c1 : (items.isEmpty || (0 : Int) == 1) = false := by rw [ne]; decide
    have c2 : (decide ((0 : Int) ≤ 0) || items.isEmpty) = true := by simp
    wp_walk using wpAny_loadPart' hl
    repeat (first
      | (refine wpAny_ite_false (decide_eq_false (by rw [c0]; exact Bool.false_ne_true)) ?_; wp_walk using wpAny_loadPart' hl)
      | (refine wpAny_ite_false (decide_eq_false (by rw [c1]; exact Bool.false_ne_true)) ?_; wp_walk using wpAny_loadPart' hl)
      | (refine wpAny_ite_true (decide_eq_true c2) ?_; wp_walk using wpAny_loadPart' hl))
    exact ⟨_, rfl, h⟩
end L2


set_option Elab.async false
set_option linter.all false
set_option maxRecDepth 100000
set_option maxHeartbeats 4000000
namespace L2
open PySem PySem.Spec PyProof.Rows
def rRepA (K : PySem.W.Frag) : R2 := fun x y H Q => ∃ l k xs, x = .ref l ∧ y = .int k ∧ SqT K H l xs ∧ xs ≠ [] ∧ 0 ≤ k ∧ k ≤ 1000 ∧ xs.length ≤ 1000 ∧ ∀ p H', Same H H' → SqT K H' p (List.replicate k.toNat xs).flatten → Q (.ref p) H'
section
variable {X : Cx}
theorem op_repA : OpR X (binaryOp .Mult) (rRepA X.K) := by
  intro pins s σ H x y v u Q I rx ry h
  obtain ⟨l, k, xs, rfl, rfl, hT, hne, h1, h2, hz, q⟩ := h
  by_cases hk : 2 ≤ k
  · exact op_repT pins s σ H _ _ _ _ Q I rx ry ⟨l, k, xs, rfl, rfl, hT, hne, hk, h2, hz, fun p np => q p _ (fun b o e => by rw [upd_ne (ne_of_none e np)]; exact e) (SqT.of upd_same)⟩
  cases rx
  obtain ⟨t, rfl⟩ := ry
  obtain ⟨its, r, ⟨⟨cls, dd, data, sl⟩, ho, hc, n, hd⟩, hs⟩ := I.tuple hT
  simp only at hc hd
  subst hc hd
  have hle : its.length = xs.length := r.length.symm
  have hn : its ≠ [] := fun e => hne (by
    rw [e] at hle
    exact List.eq_nil_of_length_eq_zero hle.symm)
  have hi : its.toArray.isEmpty = false := by
    cases its with
    | nil => exact absurd rfl hn
    | cons a b => rfl
  have k01 : k = 0 ∨ k = 1 := by omega
  rcases k01 with rfl | rfl
  · refine wpAny_binaryOp_repeat_ref (T := "tuple") (U := "int") (by decide) ⟨_, ho, rfl⟩ (fun s' => typeIs_int s' 0 t) noFill_tuple_mul F.fills_int_mul F.slot_int_rmul repeat_tuple F.slot_int_index.lookup
      (call_meets F.slot_int_rmul (typeIs_int s 0 t) F.entry_int_rmul (F.args_int_rmul_2 _ _) (int_rmul_tuple 0 t l its.toArray n dd sl)
        ⟨ho, rfl, ⟨_, ho, rfl⟩, call_meets F.slot_tuple_mul ⟨_, ho, rfl⟩ F.entry_tuple_mul (F.args_tuple_mul_2 _ _) (tuple_mul0 l its.toArray n dd sl t hi) ⟨ho, ?_⟩⟩)
    have nf : H s.heap.objs.size = none := I.hok.fresh (Nat.le_refl _)
    refine ⟨.ref s.heap.objs.size, _, I.laid (t' := s.toks) (o := .tup []) (fun b ob q => Heap.get?_push_of_some _ q) (Nat.le_refl _) ?_, rfl, q _ _ (fun b o e => by rw [upd_ne (ne_of_none e nf)]; exact e) (SqT.of upd_same)⟩
    exact ⟨Nat.zero_le _, [], .nil, IsTup.new _ _⟩
  · refine wpAny_binaryOp_repeat_ref (T := "tuple") (U := "int") (by decide) ⟨_, ho, rfl⟩ (fun s' => typeIs_int s' 1 t) noFill_tuple_mul F.fills_int_mul F.slot_int_rmul repeat_tuple F.slot_int_index.lookup
      (call_meets F.slot_int_rmul (typeIs_int s 1 t) F.entry_int_rmul (F.args_int_rmul_2 _ _) (int_rmul_tuple 1 t l its.toArray n dd sl)
        ⟨ho, rfl, ⟨_, ho, rfl⟩, call_meets F.slot_tuple_mul ⟨_, ho, rfl⟩ F.entry_tuple_mul (F.args_tuple_mul_2 _ _) (tuple_mul1 l its.toArray n dd sl t) ⟨ho, ?_⟩⟩)
    refine ⟨.ref l, H, I.tok _, rfl, q l H (fun _ _ e => e) ?_⟩
    have e : (List.replicate (1 : Int).toNat xs).flatten = xs := by simp
    rw [e]
    exact hT
end
end L2


set_option Elab.async false
set_option maxRecDepth 100000
/-! The drawing of numbers: _law_mixed, _law_begin, _law_draw. -/
namespace SW
open PySem PySem.Spec PyProof.Rows L2
def top (i : Nat) : Stmt := PySem.Challenge.pw_stepwhere_k52_shelves_kept.main.body.getD i (.Pass ⟨0, 0, 0, 0⟩)
abbrev sMixed : Stmt := top 52
abbrev sBegin : Stmt := top 53
abbrev sDraw : Stmt := top 54
/-- where the drawing keeps its things: the dict, the list of what is left, the cells -/
structure RA where
  s : Addr
  l : Addr
  c : Addr
/-- none of the three -/
structure Off (a : RA) (p : Addr) : Prop where
  s : p ≠ a.s
  l : p ≠ a.l
  c : p ≠ a.c
/-- what stays but for the two objects that a draw writes -/
def But (a : RA) (H H' : Hp) : Prop := ∀ b o, H b = some o → b ≠ a.s → b ≠ a.l → H' b = some o
theorem But.refl (a : RA) (H : Hp) : But a H H := fun _ _ e _ _ => e
theorem But.trans {a : RA} {H H1 H2 : Hp} (x : But a H H1) (y : But a H1 H2) : But a H H2 := fun c o e h1 h2 => y c o (x c o e h1 h2) h1 h2
theorem Same.but {a : RA} {H H' : Hp} (x : Same H H') : But a H H' := fun c o e _ _ => x c o e
theorem But.at {a : RA} {H H' : Hp} {p : Addr} {o : HO} (x : But a H H') (f : Off a p) (e : H p = some o) : H' p = some o := x p o e f.s f.l
theorem But.free {a : RA} {H H' : Hp} {p : Addr} (x : But a H H') (f : Off a p) (h : H' p = none) : H p = none := by
  cases e : H p with
  | none => rfl
  | some o =>
    rw [x.at f e] at h
    cases h
/-- an object that was not there is written -/
theorem But.new {a : RA} {H H' : Hp} {p : Addr} {o : HO} (x : But a H H') (h : H p = none) : But a H (upd H' p o) := fun b u e h1 h2 => by
  rw [upd_ne (ne_of_none e h)]
  exact x b u e h1 h2
theorem same_new {H : Hp} {p : Addr} {o : HO} (h : H p = none) : Same H (upd H p o) := fun b u e => by
  rw [upd_ne (ne_of_none e h)]
  exact e
theorem Same.new {H H' : Hp} {p : Addr} {o : HO} (x : Same H H') (h : H p = none) : Same H (upd H' p o) := fun b u e => by
  rw [upd_ne (ne_of_none e h)]
  exact x b u e
/-- a comprehension without an if -/
theorem tyes {σ : L2.St} {H : Hp} {f g : Hp → Prop} (h : f H) : tYes σ H fun b H3 => if b = true then f H3 else g H3 := by
  show (if true = true then f H else g H)
  exact iteT h
theorem int_at {ns : List Int} {i : Nat} {y : V} (h : (ns.map V.int)[i]? = some y) : ∃ z, ns[i]? = some z ∧ y = V.int z := by
  rw [List.getElem?_map] at h
  cases e : ns[i]? with
  | none =>
    rw [e] at h
    cases h
  | some z =>
    rw [e] at h
    exact ⟨z, rfl, (Option.some.inj h).symm⟩
/-- the pairs of the dict of draws -/
def rk (c l : Addr) (n : Nat) : List (Key × V) := [(.inr "cells", .ref c), (.inr "lefts", .ref l), (.inr "at", .int (n : Int)), (.inr "room", .int 0)]
structure Rnd (H : Hp) (a : RA) (n : Nat) : Prop where
  ex : ∃ (ns ls : List Int), H a.s = some (.dK (rk a.c a.l n)) ∧ H a.c = some (.lst (ns.map V.int)) ∧ H a.l = some (.lst (ls.map V.int)) ∧ ls.length = ns.length ∧ 0 < ns.length ∧ ns.length ≤ 63 ∧ (∀ x ∈ ls, 0 ≤ x) ∧ a.c ≠ a.s ∧ a.c ≠ a.l
theorem Rnd.same {H H' : Hp} {a : RA} {n : Nat} (R : Rnd H a n) (e : Same H H') : Rnd H' a n := by
  obtain ⟨ns, ls, h1, h2, h3, r⟩ := R
  exact ⟨ns, ls, e _ _ h1, e _ _ h2, e _ _ h3, r⟩
/-- an object beside is written -/
theorem Rnd.upd {H : Hp} {a : RA} {n : Nat} {p : Addr} {o : HO} (R : Rnd H a n) (f : Off a p) : Rnd (upd H p o) a n := by
  obtain ⟨ns, ls, h1, h2, h3, r⟩ := R
  exact ⟨ns, ls, by rw [upd_ne f.s.symm]; exact h1, by rw [upd_ne f.c.symm]; exact h2, by rw [upd_ne f.l.symm]; exact h3, r⟩
/-- a new object is none of the three -/
theorem Rnd.off {H : Hp} {a : RA} {p : Addr} {n : Nat} (R : Rnd H a n) (h : H p = none) : Off a p := by
  obtain ⟨ns, ls, h1, h2, h3, r⟩ := R
  exact ⟨(ne_of_none h1 h).symm, (ne_of_none h3 h).symm, (ne_of_none h2 h).symm⟩
/-- the numbers 48271 .. are mixed: some number below 2147483629 -/
def spMixed : Sp := fun vs H Q _ => ∃ (c k : Int), vs = [.int c, .int k] ∧ 0 ≤ k ∧ k ≤ 1000000 ∧ ∀ r : Int, 0 ≤ r → r < 2147483629 → Q (.int r) H
def spBegin (K : PySem.W.Frag) : Sp := fun vs H Q _ => ∃ (x : Addr) (ns : List Int), vs = [.ref x] ∧ SqL K H x (ns.map V.int) ∧ ns.length ≤ 63 ∧
  ∀ (a : RA) (H' : Hp), Same H H' → H a.s = none → H a.l = none → Rnd H' a 0 → Q (.ref a.s) H'
/-- a draw: a number below many; the dict and the list of what is left are written -/
def spDraw : Sp := fun vs H Q _ => ∃ (a : RA) (n : Nat) (many : Int), vs = [.ref a.s, .int many] ∧ Rnd H a n ∧ n + 60 ≤ 1000000 ∧ 0 < many ∧ many.natAbs < 2 ^ 200 ∧
  ∀ (r : Int) (H' : Hp), 0 ≤ r → r < many → Rnd H' a (n + 1) → But a H H' → Q (.int r) H'
section
variable {P : Program} {w : World} {K : PySem.W.Frag} {mg : Str → Option Value} {base : Heap}
theorem scMixed : FnScope ["cell", "k"] ["cell", "k"] (defScope sMixed) := ⟨rfl, rfl, rfl, by decide +kernel, rfl, by decide +kernel, by decide +kernel⟩
theorem ok_mixed {f : Addr} {fd : FuncData} (F : Fun K "_law_mixed" "_law_mixed" sMixed f fd) (mI : mg "int" = none) : FnOk P w K mg base CX0 1 f fd ["cell", "k"] spMixed := by
  refine F.ok scMixed (fun vs H Q E h => ?_) (fun cdv A outer s H vs Q E hr h => ?_)
  · obtain ⟨c, k, rfl, _⟩ := h
    rfl
  · obtain ⟨c, k, rfl, h0, h1, q⟩ := h
    refine ⟨_, pss_cons (ps_set (i := 0) scMixed.nd rfl (Or.inl rfl) (pe_op op_mod (pe_callTy call_int1 (by rfl) mI boot_int (pa_cons (pv 0) pa_nil)) pe_int))
      (pss_one (ps_ret (pe_op op_mod (pe_op op_mul (pe_op op_mod (pe_op op_add (pe_op op_add
        (pe_op op_mul (pv 0) (pe_op op_add pe_int (pe_op op_mul (pe_op op_mul pe_int (pv 1)) (pv 1)))) (pe_op op_mul pe_int (pv 1))) pe_int) pe_int) pe_int) pe_int))), ?_⟩
    refine ⟨_, rfl, .inl ⟨c, rfl, _, _, rfl, rfl, (by show (0 : Int) < 2147483647; decide), ?_⟩⟩
    have b0 : 0 ≤ c % 2147483647 := Int.emod_nonneg _ (by decide)
    have b1 : c % 2147483647 < 2147483647 := Int.emod_lt_of_pos _ (by decide)
    refine ⟨_, rfl, _, rfl, _, _, rfl, rfl, .inl ⟨by decide, by decide⟩, _, rfl, _, _, rfl, rfl, .inl ⟨by omega, by omega⟩, _, _, rfl, rfl, _, _, rfl, rfl, .inl ⟨by omega, by omega⟩, ?_⟩
    refine ⟨_, rfl, _, _, rfl, rfl, .inl ⟨by decide, by decide⟩, _, _, rfl, rfl, _, _, rfl, rfl, _, _, rfl, rfl, (by show (0 : Int) < 2147483647; decide), _, _, rfl, rfl, .inr ⟨by decide, by decide⟩, _, _, rfl, rfl, (by show (0 : Int) < 2147483629; decide), ?_⟩
    exact q _ (Int.emod_nonneg _ (by decide)) (Int.emod_lt_of_pos _ (by decide))
/-! _law_begin -/
theorem scBegin : FnScope ["script", "cells", "cell"] ["script"] (defScope sBegin) := ⟨rfl, rfl, rfl, by decide +kernel, rfl, by decide +kernel, by decide +kernel⟩
/-- the lefts of the cells -/
def leftOf (c : Int) : Int := if 1000000000000000000 ≤ c then c else 0
theorem leftOf_nn (c : Int) : 0 ≤ leftOf c := by unfold leftOf; split <;> omega
theorem canLay_ints : ∀ ns : List Int, PyData.canLayAll0 (ns.map PyData.int) = true
  | [] => rfl
  | n :: r => by rw [List.map_cons]; simp only [PyData.canLayAll0, PyData.canLay0, canLay_ints r, Bool.and_self]
theorem depth_ints : ∀ ns : List Int, PyData.depthAll (ns.map PyData.int) = 0
  | [] => rfl
  | n :: r => by rw [List.map_cons]; simp only [PyData.depthAll, PyData.depth, depth_ints r, Nat.max_self]
theorem shaped_ints (ns : List Int) : SeqAt.shaped (.list (ns.map PyData.int)) = true := by
  unfold SeqAt.shaped
  simp only [PyData.canLay0, PyData.depth, canLay_ints, depth_ints]
  decide
theorem dpAll_ints {K : PySem.W.Frag} {H : Hp} : ∀ ns : List Int, DpAll K H (ns.map V.int) (ns.map PyData.int)
  | [] => .nil
  | n :: r => .cons (.int n) (dpAll_ints r)
end
end SW


set_option Elab.async false
set_option maxRecDepth 100000
namespace SW
open PySem PySem.Spec PyProof.Rows L2
section
variable {P : Program} {w : World} {K : PySem.W.Frag} {mg : Str → Option Value} {base : Heap}
theorem eqv_ints_nil : ∀ ns : List Int, (!PyData.eqv (.list (ns.map PyData.int)) (.list [])) = decide (ns ≠ [])
  | [] => by simp [PyData.eqv, PyData.eqvAll]
  | n :: r => by simp [PyData.eqv, PyData.eqvAll]
theorem ok_begin {f : Addr} {fd : FuncData} (F : Fun K "_law_begin" "_law_begin" sBegin f fd) (mL : mg "list" = none) : FnOk P w K mg base CX0 1 f fd ["script"] (spBegin K) := by
  refine F.ok scBegin (fun vs H Q E h => ?_) (fun cdv A outer s H vs Q E hr h => ?_)
  · obtain ⟨a, ns, rfl, _⟩ := h
    rfl
  · obtain ⟨a, ns, rfl, hS, hl, k⟩ := h
    have hu := hr.units
    refine ⟨_, C8.pss_cut (ps_set (i := 1) scBegin.nd rfl (Or.inl rfl) (pe_ifExp (pt_cmpR (op_neD hu) (pv 0) (pe_lst pa_nil) (nomark _))
        (pe_callTy call_list_of (by rfl) mL boot_list (pa_cons (pv 0) pa_nil)) (pe_lst (pa_cons pe_int pa_nil))))
      (pss_one (ps_ret (pe_disp (pps_cons pe_str (pv 1) (pps_cons pe_str
        (pe_lc (own := [("cell", 2)]) (g := gName 2) (tt := tYes) rfl scBegin.nd (pi_list (pv 1)) (blkOk_by (N := ["script", "cells", "cell"]) (sc := defScope sBegin) (by decide +kernel))
          (fun _ _ _ _ _ => pg_name (i := 2) scBegin.nd rfl (Or.inl rfl)) (fun _ _ _ _ _ => pts_nil)
          (fun _ _ _ _ _ => pe_ifExp (pt_cmpR op_ge (pv 2) (pe_op op_pow pe_int pe_int) (nomark _)) (pv 2) pe_int))
        (pps_cons pe_str pe_int (pps_cons pe_str pe_int pps_nil)))) rfl rfl (by simp) (by decide)))), ?_⟩
    refine ⟨fun σ H1 => ∃ (c : Addr) (ms : List Int), σ = [some (.ref a), some (.ref c), none] ∧ Same H H1 ∧ H1 c = some (.lst (ms.map V.int)) ∧ 0 < ms.length ∧ ms.length ≤ 63, ?_, ?_⟩
    · refine ⟨_, rfl, Nat.zero_le _, fun p hp => ?_⟩
      have s1 : Same H (upd H p (.lst [])) := fun b o e => by
        rw [upd_ne (ne_of_none e hp)]
        exact e
      refine ⟨.list (ns.map .int), .list [], .lst (s1.seq hS) (dpAll_ints ns), .lst (SqL.of upd_same) .nil, shaped_ints ns, shaped_ints [], _, rfl, ?_⟩
      rw [eqv_ints_nil]
      refine ite2 (fun h => ?_) (fun h => ?_)
      · have hn : ns ≠ [] := of_decide_eq_true h
        refine ⟨_, rfl, _, _, rfl, .inl (s1.seq hS), fun l hl' => ?_⟩
        refine ⟨l, ns, rfl, fun b o e => ?_, upd_same, List.length_pos_iff.mpr hn, hl⟩
        rw [upd_ne (ne_of_none (s1 b o e) hl')]
        exact s1 b o e
      · refine ⟨(by show 1 ≤ sizeLine; decide), fun l hl' => ?_⟩
        refine ⟨l, [0], rfl, fun b o e => ?_, upd_same, (by decide), (by decide)⟩
        rw [upd_ne (ne_of_none (s1 b o e) hl')]
        exact s1 b o e
    · rintro σ H1 ⟨c, ms, rfl, s1, hc, h0, h1⟩
      intro p hp
      have s2 : Same H1 (upd H1 p (.dK [])) := fun b o e => by
        rw [upd_ne (ne_of_none e hp)]
        exact e
      refine ⟨_, rfl, ?_⟩
      refine ⟨_, rfl, c, rfl, ⟨_, s2.seq (SqL.of hc)⟩, fun D hD => ?_⟩
      have npD : p ≠ D := ne_of_none upd_same hD
      have hD1 : H1 D = none := by
        have z := hD
        rw [upd_ne npD.symm] at z
        exact z
      refine lc_list (K := K) (a := c) (xs := ms.map V.int) (fun i H2 => H2 p = some (.dK []) ∧ Same H1 H2 ∧ H2 D = some (.lst ((ms.take i).map fun z => V.int (leftOf z))))
        ⟨by rw [upd_ne npD, upd_same], fun b o e => by rw [upd_ne (ne_of_none e hD1)]; exact s2 b o e, upd_same⟩ (fun i H2 _ ⟨_, s3, _⟩ => s3.seq (SqL.of hc)) ?_ ?_
      · rintro i y H2 hi ⟨e1, s3, e2⟩
        obtain ⟨z, hz, rfl⟩ := int_at hi
        have hil : i < ms.length := (List.getElem?_eq_some_iff.mp hz).1
        have more : ∀ v : V, v = V.int (leftOf z) → (upd H2 D (.lst ((ms.take i).map (fun z => V.int (leftOf z)) ++ [v]))) D = some (.lst ((ms.take (i + 1)).map fun z => V.int (leftOf z))) := fun v ev => by
          rw [upd_same, List.take_add_one, hz, List.map_append, ev]
          all_goals rfl
        have keep : ∀ o, Same H1 (upd H2 D o) := fun o b u e => by
          rw [upd_ne (ne_of_none e hD1)]
          exact s3 b u e
        have kp : ∀ o, (upd H2 D o) p = some (.dK []) := fun o => by
          rw [upd_ne npD]
          exact e1
        have lt : ((ms.take i).map fun z => V.int (leftOf z)).length < sizeLine := small1000 (by rw [List.length_map, List.length_take]; omega)
        refine ⟨rfl, ?_⟩
        refine tyes ?_
        refine ⟨_, rfl, _, _, rfl, rfl, ⟨by decide, by decide, by decide⟩, _, _, rfl, rfl, _, rfl, ?_⟩
        refine ite2 (fun h => ?_) (fun h => ?_)
        · have h' : (1000000000000000000 : Int) ≤ z := of_decide_eq_true h
          exact ⟨_, rfl, _, e2, lt, kp _, keep _, more _ (by unfold leftOf; rw [if_pos h'])⟩
        · have h' : ¬ (1000000000000000000 : Int) ≤ z := fun q => h (decide_eq_true q)
          exact ⟨_, e2, lt, kp _, keep _, more _ (by unfold leftOf; rw [if_neg h'])⟩
      · rintro H2 ⟨e1, s3, e2⟩
        rw [List.length_map, List.take_length] at e2
        refine ⟨e1, rk c D 0, rfl, (by show 4 ≤ 15; decide), ?_⟩
        have hp1 : H p = none := s1.free hp
        have hD0 : H D = none := s1.free hD1
        have sp : Same H1 (upd H2 p (.dK (mergeK [] (rk c D 0)))) := fun b o e => by
          rw [upd_ne (ne_of_none e hp)]
          exact s3 b o e
        refine k ⟨p, D, c⟩ _ (s1.trans sp) hp1 hD0 ⟨ms, ms.map leftOf, ?_, sp _ _ hc, ?_, by rw [List.length_map], h0, h1, fun x hx => ?_, ?_, ?_⟩
        · show (upd H2 p _) p = _
          rw [upd_same]
          all_goals rfl
        · show (upd H2 p _) D = _
          rw [upd_ne npD.symm, e2, List.map_map]
          all_goals rfl
        · obtain ⟨z, _, rfl⟩ := List.mem_map.mp hx
          exact leftOf_nn z
        · exact ne_of_none hc hp
        · exact ne_of_none hc hD1
end
end SW


set_option Elab.async false
set_option maxRecDepth 100000
namespace SW
open PySem PySem.Spec PyProof.Rows L2
theorem rk_cells (c l : Addr) (n : Nat) : valV (rk c l n) (.inr "cells") = some (.ref c) := by with_unfolding_all rfl
theorem rk_lefts (c l : Addr) (n : Nat) : valV (rk c l n) (.inr "lefts") = some (.ref l) := by with_unfolding_all rfl
theorem rk_at (c l : Addr) (n : Nat) : valV (rk c l n) (.inr "at") = some (.int (n : Int)) := by with_unfolding_all rfl
theorem rk_put (c l : Addr) (n : Nat) : putK (rk c l n) (.inr "at") (.int ((n : Int) + 1)) = rk c l (n + 1) := by
  have e : ((n + 1 : Nat) : Int) = (n : Int) + 1 := by omega
  unfold rk
  rw [e]
  with_unfolding_all rfl
section
variable {P : Program} {w : World} {K : PySem.W.Frag} {mg : Str → Option Value} {base : Heap}
theorem scDraw : FnScope ["state", "many", "at", "place", "left", "number"] ["state", "many"] (defScope sDraw) := ⟨rfl, rfl, rfl, by decide +kernel, rfl, by decide +kernel, by decide +kernel⟩
theorem ok_draw {f fM : Addr} {fd fdM : FuncData} (F : Fun K "_law_draw" "_law_draw" sDraw f fd) (GM : FnOk P w K mg base CX0 1 fM fdM ["cell", "k"] spMixed) (bM : Binds K fdM ["cell", "k"] []) (gM : mg "_law_mixed" = some (.ref fM)) (kM : PySem.W.keepIn K (.ref fM) = true)
    (mI : mg "int" = none) (mL : mg "len" = none) : FnOk P w K mg base CX0 2 f fd ["state", "many"] spDraw := by
  refine F.ok scDraw (fun vs H Q E h => ?_) (fun cdv A outer s H vs Q E hr h => ?_)
  · obtain ⟨a, n, many, rfl, _⟩ := h
    rfl
  · obtain ⟨⟨a, l, c⟩, n, many, rfl, ⟨ns, ls, hd, hc, hls, e1, e2, e3, e4, e5, e6⟩, hn, hm, hm2, k⟩ := h
    dsimp only at hd hc hls e5 e6
    have hu := hu_of hr
    have nal : a ≠ l := ne_of hd hls (by intro z; cases z)
    refine ⟨_, pss_cons (ps_set (i := 2) scDraw.nd rfl (Or.inl rfl) (pe_dget hu (pv 0) pe_str (fun _ _ => rfl)))
      (pss_cons (ps_dput hu (pv 0) pe_str (pe_op op_add (pv 2) pe_int) rfl)
      (pss_cons (ps_set (i := 3) scDraw.nd rfl (Or.inl rfl) (pe_op op_mod (pe_callTy call_int1 (by rfl) mI boot_int (pa_cons (pv 2) pa_nil)) (pe_callB call_len_seq (by rfl) mL boot_len (pa_cons (pe_dget hu (pv 0) pe_str (fun _ _ => rfl)) pa_nil))))
      (pss_cons (ps_set (i := 4) scDraw.nd rfl (Or.inl rfl) (pe_ix ix_list (pe_dget hu (pv 0) pe_str (fun _ _ => rfl)) (pv 3) (fun _ _ => rfl)))
      (pss_cons (ps_if (pt_cmpR op_gt (pv 4) pe_int (nomark _))
        (pss_cons (ps_asg (pe_op op_fdivW (pv 4) (pv 1)) (pg_sub (pe_dget hu (pv 0) pe_str (fun _ _ => rfl)) (pv 3) set_list))
        (pss_one (ps_ret (pe_op op_mod (pe_callTy call_int1 (by rfl) mI boot_int (pa_cons (pv 4) pa_nil)) (pv 1))))) pss_nil)
      (pss_cons (ps_set (i := 5) scDraw.nd rfl (Or.inl rfl) (pe_call GM hr rfl gM kM bM .nil pass0
        (pa_cons (pe_call GM hr rfl gM kM bM .nil pass0 (pa_cons (pe_ix ix_list (pe_dget hu (pv 0) pe_str (fun _ _ => rfl)) (pv 3) (fun _ _ => rfl)) (pa_cons (pv 2) pa_nil))) (pa_cons (pe_op op_add pe_int (pv 2)) pa_nil))))
      (pss_one (ps_ret (pe_op op_mod (pe_op op_fdiv (pe_callTy call_int1 (by rfl) mI boot_int
        (pa_cons (pe_op op_add (pe_op op_mul (pv 5) pe_int) (pe_call GM hr rfl gM kM bM .nil pass0 (pa_cons (pv 5) (pa_cons (pe_op op_add pe_int (pv 2)) pa_nil)))) pa_nil)) pe_int) (pv 1))))))))), ?_⟩
    -- at = state["at"]
    refine ⟨_, rfl, a, _, rfl, (rk_at c l n) ▸ DGet.k (k := Sum.inr "at") hd, ?_⟩
    -- state["at"] = at + 1
    refine ⟨_, rfl, _, _, rfl, rfl, _, rfl, a, _, rfl, DPut.k (k := Sum.inr "at") hd (small1000 (by show 4 ≤ 1000; decide)), ?_⟩
    rw [rk_put]
    have d1 : (upd H a (.dK (rk c l (n + 1)))) a = some (.dK (rk c l (n + 1))) := upd_same
    have c1 : (upd H a (.dK (rk c l (n + 1)))) c = some (.lst (ns.map V.int)) := by
      rw [upd_ne e5]
      exact hc
    have l1 : (upd H a (.dK (rk c l (n + 1)))) l = some (.lst (ls.map V.int)) := by
      rw [upd_ne nal.symm]
      exact hls
    have b1 : But ⟨a, l, c⟩ H (upd H a (.dK (rk c l (n + 1)))) := fun b o e h1 _ => by
      rw [upd_ne h1]
      exact e
    generalize upd H a (.dK (rk c l (n + 1))) = H1 at d1 c1 l1 b1 ⊢
    -- place
    have hpos : (0 : Int) < (((ns.map V.int).length : Nat) : Int) := by rw [List.length_map]; omega
    refine ⟨_, rfl, .inl ⟨(n : Int), rfl, _, rfl, a, _, rfl, (rk_cells c l (n + 1)) ▸ DGet.k (k := Sum.inr "cells") d1, c, _, rfl, .inl (SqL.of c1), _, _, rfl, rfl, hpos, ?_⟩⟩
    obtain ⟨j, hj, hjl⟩ : ∃ j : Nat, (n : Int) % (((ns.map V.int).length : Nat) : Int) = (j : Int) ∧ j < ns.length := by
      refine ⟨n % ns.length, ?_, Nat.mod_lt _ e2⟩
      rw [List.length_map]
      omega
    have hL : (ls.map V.int)[j]? = some (V.int (ls[j]'(by omega))) := by
      rw [List.getElem?_map, List.getElem?_eq_getElem (by omega)]
      all_goals rfl
    have hC : (ns.map V.int)[j]? = some (V.int (ns[j]'hjl)) := by
      rw [List.getElem?_map, List.getElem?_eq_getElem hjl]
      all_goals rfl
    have left0 : 0 ≤ ls[j]'(by omega) := e4 _ (List.getElem_mem _)
    generalize ls[j]'(by omega) = left at hL left0
    generalize ns[j]'hjl = cell at hC
    -- left
    refine ⟨_, rfl, a, _, rfl, (rk_lefts c l (n + 1)) ▸ DGet.k (k := Sum.inr "lefts") d1, _, rfl, l, _, _, _, rfl, rfl, SqL.of l1, at_of hj hL, ?_⟩
    refine ⟨_, rfl, _, _, rfl, rfl, _, rfl, ?_⟩
    refine ite2 (fun h => ?_) (fun h => ?_)
    · -- a digit of the great cell
      have hlog : CDivW left many := wide_div hm hm2 (by decide) (by decide)
      refine ⟨_, rfl, _, rfl, _, _, rfl, rfl, hlog, ?_⟩
      refine ⟨_, rfl, a, _, rfl, (rk_lefts c l (n + 1)) ▸ DGet.k (k := Sum.inr "lefts") d1, _, rfl, l, _, _, j, rfl, rfl, l1, ?_, ?_⟩
      · show ixN (ls.map V.int).length ((n : Int) % (((ns.map V.int).length : Nat) : Int)) = some j
        rw [hj, List.length_map]
        unfold ixN
        rw [if_pos (by omega), if_pos (by omega)]
        rfl
      refine ⟨_, rfl, .inl ⟨left, rfl, _, rfl, _, _, rfl, rfl, hm, ?_⟩⟩
      have e0 : 0 ≤ left / many := Int.ediv_nonneg left0 (Int.le_of_lt hm)
      refine k _ _ (Int.emod_nonneg _ (by omega)) (Int.emod_lt_of_pos _ hm) ⟨ns, ls.set j (left / many), by rw [upd_ne nal]; exact d1, by rw [upd_ne e6]; exact c1, ?_, by rw [List.length_set]; exact e1, e2, e3, fun x hx => ?_, e5, e6⟩ fun b o e h1 h2 => ?_
      · rw [upd_same, List.map_set]
      · rcases List.mem_or_eq_of_mem_set hx with z | z
        · exact e4 x z
        · rw [z]
          exact e0
      · rw [upd_ne h2]
        exact b1 b o e h1 h2
    · -- mixed
      refine ⟨_, rfl, a, _, rfl, (rk_cells c l (n + 1)) ▸ DGet.k (k := Sum.inr "cells") d1, _, rfl, c, _, _, _, rfl, rfl, SqL.of c1, at_of hj hC, _, rfl, ?_⟩
      refine ⟨cell, (n : Int), rfl, by omega, by omega, fun r1 _ _ => ?_⟩
      refine ⟨_, rfl, _, _, rfl, rfl, ?_⟩
      refine ⟨r1, (40 : Int) + (n : Int), rfl, by omega, by omega, fun r2 r20 r2l => ?_⟩
      refine ⟨_, rfl, _, _, rfl, rfl, .inl ⟨by omega, by omega⟩, _, rfl, _, rfl, _, _, rfl, rfl, ?_⟩
      refine ⟨r2, (7 : Int) + (n : Int), rfl, by omega, by omega, fun r3 _ _ => ?_⟩
      refine ⟨_, _, rfl, rfl, .inl ⟨_, rfl, _, _, rfl, rfl, ⟨by decide, by decide⟩, _, rfl, _, _, rfl, rfl, hm, ?_⟩⟩
      exact k _ _ (Int.emod_nonneg _ (by omega)) (Int.emod_lt_of_pos _ hm) ⟨ns, ls, d1, c1, l1, e1, e2, e3, e4, e5, e6⟩ b1
end
end SW


set_option Elab.async false
set_option maxRecDepth 100000
set_option maxHeartbeats 1000000
/-! x[i], x[i] = v, i in x, len(x), x == y, x != y of an instance of an own class with these methods. -/
namespace PySem.SwOps
open PySem PySem.W PySem.Calls PyProof.Rows Builtin
section
variable {prog : Program} {w : World} {A : Around} {E : Value → Shared → Prop} {s : Shared} {K : Frag} {x C L f : Addr} {h₀ : Heap} {m : Str → Option Value} {ox : Obj} {od : Option Obj} {b tb : Value}
/-- a special method that is a slot of a built-in class -/
theorem bound_slot {M : Model} {T : String} {name : Str} {id : String} {args : List Value} {Q : Option Value → Shared → Prop} (X : K.In s.heap) (J : InstAt s.heap x ox C od) (hs : findIn K (.ref C) name = some (some (.builtin id))) (sl : Slot T name id)
    (h : wpAny M A (call (.builtin id) (.ref x :: args)) (fun v => Q (some v)) E s) : wpAny M A (callSpecialIfBound? (.ref x) name args) Q E s := by
  have last : wpAny M A (call (.builtin id) ([.ref x] ++ args) >>= fun v => pure (some v)) Q E s := wpAny_bind (wpAny_mono h (fun v s' h' => wpAny_pure h') fun _ _ h' => h')
  simp only [callSpecialIfBound?, bindSpecialIfBound?]
  refine wpAny_holding (wpAny_bind (wpAny_bind (wpAny_bind (J.type.here ((looks_findIn X hs).here (wpAny_bind (wpAny_askSetting (wpAny_ite ?_))))))))
  rw [sl.bind]
  split
  · exact wpAny_bind (wpAny_pure (wpAny_pure (by exact last)))
  · exact wpAny_tryCatch (wpAny_bind (wpAny_pure (wpAny_pure (by exact last))))
/-- x != b: not x.__eq__(b), where the class has no __ne__ of its own -/
theorem ne_by_eq {Q : Value → Shared → Prop} (hu : A.units + 1 < cLine) (F : Fr h₀ L s.heap m) (X₀ : K.In h₀) (J : InstAt s.heap x ox C od) (hb : Looks (model prog w) s.heap (typeOf b) tb) (hn : notFirst K C tb = true)
    (hne : findIn K (.ref C) "__ne__" = some (some (.builtin "object.__ne__"))) (hob : subIn K (.ref C) (.type "object") = some true) (he : findIn K (.ref C) "__eq__" = some (some (.ref f))) (hf : isFn K (.ref f) = true)
    (h : wpAny (model prog w) A.in1 (call (.ref f) [.ref x, b]) (fun v s' => ∃ c, v = .bool c ∧ Q (.bool (!c)) s') E s) : wpAny (model prog w) A (richCompare .NotEq (.ref x) b) Q E s := by
  have X := X₀.keeps F.keep
  have isO : Looks (model prog w) s.heap (isInstance (.ref x) (.type "object")) true := J.type.andThen (looks_subIn X hob)
  have one : wpAny (model prog w) A (tryCompare (.ref x) "__ne__" b) (fun r s' => ∃ v, r = some v ∧ Q v s') E s := by
    unfold tryCompare
    refine wpAny_bind (bound_slot X J hne PySem.F.cmp_object.ne (wpAny_call (codeAny_call_builtin PySem.F.cmp_object.ne.plain PySem.F.cmpEntry_ne
      (@check_slot (model prog w) _ _ s "object.__ne__" "object" "__ne__" (.ref x) [b] [] _ PySem.F.cmpKind_ne PySem.F.cmpSplit_ne isO (PySem.F.cmpArgs_ne _ _) ?_))))
    unfold Builtin.«object.__ne__»
    repeat (first
      | with_reducible refine wpAny_cRoomFor (show A.in1.units < cLine from hu) ?_
      | (refine wpAny_bind (m := callSpecialIfBound? (.ref x) (Str.ofString "__eq__") [b]) (ifBound_K X J he hf (wpAny_mono h (fun v s' hv => ?_) fun _ _ e => e)))
      | wp_step)
    obtain ⟨c, rfl, hq⟩ := hv
    repeat (first | exact wpAny_pure ⟨_, rfl, hq⟩ | exact ⟨_, rfl, hq⟩ | (refine wpAny_bind (m := truthy (.bool _)) (wpAny_truthy_bool ?_)) | wp_step)
  unfold richCompare
  simp only [oneThing_ref]
  refine wpAny_holding (wpAny_bind (wpAny_cRoomFor (Nat.lt_of_succ_lt hu) (wpAny_bind (J.type.here (wpAny_bind (hb.here ?_))))))
  split
  · rename_i q
    have e : subIn K tb (.ref C) = some false := by
      rcases Bool.or_eq_true_iff.mp hn with e | e
      · rw [beq_iff_eq.mp e] at q
        simp at q
      · exact beq_iff_eq.mp e
    refine wpAny_bind ((looks_subIn X e).here ?_)
    rw [if_neg Bool.false_ne_true]
    refine wpAny_bind (wpAny_mono one (fun r s' z => ?_) fun _ _ e => e)
    obtain ⟨v, rfl, hq⟩ := z
    exact wpAny_pure hq
  · refine wpAny_bind (wpAny_pure ?_)
    rw [if_neg Bool.false_ne_true]
    refine wpAny_bind (wpAny_mono one (fun r s' z => ?_) fun _ _ e => e)
    obtain ⟨v, rfl, hq⟩ := z
    exact wpAny_pure hq
end
end PySem.SwOps

set_option Elab.async false
set_option maxRecDepth 100000
set_option maxHeartbeats 1000000
namespace SW
open PySem PySem.Spec PyProof.Rows L2
section
variable {X : Cx} {CX : CXT} {k : Nat} {f C : Addr} {fd : FuncData} {ps : List Str} {sp : Sp} {E : XK}
/-- an instance of the class at C -/
theorem inst_of {pins : List (Addr × Obj)} {σ : L2.St} {H : Hp} {s : Shared} {a dx : Addr} {fs : List (Str × V)} (I : Inv X pins σ H s) (e : H a = some (.ins C dx fs)) : ∃ od, PySem.W.InstAt s.heap a (PySem.W.instObj C dx) C (some od) := by
  obtain ⟨mA, O, _⟩ := ins_get I.hok e
  obtain ⟨od, J, _⟩ := O.look
  exact ⟨od, J⟩
/-- the callee runs one unit deeper -/
theorem run_in1 {pins : List (Addr × Obj)} {σ : L2.St} {H : Hp} {s : Shared} {Q : VK} {us : List Value} {vs : List V} (F : FnOk X.prog X.w X.K X.mg X.base CX k f fd ps sp) (hr : Room (k + 1) X.A) (hb : L2.Binds X.K fd ps []) (hx : Passes CX X E)
    (I : Inv X pins σ H s) (r : Vals vs us) (h : sp vs H Q E) : wpAny (model X.prog X.w) X.A.in1 (call (.ref f) us) (EP X pins σ Q) X.xe s := by
  have hl : (us ++ []).length = ps.length := by
    rw [List.append_nil, ← r.length]
    exact F.len _ _ _ _ h
  refine wpAny_call (codeAny_mono (F.run X.A.in1 X.stack s H ⟨us, []⟩ (us ++ []) vs Q E hr.in1 I.env0.in1 (hb s us I.kIn hl) (by rw [List.append_nil]; exact r) h) fun r s' hq => ?_)
  cases r with
  | error e => exact hx pins σ H s e s' I hq
  | ok fl =>
    cases fl with
    | ret u => exact I.after hq
    | next => exact False.elim hq
    | brk => exact False.elim hq
    | cont => exact False.elim hq
theorem run_same {pins : List (Addr × Obj)} {σ : L2.St} {H : Hp} {s : Shared} {Q : VK} {us : List Value} {vs : List V} (F : FnOk X.prog X.w X.K X.mg X.base CX k f fd ps sp) (hr : Room k X.A) (hb : L2.Binds X.K fd ps []) (hx : Passes CX X E)
    (I : Inv X pins σ H s) (r : Vals vs us) (h : sp vs H Q E) : wpAny (model X.prog X.w) X.A (call (.ref f) us) (EP X pins σ Q) X.xe s :=
  run_fn (ds := []) (dvs := []) F hr hb .nil hx I r (by rw [List.append_nil]; exact h)
/-- x[i]: its own __getitem__ is called -/
theorem pe_own {a b : Expr} {ta tb : TE} {pos : Pos} (hs : PySem.W.findIn X.K (.ref C) "__getitem__" = some (some (.ref f))) (hf : PySem.W.isFn X.K (.ref f) = true) (hfn : PySem.W.fnIn X.K f = true)
    (F : FnOk X.prog X.w X.K X.mg X.base CX k f fd ps sp) (hr : Room (k + 1) X.A) (hb : L2.Binds X.K fd ps []) (hx : Passes CX X E) (ha : PE X a ta) (hbb : PE X b tb)
    (hsl : ∀ x i, subscripted b true x i = runValue (.builtin "lifetime.subscript" ⟨[x, i], []⟩)) : PE X (.Subscript a b pos) (tOp (fun x y H Q => ∃ p dx fs, x = .ref p ∧ H p = some (.ins C dx fs) ∧ sp [x, y] H Q E) ta tb) := by
  refine ⟨fun pins s σ H Q I h => ?_⟩
  refine Subscript_ (binT ha hbb I h fun v u s2 x y H2 I2 rx ry q => ?_)
  obtain ⟨p, dx, fs, rfl, hp, q⟩ := q
  obtain rfl : v = Value.ref p := rx
  obtain ⟨od, J⟩ := inst_of I2 hp
  obtain ⟨m, hF⟩ := I2.fr
  exact PySem.W.sub_K hF I2.ok.mod.kin J hs hfn hf (run_in1 (vs := [.ref p, y]) F hr hb hx I2 (.cons rfl (.cons ry .nil)) q) (hsl _ _)
/-- x[i] = v -/
theorem set_own (nq : PySem.W.noSeq X.K C = true) (hs : PySem.W.findIn X.K (.ref C) "__setitem__" = some (some (.ref f))) (hf : PySem.W.isFn X.K (.ref f) = true) (F : FnOk X.prog X.w X.K X.mg X.base CX k f fd ps sp) (hr : Room k X.A) (hb : L2.Binds X.K fd ps []) (hx : Passes CX X E) :
    PSet X (fun x y z H Q => ∃ a dx fs, x = .ref a ∧ H a = some (.ins C dx fs) ∧ sp [x, y, z] H (fun _ H' => Q H') E) := by
  intro pins s σ H x y z v u t Q I rx ry rz h
  obtain ⟨a, dx, fs, rfl, ha, q⟩ := h
  obtain rfl : v = Value.ref a := rx
  obtain ⟨od, J⟩ := inst_of I ha
  obtain ⟨m, hF⟩ := I.fr
  refine PySem.W.ksp_setItem hF I.ok.mod.kin J nq hs hf (wpAny_mono (run_same (vs := [.ref a, y, z]) F hr hb hx I (.cons rfl (.cons ry (.cons rz .nil))) q) (fun r s' z => ?_) fun _ _ x => x)
  obtain ⟨_, H', I', _, q'⟩ := z
  exact ⟨H', I', q'⟩
/-- i in x -/
theorem op_in_own (hs : PySem.W.findIn X.K (.ref C) "__contains__" = some (some (.ref f))) (hf : PySem.W.isFn X.K (.ref f) = true) (F : FnOk X.prog X.w X.K X.mg X.base CX k f fd ps sp) (hr : Room k X.A) (hb : L2.Binds X.K fd ps []) (hx : Passes CX X E) :
    OpR X (compareOp .In) (fun y x H Q => ∃ a dx fs, x = .ref a ∧ H a = some (.ins C dx fs) ∧ sp [x, y] H (fun v H' => ∃ c, v = .bl c ∧ Q (.bl c) H') E) := by
  intro pins s σ H y x u v Q I ry rx h
  obtain ⟨a, dx, fs, rfl, ha, q⟩ := h
  obtain rfl : v = Value.ref a := rx
  obtain ⟨od, J⟩ := inst_of I ha
  obtain ⟨m, hF⟩ := I.fr
  refine PySem.W.in_K hF I.ok.mod.kin J hs hf (wpAny_mono (run_same (vs := [.ref a, y]) F hr hb hx I (.cons rfl (.cons ry .nil)) q) (fun r s' z => ?_) fun _ _ x => x)
  obtain ⟨v', H', I', r', c, rfl, q'⟩ := z
  obtain rfl : r = Value.bool c := r'
  exact wpAny_truthy_bool ⟨.bl c, H', I', rfl, q'⟩
/-- len(x) -/
theorem call_len_own (hs : PySem.W.findIn X.K (.ref C) "__len__" = some (some (.ref f))) (hf : PySem.W.isFn X.K (.ref f) = true) (F : FnOk X.prog X.w X.K X.mg X.base CX k f fd ps sp) (hr : Room (k + 1) X.A) (hb : L2.Binds X.K fd ps []) (hx : Passes CX X E) :
    CallR X (.builtin "len") (fun xs H Q => ∃ a dx fs, xs = [.ref a] ∧ H a = some (.ins C dx fs) ∧ sp xs H (fun v H' => ∃ n : Nat, v = .int n ∧ n < 2 ^ 62 ∧ Q (.int n) H') E) := by
  intro pins s σ H xs us Q I r h
  obtain ⟨a, dx, fs, rfl, ha, q⟩ := h
  obtain ⟨u, rfl, rx⟩ := vals1 r
  obtain rfl : u = Value.ref a := rx
  obtain ⟨od, J⟩ := inst_of I ha
  obtain ⟨m, hF⟩ := I.fr
  refine PySem.W.len_K hF I.ok.mod.kin J hs hf (wpAny_mono (run_in1 (vs := [.ref a]) F hr hb hx I (.cons rfl .nil) q) (fun r s' z => ?_) fun _ _ x => x)
  obtain ⟨v', H', I', r', n, rfl, hn, q'⟩ := z
  obtain ⟨t, rfl⟩ := (show ∃ t, r = Value.int n t from r')
  exact ⟨⟨by omega, by omega⟩, .int n, H', I'.tok _, ⟨_, rfl⟩, q'⟩
/-- x == y, x != y; y of a type that is none of the classes below C -/
def rOwnCmp (K : PySem.W.Frag) (C : Addr) (sp : Sp) (E : XK) (g : Bool → Bool) : R2 := fun x y H Q => ∃ a dx fs tb, x = .ref a ∧ H a = some (.ins C dx fs) ∧ TyX K H y tb ∧ PySem.W.notFirst K C tb = true ∧ sp [x, y] H (fun v H' => ∃ c, v = .bl c ∧ Q (.bl (g c)) H') E
theorem op_eq_own (hs : PySem.W.findIn X.K (.ref C) "__eq__" = some (some (.ref f))) (hf : PySem.W.isFn X.K (.ref f) = true) (F : FnOk X.prog X.w X.K X.mg X.base CX k f fd ps sp) (hr : Room k X.A) (hb : L2.Binds X.K fd ps []) (hx : Passes CX X E) :
    OpR X (compareOp .Eq) (rOwnCmp X.K C sp E id) := by
  intro pins s σ H x y v u Q I rx ry h
  obtain ⟨a, dx, fs, tb, rfl, ha, ty, hn, q⟩ := h
  obtain rfl : v = Value.ref a := rx
  obtain ⟨od, J⟩ := inst_of I ha
  obtain ⟨m, hF⟩ := I.fr
  obtain ⟨P, Z, p, _⟩ := kit_of I ry ty
  refine PySem.W.cmp_K (op := .Eq) hr.units0 hF I.ok.mod.kin J (Z.ty _ _ I.kIn p) hn hs hf (wpAny_mono (run_same (vs := [.ref a, y]) F hr hb hx I (.cons rfl (.cons ry .nil)) q) (fun r s' z => ?_) fun _ _ x => x)
  obtain ⟨v', H', I', r', c, rfl, q'⟩ := z
  obtain rfl : r = Value.bool c := r'
  exact ⟨.bl c, H', I', rfl, q'⟩
theorem op_ne_own (hne : PySem.W.findIn X.K (.ref C) "__ne__" = some (some (.builtin "object.__ne__"))) (hob : PySem.W.subIn X.K (.ref C) (.type "object") = some true)
    (hs : PySem.W.findIn X.K (.ref C) "__eq__" = some (some (.ref f))) (hf : PySem.W.isFn X.K (.ref f) = true) (F : FnOk X.prog X.w X.K X.mg X.base CX k f fd ps sp) (hr : Room (k + 1) X.A) (hb : L2.Binds X.K fd ps []) (hx : Passes CX X E) :
    OpR X (compareOp .NotEq) (rOwnCmp X.K C sp E (!·)) := by
  intro pins s σ H x y v u Q I rx ry h
  obtain ⟨a, dx, fs, tb, rfl, ha, ty, hn, q⟩ := h
  obtain rfl : v = Value.ref a := rx
  obtain ⟨od, J⟩ := inst_of I ha
  obtain ⟨m, hF⟩ := I.fr
  obtain ⟨P, Z, p, _⟩ := kit_of I ry ty
  refine PySem.W.cmp_ofNotEq (PySem.SwOps.ne_by_eq (hu_of hr) hF I.ok.mod.kin J (Z.ty _ _ I.kIn p) hn hne hob hs hf (wpAny_mono (run_in1 (vs := [.ref a, y]) F hr hb hx I (.cons rfl (.cons ry .nil)) q) (fun r s' z => ?_) fun _ _ x => x))
  obtain ⟨v', H', I', r', c, rfl, q'⟩ := z
  obtain rfl : r = Value.bool c := r'
  exact ⟨c, rfl, .bl (!c), H', I', rfl, q'⟩
end
end SW

set_option Elab.async false
set_option maxRecDepth 100000
set_option maxHeartbeats 4000000
set_option linter.unusedVariables false
/-! find_piece, statements_in -/
namespace L2
open PySem PySem.Spec PyProof.Rows
/-- a statement that is not come to -/
theorem ps_dead {X : Cx} {st : Stmt} : PS X st (fun _ _ _ => False) := ⟨fun _ _ _ _ _ _ h => h.elim⟩
end L2
namespace BK
open PySem PySem.Spec PyProof.Rows L2 RZ ET
theorem sum_take (f : Tr → Nat) : ∀ (l : List Tr) (j : Nat) (t : Tr), l[j]? = some t → ((l.take (j + 1)).map f).sum = ((l.take j).map f).sum + f t := by
  intro l j t h
  rw [List.take_add_one, h, List.map_append, List.sum_append]
  simp
theorem sum_take_le (f : Tr → Nat) : ∀ (l : List Tr) (j : Nat), ((l.take j).map f).sum ≤ (l.map f).sum
  | [], j => by simp
  | t :: r, 0 => by simp
  | t :: r, j + 1 => by
    rw [List.take_succ_cons, List.map_cons, List.sum_cons, List.map_cons, List.sum_cons]
    have := sum_take_le f r j
    omega
theorem sum_takeN (ns : List (List Tr)) (f : List Tr → Nat) (j : Nat) (t : List Tr) (h : ns[j]? = some t) : ((ns.take (j + 1)).map f).sum = ((ns.take j).map f).sum + f t := by
  rw [List.take_add_one, h, List.map_append, List.sum_append]
  simp
theorem sum_takeN_le (f : List Tr → Nat) : ∀ (l : List (List Tr)) (j : Nat), ((l.take j).map f).sum ≤ (l.map f).sum
  | [], j => by simp
  | t :: r, 0 => by simp
  | t :: r, j + 1 => by
    rw [List.take_succ_cons, List.map_cons, List.sum_cons, List.map_cons, List.sum_cons]
    have := sum_takeN_le f r j
    omega
def oneD (d : Nat) (t : Tr) : Nat := 1 + ((blocksT t).map (metD d)).sum
theorem met_one (d : Nat) (ts : List Tr) : metD (d + 1) ts = (ts.map (oneD d)).sum := rfl
abbrev sFindP : Stmt := top 41
abbrev nFindP : List Str := ["book", "name", "piece"]
theorem scFindP : FnScope nFindP ["book", "name"] (defScope sFindP) := ⟨rfl, rfl, rfl, by decide +kernel, rfl, by decide +kernel, by decide +kernel⟩
/-- the first piece of that name -/
def findR (ps : List Tr) (t : Tr) : Tr := match t with
  | .str z => (ps.find? fun p => decide (wordS p = z)).getD .non
  | _ => .non
def spFindP (K : PySem.W.Frag) : Sp := fun vs H Q _ => ∃ (bv nv : V) (vt : Tr) (ps : List Tr) (tn : Tr), vs = [bv, nv] ∧ TrAt K H bv (.tup [vt, .tup ps]) ∧ (∀ p ∈ ps, tripleT p = true) ∧ TrAt K H nv tn ∧ ∀ v, TrAt K H v (findR ps tn) → Q v H
theorem sqt_updL2 {K : PySem.W.Frag} {H : Hp} {D p : Addr} {ys ys' xs : List V} (e : H D = some (.lst ys)) (h : SqT K H p xs) : SqT K (upd H D (.lst ys')) p xs := by
  rcases h with (h | ⟨u, h⟩) | h
  · exact .inl (.inl (by rw [upd_ne (ne_of h e (by intro z; cases z))]; exact h))
  · exact .inl (.inr ⟨u, by rw [upd_ne (ne_of h e (by intro z; cases z))]; exact h⟩)
  · exact .inr h
theorem two_tr {K : PySem.W.Frag} {H : Hp} {v : V} {x y : Tr} (h : TrAt K H v (.tup [x, y])) : ∃ a v1 v2, v = .ref a ∧ SqT K H a [v1, v2] ∧ TrAt K H v1 x ∧ TrAt K H v2 y := by
  cases h with
  | @tup a vs _ ha ta =>
  cases ta with
  | cons h1 r =>
  cases r with
  | cons h2 r =>
  cases r
  exact ⟨_, _, _, rfl, ha, h1, h2⟩
theorem three_tr {K : PySem.W.Frag} {H : Hp} {v : V} {x y z : Tr} (h : TrAt K H v (.tup [x, y, z])) : ∃ a v1 v2 v3, v = .ref a ∧ SqT K H a [v1, v2, v3] ∧ TrAt K H v1 x ∧ TrAt K H v2 y ∧ TrAt K H v3 z := by
  cases h with
  | @tup a vs _ ha ta =>
  cases ta with
  | cons h1 r =>
  cases r with
  | cons h2 r =>
  cases r with
  | cons h3 r =>
  cases r
  exact ⟨_, _, _, _, rfl, ha, h1, h2, h3⟩
section
variable {P : Program} {w : World} {K : PySem.W.Frag} {mg : Str → Option Value} {base : Heap}
theorem ok_findP {f : Addr} {fd : FuncData} (F : Fun K "find_piece" "find_piece" sFindP f fd) (T : Forms mg) : FnOk P w K mg base CX0 1 f fd ["book", "name"] (spFindP K) := by
  refine F.ok scFindP (fun vs H Q E h => ?_) (fun cdv A outer s H vs Q E hr h => ?_)
  · obtain ⟨bv, nv, vt, ps, tn, rfl, _⟩ := h
    rfl
  · obtain ⟨bv, nv, vt, ps, tn, rfl, tb, hp, tnv, k⟩ := h
    obtain ⟨b, vv, pv', rfl, hb, tv, tp⟩ := two_tr tb
    cases tp with
    | @tup pa xs _ hpa tps =>
    refine ⟨_, pss_cons (ps_if (pt_val (pe_callB call_isi (by rfl) T.isi boot_isinstance (pa_cons (pv 1) (pa_cons (pe_bltn (v := .ty "str") (u := .type "str") (by rfl) T.str (by decide +kernel) rfl) pa_nil))))
        (pss_one (ps_for PassesOwn.never rfl (pi_tup (pe_ix ix_tup (pv 0) pe_int (fun _ _ => rfl))) (pg_name (i := 2) scFindP.nd rfl (Or.inl rfl))
          (pss_one (ps_if (pt_cmpR op_eq (pe_ix ix_tup (pv 2) pe_int (fun _ _ => rfl)) (pv 1) (nomark _)) (pss_one (ps_ret (pv 2))) pss_nil)))) pss_nil)
      (pss_one (ps_ret pe_non)), ?_⟩
    refine ⟨_, rfl, nv, .ty "str", .type (tyT tn), .type "str", isStr tn, rfl, .ty "str", tnv.ty, k_str K tn, _, rfl, ?_⟩
    cases tn with
    | str z =>
      cases tnv with
      | str _ hz =>
      refine iteT ?_
      refine ⟨_, rfl, b, _, 1, _, rfl, rfl, hb, rfl, pa, rfl, ⟨xs, hpa⟩, for_tup (K := K) (a := pa) (xs := xs) (fun i σ H2 => (∃ v2, σ = [some (.ref b), some (.str z), v2]) ∧ H2 = H ∧ (ps.take i).find? (fun p => decide (wordS p = z)) = none) ⟨⟨none, rfl⟩, rfl, rfl⟩ (fun i σ H2 _ ⟨_, e, _⟩ => e ▸ hpa) ?_ ?_⟩
      · rintro i y σ H2 hi ⟨⟨v2, rfl⟩, rfl, n2⟩
        obtain ⟨t, ht, ty⟩ := tps.get hi
        have et : ps.take (i + 1) = ps.take i ++ [t] := by rw [List.take_add_one, ht]; rfl
        obtain ⟨n, prm, bts, rfl, hprm⟩ := triple_shape (hp t (List.mem_of_getElem? ht))
        obtain ⟨c, y1, y2, y3, rfl, hc, t1, t2, t3⟩ := three_tr ty
        cases t1 with
        | str _ hn =>
        refine ⟨_, rfl, c, _, 0, _, rfl, rfl, hc, rfl, _, rfl, rfl, _, rfl, ?_⟩
        rw [eq_txt]
        refine ite2 (fun q => ?_) (fun q => ?_)
        · have q : n = z := of_decide_eq_true q
          refine ⟨_, rfl, k _ ?_⟩
          have e : findR ps (.str z) = .tup [.str n, prm, .tup bts] := by
            show (ps.find? fun p => decide (wordS p = z)).getD .non = _
            have e1 : ps = ps.take i ++ (.tup [.str n, prm, .tup bts] :: ps.drop (i + 1)) := by
              have il : i < ps.length := (List.getElem?_eq_some_iff.mp ht).1
              have e2 := (List.take_append_drop i ps).symm
              rw [List.drop_eq_getElem_cons il, Option.some.inj ((List.getElem?_eq_getElem il).symm.trans ht)] at e2
              exact e2
            rw [e1, List.find?_append, n2, List.find?_cons]
            have : decide (wordS (.tup [.str n, prm, .tup bts]) = z) = true := decide_eq_true q
            rw [this]
            rfl
          rw [e]
          exact ty
        · have q : ¬ n = z := fun e => q (decide_eq_true e)
          refine ⟨⟨_, rfl⟩, rfl, ?_⟩
          rw [et, List.find?_append, n2]
          have : decide (wordS (.tup [.str n, prm, .tup bts]) = z) = false := decide_eq_false q
          simp [this]
      · rintro σ H2 ⟨⟨v2, rfl⟩, rfl, n2⟩
        rw [tps.len, List.take_length] at n2
        refine k .non ?_
        have e : findR ps (.str z) = .non := by
          show (ps.find? fun p => decide (wordS p = z)).getD .non = _
          rw [n2]
          rfl
        rw [e]
        exact .non
    | non => exact iteF (k _ .non)
    | bl b => exact iteF (k _ .non)
    | int i => exact iteF (k _ .non)
    | lst => exact iteF (k _ .non)
    | dct => exact iteF (k _ .non)
    | tup q => exact iteF (k _ .non)
/-! statements_in -/
abbrev sStm : Stmt := top 42
abbrev nStm : List Str := ["block", "way", "met", "number", "statement", "here", "at", "inner"]
theorem scStm : FnScope nStm ["block", "way"] (defScope sStm) := ⟨rfl, rfl, rfl, by decide +kernel, rfl, by decide +kernel, by decide +kernel⟩
def spStm (K : PySem.W.Frag) (d : Nat) : Sp := fun vs H Q _ => ∃ (bv : V) (wy : Addr) (ts : List Tr) (ws : List V), vs = [bv, .ref wy] ∧ TrAt K H bv (.tup ts) ∧ SqT K H wy ws ∧ okD d ts ∧ metD d ts ≤ 16 ∧ ws.length + 2 * d ≤ 100 ∧
  ∀ (L : Addr) (us : List V) (H' : Hp), Same H H' → H' L = some (.lst us) → us.length = metD d ts → Q (.ref L) H'
def recS (K : PySem.W.Frag) : Nat → Sp
  | 0 => fun _ _ _ _ => False
  | d + 1 => spStm K d
theorem ok_stm_step {f fB : Addr} {fd fdB : FuncData} (F : Fun K "statements_in" "statements_in" sStm f fd) (mE : mg "enumerate" = none)
    (GB : FnOk P w K mg base CX0 1 fB fdB ["statement"] (spBlocks K)) (bB : Binds K fdB ["statement"] []) (gB : mg "blocks_of" = some (.ref fB)) (kB : PySem.W.keepIn K (.ref fB) = true)
    (bF : Binds K fd ["block", "way"] []) (gF : mg "statements_in" = some (.ref f)) (kF : PySem.W.keepIn K (.ref f) = true) (d : Nat)
    (GR : FnOk P w K mg base CX0 (1 + d) f fd ["block", "way"] (recS K d)) : FnOk P w K mg base CX0 (1 + d + 1) f fd ["block", "way"] (spStm K d) := by
  refine F.ok scStm (fun vs H Q E h => ?_) (fun cdv A outer s H vs Q E hr h => ?_)
  · obtain ⟨bv, wy, ts, ws, rfl, _⟩ := h
    rfl
  · obtain ⟨bv, wy, ts, ws, rfl, tb, hw, ok, md, wl, k⟩ := h
    have hr1 : Room 1 _ := hr.mono (by omega)
    have one' : 1 ≤ sizeLine := by decide
    have two' : 2 ≤ sizeLine := by decide
    refine ⟨_, pss_cons (ps_set (i := 2) scStm.nd rfl (Or.inl rfl) (pe_lst pa_nil))
      (pss_cons (ps_for PassesOwn.never rfl (pi_enumT (by rfl) mE (pa_cons (pv 0) pa_nil)) (pg_tup rfl (pgs_cons (pg_name (i := 3) scStm.nd rfl (Or.inl rfl)) (pgs_cons (pg_name (i := 4) scStm.nd rfl (Or.inl rfl)) pgs_nil)))
        (C8.pss_cut (ps_set (i := 5) scStm.nd rfl (Or.inl rfl) (pe_op op_catA (pv 1) (pe_tup (pa_cons (pv 3) pa_nil))))
        (C8.pss_cut (ps_expr (pe_bm PySem.F.plainAttrs_list PySem.F.slot_list_append PySem.F.type_list_append mt_append (pv 2) (pa_cons (pe_tup (pa_cons (pv 5) (pa_cons (pv 4) pa_nil))) pa_nil)))
        (pss_one (ps_for PassesOwn.never rfl (pi_enum (by rfl) mE (pa_cons (pe_call GB hr1 rfl gB kB bB .nil pass0 (pa_cons (pv 4) pa_nil)) pa_nil)) (pg_tup rfl (pgs_cons (pg_name (i := 6) scStm.nd rfl (Or.inl rfl)) (pgs_cons (pg_name (i := 7) scStm.nd rfl (Or.inl rfl)) pgs_nil)))
          (pss_one (ps_expr (pe_bm PySem.F.plainAttrs_list PySem.F.slot_list_extend PySem.F.type_list_extend mt_extend (pv 2) (pa_cons (pe_call GR hr rfl gF kF bF .nil pass0 (pa_cons (pv 7) (pa_cons (pe_op op_catA (pv 5) (pe_tup (pa_cons (pv 6) pa_nil))) pa_nil))) pa_nil)))))))))
      (pss_one (ps_ret (pv 2)))), ?_⟩
    refine ⟨Nat.zero_le _, fun L nL => ?_⟩
    have s0 := same_new (o := .lst []) nL
    have app : ∀ {H' : Hp} {o : HO}, Same H H' → Same H (upd H' L o) := fun {H' o} s' b u e => by
      rw [upd_ne (ne_of_none e nL)]
      exact s' b u e
    cases tb with
    | @tup b xs _ h tr =>
    have xl := tr.len
    refine ⟨_, rfl, b, xs, rfl, sqt_same s0 h, for_it (walk_enumT (K := K) (a := b) (xs := xs)) (fun i σ H2 => ∃ (v3 v4 v5 v6 v7 : Option V) (us : List V), σ = [some (.ref b), some (.ref wy), some (.ref L), v3, v4, v5, v6, v7] ∧ Same H H2 ∧ H2 L = some (.lst us) ∧ us.length = metD d (ts.take i))
      ⟨none, none, none, none, none, [], rfl, s0, upd_same, by cases d <;> rfl⟩ (fun i σ H2 _ ⟨_, _, _, _, _, _, _, s2, _⟩ => sqt_same s2 h) ?_ ?_⟩
    · rintro i y σ H2 H3 hi ⟨v3, v4, v5, v6, v7, us, rfl, s2, e2, l2⟩ ⟨T, xi, y', rfl, nT, rfl, q1, q2⟩
      obtain rfl : V.int (i : Nat) = xi := Option.some.inj q1
      have q2 : xs[i]? = some y' := q2
      have sT := same_new (o := .tup [.int (i : Nat), y']) nT
      obtain ⟨t, q3, _⟩ := tr.get q2
      have getY : ∀ {H' : Hp}, Same H H' → TrAt K H' y' t := fun {H'} s' => by
        obtain ⟨t', q4, ty⟩ := (tr.same s').get q2
        obtain rfl : t = t' := Option.some.inj (q3.symm.trans q4)
        exact ty
      have tm : t ∈ ts := List.mem_of_getElem? q3
      cases d with
      | zero =>
        have ok : ts = [] := ok
        rw [ok] at tm
        cases tm
      | succ d =>
      obtain ⟨hf, hb⟩ := ok t tm
      have st := sum_take (oneD d) ts i _ q3
      have sl := sum_take_le (oneD d) ts (i + 1)
      rw [met_one] at l2 md
      obtain ⟨x, rest, ks, rfl, ek, ef⟩ := form_three hf
      have rl : rest.length = ks.length := by
        unfold fitsT at ef
        exact of_decide_eq_true (Bool.and_eq_true_iff.mp ef).1
      have kf := kinds_few ek
      refine ⟨T, _, rfl, SqT.of upd_same, rfl, _, _, rfl, _, _, rfl, rfl, ?_⟩
      have s3 := s2.trans sT
      have e3 := sT _ _ e2
      generalize upd H2 T (.tup [.int (i : Nat), y']) = H3 at s3 e3 ⊢
      clear sT
      -- here
      refine ⟨fun σ H4 => ∃ hw : Addr, σ = [some (.ref b), some (.ref wy), some (.ref L), some (.int (i : Nat)), some y', some (.ref hw), v6, v7] ∧ SqT K H4 hw (ws ++ [.int (i : Nat)]) ∧ Same H H4 ∧ H4 L = some (.lst us), ?_, ?_⟩
      · refine ⟨_, rfl, _, rfl, one', ?_⟩
        refine cat_one (X := (cxOf CX0 P w K mg base nStm "statements_in" (defScope sStm) f cdv A outer s H E).nox) (sqt_same s3 hw) (by omega) fun q H4 s4 hq => ?_
        exact ⟨q, rfl, hq, s3.trans s4, s4 _ _ e3⟩
      rintro σ H4 ⟨hw', rfl, hs4, s4, e4⟩
      -- append
      refine ⟨fun σ H5 => ∃ us5 : List V, σ = [some (.ref b), some (.ref wy), some (.ref L), some (.int (i : Nat)), some y', some (.ref hw'), v6, v7] ∧ SqT K H5 hw' (ws ++ [.int (i : Nat)]) ∧ Same H H5 ∧ H5 L = some (.lst us5) ∧ us5.length = us.length + 1, ?_, ?_⟩
      · refine ⟨_, rfl, .inl ⟨rfl, _, SqL.of e4⟩, _, rfl, _, rfl, two', fun q nq => ?_⟩
        have sq := same_new (o := .tup [.ref hw', y']) nq
        have e5 := sq _ _ e4
        refine ⟨L, us, .ref q, rfl, rfl, e5, small1000 (by omega), us ++ [.ref q], rfl, ?_, app (s4.trans sq), upd_same, by simp⟩
        refine sqt_updL2 e5 (sqt_same sq hs4)
      rintro σ H5 ⟨us5, rfl, hs5, s5, e5, l5⟩
      -- the blocks
      have ty5 := getY s5
      refine ⟨_, rfl, y', _, rfl, ty5, by simp only [List.length_cons]; omega, fun D bs H6 s6 nD eD tbs => ?_⟩
      have s56 := s5.trans s6
      have e6 := s6 _ _ e5
      have DL : D ≠ L := fun e => by rw [e, e5] at nD; cases nD
      have bl := tbs.len
      have eb : ((Tr.str x :: rest).filter isTup) = rest.filter isTup := rfl
      rw [eb] at tbs bl
      refine ⟨D, bs, rfl, SqL.of eD, for_it (walk_enum (K := K) (a := D) (xs := bs)) (fun j σ H7 => ∃ (v6 v7 : Option V) (us7 : List V), σ = [some (.ref b), some (.ref wy), some (.ref L), some (.int (i : Nat)), some y', some (.ref hw'), v6, v7] ∧ Same H H7 ∧ H7 D = some (.lst bs) ∧ SqT K H7 hw' (ws ++ [.int (i : Nat)]) ∧ H7 L = some (.lst us7) ∧ TrAll K H7 bs (rest.filter isTup) ∧
          us7.length = us.length + 1 + ((((rest.filter isTup).map tupTs).take j).map (metD d)).sum)
        ⟨v6, v7, us5, rfl, s56, eD, sqt_same s6 hs5, e6, tbs, by simp [l5]⟩ (fun j σ H7 _ ⟨_, _, _, _, _, z7, _⟩ => SqL.of z7) ?_ ?_⟩
      · rintro j z σ H7 H8 hj ⟨v6, v7, us7, rfl, s7, z7, hs7, e7, tb7, l7⟩ ⟨U, xj, z', rfl, nU, rfl, p1, p2⟩
        obtain rfl : V.int (j : Nat) = xj := Option.some.inj p1
        have p2 : bs[j]? = some z' := p2
        have sU := same_new (o := .tup [.int (j : Nat), z']) nU
        obtain ⟨u, q7, tz⟩ := (tb7.same sU).get p2
        have iu : isTup u = true := (List.mem_filter.mp (List.mem_of_getElem? q7)).2
        obtain ⟨uts, rfl⟩ : ∃ us, u = .tup us := by
          cases u with
          | tup us => exact ⟨us, rfl⟩
          | _ => cases iu
        have q8 : ((rest.filter isTup).map tupTs)[j]? = some uts := by rw [List.getElem?_map, q7]; rfl
        have um : uts ∈ (rest.filter isTup).map tupTs := List.mem_of_getElem? q8
        have stj := sum_takeN ((rest.filter isTup).map tupTs) (metD d) j uts q8
        have slj := sum_takeN_le (metD d) ((rest.filter isTup).map tupTs) (j + 1)
        have one : oneD d (.tup (.str x :: rest)) = 1 + (((rest.filter isTup).map tupTs).map (metD d)).sum := rfl
        refine ⟨U, _, rfl, SqT.of upd_same, rfl, _, _, rfl, _, _, rfl, rfl, ?_⟩
        have s8 := s7.trans sU
        have e8 := sU _ _ e7
        have z8 := sU _ _ z7
        have hs8 := sqt_same sU hs7
        have tb8 := tb7.same sU
        generalize upd H7 U (.tup [.int (j : Nat), z']) = H8 at tz s8 e8 z8 hs8 tb8 ⊢
        clear sU
        refine ⟨_, rfl, .inl ⟨rfl, _, SqL.of e8⟩, _, rfl, _, rfl, _, rfl, one', ?_⟩
        refine cat_one (X := (cxOf CX0 P w K mg base nStm "statements_in" (defScope sStm) f cdv A outer s H E).nox) hs8 (by rw [List.length_append]; simp; omega) fun q H9 s9 hq => ?_
        refine ⟨z', q, uts, _, rfl, tz.same s9, hq, hb uts um, by omega, by rw [List.length_append, List.length_append]; simp; omega, fun L2 zs H10 s10 eL2 lz => ?_⟩
        have s910 := s9.trans s10
        have e10 := s910 _ _ e8
        refine ⟨L, L2, us7, zs, rfl, rfl, e10, eL2, by rw [sizeLine_eq]; omega, _, _, us7 ++ zs, rfl, app (s8.trans s910), ?_, ?_, upd_same, ?_, by rw [List.length_append]; omega⟩
        · rw [upd_ne DL]
          exact s910 _ _ z8
        · exact sqt_updL2 e10 (sqt_same s910 hs8)
        · exact (tb8.same s910).updL e10
      · rintro σ H7 ⟨v6, v7, us7, rfl, s7, z7, hs7, e7, tb7, l7⟩
        refine ⟨_, _, _, _, _, us7, rfl, s7, e7, ?_⟩
        have et : ((rest.filter isTup).map tupTs).take bs.length = (rest.filter isTup).map tupTs := List.take_of_length_le (by rw [List.length_map]; omega)
        rw [et] at l7
        have one : oneD d (.tup (.str x :: rest)) = 1 + (((rest.filter isTup).map tupTs).map (metD d)).sum := rfl
        rw [met_one, st, ← l2, l7, one]
        omega
    · rintro σ H2 ⟨v3, v4, v5, v6, v7, us, rfl, s2, e2, l2⟩
      rw [xl, List.take_length] at l2
      exact ⟨_, rfl, k L us H2 s2 e2 l2⟩
theorem ok_stm {f fB : Addr} {fd fdB : FuncData} (F : Fun K "statements_in" "statements_in" sStm f fd) (mE : mg "enumerate" = none)
    (GB : FnOk P w K mg base CX0 1 fB fdB ["statement"] (spBlocks K)) (bB : Binds K fdB ["statement"] []) (gB : mg "blocks_of" = some (.ref fB)) (kB : PySem.W.keepIn K (.ref fB) = true)
    (bF : Binds K fd ["block", "way"] []) (gF : mg "statements_in" = some (.ref f)) (kF : PySem.W.keepIn K (.ref f) = true) : ∀ d, FnOk P w K mg base CX0 (1 + d + 1) f fd ["block", "way"] (spStm K d)
  | 0 => ok_stm_step F mE GB bB gB kB bF gF kF 0 (fn_false fun _ => trivial)
  | d + 1 => ok_stm_step F mE GB bB gB kB bF gF kF (d + 1) (ok_stm F mE GB bB gB kB bF gF kF d)
end
end BK

set_option Elab.async false
set_option maxRecDepth 100000
set_option maxHeartbeats 4000000
set_option linter.unusedVariables false
/-! need_bounds, is_own_name, book_with -/
namespace BK
open PySem PySem.Spec PyProof.Rows L2 RZ ET
abbrev sBnd : Stmt := top 46
abbrev nBnd : List Str := ["book", "pieces", "names", "piece"]
theorem scBnd : FnScope nBnd ["book", "pieces"] (defScope sBnd) := ⟨rfl, rfl, rfl, by decide +kernel, rfl, by decide +kernel, by decide +kernel⟩
/-- a piece within the bounds of questions -/
def SmallP (p : Tr) : Prop := tripleT p = true ∧ okD 5 (blockOf p) ∧ metD 5 (blockOf p) ≤ 8
def spBnd (K : PySem.W.Frag) : Sp := fun vs H Q _ => ∃ (bv qv : V) (us ps qs : List Tr), vs = [bv, qv] ∧ TrAt K H bv (.tup [.tup us, .tup ps]) ∧ TrAt K H qv (.tup qs) ∧ us.length ≤ 2 ∧ (∀ p ∈ ps, tripleT p = true) ∧ ps.length ≤ 900 ∧ (∀ p ∈ qs, SmallP p) ∧ ∀ H', Same H H' → Q .non H'
abbrev sOwn : Stmt := top 48
theorem scOwn : FnScope ["name", "thing"] ["name", "thing"] (defScope sOwn) := ⟨rfl, rfl, rfl, by decide +kernel, rfl, by decide +kernel, by decide +kernel⟩
def spOwn (K : PySem.W.Frag) : Sp := fun vs H Q _ => ∃ (z : Str) (v : V) (p : Tr), vs = [.str z, v] ∧ z.length ≤ sizeLine ∧ TrAt K H v p ∧ tripleT p = true ∧ Q (.bl (decide (z = wordS p))) H
abbrev sWth : Stmt := top 49
abbrev nWth : List Str := ["book", "piece", "variables", "pieces", "other"]
theorem scWth : FnScope nWth ["book", "piece"] (defScope sWth) := ⟨rfl, rfl, rfl, by decide +kernel, rfl, by decide +kernel, by decide +kernel⟩
/-- the pieces with this one in the place of that with its name, or behind all -/
def putP (ps : List Tr) (p : Tr) : List Tr := if wordS p ∈ ps.map wordS then ps.map fun o => if wordS o = wordS p then p else o else ps ++ [p]
def spWth (K : PySem.W.Frag) : Sp := fun vs H Q _ => ∃ (bv qv : V) (u : Tr) (ps : List Tr) (p : Tr), vs = [bv, qv] ∧ TrAt K H bv (.tup [u, .tup ps]) ∧ TrAt K H qv p ∧ tripleT p = true ∧ (∀ p ∈ ps, tripleT p = true) ∧ ps.length ≤ 900 ∧ ∀ v H', Same H H' → TrAt K H' v (.tup [u, .tup (putP ps p)]) → Q v H'
theorem find_none {ps : List Tr} {z : Str} (hp : ∀ p ∈ ps, tripleT p = true) : (findR ps (.str z) = .non ↔ z ∉ ps.map wordS) := by
  show (ps.find? fun p => decide (wordS p = z)).getD .non = .non ↔ _
  cases e : ps.find? fun p => decide (wordS p = z) with
  | none =>
    refine ⟨fun _ hm => ?_, fun _ => rfl⟩
    obtain ⟨p, hp', ew⟩ := List.mem_map.mp hm
    have := List.find?_eq_none.mp e p hp'
    exact this (decide_eq_true ew)
  | some p =>
    have hm := List.mem_of_find?_eq_some e
    have ew : wordS p = z := of_decide_eq_true (List.find?_some (p := fun p => decide (wordS p = z)) e)
    obtain ⟨n, a, b, rfl, _⟩ := triple_shape (hp p hm)
    refine ⟨(fun h => nomatch h), fun h => absurd (List.mem_map.mpr ⟨_, hm, ew⟩) h⟩
theorem find_shape {ps : List Tr} {t : Tr} (hp : ∀ p ∈ ps, tripleT p = true) : findR ps t = .non ∨ (findR ps t ∈ ps ∧ tripleT (findR ps t) = true) := by
  cases t with
  | str z =>
    show (ps.find? fun p => decide (wordS p = z)).getD .non = .non ∨ _
    cases e : ps.find? fun p => decide (wordS p = z) with
    | none => exact .inl rfl
    | some p =>
      have hm := List.mem_of_find?_eq_some e
      have e2 : findR ps (.str z) = p := by
        show (ps.find? fun p => decide (wordS p = z)).getD .non = p
        rw [e]; rfl
      rw [e2]
      exact .inr ⟨hm, hp p hm⟩
  | _ => exact .inl rfl
section
variable {P : Program} {w : World} {K : PySem.W.Frag} {mg : Str → Option Value} {base : Heap}
theorem ok_bnd {f fS : Addr} {fd fdS : FuncData} (F : Fun K "need_bounds" "need_bounds" sBnd f fd) (T : Forms mg) (mV : ∃ t, mg "MOST_VARS_ASKED" = some (.int 2 t)) (mA : ∃ t, mg "MOST_ASKED" = some (.int 8 t))
    (GS : FnOk P w K mg base CX0 7 fS fdS ["block", "way"] (spStm K 5)) (bS : Binds K fdS ["block", "way"] []) (gS : mg "statements_in" = some (.ref fS)) (kS : PySem.W.keepIn K (.ref fS) = true) : FnOk P w K mg base CX0 8 f fd ["book", "pieces"] (spBnd K) := by
  refine F.ok scBnd (fun vs H Q E h => ?_) (fun cdv A outer s H vs Q E hr h => ?_)
  · obtain ⟨bv, qv, us, ps, qs, rfl, _⟩ := h
    rfl
  · obtain ⟨bv, qv, us, ps, qs, rfl, tb, tq, hu, hp, pl, hq, k⟩ := h
    obtain ⟨t1, gV⟩ := mV
    obtain ⟨t2, gA⟩ := mA
    obtain ⟨b, vv, pv', rfl, hb, tv, tp⟩ := two_tr tb
    cases tv with
    | @tup va vs' _ hva tva =>
    cases tp with
    | @tup pa xs _ hpa tps =>
    cases tq with
    | @tup qa ys _ hqa tqs =>
    refine ⟨_, pss_cons (ps_if (pt_cmpR op_gt (pe_callB call_len_seq (by rfl) T.len boot_len (pa_cons (pe_ix ix_tup (pv 0) pe_int (fun _ _ => rfl)) pa_nil)) (pe_glob (v := .int 2) rfl gV ⟨_, rfl⟩) rfl) (pss_one ps_dead) pss_nil)
      (C8.pss_cut (ps_setLc (i := 2) (own := [("piece", 3)]) (g := gName 3) (tt := tYes) (te := tOp (rIxT K) (tVar 3) (tC (.int 0))) rfl scBnd.nd rfl rfl (sw_true rfl rfl rfl rfl) (pi_tup (pe_ix ix_tup (pv 0) pe_int (fun _ _ => rfl))) (blkOk_by (N := nBnd) (sc := defScope sBnd) (by decide +kernel))
          (fun _ _ _ _ _ => pg_name (i := 3) scBnd.nd rfl (Or.inl rfl)) (fun _ _ _ _ _ => pts_nil) (fun _ _ _ _ _ => by exact pe_ix ix_tup (pv 3) pe_int (fun _ _ => rfl)))
      (pss_one (ps_for PassesOwn.never rfl (pi_tup (pv 1)) (pg_name (i := 3) scBnd.nd rfl (Or.inl rfl))
        (pss_one (ps_if (pt_cmpR op_gt (pe_callB call_len_seq (by rfl) T.len boot_len (pa_cons (pe_call GS hr rfl gS kS bS .nil pass0 (pa_cons (pe_ix ix_tup (pv 3) pe_int (fun _ _ => rfl)) (pa_cons (pe_tup pa_nil) pa_nil))) pa_nil)) (pe_glob (v := .int 8) rfl gA ⟨_, rfl⟩) rfl) (pss_one ps_dead) pss_nil))))), ?_⟩
    have vl := tva.len
    refine ⟨_, rfl, b, _, 0, _, rfl, rfl, hb, rfl, va, vs', rfl, .inr hva, _, _, rfl, rfl, _, rfl, ?_⟩
    have n2 : ¬ ((2 : Int) < (vs'.length : Int)) := by omega
    refine ite2 (fun h => absurd (of_decide_eq_true h) n2) (fun _ => ?_)
    refine ⟨fun σ H1 => ∃ v2 : V, σ = [some (.ref b), some (.ref qa), some v2, none] ∧ Same H H1, ?_, ?_⟩
    · refine ⟨_, rfl, b, _, 1, _, rfl, rfl, hb, rfl, pa, rfl, ⟨_, hpa⟩, fun D nD => ?_⟩
      refine lc_it (walk_tup (K := K) (a := pa) (xs := xs)) (fun i H2 => Same H H2 ∧ ∃ us2, H2 D = some (.lst us2) ∧ us2.length = i) ⟨same_new nD, [], upd_same, rfl⟩ (fun i H2 _ ⟨s2, _⟩ => sqt_same s2 hpa) ?_ ?_
      · rintro i y H2 H3 hi ⟨s2, us2, e2, l2⟩ ⟨rfl, hy⟩
        obtain ⟨t, ht, ty⟩ := (tps.same s2).get hy
        have il : i < ps.length := (List.getElem?_eq_some_iff.mp ht).1
        obtain ⟨n, prm, bts, rfl, hprm⟩ := triple_shape (hp t (List.mem_of_getElem? ht))
        obtain ⟨c, y1, y2, y3, rfl, hc, _⟩ := three_tr ty
        refine ⟨rfl, ?_⟩
        refine tyes ?_
        refine ⟨_, rfl, c, _, 0, _, rfl, rfl, hc, rfl, _, e2, small1000 (by omega), ?_, ⟨_, upd_same, by rw [List.length_append, l2]; rfl⟩⟩
        intro o u e
        rw [upd_ne (ne_of_none e nD)]
        exact s2 _ _ e
      · rintro H2 ⟨s2, us2, e2, l2⟩
        exact ⟨_, rfl, s2⟩
    rintro σ H1 ⟨v2, rfl, s1⟩
    refine ⟨_, rfl, qa, rfl, ⟨_, sqt_same s1 hqa⟩, for_it (walk_tup (K := K) (a := qa) (xs := ys)) (fun i σ H2 => (∃ v3, σ = [some (.ref b), some (.ref qa), some v2, v3]) ∧ Same H H2) ⟨⟨none, rfl⟩, s1⟩ (fun i σ H2 _ ⟨_, s2⟩ => sqt_same s2 hqa) ?_ ?_⟩
    · rintro i y σ Hx H2 hi ⟨⟨v3, rfl⟩, s2⟩ ⟨rfl, hy⟩
      obtain ⟨t, ht, ty⟩ := (tqs.same s2).get hy
      obtain ⟨tt, ot, mt⟩ := hq t (List.mem_of_getElem? ht)
      obtain ⟨n, prm, bts, rfl, hprm⟩ := triple_shape tt
      obtain ⟨c, y1, y2, y3, rfl, hc, _, _, t3⟩ := three_tr ty
      refine ⟨_, rfl, c, _, 2, _, rfl, rfl, hc, rfl, Nat.zero_le _, fun q nq => ?_⟩
      have sq := same_new (o := .tup []) nq
      refine ⟨y3, q, bts, [], rfl, t3.same sq, SqT.of upd_same, ot, by have : metD 5 bts ≤ 8 := mt; omega, by simp, fun L us3 H3 s3 e3 l3 => ?_⟩
      refine ⟨L, us3, rfl, .inl (SqL.of e3), _, _, rfl, rfl, _, rfl, ?_⟩
      have n8 : ¬ ((8 : Int) < (us3.length : Int)) := by have : metD 5 bts ≤ 8 := mt; omega
      refine ite2 (fun h => absurd (of_decide_eq_true h) n8) (fun _ => ?_)
      exact ⟨⟨_, rfl⟩, (s2.trans sq).trans s3⟩
    · rintro σ H2 ⟨⟨v3, rfl⟩, s2⟩
      exact k H2 s2
theorem ok_own {f : Addr} {fd : FuncData} (F : Fun K "is_own_name" "is_own_name" sOwn f fd) (T : Forms mg) : FnOk P w K mg base CX0 1 f fd ["name", "thing"] (spOwn K) := by
  refine F.ok scOwn (fun vs H Q E h => ?_) (fun cdv A outer s H vs Q E hr h => ?_)
  · obtain ⟨z, v, p, rfl, _⟩ := h
    rfl
  · obtain ⟨z, v, p, rfl, hz, tp, pt, k⟩ := h
    refine ⟨_, pss_one (ps_ret (pe_and (pe_callB call_isi (by rfl) T.isi boot_isinstance (pa_cons (pv 0) (pa_cons (pe_bltn (v := .ty "str") (u := .type "str") (by rfl) T.str (by decide +kernel) rfl) pa_nil)))
      (pe_and (pe_callB call_isi (by rfl) T.isi boot_isinstance (pa_cons (pe_ix ix_tup (pv 1) pe_int (fun _ _ => rfl)) (pa_cons (pe_bltn (v := .ty "str") (u := .type "str") (by rfl) T.str (by decide +kernel) rfl) pa_nil)))
      (pe_one (pe_cmpR op_eq (pv 0) (pe_ix ix_tup (pv 1) pe_int (fun _ _ => rfl)) (nomark _)))))), ?_⟩
    obtain ⟨n, prm, bts, rfl, hprm⟩ := triple_shape pt
    obtain ⟨c, y1, y2, y3, rfl, hc, t1, _⟩ := three_tr tp
    cases t1 with
    | str _ hn =>
    have tz : TrAt K H (.str z) (.str z) := .str z hz
    have tn : TrAt K H (.str n) (.str n) := .str n hn
    refine ⟨_, rfl, .str z, .ty "str", .type (tyT (.str z)), .type "str", isStr (.str z), rfl, .ty "str", tz.ty, k_str K (.str z), _, rfl, iteT ?_⟩
    refine ⟨_, rfl, c, _, 0, _, rfl, rfl, hc, rfl, .str n, .ty "str", .type (tyT (.str n)), .type "str", isStr (.str n), rfl, .ty "str", tn.ty, k_str K (.str n), _, rfl, iteT ?_⟩
    refine ⟨_, rfl, _, rfl, c, _, 0, _, rfl, rfl, hc, rfl, rfl, ?_⟩
    rw [eq_txt]
    exact k
end
end BK

set_option Elab.async false
set_option maxRecDepth 100000
set_option maxHeartbeats 2000000
/-! trees stay while the draws write. -/
namespace BK
open PySem PySem.Spec PyProof.Rows L2 SW
section
variable {K : PySem.W.Frag} {H H' : Hp} {a : RA} {n n' : Nat}
theorem lst_but (R : Rnd H a n) (R' : Rnd H' a n') (b : But a H H') {p : Addr} {xs : List V} (h : SqL K H p xs) : ∃ ys, SqL K H' p ys := by
  obtain ⟨ns, ls, e1, e2, e3, _⟩ := R.ex
  obtain ⟨ns', ls', f1, f2, f3, _⟩ := R'.ex
  by_cases q1 : p = a.l
  · subst q1
    exact ⟨_, SqL.of f3⟩
  by_cases q2 : p = a.s
  · subst q2
    rcases h with (h | ⟨o, h⟩) | h
    · rw [e1] at h
      cases h
    · rw [e1] at h
      cases h
    · exact ⟨xs, .inr h⟩
  rcases h with (h | ⟨o, h⟩) | h
  · exact ⟨xs, .inl (.inl (b _ _ h q2 q1))⟩
  · exact ⟨xs, .inl (.inr ⟨o, b _ _ h q2 q1⟩)⟩
  · exact ⟨xs, .inr h⟩
theorem sqt_but (R : Rnd H a n) (b : But a H H') {p : Addr} {xs : List V} (h : SqT K H p xs) : SqT K H' p xs := by
  obtain ⟨ns, ls, e1, e2, e3, _⟩ := R.ex
  have ne : ∀ o, H p = some o → (∀ kvs, o ≠ .dK kvs) → (∀ ys, o ≠ .lst ys) → H' p = some o := fun o e z1 z2 => b _ _ e (fun q => by
    subst q
    rw [e1] at e
    exact z1 _ (Option.some.inj e).symm) (fun q => by
    subst q
    rw [e3] at e
    exact z2 _ (Option.some.inj e).symm)
  rcases h with (h | ⟨o, h⟩) | h
  · exact .inl (.inl (ne _ h (fun _ z => by cases z) (fun _ z => by cases z)))
  · exact .inl (.inr ⟨o, ne _ h (fun _ z => by cases z) (fun _ z => by cases z)⟩)
  · exact .inr h
theorem dct_but (R : Rnd H a n) (R' : Rnd H' a n') (b : But a H H') {p : Addr} {kvs : List (Key × V)} (h : H p = some (.dK kvs)) : ∃ kvs', H' p = some (.dK kvs') := by
  obtain ⟨ns, ls, e1, e2, e3, _⟩ := R.ex
  obtain ⟨ns', ls', f1, f2, f3, _⟩ := R'.ex
  by_cases q2 : p = a.s
  · subst q2
    exact ⟨_, f1⟩
  · exact ⟨_, b _ _ h q2 fun q => by
      subst q
      rw [e3] at h
      cases h⟩
mutual
theorem TrAt.rnd (R : Rnd H a n) (R' : Rnd H' a n') (b : But a H H') : ∀ {v : V} {t : Tr}, TrAt K H v t → TrAt K H' v t
  | _, _, .non => .non
  | _, _, .bl b => .bl b
  | _, _, .int i => .int i
  | _, _, .str s h => .str s h
  | _, _, .lst h => by
    obtain ⟨ys, q⟩ := lst_but R R' b h
    exact .lst q
  | _, _, .dct h => by
    obtain ⟨kvs, q⟩ := dct_but R R' b h
    exact .dct q
  | _, _, .tup h k => .tup (sqt_but R b h) (TrAll.rnd R R' b k)
theorem TrAll.rnd (R : Rnd H a n) (R' : Rnd H' a n') (b : But a H H') : ∀ {vs : List V} {ts : List Tr}, TrAll K H vs ts → TrAll K H' vs ts
  | _, _, .nil => .nil
  | _, _, .cons h k => .cons (h.rnd R R' b) (k.rnd R R' b)
end
/-- xs + ys of two tuples -/
theorem cat_tr {v u : V} {xs ys : List Tr} {Q : VK} (t1 : TrAt K H v (.tup xs)) (t2 : TrAt K H u (.tup ys)) (l1 : xs.length ≤ 1000) (l2 : ys.length ≤ 1000) (k : ∀ r H', Same H H' → TrAt K H' r (.tup (xs ++ ys)) → Q r H') : rCatA K v u H Q := by
  cases t1 with
  | @tup aa vs _ ha ta' =>
  cases t2 with
  | @tup bb us _ hb tb' =>
  have e1 := ta'.len
  have e2 := tb'.len
  refine ⟨aa, bb, vs, us, rfl, rfl, ha, hb, by rw [sizeLine_eq]; omega, fun e => ?_, fun _ e => ?_, fun _ _ p np => ?_⟩
  · subst e
    cases ta'
    exact k _ _ (fun _ _ e => e) (.tup hb tb')
  · subst e
    cases tb'
    rw [List.append_nil] at k
    exact k _ _ (fun _ _ e => e) (.tup ha ta')
  · exact k _ _ (same_new np) (.tup (SqT.of upd_same) ((ta'.app tb').same (same_new np)))
theorem TrAll.rep {v : V} {t : Tr} (h : TrAt K H v t) : ∀ k : Nat, TrAll K H (List.replicate k [v]).flatten (List.replicate k t)
  | 0 => .nil
  | k + 1 => by
    rw [List.replicate_succ, List.replicate_succ, List.flatten_cons]
    exact .cons h (TrAll.rep h k)
/-- (t,) * k -/
theorem rep_tr {v : V} {t : Tr} {k : Int} {Q : VK} (h : TrAt K H v (.tup [t])) (h0 : 0 ≤ k) (h1 : k ≤ 1000) (q : ∀ r H', Same H H' → TrAt K H' r (.tup (List.replicate k.toNat t)) → Q r H') : rRepA K v (.int k) H Q := by
  cases h with
  | @tup aa vs _ ha ta =>
  cases ta with
  | cons t1 tn =>
  cases tn
  exact ⟨aa, k, _, rfl, rfl, ha, (fun z => by cases z), h0, h1, (Nat.le_of_ble_eq_true rfl), fun p H' s hT => q _ _ s (.tup hT ((TrAll.rep t1 _).same s))⟩
/-- a new tuple -/
theorem new_tr {p : Addr} {vs : List V} {ts : List Tr} (np : H p = none) (h : TrAll K H vs ts) : Same H (upd H p (.tup vs)) ∧ TrAt K (upd H p (.tup vs)) (.ref p) (.tup ts) := ⟨same_new np, .tup (SqT.of upd_same) (h.same (same_new np))⟩
end
/-- the law's own dict -/
def ownK (x y c t nn : Str) (nm : Addr) (pv : V) : List (Key × V) := [(.inr "x", .str x), (.inr "y", .str y), (.inr "c", .str c), (.inr "t", .str t), (.inr "names", .ref nm), (.inr "params", pv), (.inr "none", .str nn)]
section
variable {x y c t nn : Str} {nm : Addr} {pv : V}
theorem ow_x : valV (ownK x y c t nn nm pv) (.inr "x") = some (.str x) := by with_unfolding_all rfl
theorem ow_y : valV (ownK x y c t nn nm pv) (.inr "y") = some (.str y) := by with_unfolding_all rfl
theorem ow_c : valV (ownK x y c t nn nm pv) (.inr "c") = some (.str c) := by with_unfolding_all rfl
theorem ow_t : valV (ownK x y c t nn nm pv) (.inr "t") = some (.str t) := by with_unfolding_all rfl
theorem ow_names : valV (ownK x y c t nn nm pv) (.inr "names") = some (.ref nm) := by with_unfolding_all rfl
theorem ow_params : valV (ownK x y c t nn nm pv) (.inr "params") = some pv := by with_unfolding_all rfl
theorem ow_none : valV (ownK x y c t nn nm pv) (.inr "none") = some (.str nn) := by with_unfolding_all rfl
end
end BK


set_option Elab.async false
set_option maxRecDepth 100000
set_option maxHeartbeats 4000000
set_option linter.unusedVariables false
/-! book_with -/
namespace BK
open PySem PySem.Spec PyProof.Rows L2 RZ ET
/-- two tuples one behind the other -/
theorem cat_tr2 {K : PySem.W.Frag} {H : Hp} {v u : V} {xs ys : List Tr} {Q : VK} (t1 : TrAt K H v (.tup xs)) (t2 : TrAt K H u (.tup ys)) (l1 : xs.length ≤ 1000) (l2 : ys.length ≤ 1000) (k : ∀ r H', Same H H' → TrAt K H' r (.tup (xs ++ ys)) → Q r H') : rCatA K v u H Q := cat_tr t1 t2 l1 l2 k
section
variable {P : Program} {w : World} {K : PySem.W.Frag} {mg : Str → Option Value} {base : Heap}
theorem ok_wth {f fP : Addr} {fd fdP : FuncData} (F : Fun K "book_with" "book_with" sWth f fd) (T : Forms mg)
    (GP : FnOk P w K mg base CX0 1 fP fdP ["book", "name"] (spFindP K)) (bP : Binds K fdP ["book", "name"] []) (gP : mg "find_piece" = some (.ref fP)) (kP : PySem.W.keepIn K (.ref fP) = true) : FnOk P w K mg base CX0 2 f fd ["book", "piece"] (spWth K) := by
  refine F.ok scWth (fun vs H Q E h => ?_) (fun cdv A outer s H vs Q E hr h => ?_)
  · obtain ⟨bv, qv, u, ps, p, rfl, _⟩ := h
    rfl
  · obtain ⟨bv, qv, u, ps, p, rfl, tb, tq, pt, hp, pl, k⟩ := h
    have one' : 1 ≤ sizeLine := by decide
    have two' : 2 ≤ sizeLine := by decide
    refine ⟨_, pss_cons (ps_asg (pv 0) (pg_tup rfl (pgs_cons (pg_name (i := 2) scWth.nd rfl (Or.inl rfl)) (pgs_cons (pg_name (i := 3) scWth.nd rfl (Or.inl rfl)) pgs_nil))))
      (pss_cons (ps_if (pt_cmp (pc_isN (pe_call GP hr rfl gP kP bP .nil pass0 (pa_cons (pv 0) (pa_cons (pe_ix ix_tup (pv 1) pe_int (fun _ _ => rfl)) pa_nil)))))
        (pss_one (ps_ret (pe_tup (pa_cons (pv 2) (pa_cons (pe_op op_catA (pv 3) (pe_tup (pa_cons (pv 1) pa_nil))) pa_nil))))) pss_nil)
      (pss_one (ps_ret (pe_tup (pa_cons (pv 2) (pa_cons (pe_callTy call_tuple_of (by rfl) T.tuple boot_tuple (pa_cons (pe_lc (own := [("other", 4)]) (g := gName 4) (tt := tYes) rfl scWth.nd (pi_tup (pv 3)) (blkOk_by (N := nWth) (sc := defScope sWth) (by decide +kernel))
          (fun _ _ _ _ _ => pg_name (i := 4) scWth.nd rfl (Or.inl rfl)) (fun _ _ _ _ _ => pts_nil)
          (fun _ _ _ _ _ => pe_ifExp (pt_cmpR op_eq (pe_ix (r := rIxT K) (by exact ix_tup) (pv 4) pe_int (fun _ _ => rfl)) (pe_ix (r := rIxT K) (by exact ix_tup) (pv 1) pe_int (fun _ _ => rfl)) (nomark _)) (pv 1) (pv 4))) pa_nil)) pa_nil)))))), ?_⟩
    obtain ⟨b, vv, pv', rfl, hb, tv, tp⟩ := two_tr tb
    obtain ⟨n, prm, bts, rfl, hprm⟩ := triple_shape pt
    obtain ⟨c, y1, y2, y3, rfl, hc, t1, _, _⟩ := three_tr tq
    cases t1 with
    | str _ hn =>
    refine ⟨_, rfl, b, _, rfl, hb, rfl, _, _, rfl, _, _, rfl, rfl, ?_⟩
    refine ⟨_, rfl, _, rfl, c, _, 0, _, rfl, rfl, hc, rfl, .ref b, .str n, u, ps, .str n, rfl, tb, hp, .str n hn, fun v tvf => ?_⟩
    have key := find_none (z := n) hp
    have wp : wordS (.tup [.str n, prm, .tup bts]) = n := rfl
    by_cases hin : n ∈ ps.map wordS
    · have ne : findR ps (.str n) ≠ .non := fun e => (key.mp e) hin
      have nv : v ≠ .non := fun e => by
        subst e
        rcases find_shape (t := .str n) hp with e | ⟨_, e⟩
        · exact ne e
        · obtain ⟨a, b', c', e2, _⟩ := triple_shape e
          rw [e2] at tvf
          cases tvf
      have ef : decide (v = V.non) = false := decide_eq_false nv
      have eP : putP ps (.tup [.str n, prm, .tup bts]) = ps.map fun o => if wordS o = n then .tup [.str n, prm, .tup bts] else o := by
        show (if n ∈ ps.map wordS then _ else _) = _
        rw [if_pos hin]
        rfl
      rw [eP] at k
      refine ⟨_, rfl, ?_⟩
      refine ite2 (fun h => absurd (of_decide_eq_true h) nv) (fun _ => ?_)
      cases tp with
      | @tup pa xs _ hpa tps =>
      refine ⟨_, rfl, _, rfl, pa, rfl, ⟨_, hpa⟩, fun D nD => ?_⟩
      refine lc_it (walk_tup (K := K) (a := pa) (xs := xs)) (fun i H2 => Same H H2 ∧ ∃ us, H2 D = some (.lst us) ∧ TrAll K H2 us ((ps.take i).map fun o => if wordS o = n then .tup [.str n, prm, .tup bts] else o)) ⟨same_new nD, [], upd_same, .nil⟩ (fun i H2 _ ⟨s2, _⟩ => sqt_same s2 hpa) ?_ ?_
      · rintro i y Hx H2 hi ⟨s2, us, e2, t2⟩ ⟨rfl, hy⟩
        obtain ⟨t, ht, ty⟩ := (tps.same s2).get hy
        have il : i < ps.length := (List.getElem?_eq_some_iff.mp ht).1
        have et : ps.take (i + 1) = ps.take i ++ [t] := by rw [List.take_add_one, ht]; rfl
        obtain ⟨m, prm2, bts2, rfl, hprm2⟩ := triple_shape (hp t (List.mem_of_getElem? ht))
        obtain ⟨c2, z1, z2, z3, rfl, hc2, tz1, _, _⟩ := three_tr ty
        cases tz1 with
        | str _ hm =>
        have ul := t2.len
        have fin : ∀ {x : V} {o : Tr}, TrAt K H2 x o → (if wordS (.tup [.str m, prm2, .tup bts2]) = n then .tup [.str n, prm, .tup bts] else .tup [.str m, prm2, .tup bts2]) = o → ∃ acc, H2 D = some (.lst acc) ∧ acc.length < sizeLine ∧ Same H (upd H2 D (.lst (acc ++ [x]))) ∧ ∃ us, (upd H2 D (.lst (acc ++ [x]))) D = some (.lst us) ∧ TrAll K (upd H2 D (.lst (acc ++ [x]))) us ((ps.take (i + 1)).map fun o => if wordS o = n then .tup [.str n, prm, .tup bts] else o) := fun {x o} tx eo => by
          refine ⟨us, e2, small1000 (by rw [ul, List.length_map, List.length_take]; omega), fun o u e => ?_, us ++ [x], upd_same, ?_⟩
          · rw [upd_ne (ne_of_none e nD)]
            exact s2 _ _ e
          · rw [et, List.map_append]
            refine (t2.updL e2).app (.cons ?_ .nil)
            have z := tx.updL (ys' := us ++ [x]) e2
            rw [← eo] at z
            exact z
        refine ⟨rfl, ?_⟩
        refine tyes ?_
        refine ⟨_, rfl, c2, _, 0, _, rfl, rfl, hc2, rfl, _, rfl, c, _, 0, _, rfl, rfl, sqt_same s2 hc, rfl, rfl, _, rfl, ?_⟩
        rw [eq_txt]
        refine ite2 (fun h => ?_) (fun h => ?_)
        · have h : m = n := of_decide_eq_true h
          exact ⟨_, rfl, fin (tq.same s2) (if_pos h)⟩
        · have h : ¬ m = n := fun e => h (decide_eq_true e)
          exact ⟨_, rfl, fin ty (if_neg h)⟩
      · rintro H2 ⟨s2, us, e2, t2⟩
        rw [tps.len, List.take_length] at t2
        refine ⟨D, us, rfl, .inl ⟨SqL.of e2, fun l nl => ⟨two', fun q nq => ?_⟩⟩⟩
        have sl := same_new (o := .tup us) nl
        have tl : TrAt K (upd H2 l (.tup us)) (.ref l) (.tup (ps.map fun o => if wordS o = n then .tup [.str n, prm, .tup bts] else o)) := .tup (SqT.of upd_same) (t2.same sl)
        generalize upd H2 l (.tup us) = H3 at sl tl nq ⊢
        obtain ⟨s4, t4⟩ := new_tr nq (.cons ((tv.same s2).same sl) (.cons tl .nil))
        exact k _ _ ((s2.trans sl).trans s4) t4
    · have e0 : findR ps (.str n) = .non := key.mpr hin
      rw [e0] at tvf
      cases tvf
      refine ⟨_, rfl, iteT ?_⟩
      have eP : putP ps (.tup [.str n, prm, .tup bts]) = ps ++ [.tup [.str n, prm, .tup bts]] := by
        show (if n ∈ ps.map wordS then _ else _) = _
        rw [if_neg hin]
      rw [eP] at k
      refine ⟨_, rfl, _, rfl, _, rfl, one', fun q nq => ?_⟩
      obtain ⟨s1, c1⟩ := new_tr nq (.cons tq .nil)
      refine cat_tr2 (tp.same s1) c1 (by omega) (by simp) fun r H2 s2 t2 => ⟨two', fun q2 nq2 => ?_⟩
      obtain ⟨s3, c3⟩ := new_tr nq2 (.cons ((tv.same s1).same s2) (.cons t2 .nil))
      exact k _ _ ((s1.trans s2).trans s3) c3
end
end BK

set_option Elab.async false
set_option maxRecDepth 100000
set_option maxHeartbeats 4000000
set_option linter.unusedVariables false
/-! shelves: what they keep -/
namespace BK
open PySem PySem.Spec PyProof.Rows L2 RZ ET
mutual
theorem eqv_self : ∀ {t : Tr}, dataT t = true → PyData.eqv (pdT t) (pdT t) = true
  | .non, _ => by simp [pdT, PyData.eqv]
  | .bl b, _ => by simp [pdT, PyData.eqv]
  | .int i, _ => by simp [pdT, PyData.eqv]
  | .str s, _ => by simp [pdT, PyData.eqv]
  | .lst, e => by simp [dataT] at e
  | .dct, e => by simp [dataT] at e
  | .tup ts, e => by
    simp only [pdT, PyData.eqv]
    simp only [dataT] at e
    exact eqvs_self e
theorem eqvs_self : ∀ {ts : List Tr}, dataTs ts = true → PyData.eqvAll (pdTs ts) (pdTs ts) = true
  | [], _ => by simp [pdTs, PyData.eqvAll]
  | t :: r, e => by
    simp only [dataTs, Bool.and_eq_true] at e
    simp only [pdTs, PyData.eqvAll, eqv_self e.1, eqvs_self e.2, Bool.and_self]
end
mutual
/-- tuples, integers, texts alone -/
def purT : Tr → Bool
  | .int _ => true
  | .str _ => true
  | .tup ts => purTs ts
  | _ => false
def purTs : List Tr → Bool
  | [] => true
  | t :: r => purT t && purTs r
end
mutual
theorem eqv_eq : ∀ {t u : Tr}, purT t = true → purT u = true → PyData.eqv (pdT t) (pdT u) = true → t = u
  | .int i, u, _, hu, h => by
    cases u with
    | int j => simp [pdT, PyData.eqv] at h; rw [h]
    | str s => simp [pdT, PyData.eqv] at h
    | tup ts => simp [pdT, PyData.eqv] at h
    | _ => simp [purT] at hu
  | .str s, u, _, hu, h => by
    cases u with
    | int j => simp [pdT, PyData.eqv] at h
    | str s => simp [pdT, PyData.eqv] at h; rw [h]
    | tup ts => simp [pdT, PyData.eqv] at h
    | _ => simp [purT] at hu
  | .tup ts, u, ht, hu, h => by
    cases u with
    | int j => simp [pdT, PyData.eqv] at h
    | str s => simp [pdT, PyData.eqv] at h
    | tup us =>
      simp only [pdT, PyData.eqv] at h
      simp only [purT] at ht hu
      rw [eqvs_eq ht hu h]
    | _ => simp [purT] at hu
  | .non, _, ht, _, _ => by simp [purT] at ht
  | .bl _, _, ht, _, _ => by simp [purT] at ht
  | .lst, _, ht, _, _ => by simp [purT] at ht
  | .dct, _, ht, _, _ => by simp [purT] at ht
theorem eqvs_eq : ∀ {ts us : List Tr}, purTs ts = true → purTs us = true → PyData.eqvAll (pdTs ts) (pdTs us) = true → ts = us
  | [], [], _, _, _ => rfl
  | t :: r, u :: v, ht, hu, h => by
    simp only [pdTs, PyData.eqvAll, Bool.and_eq_true] at h
    simp only [purTs, Bool.and_eq_true] at ht hu
    rw [eqv_eq ht.1 hu.1 h.1, eqvs_eq ht.2 hu.2 h.2]
  | [], u :: v, _, _, h => by simp [pdTs, PyData.eqvAll] at h
  | t :: r, [], _, _, h => by simp [pdTs, PyData.eqvAll] at h
end
theorem pdTs_len : ∀ ts : List Tr, (pdTs ts).length = ts.length
  | [] => rfl
  | t :: r => by simp only [pdTs, List.length_cons, pdTs_len r]
theorem eqvs_len : ∀ {xs ys : List PyData}, PyData.eqvAll xs ys = true → xs.length = ys.length
  | [], [], _ => rfl
  | x :: xs, y :: ys, h => by
    simp only [PyData.eqvAll, Bool.and_eq_true] at h
    simp only [List.length_cons, eqvs_len h.2]
  | [], y :: ys, h => by simp [PyData.eqvAll] at h
  | x :: xs, [], h => by simp [PyData.eqvAll] at h
mutual
theorem lay_data : ∀ {t : Tr}, dataT t = true → (pdT t).canLay0 = true
  | .non, _ => by simp [pdT, PyData.canLay0]
  | .bl b, _ => by simp [pdT, PyData.canLay0]
  | .int i, _ => by simp [pdT, PyData.canLay0]
  | .str s, e => by
    simp only [dataT, Bool.and_eq_true, decide_eq_true_eq] at e
    simp only [pdT, PyData.canLay0]
    unfold PyData.strOk
    rw [← Array.all_toList, List.all_eq_true]
    intro c hc
    have q := List.all_eq_true.mp e.1 c hc
    rw [decide_eq_true_eq] at q ⊢
    omega
  | .lst, e => by simp [dataT] at e
  | .dct, e => by simp [dataT] at e
  | .tup ts, e => by
    simp only [pdT, PyData.canLay0]
    simp only [dataT] at e
    exact lays_data e
theorem lays_data : ∀ {ts : List Tr}, dataTs ts = true → PyData.canLayAll0 (pdTs ts) = true
  | [], _ => by simp [pdTs, PyData.canLayAll0]
  | t :: r, e => by
    simp only [dataTs, Bool.and_eq_true] at e
    simp only [pdTs, PyData.canLayAll0, lay_data e.1, lays_data e.2, Bool.and_self]
end
theorem shaped_data {t : Tr} (h : ReprOk t) : SeqAt.shaped (pdT t) = true := by
  unfold SeqAt.shaped
  rw [lay_data h.da, Bool.true_and]
  have := h.de
  rw [pd_depth]
  exact decide_eq_true (by omega)
/-! the class -/
abbrev cSh : Stmt := top 50
abbrev sSI : Stmt := inClass cSh 0
abbrev sSG : Stmt := inClass cSh 1
abbrev sSS : Stmt := inClass cSh 2
abbrev sSC : Stmt := inClass cSh 3
abbrev sSL : Stmt := inClass cSh 5
abbrev sSE : Stmt := inClass cSh 6
abbrev sSF : Stmt := inClass cSh 7
abbrev sSN : Stmt := inClass cSh 8
abbrev sSB : Stmt := inClass cSh 9
abbrev sSP : Stmt := inClass cSh 20
abbrev sSX : Stmt := inClass cSh 21
section
variable {K : PySem.W.Frag} {C : Addr} {H H' : Hp} {x dx : Addr} {fs : List (Str × V)}
theorem sqt_ins (ob : H x = some (.ins C dx fs)) (kp : ∀ b o, H b = some o → b ≠ x → H' b = some o) {t : Addr} {xs : List V} (h : SqT K H t xs) : SqT K H' t xs := by
  rcases h with (h | ⟨o, h⟩) | h
  · exact .inl (.inl (kp _ _ h (ne_of h ob (by intro z; cases z))))
  · exact .inl (.inr ⟨o, kp _ _ h (ne_of h ob (by intro z; cases z))⟩)
  · exact .inr h
theorem sql_ins (ob : H x = some (.ins C dx fs)) (kp : ∀ b o, H b = some o → b ≠ x → H' b = some o) {t : Addr} {xs : List V} (h : SqL K H t xs) : SqL K H' t xs := by
  rcases h with (h | ⟨o, h⟩) | h
  · exact .inl (.inl (kp _ _ h (ne_of h ob (by intro z; cases z))))
  · exact .inl (.inr ⟨o, kp _ _ h (ne_of h ob (by intro z; cases z))⟩)
  · exact .inr h
mutual
theorem TrAt.ins (ob : H x = some (.ins C dx fs)) (kp : ∀ b o, H b = some o → b ≠ x → H' b = some o) : ∀ {v : V} {t : Tr}, TrAt K H v t → TrAt K H' v t
  | _, _, .non => .non
  | _, _, .bl b => .bl b
  | _, _, .int i => .int i
  | _, _, .str s h => .str s h
  | _, _, .lst h => .lst (sql_ins ob kp h)
  | _, _, .dct h => .dct (kp _ _ h (ne_of h ob (by intro z; cases z)))
  | _, _, .tup h k => .tup (sqt_ins ob kp h) (TrAll.ins ob kp k)
theorem TrAll.ins (ob : H x = some (.ins C dx fs)) (kp : ∀ b o, H b = some o → b ≠ x → H' b = some o) : ∀ {vs : List V} {ts : List Tr}, TrAll K H vs ts → TrAll K H' vs ts
  | _, _, .nil => .nil
  | _, _, .cons h k => .cons (h.ins ob kp) (k.ins ob kp)
end
end
def shF (v : V) (d : Addr) : List (Str × V) := [("_book", v), ("_found", .ref d), ("_walks", .int 0)]
/-- a shelf at s with that book; nothing was found of it -/
structure ShAt (K : PySem.W.Frag) (C : Addr) (H : Hp) (s d : Addr) (bk : Tr) : Prop where
  ob : ∃ dx v, H s = some (.ins C dx (shF v d)) ∧ TrAt K H v bk
  dc : H d = some (.dK [])
theorem ShAt.same {K : PySem.W.Frag} {C : Addr} {H H' : Hp} {s d : Addr} {bk : Tr} (h : ShAt K C H s d bk) (e : Same H H') : ShAt K C H' s d bk := by
  obtain ⟨⟨dx, v, h1, h2⟩, h3⟩ := h
  exact ⟨⟨dx, v, e _ _ h1, h2.same e⟩, e _ _ h3⟩
theorem shf_no (v : V) (d : Addr) {m : Str} (h1 : ¬ m = "_book") (h2 : ¬ m = "_found") (h3 : ¬ m = "_walks") : (shF v d).lookup m = none := by
  have e1 : (m == ("_book" : Str)) = false := beq_eq_false_iff_ne.mpr h1
  have e2 : (m == ("_found" : Str)) = false := beq_eq_false_iff_ne.mpr h2
  have e3 : (m == ("_walks" : Str)) = false := beq_eq_false_iff_ne.mpr h3
  unfold shF
  simp [List.lookup, e1, e2, e3]
/-- a book that a shelf may have -/
structure BkR (us ps : List Tr) : Prop where
  ft : faultT (.tup [.tup us, .tup ps]) = none
  vr : us.length ≤ 2
  sm : ∀ p ∈ ps, SmallP p
  pn : ∀ p ∈ ps, purT p = true
  nd : (ps.map wordS).Nodup
theorem BkR.tri {us ps : List Tr} (h : BkR us ps) : ∀ p ∈ ps, tripleT p = true := fun p hp => (h.sm p hp).1
theorem BkR.len {us ps : List Tr} (h : BkR us ps) : ps.length ≤ 6 := by
  obtain ⟨vs, qs, e, l, _⟩ := book_right h.ft
  cases e
  exact l
structure TxS (K : PySem.W.Frag) (mg : Str → Option Value) (C : Addr) : Prop where
  cl : Cls K C
  nB : NoAttr K C "_book"
  nF : NoAttr K C "_found"
  nW : NoAttr K C "_walks"
  mgC : mg "Shelf" = some (.ref C)
theorem passF {P : Program} {w : World} {X : Cx} : Passes (L2.CX P w) X E0 := fun _ _ _ _ _ _ _ h => by
  obtain ⟨_, _, _, _, _, _, _, _, _, _, _, _, z⟩ := h
  exact z.elim
theorem scSI : FnScope ["self", "book"] ["self", "book"] (defScope sSI) := ⟨rfl, rfl, rfl, by decide +kernel, rfl, by decide +kernel, by decide +kernel⟩
def spSI (K : PySem.W.Frag) (C : Addr) : Sp := fun vs H Q _ => ∃ (x dx : Addr) (bv : V) (us ps : List Tr), vs = [.ref x, bv] ∧ H x = some (.ins C dx []) ∧ TrAt K H bv (.tup [.tup us, .tup ps]) ∧ BkR us ps ∧
  ∀ (d : Addr) (H' : Hp), H d = none → ShAt K C H' x d (.tup [.tup us, .tup ps]) → (∀ b o, H b = some o → b ≠ x → H' b = some o) → Q .non H'
theorem scSG : FnScope ["self", "name", "piece"] ["self", "name"] (defScope sSG) := ⟨rfl, rfl, rfl, by decide +kernel, rfl, by decide +kernel, by decide +kernel⟩
def spSG (K : PySem.W.Frag) (C : Addr) : Sp := fun vs H Q _ => ∃ (s d : Addr) (nv : V) (us ps : List Tr) (tn : Tr), vs = [.ref s, nv] ∧ ShAt K C H s d (.tup [.tup us, .tup ps]) ∧ BkR us ps ∧ TrAt K H nv tn ∧ findR ps tn ≠ .non ∧ ∀ v, TrAt K H v (findR ps tn) → Q v H
def inR (ps : List Tr) (tn : Tr) : Bool := match findR ps tn with
  | .non => false
  | _ => true
theorem scSC : FnScope ["self", "name"] ["self", "name"] (defScope sSC) := ⟨rfl, rfl, rfl, by decide +kernel, rfl, by decide +kernel, by decide +kernel⟩
def spSC (K : PySem.W.Frag) (C : Addr) : Sp := fun vs H Q _ => ∃ (s d : Addr) (nv : V) (us ps : List Tr) (tn : Tr), vs = [.ref s, nv] ∧ ShAt K C H s d (.tup [.tup us, .tup ps]) ∧ BkR us ps ∧ TrAt K H nv tn ∧ Q (.bl (inR ps tn)) H
theorem scSL : FnScope ["self"] ["self"] (defScope sSL) := ⟨rfl, rfl, rfl, by decide +kernel, rfl, by decide +kernel, by decide +kernel⟩
theorem scSN : FnScope ["self", "piece"] ["self"] (defScope sSN) := ⟨rfl, rfl, rfl, by decide +kernel, rfl, by decide +kernel, by decide +kernel⟩
theorem scSB : FnScope ["self"] ["self"] (defScope sSB) := ⟨rfl, rfl, rfl, by decide +kernel, rfl, by decide +kernel, by decide +kernel⟩
def spSL (K : PySem.W.Frag) (C : Addr) : Sp := fun vs H Q _ => ∃ (s d : Addr) (us ps : List Tr), vs = [.ref s] ∧ ShAt K C H s d (.tup [.tup us, .tup ps]) ∧ Q (.int (ps.length : Int)) H
def spSN (K : PySem.W.Frag) (C : Addr) : Sp := fun vs H Q _ => ∃ (s d : Addr) (us ps : List Tr), vs = [.ref s] ∧ ShAt K C H s d (.tup [.tup us, .tup ps]) ∧ BkR us ps ∧ ∀ v H', Same H H' → TrAt K H' v (.tup (ps.map fun p => .str (wordS p))) → Q v H'
def spSB (K : PySem.W.Frag) (C : Addr) : Sp := fun vs H Q _ => ∃ (s d : Addr) (bk : Tr), vs = [.ref s] ∧ ShAt K C H s d bk ∧ ∀ v, TrAt K H v bk → Q v H
section
variable {P : Program} {w : World} {K : PySem.W.Frag} {mg : Str → Option Value} {base : Heap}
theorem ok_SI {C CB f fN fB : Addr} {fd fdN fdB : FuncData} (F : Fun K "__init__" "Shelf.__init__" sSI f fd) (X : TxS K mg C)
    (GN : FnOk P w K mg base (L2.CX P w) 17 fN fdN ["thing"] (spNeed K CB)) (bN : Binds K fdN ["thing"] []) (gN : mg "need_book" = some (.ref fN)) (kN : PySem.W.keepIn K (.ref fN) = true)
    (GB : FnOk P w K mg base CX0 8 fB fdB ["book", "pieces"] (spBnd K)) (bB : Binds K fdB ["book", "pieces"] []) (gB : mg "need_bounds" = some (.ref fB)) (kB : PySem.W.keepIn K (.ref fB) = true) : FnOk P w K mg base CX0 18 f fd ["self", "book"] (spSI K C) := by
  refine F.ok scSI (fun vs H Q E h => ?_) (fun cdv A outer s H vs Q E hr h => ?_)
  · obtain ⟨x, dx, bv, us, ps, rfl, _⟩ := h
    rfl
  · obtain ⟨x, dx, bv, us, ps, rfl, ob, tb, hB, k⟩ := h
    have hr8 : Room 8 _ := hr.mono (by decide)
    refine ⟨_, pss_cons (ps_expr (pe_call GN hr rfl gN kN bN .nil passF (pa_cons (pv 1) pa_nil)))
      (pss_cons (ps_expr (pe_call GB hr8 rfl gB kB bB .nil pass0 (pa_cons (pv 1) (pa_cons (pe_ix ix_tup (pv 1) pe_int (fun _ _ => rfl)) pa_nil))))
      (pss_cons (ps_fld (pv 0) (pv 1) rfl)
      (pss_cons (ps_fld (pv 0) pe_dnewK rfl)
      (pss_one (ps_fld (pv 0) pe_int rfl))))), ?_⟩
    refine ⟨_, rfl, bv, _, rfl, tb, fun _ H1 s1 => ?_, fun p e => by rw [hB.ft] at e; cases e⟩
    have tb1 := tb.same s1
    obtain ⟨b, v1, v2, rfl, hb, t1, t2⟩ := two_tr tb1
    refine ⟨_, rfl, _, rfl, b, _, 1, _, rfl, rfl, hb, rfl, .ref b, v2, us, ps, ps, rfl, tb1, t2, hB.vr, hB.tri, by have := hB.len; omega, hB.sm, fun H2 s2 => ?_⟩
    have s12 := s1.trans s2
    have tb2 := tb1.same s2
    have ob2 := s12 _ _ ob
    clear tb1 t1 t2 hb s1 s2
    refine ⟨_, rfl, _, rfl, x, C, dx, _, rfl, ob2, X.cl, X.nB, by decide, ?_⟩
    have k1 : ∀ c u, H2 c = some u → c ≠ x → (upd H2 x (.ins C dx (putF "_book" (.ref b) []))) c = some u := fun c u e n => by rw [upd_ne n]; exact e
    have tb3 := tb2.ins ob2 k1
    have ob3 : (upd H2 x (.ins C dx (putF "_book" (.ref b) []))) x = some (.ins C dx [("_book", .ref b)]) := upd_same
    generalize upd H2 x (.ins C dx (putF "_book" (.ref b) [])) = H3 at k1 tb3 ob3 ⊢
    refine fun d hd => ?_
    have sd := same_new (o := .dK []) hd
    have ob4 := sd _ _ ob3
    have tb4 := tb3.same sd
    have ed : (upd H3 d (.dK [])) d = some (.dK []) := upd_same
    have nxd : d ≠ x := (ne_of_none ob3 hd).symm
    have hd0 : H d = none := by
      cases e : H d with
      | none => rfl
      | some o => rw [k1 _ _ (s12 _ _ e) nxd] at hd; cases hd
    generalize upd H3 d (.dK []) = H4 at sd ob4 tb4 ed ⊢
    refine ⟨_, rfl, x, C, dx, _, rfl, ob4, X.cl, X.nF, (show 1 < 1000 by decide), ?_⟩
    have k2 : ∀ c u, H4 c = some u → c ≠ x → (upd H4 x (.ins C dx (putF "_found" (.ref d) [("_book", .ref b)]))) c = some u := fun c u e n => by rw [upd_ne n]; exact e
    have tb5 := tb4.ins ob4 k2
    have ob5 : (upd H4 x (.ins C dx (putF "_found" (.ref d) [("_book", .ref b)]))) x = some (.ins C dx [("_book", .ref b), ("_found", .ref d)]) := upd_same
    have ed5 := k2 _ _ ed nxd
    generalize upd H4 x (.ins C dx (putF "_found" (.ref d) [("_book", .ref b)])) = H5 at k2 tb5 ob5 ed5 ⊢
    refine ⟨_, rfl, x, C, dx, _, rfl, ob5, X.cl, X.nW, (show 2 < 1000 by decide), ?_⟩
    have k3 : ∀ c u, H5 c = some u → c ≠ x → (upd H5 x (.ins C dx (putF "_walks" (.int 0) [("_book", .ref b), ("_found", .ref d)]))) c = some u := fun c u e n => by rw [upd_ne n]; exact e
    have tb6 := tb5.ins ob5 k3
    have ob6 : (upd H5 x (.ins C dx (putF "_walks" (.int 0) [("_book", .ref b), ("_found", .ref d)]))) x = some (.ins C dx (shF (.ref b) d)) := upd_same
    exact k d _ hd0 ⟨⟨dx, .ref b, ob6, tb6⟩, k3 _ _ ed5 nxd⟩ fun c o e n => k3 _ _ (k2 _ _ (sd _ _ (k1 _ _ (s12 _ _ e) n)) n) n
theorem fld_book {K : PySem.W.Frag} {C : Addr} {H : Hp} {s d : Addr} {bk : Tr} (h : ShAt K C H s d bk) : ∃ dx v, H s = some (.ins C dx (shF v d)) ∧ TrAt K H v bk := h.ob
theorem ok_SG {C f fP : Addr} {fd fdP : FuncData} (F : Fun K "__getitem__" "Shelf.__getitem__" sSG f fd) (X : TxS K mg C)
    (GP : FnOk P w K mg base CX0 1 fP fdP ["book", "name"] (spFindP K)) (bP : Binds K fdP ["book", "name"] []) (gP : mg "find_piece" = some (.ref fP)) (kP : PySem.W.keepIn K (.ref fP) = true) : FnOk P w K mg base CX0 2 f fd ["self", "name"] (spSG K C) := by
  refine F.ok scSG (fun vs H Q E h => ?_) (fun cdv A outer s H vs Q E hr h => ?_)
  · obtain ⟨x, d, nv, us, ps, tn, rfl, _⟩ := h
    rfl
  · obtain ⟨x, d, nv, us, ps, tn, rfl, hS, hB, tnv, ne, k⟩ := h
    refine ⟨_, pss_cons (ps_set (i := 2) scSG.nd rfl (Or.inl rfl) (pe_call GP hr rfl gP kP bP .nil pass0 (pa_cons (pe_fld (pv 0) rfl) (pa_cons (pv 1) pa_nil))))
      (pss_cons (ps_if (pt_cmp (pc_isN (pv 2))) (pss_one ps_dead) pss_nil)
      (pss_one (ps_ret (pv 2)))), ?_⟩
    obtain ⟨dx, v, ob, tv⟩ := hS.ob
    refine ⟨_, rfl, x, C, dx, _, v, rfl, ob, X.cl, X.nB, rfl, _, rfl, v, nv, _, ps, tn, rfl, tv, hB.tri, tnv, fun u tu => ?_⟩
    have nu : u ≠ .non := fun e => by
      subst e
      rcases find_shape (t := tn) hB.tri with e | ⟨_, e⟩
      · exact ne e
      · obtain ⟨a, b', c', e2, _⟩ := triple_shape e
        rw [e2] at tu
        cases tu
    refine ⟨_, rfl, _, rfl, ?_⟩
    refine ite2 (fun h => absurd (of_decide_eq_true h) nu) (fun _ => ?_)
    exact ⟨_, rfl, k u tu⟩
theorem ok_SC {C f fP : Addr} {fd fdP : FuncData} (F : Fun K "__contains__" "Shelf.__contains__" sSC f fd) (X : TxS K mg C)
    (GP : FnOk P w K mg base CX0 1 fP fdP ["book", "name"] (spFindP K)) (bP : Binds K fdP ["book", "name"] []) (gP : mg "find_piece" = some (.ref fP)) (kP : PySem.W.keepIn K (.ref fP) = true) : FnOk P w K mg base CX0 2 f fd ["self", "name"] (spSC K C) := by
  refine F.ok scSC (fun vs H Q E h => ?_) (fun cdv A outer s H vs Q E hr h => ?_)
  · obtain ⟨x, d, nv, us, ps, tn, rfl, _⟩ := h
    rfl
  · obtain ⟨x, d, nv, us, ps, tn, rfl, hS, hB, tnv, k⟩ := h
    refine ⟨_, pss_one (ps_ret (pe_cmp (pc_notN (pe_call GP hr rfl gP kP bP .nil pass0 (pa_cons (pe_fld (pv 0) rfl) (pa_cons (pv 1) pa_nil)))))), ?_⟩
    obtain ⟨dx, v, ob, tv⟩ := hS.ob
    refine ⟨_, rfl, x, C, dx, _, v, rfl, ob, X.cl, X.nB, rfl, _, rfl, v, nv, _, ps, tn, rfl, tv, hB.tri, tnv, fun u tu => ?_⟩
    have e : (!decide (u = V.non)) = inR ps tn := by
      unfold inR
      rcases find_shape (t := tn) hB.tri with e | ⟨_, e⟩
      · rw [e] at tu ⊢
        cases tu
        simp
      · obtain ⟨a, b', c', e2, _⟩ := triple_shape e
        rw [e2] at tu ⊢
        cases tu
        simp
    show Q (.bl (!decide (u = V.non))) H
    rw [e]
    exact k
theorem ok_SL {C f : Addr} {fd : FuncData} (F : Fun K "__len__" "Shelf.__len__" sSL f fd) (X : TxS K mg C) (mL : mg "len" = none) : FnOk P w K mg base CX0 1 f fd ["self"] (spSL K C) := by
  refine F.ok scSL (fun vs H Q E h => ?_) (fun cdv A outer s H vs Q E hr h => ?_)
  · obtain ⟨x, d, us, ps, rfl, _⟩ := h
    rfl
  · obtain ⟨x, d, us, ps, rfl, hS, k⟩ := h
    refine ⟨_, pss_one (ps_ret (pe_callB call_len_seq (by rfl) mL boot_len (pa_cons (pe_ix ix_tup (pe_fld (pv 0) rfl) pe_int (fun _ _ => rfl)) pa_nil))), ?_⟩
    obtain ⟨dx, v, ob, tv⟩ := hS.ob
    obtain ⟨b, v1, v2, rfl, hb, t1, t2⟩ := two_tr tv
    cases t2 with
    | @tup pa xs _ hpa tps =>
    have e := tps.len
    refine ⟨_, rfl, x, C, dx, _, _, rfl, ob, X.cl, X.nB, rfl, b, _, 1, _, rfl, rfl, hb, rfl, pa, xs, rfl, .inr hpa, ?_⟩
    rw [e]
    exact k
theorem ok_SB {C f : Addr} {fd : FuncData} (F : Fun K "book" "Shelf.book" sSB f fd) (X : TxS K mg C) : FnOk P w K mg base CX0 1 f fd ["self"] (spSB K C) := by
  refine F.ok scSB (fun vs H Q E h => ?_) (fun cdv A outer s H vs Q E hr h => ?_)
  · obtain ⟨x, d, bk, rfl, _⟩ := h
    rfl
  · obtain ⟨x, d, bk, rfl, hS, k⟩ := h
    refine ⟨_, pss_one (ps_ret (pe_fld (pv 0) rfl)), ?_⟩
    obtain ⟨dx, v, ob, tv⟩ := hS.ob
    exact ⟨_, rfl, x, C, dx, _, v, rfl, ob, X.cl, X.nB, rfl, k v tv⟩
theorem ok_SN {C f : Addr} {fd : FuncData} (F : Fun K "names" "Shelf.names" sSN f fd) (X : TxS K mg C) (mT : mg "tuple" = none) : FnOk P w K mg base CX0 1 f fd ["self"] (spSN K C) := by
  refine F.ok scSN (fun vs H Q E h => ?_) (fun cdv A outer s H vs Q E hr h => ?_)
  · obtain ⟨x, d, us, ps, rfl, _⟩ := h
    rfl
  · obtain ⟨x, d, us, ps, rfl, hS, hB, k⟩ := h
    refine ⟨_, pss_one (ps_ret (pe_callTy call_tuple_of (by rfl) mT boot_tuple (pa_cons (pe_lc (own := [("piece", 1)]) (g := gName 1) (tt := tYes) (te := tOp (rIxT K) (tVar 1) (tC (.int 0))) rfl scSN.nd (pi_tup (pe_ix ix_tup (pe_fld (pv 0) rfl) pe_int (fun _ _ => rfl))) (blkOk_by (N := ["self", "piece"]) (sc := defScope sSN) (by decide +kernel))
        (fun _ _ _ _ _ => pg_name (i := 1) scSN.nd rfl (Or.inl rfl)) (fun _ _ _ _ _ => pts_nil) (fun _ _ _ _ _ => by exact pe_ix ix_tup (pv 1) pe_int (fun _ _ => rfl))) pa_nil))), ?_⟩
    obtain ⟨dx, v, ob, tv⟩ := hS.ob
    obtain ⟨b, v1, v2, rfl, hb, t1, t2⟩ := two_tr tv
    cases t2 with
    | @tup pa xs _ hpa tps =>
    refine ⟨_, rfl, x, C, dx, _, _, rfl, ob, X.cl, X.nB, rfl, b, _, 1, _, rfl, rfl, hb, rfl, pa, rfl, ⟨_, hpa⟩, fun D nD => ?_⟩
    refine lc_it (walk_tup (K := K) (a := pa) (xs := xs)) (fun i H2 => Same H H2 ∧ ∃ zs, H2 D = some (.lst zs) ∧ TrAll K H2 zs ((ps.take i).map fun p => .str (wordS p))) ⟨same_new nD, [], upd_same, .nil⟩ (fun i H2 _ ⟨s2, _⟩ => sqt_same s2 hpa) ?_ ?_
    · rintro i y Hx H2 hi ⟨s2, zs, e2, t2⟩ ⟨rfl, hy⟩
      obtain ⟨t, ht, ty⟩ := (tps.same s2).get hy
      have il : i < ps.length := (List.getElem?_eq_some_iff.mp ht).1
      have pl := hB.len
      have et : ps.take (i + 1) = ps.take i ++ [t] := by rw [List.take_add_one, ht]; rfl
      obtain ⟨n, prm, bts, rfl, hprm⟩ := triple_shape (hB.tri t (List.mem_of_getElem? ht))
      obtain ⟨c, y1, y2, y3, rfl, hc, u1, _⟩ := three_tr ty
      cases u1 with
      | str _ hn =>
      have zl := t2.len
      refine ⟨rfl, ?_⟩
      refine tyes ?_
      refine ⟨_, rfl, c, _, 0, _, rfl, rfl, hc, rfl, _, e2, small1000 (by rw [zl, List.length_map, List.length_take]; omega), fun o u e => ?_, _, upd_same, ?_⟩
      · rw [upd_ne (ne_of_none e nD)]
        exact s2 _ _ e
      · rw [et, List.map_append]
        exact (t2.updL e2).app (.cons (.str n hn) .nil)
    · rintro H2 ⟨s2, zs, e2, t2⟩
      rw [tps.len, List.take_length] at t2
      refine ⟨D, zs, rfl, .inl ⟨SqL.of e2, fun l nl => ?_⟩⟩
      have sl := same_new (o := .tup zs) nl
      exact k _ _ (s2.trans sl) (.tup (SqT.of upd_same) (t2.same sl))
/-! equality -/
theorem scSE : FnScope ["self", "other"] ["self", "other"] (defScope sSE) := ⟨rfl, rfl, rfl, by decide +kernel, rfl, by decide +kernel, by decide +kernel⟩
def spSE (K : PySem.W.Frag) (C : Addr) : Sp := fun vs H Q _ => ∃ (s d : Addr) (y : V) (bk : Tr), vs = [.ref s, y] ∧ ShAt K C H s d bk ∧ ReprOk bk ∧
  ((∃ s' d' bk', y = .ref s' ∧ ShAt K C H s' d' bk' ∧ ReprOk bk' ∧ Q (.bl (PyData.eqv (pdT bk) (pdT bk'))) H) ∨ (∃ t, TyX K H y t ∧ PySem.W.kitOne K t (.ref C) = some false ∧ Q (.bl false) H))
theorem ok_SE {C f : Addr} {fd : FuncData} (F : Fun K "__eq__" "Shelf.__eq__" sSE f fd) (X : TxS K mg C) (mI : mg "isinstance" = none) (tyC : ∀ (H : Hp) (a dx : Addr) (fs : List (Str × V)), H a = some (.ins C dx fs) → TyX K H (.ref a) (.ref C))
    (kC : PySem.W.kitOne K (.ref C) (.ref C) = some true) : FnOk P w K mg base CX0 1 f fd ["self", "other"] (spSE K C) := by
  refine F.ok scSE (fun vs H Q E h => ?_) (fun cdv A outer s H vs Q E hr h => ?_)
  · obtain ⟨x, d, y, bk, rfl, _⟩ := h
    rfl
  · obtain ⟨x, d, y, bk, rfl, hS, hR, q⟩ := h
    refine ⟨_, pss_one (ps_ret (pe_and (pe_callB call_isi (by rfl) mI boot_isinstance (pa_cons (pv 1) (pa_cons (pe_glob (v := .ref C) rfl X.mgC rfl) pa_nil)))
      (pe_one (pe_cmpR (op_eqD hr.units) (pe_fld (pv 0) rfl) (pe_fld (pv 1) rfl) (nomark _))))), ?_⟩
    obtain ⟨dx, v, ob, tv⟩ := hS.ob
    rcases q with ⟨x', d', bk', rfl, hS', hR', q⟩ | ⟨t, ty, kt, q⟩
    · obtain ⟨dx', v', ob', tv'⟩ := hS'.ob
      refine ⟨_, rfl, _, _, _, _, true, rfl, .own C, tyC H x' dx' _ ob', kC, _, rfl, iteT ?_⟩
      exact ⟨_, rfl, x, C, dx, _, v, rfl, ob, X.cl, X.nB, rfl, _, rfl, x', C, dx', _, v', rfl, ob', X.cl, X.nB, rfl, pdT bk, pdT bk', tv.dp hR.da, tv'.dp hR'.da, shaped_data hR, shaped_data hR', q⟩
    · exact ⟨_, rfl, _, _, t, _, false, rfl, .own C, ty, kt, _, rfl, iteF q⟩
/-! changes -/
abbrev nSX : List Str := ["self", "name", "book", "pair"]
theorem scSX : FnScope nSX ["self", "name", "book"] (defScope sSX) := ⟨rfl, rfl, rfl, by decide +kernel, rfl, by decide +kernel, by decide +kernel⟩
/-- all stays but the shelf -/
def ButS (s : Addr) (H H' : Hp) : Prop := ∀ b o, H b = some o → b ≠ s → H' b = some o
def spSX (K : PySem.W.Frag) (C : Addr) : Sp := fun vs H Q _ => ∃ (s d : Addr) (nv bv : V) (bk bk' : Tr), vs = [.ref s, nv, bv] ∧ ShAt K C H s d bk ∧ TrAt K H bv bk' ∧ ∀ d' H', H d' = none → ShAt K C H' s d' bk' → ButS s H H' → Q .non H'
theorem pe_dead {X : Cx} {e : Expr} : PE X e (fun _ _ _ => False) := ⟨fun _ _ _ _ _ _ h => h.elim⟩
theorem pts_dead {X : Cx} {es : List Expr} : PTs X es (fun _ _ _ => False) := ⟨fun _ _ _ _ _ _ h => h.elim⟩
theorem ok_SX {C f : Addr} {fd : FuncData} (F : Fun K "_change" "Shelf._change" sSX f fd) (X : TxS K mg C) : FnOk P w K mg base CX0 1 f fd ["self", "name", "book"] (spSX K C) := by
  refine F.ok scSX (fun vs H Q E h => ?_) (fun cdv A outer s H vs Q E hr h => ?_)
  · obtain ⟨x, d, nv, bv, bk, bk', rfl, _⟩ := h
    rfl
  · obtain ⟨x, d, nv, bv, bk, bk', rfl, hS, tb, k⟩ := h
    refine ⟨_, pss_cons (ps_fld (pv 0) (pv 2) rfl)
      (pss_one (ps_fld (pv 0) (pe_lock (pe_dc (own := [("pair", 3)]) (g := gName 3) (tt := fun _ _ _ => False) (tk := fun _ _ _ => False) (tv := fun _ _ _ => False) rfl scSX.nd (pi_keys (pe_fld (pv 0) rfl)) (blkOk_by (N := nSX) (sc := defScope sSX) (by decide +kernel))
        (fun _ _ _ _ _ => pg_name (i := 3) scSX.nd rfl (Or.inl rfl)) (fun _ _ _ _ _ => pts_dead) (fun _ _ _ _ _ => pe_dead) (fun _ _ _ _ _ => pe_dead))) rfl)), ?_⟩
    obtain ⟨⟨dx, v, ob, tv⟩, dc⟩ := hS
    have nxd : x ≠ d := ne_of ob dc (by intro z; cases z)
    refine ⟨_, rfl, _, rfl, x, C, dx, _, rfl, ob, X.cl, X.nB, (show 3 < 1000 by decide), ?_⟩
    have k1 : ∀ c u, H c = some u → c ≠ x → (upd H x (.ins C dx (putF "_book" bv (shF v d)))) c = some u := fun c u e n => by rw [upd_ne n]; exact e
    have tb1 := tb.ins ob k1
    have ob1 : (upd H x (.ins C dx (putF "_book" bv (shF v d)))) x = some (.ins C dx (shF bv d)) := by
      rw [upd_same]
      rfl
    have dc1 := k1 _ _ dc nxd.symm
    generalize upd H x (.ins C dx (putF "_book" bv (shF v d))) = H1 at k1 tb1 ob1 dc1 ⊢
    refine ⟨d, .dK [], dc1, True.intro, fun od => ?_⟩
    have ob2 : (upd H1 d (.frz od (.dK []))) x = some (.ins C dx (shF bv d)) := by rw [upd_ne nxd]; exact ob1
    refine ⟨_, rfl, x, C, dx, _, .ref d, rfl, ob2, X.cl, X.nF, rfl, d, od, rfl, .inl ⟨[], upd_same, fun D nD => ?_⟩⟩
    have nDd : D ≠ d := fun e => by rw [e, upd_same] at nD; cases nD
    have nDx : D ≠ x := fun e => by rw [e, ob2] at nD; cases nD
    refine ⟨fun i m H2 => i = 0 ∧ H2 = upd (upd H1 d (.frz od (.dK []))) D (.dK []), ⟨0, rfl, rfl⟩, ?_⟩
    rintro i m H2 ⟨rfl, rfl⟩
    refine .inl ⟨?_, ?_, ?_⟩
    · exact ⟨by rw [upd_ne nDd.symm, upd_same], Nat.le_refl _⟩
    · rw [upd_ne nDd.symm, upd_same]
    · have hD1 : H1 D = none := by rw [upd_ne nDd] at nD; exact nD
      have kp : Same H1 (upd (upd (upd H1 d (.frz od (.dK []))) D (.dK [])) d (.dK [])) := fun b o e => by
        by_cases z : b = d
        · rw [z, upd_same]
          rw [z, dc1] at e
          exact e
        · rw [upd_ne z, upd_ne (fun w => by rw [w, hD1] at e; cases e), upd_ne z]
          exact e
      have eD : (upd (upd (upd H1 d (.frz od (.dK []))) D (.dK [])) d (.dK [])) D = some (.dK []) := by rw [upd_ne nDd, upd_same]
      generalize upd (upd (upd H1 d (.frz od (.dK []))) D (.dK [])) d (.dK []) = H3 at kp eD ⊢
      have ob3 := kp _ _ ob1
      refine ⟨_, rfl, x, C, dx, _, rfl, ob3, X.cl, X.nF, (show 3 < 1000 by decide), ?_⟩
      have k2 : ∀ c u, H3 c = some u → c ≠ x → (upd H3 x (.ins C dx (putF "_found" (.ref D) (shF bv d)))) c = some u := fun c u e n => by rw [upd_ne n]; exact e
      refine k D _ ?_ ⟨⟨dx, bv, ?_, (tb1.same kp).ins ob3 k2⟩, k2 _ _ eD nDx⟩ fun b o e n => k2 _ _ (kp _ _ (k1 _ _ e n)) n
      · cases e : H D with
        | none => rfl
        | some o => rw [k1 _ _ e nDx] at hD1; cases hD1
      · rw [upd_same]
        rfl
end
end BK

set_option Elab.async false
set_option maxRecDepth 100000
set_option maxHeartbeats 4000000
set_option linter.unusedVariables false
/-! _piece, forget, x[name] = piece -/
namespace BK
open PySem PySem.Spec PyProof.Rows L2 RZ ET SW
theorem piece_repr {p : Tr} (h : SmallP p) : ReprOk p := by
  obtain ⟨h1, h2, h3⟩ := h
  have s := piece_shown h1 h2 (by omega)
  exact ⟨s.da, Nat.le_trans s.de (by decide), Nat.le_trans s.si (by decide)⟩
theorem scSP : FnScope ["self", "name"] ["self", "name"] (defScope sSP) := ⟨rfl, rfl, rfl, by decide +kernel, rfl, by decide +kernel, by decide +kernel⟩
abbrev nSF : List Str := ["self", "name", "gone", "variables", "pieces", "piece"]
theorem scSF : FnScope nSF ["self", "name"] (defScope sSF) := ⟨rfl, rfl, rfl, by decide +kernel, rfl, by decide +kernel, by decide +kernel⟩
def spSF (K : PySem.W.Frag) (C : Addr) : Sp := fun vs H Q _ => ∃ (s d : Addr) (z : Str) (us ps : List Tr), vs = [.ref s, .str z] ∧ z.length ≤ sizeLine ∧ ShAt K C H s d (.tup [.tup us, .tup ps]) ∧ BkR us ps ∧ z ∈ ps.map wordS ∧
  ∀ d' H', H d' = none → ShAt K C H' s d' (.tup [.tup us, .tup (ps.filter fun p => !decide (wordS p = z))]) → ButS s H H' → Q .non H'
abbrev nSS : List Str := ["self", "name", "piece", "book"]
theorem scSS : FnScope nSS ["self", "name", "piece"] (defScope sSS) := ⟨rfl, rfl, rfl, by decide +kernel, rfl, by decide +kernel, by decide +kernel⟩
def spSS (K : PySem.W.Frag) (C : Addr) : Sp := fun vs H Q _ => ∃ (s d : Addr) (qv : V) (us ps : List Tr) (p : Tr), vs = [.ref s, .str (wordS p), qv] ∧ ShAt K C H s d (.tup [.tup us, .tup ps]) ∧ BkR us ps ∧ TrAt K H qv p ∧ BkR us (putP ps p) ∧
  ∀ d' H', (d' = d ∨ H d' = none) → ShAt K C H' s d' (.tup [.tup us, .tup (putP ps p)]) → ButS s H H' → Q .non H'
theorem inj_nodup : ∀ {ps : List Tr}, (ps.map wordS).Nodup → ∀ {o p : Tr}, o ∈ ps → p ∈ ps → wordS o = wordS p → o = p
  | [], _, _, _, ho, _, _ => by cases ho
  | a :: r, nd, o, p, ho, hp, e => by
    rw [List.map_cons, List.nodup_cons] at nd
    rcases List.mem_cons.mp ho with h1 | h1
    · rcases List.mem_cons.mp hp with h2 | h2
      · rw [h1, h2]
      · exact absurd (List.mem_map.mpr ⟨p, h2, by rw [← e, h1]⟩) nd.1
    · rcases List.mem_cons.mp hp with h2 | h2
      · exact absurd (List.mem_map.mpr ⟨o, h1, by rw [e, h2]⟩) nd.1
      · exact inj_nodup nd.2 h1 h2 e
theorem put_mem {ps : List Tr} {p : Tr} : p ∈ putP ps p := by
  unfold putP
  split
  · rename_i h
    obtain ⟨o, ho, e⟩ := List.mem_map.mp h
    exact List.mem_map.mpr ⟨o, ho, if_pos e⟩
  · exact List.mem_append_right _ (List.mem_singleton.mpr rfl)
/-- the same piece put again -/
theorem put_same {ps : List Tr} {p : Tr} (nd : (ps.map wordS).Nodup) (h : p ∈ ps) : putP ps p = ps := by
  unfold putP
  rw [if_pos (List.mem_map.mpr ⟨p, h, rfl⟩)]
  have : ∀ o ∈ ps, (if wordS o = wordS p then p else o) = o := fun o ho => by
    split
    · rename_i e
      exact (inj_nodup nd ho h e).symm
    · rfl
  rw [List.map_congr_left this]
  simp
section
variable {P : Program} {w : World} {K : PySem.W.Frag} {mg : Str → Option Value} {base : Heap}
theorem ok_SP {C f fG : Addr} {fd fdG : FuncData} (F : Fun K "_piece" "Shelf._piece" sSP f fd) (X : TxS K mg C)
    (GG : FnOk P w K mg base CX0 2 fG fdG ["self", "name"] (spSG K C)) (bG : Binds K fdG ["self", "name"] []) (hs : PySem.W.findIn K (.ref C) "__getitem__" = some (some (.ref fG))) (hf : PySem.W.isFn K (.ref fG) = true) (hfn : PySem.W.fnIn K fG = true) :
    FnOk P w K mg base CX0 4 f fd ["self", "name"] (spSG K C) := by
  refine F.ok scSP (fun vs H Q E h => ?_) (fun cdv A outer s H vs Q E hr h => ?_)
  · obtain ⟨x, d, nv, us, ps, tn, rfl, _⟩ := h
    rfl
  · obtain ⟨x, d, nv, us, ps, tn, rfl, hS, hB, tnv, ne, k⟩ := h
    refine ⟨_, pss_one (ps_ret (pe_own hs hf hfn GG hr bG pass0 (pv 0) (pv 1) (fun _ _ => rfl))), ?_⟩
    obtain ⟨dx, v, ob, tv⟩ := hS.ob
    exact ⟨_, rfl, _, rfl, x, dx, _, rfl, ob, x, d, nv, us, ps, tn, rfl, hS, hB, tnv, ne, k⟩
theorem ok_SF {C f fP fX : Addr} {fd fdP fdX : FuncData} (F : Fun K "forget" "Shelf.forget" sSF f fd) (X : TxS K mg C) (mT : mg "tuple" = none)
    (GP : FnOk P w K mg base CX0 4 fP fdP ["self", "name"] (spSG K C)) (bP : Binds K fdP ["self", "name"] []) (mP : Meth K C "_piece" fP)
    (GX : FnOk P w K mg base CX0 1 fX fdX ["self", "name", "book"] (spSX K C)) (bX : Binds K fdX ["self", "name", "book"] []) (mX : Meth K C "_change" fX) : FnOk P w K mg base CX0 5 f fd ["self", "name"] (spSF K C) := by
  refine F.ok scSF (fun vs H Q E h => ?_) (fun cdv A outer s H vs Q E hr h => ?_)
  · obtain ⟨x, d, z, us, ps, rfl, _⟩ := h
    rfl
  · obtain ⟨x, d, z, us, ps, rfl, hz, hS, hB, hin, k⟩ := h
    have hr1 : Room 1 _ := hr.mono (by decide)
    have two' : 2 ≤ sizeLine := by decide
    refine ⟨_, pss_cons (ps_set (i := 2) scSF.nd rfl (Or.inr rfl) (pe_meth (pv 0) X.cl mP GP hr bP .nil pass0 (pa_cons (pv 1) pa_nil)))
      (pss_cons (ps_asg (pe_fld (pv 0) rfl) (pg_tup rfl (pgs_cons (pg_name (i := 3) scSF.nd rfl (Or.inl rfl)) (pgs_cons (pg_name (i := 4) scSF.nd rfl (Or.inl rfl)) pgs_nil))))
      (pss_one (ps_expr (pe_meth (pv 0) X.cl mX GX hr1 bX .nil pass0 (pa_cons (pv 1) (pa_cons (pe_tup (pa_cons (pv 3) (pa_cons (pe_callTy call_tuple_of (by rfl) mT boot_tuple (pa_cons
        (pe_lc (own := [("piece", 5)]) (g := gName 5) rfl scSF.nd (pi_tup (pv 4)) (blkOk_by (N := nSF) (sc := defScope sSF) (by decide +kernel))
          (fun _ _ _ _ _ => pg_name (i := 5) scSF.nd rfl (Or.inl rfl))
          (fun _ _ _ _ _ => pts_one (pt_cmpR op_ne (pe_ix (r := rIxT K) (by exact ix_tup) (pv 5) pe_int (fun _ _ => rfl)) (pe_ix (r := rIxT K) (by exact ix_tup) (pv 2) pe_int (fun _ _ => rfl)) (nomark _)))
          (fun _ _ _ _ _ => pv 5)) pa_nil)) pa_nil))) pa_nil)))))), ?_⟩
    obtain ⟨dx, v, ob, tv⟩ := hS.ob
    have ne : findR ps (.str z) ≠ .non := fun e => (find_none hB.tri).mp e hin
    refine ⟨_, rfl, x, dx, _, rfl, ob, shf_no v d (by decide +kernel) (by decide +kernel) (by decide +kernel), _, rfl, x, d, .str z, us, ps, .str z, rfl, hS, hB, .str z hz, ne, fun u tu => ?_⟩
    obtain ⟨n, prm, bts, ef, hn⟩ : ∃ n prm bts, findR ps (.str z) = .tup [.str n, prm, .tup bts] ∧ n = z := by
      rcases find_shape (t := .str z) hB.tri with e | ⟨hm, e⟩
      · exact absurd e ne
      · obtain ⟨n, prm, bts, e2, _⟩ := triple_shape e
        refine ⟨n, prm, bts, e2, ?_⟩
        have e3 : findR ps (.str z) = (ps.find? fun p => decide (wordS p = z)).getD .non := rfl
        cases e4 : ps.find? fun p => decide (wordS p = z) with
        | none => rw [e4] at e3; exact absurd e3 ne
        | some q =>
          rw [e4] at e3
          have e5 : findR ps (.str z) = q := e3
          have : wordS q = z := of_decide_eq_true (List.find?_some (p := fun p => decide (wordS p = z)) e4)
          rw [← e5, e2] at this
          exact this
    rw [ef] at tu
    subst hn
    obtain ⟨c, y1, y2, y3, rfl, hc, t1, _⟩ := three_tr tu
    cases t1 with
    | str _ hn' =>
    obtain ⟨b, v1, v2, rfl, hb, tv1, tv2⟩ := two_tr tv
    cases tv2 with
    | @tup pa xs _ hpa tps =>
    refine ⟨_, rfl, x, C, dx, _, _, rfl, ob, X.cl, X.nB, rfl, b, _, rfl, hb, rfl, _, _, rfl, _, _, rfl, rfl, ?_⟩
    refine ⟨_, rfl, x, dx, _, rfl, ob, shf_no _ d (by decide +kernel) (by decide +kernel) (by decide +kernel), ?_⟩
    refine ⟨_, rfl, _, rfl, _, rfl, pa, rfl, ⟨_, hpa⟩, fun D nD => ?_⟩
    refine lc_it (walk_tup (K := K) (a := pa) (xs := xs)) (fun i H2 => Same H H2 ∧ ∃ zs, H2 D = some (.lst zs) ∧ TrAll K H2 zs ((ps.take i).filter fun p => !decide (wordS p = n))) ⟨same_new nD, [], upd_same, .nil⟩ (fun i H2 _ ⟨s2, _⟩ => sqt_same s2 hpa) ?_ ?_
    · rintro i y Hx H2 hi ⟨s2, zs, e2, t2⟩ ⟨rfl, hy⟩
      obtain ⟨t, ht, ty⟩ := (tps.same s2).get hy
      have il : i < ps.length := (List.getElem?_eq_some_iff.mp ht).1
      have pl := hB.len
      have et : ps.take (i + 1) = ps.take i ++ [t] := by rw [List.take_add_one, ht]; rfl
      obtain ⟨m, prm2, bts2, rfl, hprm⟩ := triple_shape (hB.tri t (List.mem_of_getElem? ht))
      obtain ⟨c2, z1, z2, z3, rfl, hc2, u1, _⟩ := three_tr ty
      cases u1 with
      | str _ hm =>
      have zl := t2.len
      refine ⟨rfl, ?_⟩
      refine ⟨_, rfl, c2, _, 0, _, rfl, rfl, hc2, rfl, _, rfl, c, _, 0, _, rfl, rfl, sqt_same s2 hc, rfl, rfl, _, rfl, ?_⟩
      refine ite2 (fun h => ?_) (fun h => ?_)
      · have hne : ¬ m = n := by
          intro e
          subst e
          simp at h
        refine ⟨_, rfl, _, e2, small1000 (by rw [zl]; refine Nat.le_trans (List.length_filter_le _ _) ?_; rw [List.length_take]; omega), fun o u e => ?_, _, upd_same, ?_⟩
        · rw [upd_ne (ne_of_none e nD)]
          exact s2 _ _ e
        · have pe : (!decide (wordS (.tup [.str m, prm2, .tup bts2]) = n)) = true := by
            have : decide (wordS (.tup [.str m, prm2, .tup bts2]) = n) = false := decide_eq_false hne
            rw [this]; rfl
          rw [et, List.filter_append, List.filter_cons_of_pos (by exact pe)]
          exact (t2.updL e2).app (.cons (ty.updL e2) .nil)
      · have heq : m = n := by
          by_cases e : m = n
          · exact e
          · refine absurd ?_ h
            simp [e]
        refine ⟨s2, zs, e2, ?_⟩
        have pe : ¬ (!decide (wordS (.tup [.str m, prm2, .tup bts2]) = n)) = true := by
          have : decide (wordS (.tup [.str m, prm2, .tup bts2]) = n) = true := decide_eq_true heq
          rw [this]; decide
        rw [et, List.filter_append, List.filter_cons_of_neg (by exact pe), List.filter_nil, List.append_nil]
        exact t2
    · rintro H2 ⟨s2, zs, e2, t2⟩
      rw [tps.len, List.take_length] at t2
      refine ⟨D, zs, rfl, .inl ⟨SqL.of e2, fun l nl => ⟨two', fun q nq => ?_⟩⟩⟩
      have sl := same_new (o := .tup zs) nl
      have tl : TrAt K (upd H2 l (.tup zs)) (.ref l) (.tup (ps.filter fun p => !decide (wordS p = n))) := .tup (SqT.of upd_same) (t2.same sl)
      generalize upd H2 l (.tup zs) = H3 at sl tl nq ⊢
      obtain ⟨s4, t4⟩ := new_tr nq (.cons ((tv1.same s2).same sl) (.cons tl .nil))
      have sA := (s2.trans sl).trans s4
      refine ⟨x, d, .str n, .ref q, _, _, rfl, hS.same sA, t4, fun d' H' nd' hS' bS => ?_⟩
      exact k d' H' (sA.free nd') hS' fun b o e ne => bS b o (sA b o e) ne
theorem ok_SS {C CB f fT fO fW fN fB fP fX : Addr} {fd fdT fdO fdW fdN fdB fdP fdX : FuncData} (F : Fun K "__setitem__" "Shelf.__setitem__" sSS f fd) (X : TxS K mg C)
    (GT : FnOk P w K mg base CX0 1 fT fdT ["thing", "count"] (spTuple K)) (bT : Binds K fdT ["thing", "count"] []) (gT : mg "is_tuple" = some (.ref fT)) (kT : PySem.W.keepIn K (.ref fT) = true)
    (GO : FnOk P w K mg base CX0 1 fO fdO ["name", "thing"] (spOwn K)) (bO : Binds K fdO ["name", "thing"] []) (gO : mg "is_own_name" = some (.ref fO)) (kO : PySem.W.keepIn K (.ref fO) = true)
    (GW : FnOk P w K mg base CX0 2 fW fdW ["book", "piece"] (spWth K)) (bW : Binds K fdW ["book", "piece"] []) (gW : mg "book_with" = some (.ref fW)) (kW : PySem.W.keepIn K (.ref fW) = true)
    (GN : FnOk P w K mg base (L2.CX P w) 17 fN fdN ["thing"] (spNeed K CB)) (bN : Binds K fdN ["thing"] []) (gN : mg "need_book" = some (.ref fN)) (kN : PySem.W.keepIn K (.ref fN) = true)
    (GB : FnOk P w K mg base CX0 8 fB fdB ["book", "pieces"] (spBnd K)) (bB : Binds K fdB ["book", "pieces"] []) (gB : mg "need_bounds" = some (.ref fB)) (kB : PySem.W.keepIn K (.ref fB) = true)
    (GP : FnOk P w K mg base CX0 1 fP fdP ["book", "name"] (spFindP K)) (bP : Binds K fdP ["book", "name"] []) (gP : mg "find_piece" = some (.ref fP)) (kP : PySem.W.keepIn K (.ref fP) = true)
    (GX : FnOk P w K mg base CX0 1 fX fdX ["self", "name", "book"] (spSX K C)) (bX : Binds K fdX ["self", "name", "book"] []) (mX : Meth K C "_change" fX) : FnOk P w K mg base CX0 18 f fd ["self", "name", "piece"] (spSS K C) := by
  refine F.ok scSS (fun vs H Q E h => ?_) (fun cdv A outer s H vs Q E hr h => ?_)
  · obtain ⟨x, d, qv, us, ps, p, rfl, _⟩ := h
    rfl
  · obtain ⟨x, d, qv, us, ps, p, rfl, hS, hB, tq, hB2, k⟩ := h
    have hr1 : Room 1 _ := hr.mono (by decide)
    have hr2 : Room 2 _ := hr.mono (by decide)
    have hr8 : Room 8 _ := hr.mono (by decide)
    have sp : SmallP p := hB2.sm p put_mem
    have pp : purT p = true := hB2.pn p put_mem
    obtain ⟨pt, _, _⟩ := id sp
    refine ⟨_, pss_cons (ps_if (PW.pt (pw_or (pt_not (pt_val (pe_call GT hr1 rfl gT kT bT .nil pass0 (pa_cons (pv 2) (pa_cons pe_int pa_nil))))) (pw_or1 (pt_not (pt_val (pe_call GO hr1 rfl gO kO bO .nil pass0 (pa_cons (pv 1) (pa_cons (pv 2) pa_nil)))))))) (pss_one ps_dead) pss_nil)
      (pss_cons (ps_set (i := 3) scSS.nd rfl (Or.inl rfl) (pe_call GW hr2 rfl gW kW bW .nil pass0 (pa_cons (pe_fld (pv 0) rfl) (pa_cons (pv 2) pa_nil))))
      (pss_cons (ps_expr (pe_call GN hr rfl gN kN bN .nil passF (pa_cons (pv 3) pa_nil)))
      (pss_cons (ps_expr (pe_call GB hr8 rfl gB kB bB .nil pass0 (pa_cons (pv 3) (pa_cons (pe_ix ix_tup (pv 3) pe_int (fun _ _ => rfl)) pa_nil))))
      (pss_one (ps_if (pt_cmpR (op_neD hr.units) (pv 2) (pe_call GP hr1 rfl gP kP bP .nil pass0 (pa_cons (pe_fld (pv 0) rfl) (pa_cons (pv 1) pa_nil))) (nomark _)) (pss_one (ps_expr (pe_meth (pv 0) X.cl mX GX hr1 bX .nil pass0 (pa_cons (pv 1) (pa_cons (pv 3) pa_nil))))) pss_nil))))), ?_⟩
    obtain ⟨dx, v, ob, tv⟩ := hS.ob
    obtain ⟨n, prm, bts, rfl, hprm⟩ := triple_shape pt
    have zl : n.length ≤ sizeLine := by
      obtain ⟨c, y1, y2, y3, rfl, hc, t1, _⟩ := three_tr tq
      cases t1 with
      | str _ h => exact h
    refine ⟨_, rfl, qv, _, 3, rfl, tq, ?_⟩
    refine ⟨_, rfl, iteF ⟨_, rfl, _, rfl, n, qv, _, rfl, zl, tq, pt, ?_⟩⟩
    have eo : decide (n = wordS (.tup [.str n, prm, .tup bts])) = true := decide_eq_true rfl
    rw [eo]
    refine ⟨_, rfl, iteF ?_⟩
    refine ⟨_, rfl, x, C, dx, _, _, rfl, ob, X.cl, X.nB, rfl, _, rfl, v, qv, _, ps, _, rfl, tv, tq, pt, hB.tri, by have := hB.len; omega, fun bv H1 s1 t1 => ?_⟩
    refine ⟨_, rfl, bv, _, rfl, t1, fun _ H2 s2 => ?_, fun q e => by rw [hB2.ft] at e; cases e⟩
    have t2 := t1.same s2
    obtain ⟨b, v1, v2, rfl, hb, tv1, tv2⟩ := two_tr t2
    refine ⟨_, rfl, _, rfl, b, _, 1, _, rfl, rfl, hb, rfl, .ref b, v2, us, _, _, rfl, t2, tv2, hB2.vr, hB2.tri, by have := hB2.len; omega, hB2.sm, fun H3 s3 => ?_⟩
    have s13 := (s1.trans s2).trans s3
    have t3 := t2.same s3
    have tq3 := tq.same s13
    have ob3 := s13 _ _ ob
    have hS3 := hS.same s13
    refine ⟨_, rfl, _, rfl, x, C, dx, _, _, rfl, ob3, X.cl, X.nB, rfl, _, rfl, v, .str n, _, ps, .str n, rfl, tv.same s13, hB.tri, .str n zl, fun u tu => ?_⟩
    have hR1 : ReprOk (.tup [.str n, prm, .tup bts]) := piece_repr sp
    have hR2 : ReprOk (findR ps (.str n)) := by
      rcases find_shape (t := .str n) hB.tri with e | ⟨hm, _⟩
      · rw [e]
        exact ⟨rfl, by decide, by decide⟩
      · exact piece_repr (hB.sm _ hm)
    refine ⟨_, _, tq3.dp hR1.da, tu.dp hR2.da, shaped_data hR1, shaped_data hR2, _, rfl, ?_⟩
    refine ite2 (fun h => ?_) (fun h => ?_)
    · refine ⟨_, rfl, x, dx, _, rfl, ob3, shf_no _ d (by decide +kernel) (by decide +kernel) (by decide +kernel), _, rfl, _, rfl, x, d, .str n, .ref b, _, _, rfl, hS3, t3, fun d' H' nd' hS' bS => ?_⟩
      exact k d' H' (.inr (s13.free nd')) hS' fun b o e ne => bS b o (s13 b o e) ne
    · have he : PyData.eqv (pdT (.tup [.str n, prm, .tup bts])) (pdT (findR ps (.str n))) = true := by
        cases z : PyData.eqv (pdT (.tup [.str n, prm, .tup bts])) (pdT (findR ps (.str n))) with
        | true => rfl
        | false => exact absurd (by rw [z]; rfl) h
      rcases find_shape (t := .str n) hB.tri with e | ⟨hm, _⟩
      · rw [e] at he
        simp [pdT, PyData.eqv] at he
      · have e := eqv_eq pp (hB.pn _ hm) he
        rw [← e] at hm
        have ep := put_same hB.nd hm
        refine k d H3 (.inl rfl) ?_ fun b o e _ => s13 b o e
        rw [ep]
        exact hS3
end
end BK

set_option Elab.async false
set_option maxRecDepth 100000
set_option maxHeartbeats 4000000
set_option linter.unusedVariables false
/-! _law_of, _law_names -/
namespace SW
open PySem PySem.Spec PyProof.Rows L2
theorem at_any {α : Type} {xs : List α} {z : Int} {j : Nat} {v : α} (e : z = (j : Int)) (h : xs[j]? = some v) : atI xs z = some v := by
  subst e
  exact atI_nat h
/-- a text of one sign; k times -/
def sgn (c : Nat) : Str := ⟨#[c]⟩
def repS (c k : Nat) : Str := ⟨(List.replicate k c).toArray⟩
theorem fold_rep (c : Nat) : ∀ (n : Nat) (acc : Array Nat), ((List.replicate n (#[c] : Array Nat)).foldl (· ++ ·) acc) = acc ++ (List.replicate n c).toArray
  | 0, acc => by simp
  | n + 1, acc => by
    rw [List.replicate_succ, List.foldl_cons, fold_rep c n, List.replicate_succ]
    apply Array.ext'
    simp
end SW
namespace L2
open PySem PySem.Spec PyProof.Rows
section
variable {X : Cx}
theorem op_mul1 : OpR X (binaryOp .Mult) (fun x y H Q => ∃ (c : Nat) (k : Int), x = .str (SW.sgn c) ∧ y = .int k ∧ 1 ≤ k ∧ k ≤ 8 ∧ Q (.str (SW.repS c k.toNat)) H) := by
  intro pins s σ H x y v u Q I rx ry h
  obtain ⟨c, k, rfl, rfl, k1, k8, q⟩ := h
  obtain ⟨t, rfl⟩ := rx
  obtain ⟨t2, rfl⟩ := ry
  have l1 : (SW.sgn c).length = 1 := rfl
  have el : ((List.replicate k.toNat (SW.sgn c).cps).foldl (· ++ ·) #[]) = (List.replicate k.toNat c).toArray := by
    show ((List.replicate k.toNat (#[c] : Array Nat)).foldl (· ++ ·) #[]) = _
    rw [SW.fold_rep]
    simp
  refine PySem.P.mul_str (by rw [decide_eq_false (by omega), decide_eq_false (by omega)]; rfl) (fun _ _ => ?_) (fun _ _ => ?_) ?_
  · rw [l1]
    have : (1 : Int) ≤ (2 ^ 63 - 1) / k := by
      rw [Int.le_ediv_iff_mul_le (by omega)]
      omega
    omega
  · rw [l1]
    exact decide_eq_false (by rw [sizeLine_eq]; omega)
  · rw [if_neg (by omega)]
    by_cases e : k = 1
    · subst e
      rw [if_pos (show ((1 : Int) == 1 || (SW.sgn c).length == 0) = true from rfl)]
      exact ⟨.str (SW.sgn c), H, I, ⟨_, rfl⟩, q⟩
    · have e2 : (k == 1 || (SW.sgn c).length == 0) = false := by
        rw [beq_eq_false_iff_ne.mpr e, l1]
        rfl
      rw [e2]
      rw [if_neg (by decide)]
      rw [el]
      refine ⟨?_, .str (SW.repS c k.toNat), H, I.tok _, ⟨_, rfl⟩, q⟩
      show (List.replicate k.toNat c).toArray.size ≤ sizeLine
      rw [List.size_toArray, List.length_replicate, sizeLine_eq]
      omega
end
end L2
namespace SW
open PySem PySem.Spec PyProof.Rows L2
abbrev sOf : Stmt := top 55
abbrev sNms : Stmt := top 56
theorem scOf : FnScope ["state", "some"] ["state", "some"] (defScope sOf) := ⟨rfl, rfl, rfl, by decide +kernel, rfl, by decide +kernel, by decide +kernel⟩
def spOfL (K : PySem.W.Frag) : Sp := fun vs H Q _ => ∃ (a : RA) (n : Nat) (L : Addr) (us : List V), vs = [.ref a.s, .ref L] ∧ Rnd H a n ∧ n + 60 ≤ 1000000 ∧ Off a L ∧ H L = some (.lst us) ∧ 0 < us.length ∧ us.length ≤ 1000 ∧
  ∀ (v : V) (i : Nat) (H' : Hp), us[i]? = some v → Rnd H' a (n + 1) → But a H H' → Q v H'
abbrev nNms : List Str := ["state", "many", "letters", "first", "k"]
theorem scNms : FnScope nNms ["state", "many"] (defScope sNms) := ⟨rfl, rfl, rfl, by decide +kernel, rfl, by decide +kernel, by decide +kernel⟩
def spNms : Sp := fun vs H Q _ => ∃ (a : RA) (n m : Nat), vs = [.ref a.s, .int (m : Int)] ∧ Rnd H a n ∧ n + 100 ≤ 1000000 ∧ 1 ≤ m ∧ m ≤ 2 ∧
  ∀ (p : Addr) (zs : List Str) (n' : Nat) (H' : Hp), H p = none → Off a p → H' p = some (.lst (zs.map V.str)) → zs.length = m → zs.Nodup → (∀ z ∈ zs, BK.nameS z = true ∧ z ≠ "zq") → n' ≤ n + 10 → Rnd H' a n' → But a H H' → Q (.ref p) H'
def nmAt (f j m : Nat) : Str := repS (97 + (f + 7 * j) % 26) m
theorem alpha_code : ∀ i : Fin 26, BK.alpha.cps.toList[i.1]? = some (97 + i.1) ∧ (97 + i.1) ∈ BK.alpha.cps.toList := by decide +kernel
theorem nmAt_name {f j m : Nat} (h1 : 1 ≤ m) (h8 : m ≤ 8) : BK.nameS (nmAt f j m) = true := by
  unfold BK.nameS nmAt repS
  rw [Bool.and_eq_true, Bool.and_eq_true, List.all_eq_true]
  have l : Str.length ⟨(List.replicate m (97 + (f + 7 * j) % 26)).toArray⟩ = m := by
    show (List.replicate m (97 + (f + 7 * j) % 26)).toArray.size = m
    rw [List.size_toArray, List.length_replicate]
  rw [l]
  refine ⟨⟨decide_eq_true h1, decide_eq_true h8⟩, fun c hc => decide_eq_true ?_⟩
  have e : c = 97 + (f + 7 * j) % 26 := by
    have : c ∈ List.replicate m (97 + (f + 7 * j) % 26) := by simpa using hc
    exact List.eq_of_mem_replicate this
  rw [e]
  exact (alpha_code ⟨(f + 7 * j) % 26, Nat.mod_lt _ (by decide)⟩).2
theorem nmAt_zq {f j m : Nat} : nmAt f j m ≠ "zq" := by
  intro e
  have e2 : (List.replicate m (97 + (f + 7 * j) % 26)).toArray = (#[122, 113] : Array Nat) := Str.mk.inj e
  have e3 : List.replicate m (97 + (f + 7 * j) % 26) = [122, 113] := by
    have := congrArg Array.toList e2
    simpa using this
  have h1 : 122 ∈ List.replicate m (97 + (f + 7 * j) % 26) := by rw [e3]; simp
  have h2 : 113 ∈ List.replicate m (97 + (f + 7 * j) % 26) := by rw [e3]; simp
  have a1 := List.eq_of_mem_replicate h1
  have a2 := List.eq_of_mem_replicate h2
  omega
theorem nmAt_ne {f m k : Nat} (h1 : 1 ≤ m) (h2 : 1 ≤ k) : nmAt f 0 m ≠ nmAt f 1 k := by
  intro e
  unfold nmAt repS at e
  have e2 : (List.replicate m (97 + (f + 7 * 0) % 26)).toArray = (List.replicate k (97 + (f + 7 * 1) % 26)).toArray := Str.mk.inj e
  have e3 : List.replicate m (97 + (f + 7 * 0) % 26) = List.replicate k (97 + (f + 7 * 1) % 26) := by
    have := congrArg Array.toList e2
    simpa using this
  obtain ⟨m', rfl⟩ : ∃ m', m = m' + 1 := ⟨m - 1, by omega⟩
  obtain ⟨k', rfl⟩ : ∃ k', k = k' + 1 := ⟨k - 1, by omega⟩
  rw [List.replicate_succ, List.replicate_succ] at e3
  have := (List.cons.inj e3).1
  omega
section
variable {P : Program} {w : World} {K : PySem.W.Frag} {mg : Str → Option Value} {base : Heap}
theorem ok_of {f fD : Addr} {fd fdD : FuncData} (F : Fun K "_law_of" "_law_of" sOf f fd) (mL : mg "len" = none)
    (GD : FnOk P w K mg base CX0 2 fD fdD ["state", "many"] spDraw) (bD : Binds K fdD ["state", "many"] []) (gD : mg "_law_draw" = some (.ref fD)) (kD : PySem.W.keepIn K (.ref fD) = true) : FnOk P w K mg base CX0 3 f fd ["state", "some"] (spOfL K) := by
  refine F.ok scOf (fun vs H Q E h => ?_) (fun cdv A outer s H vs Q E hr h => ?_)
  · obtain ⟨a, n, L, us, rfl, _⟩ := h
    rfl
  · obtain ⟨a, n, L, us, rfl, R, hn, oL, eL, l0, l1, k⟩ := h
    refine ⟨_, pss_one (ps_ret (pe_ix ix_list (pv 1) (pe_call GD hr rfl gD kD bD .nil pass0 (pa_cons (pv 0) (pa_cons (pe_callB call_len_seq (by rfl) mL boot_len (pa_cons (pv 1) pa_nil)) pa_nil))) (fun _ _ => rfl))), ?_⟩
    refine ⟨_, rfl, _, rfl, _, rfl, L, us, rfl, .inl (SqL.of eL), a, n, (us.length : Int), rfl, R, hn, by omega, by omega, fun r H1 r0 rl R1 b1 => ?_⟩
    obtain ⟨v, hv⟩ : ∃ v, us[r.toNat]? = some v := ⟨_, List.getElem?_eq_getElem (by omega)⟩
    exact ⟨L, us, r, v, rfl, rfl, SqL.of (b1.at oL eL), at_of (by omega) hv, k v _ H1 hv R1 b1⟩
theorem ok_nms {f fD : Addr} {fd fdD : FuncData} (F : Fun K "_law_names" "_law_names" sNms f fd) (mI : mg "int" = none) (mR : mg "range" = none)
    (GD : FnOk P w K mg base CX0 2 fD fdD ["state", "many"] spDraw) (bD : Binds K fdD ["state", "many"] []) (gD : mg "_law_draw" = some (.ref fD)) (kD : PySem.W.keepIn K (.ref fD) = true) : FnOk P w K mg base CX0 3 f fd ["state", "many"] spNms := by
  refine F.ok scNms (fun vs H Q E h => ?_) (fun cdv A outer s H vs Q E hr h => ?_)
  · obtain ⟨a, n, m, rfl, _⟩ := h
    rfl
  · obtain ⟨a, n, m, rfl, R, hn, m1, m2, k⟩ := h
    refine ⟨_, pss_cons (ps_asg (pe_tup (pa_cons pe_str (pa_cons (pe_call GD hr rfl gD kD bD .nil pass0 (pa_cons (pv 0) (pa_cons pe_int pa_nil))) pa_nil))) (pg_tup rfl (pgs_cons (pg_name (i := 2) scNms.nd rfl (Or.inr rfl)) (pgs_cons (pg_name (i := 3) scNms.nd rfl (Or.inr rfl)) pgs_nil))))
      (pss_one (ps_ret (pe_lc (own := [("k", 4)]) (g := gName 4) (tt := tYes) rfl scNms.nd (pi_range1 rfl mR (pa_cons (pv 1) pa_nil)) (blkOk_by (N := nNms) (sc := defScope sNms) (by decide +kernel))
        (fun _ _ _ _ _ => pg_name (i := 4) scNms.nd rfl (Or.inl rfl)) (fun _ _ _ _ _ => pts_nil)
        (fun _ _ _ _ _ => pe_op op_mul1 (pe_ix ix_str (pv 2) (pe_op op_mod (pe_callTy call_int1 (by rfl) mI boot_int (pa_cons (pe_op op_add (pv 3) (pe_op op_mul pe_int (pv 4))) pa_nil)) pe_int) (fun _ _ => rfl)) (pe_op op_add pe_int (pe_call GD hr rfl gD kD bD .nil pass0 (pa_cons (pv 0) (pa_cons pe_int pa_nil)))))))), ?_⟩
    have two' : 2 ≤ sizeLine := by decide
    refine ⟨_, rfl, a, n, 26, rfl, R, by omega, by decide, by decide, fun fi H1 f0 fl R1 b1 => ?_⟩
    refine ⟨two', fun q nq => ⟨q, _, rfl, SqT.of upd_same, rfl, _, _, rfl, _, _, rfl, rfl, ?_⟩⟩
    have sq := same_new (o := .tup [.str "abcdefghijklmnopqrstuvwxyz", .int fi]) nq
    have Rq := R1.same sq
    have bq := b1.trans (Same.but sq)
    generalize upd H1 q (.tup [.str "abcdefghijklmnopqrstuvwxyz", .int fi]) = H2 at sq Rq bq ⊢
    have oq : ∀ {b}, H b = none → Off a b := fun h => R.off h
    refine ⟨_, rfl, (m : Int), rfl, by omega, by omega, fun D nD => ?_⟩
    have oD := Rq.off nD
    have nDH := bq.free oD nD
    refine lc_range (lo := 0) (n := (m : Int).toNat) (fun i H3 => ∃ zs : List Str, H3 D = some (.lst (zs.map V.str)) ∧ zs.length = i ∧ (∀ j z, zs[j]? = some z → ∃ k : Nat, 1 ≤ k ∧ k ≤ 8 ∧ z = nmAt fi.toNat j k) ∧ Rnd H3 a (n + 1 + i) ∧ But a H H3)
      ⟨[], upd_same, rfl, (fun j z h => by simp at h), Rq.same (same_new nD), bq.trans (Same.but (same_new nD))⟩ ?_ ?_
    · rintro i H3 hi ⟨zs, e1, e2, e3, R3, b3⟩
      have i2 : i < 2 := by omega
      refine ⟨rfl, ?_⟩
      refine tyes ?_
      refine ⟨_, rfl, _, rfl, _, rfl, _, _, rfl, rfl, .inl ⟨by omega, by omega⟩, _, _, rfl, rfl, .inl ⟨_, rfl, _, _, rfl, rfl, (by show (0 : Int) < 26; decide), ?_⟩⟩
      have ej : (fi + 7 * (0 + (i : Int))) % 26 = (((fi.toNat + 7 * i) % 26 : Nat) : Int) := by omega
      have jl : (fi.toNat + 7 * i) % 26 < 26 := Nat.mod_lt _ (by decide)
      refine ⟨_, _, 97 + (fi.toNat + 7 * i) % 26, rfl, rfl, by decide +kernel, at_any ej (alpha_code ⟨_, jl⟩).1, ?_⟩
      refine ⟨_, rfl, a, n + 1 + i, 8, rfl, R3, by omega, by decide, by decide, fun r H4 r0 rl R4 b4 => ?_⟩
      refine ⟨_, _, rfl, rfl, 97 + (fi.toNat + 7 * i) % 26, 1 + r, rfl, rfl, by omega, by omega, ?_⟩
      have e4 := b4.at oD e1
      refine ⟨_, e4, small1000 (by rw [List.length_map]; omega), zs ++ [nmAt fi.toNat i (1 + r).toNat], ?_, by rw [List.length_append, e2]; rfl, fun j z hz => ?_, R4.upd oD, (b3.trans b4).new nDH⟩
      · rw [upd_same, List.map_append]
        rfl
      · by_cases h : j < zs.length
        · rw [List.getElem?_append_left h] at hz
          exact e3 j z hz
        · rw [List.getElem?_append_right (by omega)] at hz
          have j0 : j - zs.length = 0 := by
            by_cases q : j - zs.length = 0
            · exact q
            · rw [List.getElem?_eq_none (by simp; omega)] at hz
              cases hz
          rw [j0] at hz
          have : j = i := by omega
          subst this
          exact ⟨(1 + r).toNat, by omega, by omega, (Option.some.inj hz).symm⟩
    · rintro H3 ⟨zs, e1, e2, e3, R3, b3⟩
      have zl : zs.length = m := by omega
      refine k D zs _ H3 nDH oD e1 zl ?_ ?_ (by omega) R3 b3
      · match zs, zl, e3 with
        | [x], _, _ => simp
        | [x, y], _, e3 =>
          obtain ⟨k1, a1, a2, rfl⟩ := e3 0 x rfl
          obtain ⟨k2, b1, b2, rfl⟩ := e3 1 y rfl
          simp [nmAt_ne a1 b1]
        | [], h, _ => simp at h; omega
        | x :: y :: z :: r, h, _ => simp at h; omega
      · intro z hz
        obtain ⟨j, hj⟩ := List.getElem?_of_mem hz
        obtain ⟨k1, a1, a2, rfl⟩ := e3 j z hj
        exact ⟨nmAt_name a1 a2, nmAt_zq⟩
end
end SW

set_option Elab.async false
set_option maxRecDepth 100000
set_option maxHeartbeats 4000000
set_option linter.unusedVariables false
/-! the pieces that the law draws, their books -/
namespace BK
open PySem PySem.Spec PyProof.Rows L2
theorem GB.append {vars : List Str} {κ : Str → Str} {d : Nat} {f l : Bool} : ∀ {a b : List Tr} {m k : Nat}, GB vars κ d f l a m → GB vars κ d f l b k → GB vars κ d f l (a ++ b) (m + k)
  | _, b, _, k, .nil, h => by rw [List.nil_append, Nat.zero_add]; exact h
  | _, b, _, k, .cons (t := t) (ts := ts) (m := m) (k := j) h r, h2 => by
    rw [List.cons_append, Nat.add_assoc]
    exact .cons h (r.append h2)
theorem gb_met {vars : List Str} {κ : Str → Str} {ts : List Tr} {m : Nat} (hV : VarsG vars) (h : GB vars κ 5 true false ts m) (hm : m ≤ 16) : okD 5 ts ∧ metD 5 ts = m := by
  obtain ⟨km', e, _⟩ := gb_ok hV h [] [] 0 0 ⟨rfl, (fun _ => by simp), (fun e => nomatch e)⟩ (fun p hp => by cases hp) (by omega)
  rw [← faultD_eq] at e
  obtain ⟨h1, h2⟩ := fault_ok vars 5 ts [] ([], 0) _ rfl e
  have h2 : 0 + m = 0 + metD 5 ts := h2
  exact ⟨h1, by omega⟩
/-- k is of the kind kd, c a context, all else tokens -/
def kap (kd : Str) : Str → Str := fun s => if s = "k" then kd else if s = "c" then "context" else "token"
def failS1 : List Tr := [failS]
/-- a block of the law -/
structure Blk (own : List Str) (kd : Str) (b : List Tr) (m : Nat) : Prop where
  gb : GB own (kap kd) 5 true false b m
  pu : purTs b = true
theorem pur_append : ∀ {a b : List Tr}, purTs a = true → purTs b = true → purTs (a ++ b) = true
  | [], _, _, h => h
  | t :: r, b, h, h2 => by
    rw [List.cons_append]
    simp only [purTs, Bool.and_eq_true] at h ⊢
    exact ⟨h.1, pur_append h.2 h2⟩
theorem Blk.append {own : List Str} {kd : Str} {a b : List Tr} {m k : Nat} (h : Blk own kd a m) (g : Blk own kd b k) : Blk own kd (a ++ b) (m + k) := ⟨h.gb.append g.gb, pur_append h.pu g.pu⟩
/-- the blocks that are drawn from -/
def bitsB (x y : Str) (n : Int) : List (List Tr) :=
  [[], [yieldS], [.tup [.str "set", .str x, .int n]], [showS x], [.tup [.str "drop", .str x]], [failS],
   [.tup [.str "with", .str x, .int n, .tup [yieldS]]], [.tup [.str "set", .str x, .int 5], .tup [.str "set", .str x, .int n]],
   [.tup [.str "hold", .str "t", .str x, .int n], yieldS, .tup [.str "reset", .str "t"]], [loopS [yieldS]],
   [ifS x (.int n) [yieldS] []], [.tup [.str "set", .str x, .str y]], [.tup [.str "with", .str x, .int n, .tup []]],
   [guardS [showS x] [.tup [.str "set", .str x, .int n]]], [.tup [.str "set", .str x, .int n], yieldS],
   [.tup [.str "copy", .str "c"], .tup [.str "within", .str "c", .tup [.tup [.str "set", .str x, .int n]]]],
   [guardS [failS] [yieldS]]]
section
variable {own : List Str} {kd : Str} {x y : Str} {n : Int}
theorem bits_ok (hx : x ∈ own) (hy : y ∈ own) (h0 : 0 ≤ n) (h1 : n ≤ 99) : ∀ b ∈ bitsB x y n, ∃ m, m ≤ 3 ∧ Blk own kd b m := by
  have sn : SrcG own (.int n) := .inl ⟨n, rfl, h0, h1⟩
  have s5 : SrcG own (.int 5) := .inl ⟨5, rfl, by decide, by decide⟩
  have sy : SrcG own (.str y) := .inr ⟨y, rfl, hy⟩
  have one : ∀ {f l : Bool} {d : Nat} {t : Tr}, GLeaf own (kap kd) f l t → GB own (kap kd) (d + 1) f l [t] 1 := fun h => .cons (.leaf h) .nil
  have cons : ∀ {f l : Bool} {d : Nat} {t : Tr} {ts : List Tr} {k : Nat}, GLeaf own (kap kd) f l t → GB own (kap kd) (d + 1) f l ts k → GB own (kap kd) (d + 1) f l (t :: ts) (1 + k) := fun h r => .cons (.leaf h) r
  have yl : yieldT [yieldS] = true := yield_yes
  have kt : kap kd "t" = "token" := by unfold kap; rw [if_neg (by decide), if_neg (by decide)]
  have kc : kap kd "c" = "context" := by unfold kap; rw [if_neg (by decide), if_pos rfl]
  have nt : nameS "t" = true := by decide +kernel
  have nc : nameS "c" = true := by decide +kernel
  intro b hb
  simp only [bitsB, List.mem_cons, List.not_mem_nil, or_false] at hb
  rcases hb with rfl | rfl | rfl | rfl | rfl | rfl | rfl | rfl | rfl | rfl | rfl | rfl | rfl | rfl | rfl | rfl | rfl
  · exact ⟨0, by omega, .nil, rfl⟩
  · exact ⟨1, by omega, one .yield, rfl⟩
  · exact ⟨1, by omega, one (.set hx sn), rfl⟩
  · exact ⟨1, by omega, one (.show_ hx), rfl⟩
  · exact ⟨1, by omega, one (.drop hx), rfl⟩
  · exact ⟨1, by omega, one .fail, rfl⟩
  · exact ⟨2, by omega, .cons (.with_ hx sn (one .yield)) .nil, rfl⟩
  · exact ⟨2, by omega, cons (.set hx s5) (one (.set hx sn)), rfl⟩
  · exact ⟨3, by omega, cons (.hold nt kt hx sn) (cons .yield (one (.reset nt kt))), rfl⟩
  · exact ⟨2, by omega, .cons (.loop (one .yield) yl) .nil, rfl⟩
  · exact ⟨2, by omega, .cons (.if_ hx h0 h1 (one .yield) .nil) .nil, rfl⟩
  · exact ⟨1, by omega, one (.set hx sy), rfl⟩
  · exact ⟨1, by omega, .cons (.with_ hx sn .nil) .nil, rfl⟩
  · exact ⟨3, by omega, .cons (.guard (one (.show_ hx)) (one (.set hx sn))) .nil, rfl⟩
  · exact ⟨2, by omega, cons (.set hx sn) (one .yield), rfl⟩
  · exact ⟨3, by omega, cons (.copy nc kc) (.cons (.within nc kc (one (.set hx sn))) .nil), rfl⟩
  · exact ⟨3, by omega, .cons (.guard (one .fail) (one .yield)) .nil, rfl⟩
theorem bits_few (hx : x ∈ own) (h0 : 0 ≤ n) (h1 : n ≤ 99) : ∀ b ∈ (bitsB x y n).take 6, ∃ m, m ≤ 1 ∧ Blk own kd b m := by
  have sn : SrcG own (.int n) := .inl ⟨n, rfl, h0, h1⟩
  have one : ∀ {f l : Bool} {d : Nat} {t : Tr}, GLeaf own (kap kd) f l t → GB own (kap kd) (d + 1) f l [t] 1 := fun h => .cons (.leaf h) .nil
  intro b hb
  have e : (bitsB x y n).take 6 = [[], [yieldS], [.tup [.str "set", .str x, .int n]], [showS x], [.tup [.str "drop", .str x]], [failS]] := rfl
  rw [e] at hb
  simp only [List.mem_cons, List.not_mem_nil, or_false] at hb
  rcases hb with rfl | rfl | rfl | rfl | rfl | rfl
  · exact ⟨0, by omega, .nil, rfl⟩
  · exact ⟨1, by omega, one .yield, rfl⟩
  · exact ⟨1, by omega, one (.set hx sn), rfl⟩
  · exact ⟨1, by omega, one (.show_ hx), rfl⟩
  · exact ⟨1, by omega, one (.drop hx), rfl⟩
  · exact ⟨1, by omega, one .fail, rfl⟩
theorem tail_within (hx : x ∈ own) : Blk own "context" [.tup [.str "within", .str "k", .tup [showS x]]] 2 := by
  have kk' : kap "context" "k" = "context" := by unfold kap; rw [if_pos rfl]
  exact ⟨.cons (.within (by decide +kernel) kk' (.cons (.leaf (.show_ hx)) .nil)) .nil, rfl⟩
theorem tail_reset : Blk own "token" [.tup [.str "reset", .str "k"]] 1 := by
  have kk' : kap "token" "k" = "token" := by unfold kap; rw [if_pos rfl]
  exact ⟨.cons (.leaf (.reset (by decide +kernel) kk')) .nil, rfl⟩
theorem tail_fail : Blk own kd [failS] 1 := ⟨.cons (.leaf .fail) .nil, rfl⟩
end
/-- a piece that the law draws, m statements -/
structure LawP (own : List Str) (name : Str) (p : Tr) (most : Nat) : Prop where
  ex : ∃ (prm : Tr) (blk : List Tr) (kd : Str) (m : Nat), p = .tup [.str name, prm, .tup blk] ∧ (prm = .tup [] ∨ prm = .tup [.tup [.str "k", .str kd]]) ∧ (kd = "context" ∨ kd = "token") ∧ Blk own kd blk m ∧ m ≤ most
theorem LawP.word {own : List Str} {name : Str} {p : Tr} {k : Nat} (h : LawP own name p k) : wordS p = name := by
  obtain ⟨prm, blk, kd, m, rfl, _⟩ := h.ex
  rfl
theorem LawP.small {own : List Str} {name : Str} {p : Tr} {k : Nat} (hV : VarsG own) (hn : nameS name = true) (h : LawP own name p k) (hk : k ≤ 8) : SmallP p ∧ purT p = true ∧ (faultD own 5 (blockOf p) [] (kindsP (paramsOf p), 0)).1 = none := by
  obtain ⟨prm, blk, kd, m, rfl, hp, hd, hb, hm⟩ := h.ex
  obtain ⟨o1, o2⟩ := gb_met hV hb.gb (by omega)
  have e3 : paramsT prm = true ∧ purT prm = true ∧ KmOk (kap kd) (kindsP prm) := by
    rcases hp with rfl | rfl
    · exact ⟨by decide +kernel, rfl, fun p hp => by cases hp⟩
    · refine ⟨?_, rfl, fun p hp => ?_⟩
      · rcases hd with rfl | rfl <;> decide +kernel
      · have : p = (("k" : Str), kd) := by simpa [kindsP, pairKm] using hp
        rw [this]
        show kd = kap kd "k"
        unfold kap
        rw [if_pos rfl]
  have e4 : tripleT (.tup [.str name, prm, .tup blk]) = true := by
    show (nameT (.str name) && paramsT prm && isTup (.tup blk)) = true
    have : nameT (.str name) = true := hn
    rw [this, e3.1]
    rfl
  refine ⟨⟨e4, o1, ?_⟩, ?_, blk_ok hV hb.gb e3.2.2 (by omega)⟩
  · show metD 5 blk ≤ 8
    omega
  · show (true && (purT prm && (purTs blk && true))) = true
    rw [e3.2.1, hb.pu]
    rfl
theorem pieces_none {own : List Str} : ∀ (ps : List Tr) (i : Nat) (ns : List Str), (∀ p ∈ ps, SmallP p ∧ (faultD own 5 (blockOf p) [] (kindsP (paramsOf p), 0)).1 = none) → (ns ++ ps.map wordS).Nodup → piecesL own ps i ns = none
  | [], _, _, _, _ => rfl
  | t :: r, i, ns, h, nd => by
    obtain ⟨⟨h1, _⟩, h2⟩ := h t List.mem_cons_self
    have hn : wordS t ∉ ns := by
      rw [List.map_cons, List.nodup_append] at nd
      exact fun q => nd.2.2 _ q _ List.mem_cons_self rfl
    show (if tripleT t = true ∧ wordS t ∉ ns then _ else _) = none
    rw [if_pos ⟨h1, hn⟩, h2]
    refine pieces_none r (i + 1) (ns ++ [wordS t]) (fun p hp => h p (List.mem_cons_of_mem _ hp)) ?_
    rw [List.append_assoc]
    exact nd
theorem names_texts' : ∀ ns : List Str, texts (ns.map Tr.str) = ns
  | [] => rfl
  | n :: r => by
    have ih := names_texts' r
    show (n :: texts (r.map Tr.str)) = n :: r
    rw [ih]
/-- the variables of the law -/
structure OwnG (own : List Str) : Prop where
  nm : ∀ z ∈ own, nameS z = true
  nd : own.Nodup
  l1 : 1 ≤ own.length
  l2 : own.length ≤ 2
theorem OwnG.vars {own : List Str} (h : OwnG own) : VarsG own := ⟨h.nm⟩
theorem book_ok {own : List Str} {ps : List Tr} (h : OwnG own) (hp : ∀ p ∈ ps, ∃ z, nameS z = true ∧ LawP own z p 8) (hl : ps.length ≤ 6) (nd : (ps.map wordS).Nodup) : BkR (own.map Tr.str) ps := by
  have sm : ∀ p ∈ ps, SmallP p ∧ purT p = true ∧ (faultD own 5 (blockOf p) [] (kindsP (paramsOf p), 0)).1 = none := fun p hq => by
    obtain ⟨z, hz, hL⟩ := hp p hq
    exact hL.small h.vars hz (by omega)
  refine ⟨?_, by rw [List.length_map]; exact h.l2, fun p hq => (sm p hq).1, fun p hq => (sm p hq).2.1, nd⟩
  show (if 6 < ps.length then _ else if 1 ≤ (own.map Tr.str).length ∧ (own.map Tr.str).length ≤ 3 ∧ diffT (own.map Tr.str) = true then _ else _) = none
  have e1 : diffT (own.map Tr.str) = true := by
    unfold diffT
    rw [Bool.and_eq_true, names_texts', List.all_eq_true]
    refine ⟨fun t ht => ?_, decide_eq_true h.nd⟩
    obtain ⟨z, hz, rfl⟩ := List.mem_map.mp ht
    exact h.nm z hz
  have l1 := h.l1
  have l2 := h.l2
  rw [if_neg (by omega), if_pos ⟨by rw [List.length_map]; omega, by rw [List.length_map]; omega, e1⟩, names_texts']
  exact pieces_none ps 0 [] (fun p hq => ⟨(sm p hq).1, (sm p hq).2.2⟩) (by simpa using nd)
end BK

set_option Elab.async false
set_option maxRecDepth 100000
set_option maxHeartbeats 4000000
set_option linter.unusedVariables false
/-! _law_bits -/
namespace BK
open PySem PySem.Spec PyProof.Rows L2 SW RZ ET
abbrev sBits : Stmt := top 57
abbrev nBits : List Str := ["x", "y", "n", "some"]
theorem scBits : FnScope nBits ["x", "y", "n"] (defScope sBits) := ⟨rfl, rfl, rfl, by decide +kernel, rfl, by decide +kernel, by decide +kernel⟩
def bitsT (x y : Str) (n : Int) : List Tr := (bitsB x y n).map Tr.tup
def spBits (K : PySem.W.Frag) : Sp := fun vs H Q _ => ∃ (x y : Str) (n : Int), vs = [.str x, .str y, .int n] ∧ x.length ≤ sizeLine ∧ y.length ≤ sizeLine ∧ ∀ p us H', Same H H' → H p = none → H' p = some (.lst us) → TrAll K H' us (bitsT x y n) → Q (.ref p) H'
abbrev LBits (x y : Str) (n : Int) : List (Nat × Tr) := [(0, .str x), (1, .str y), (2, .int n)]
/-- a list of trees -/
def LstAt (K : PySem.W.Frag) (H : Hp) (D : Addr) (ts : List Tr) : Prop := ∃ vs, H D = some (.lst vs) ∧ TrAll K H vs ts
theorem LstAt.same {K : PySem.W.Frag} {H H' : Hp} {D : Addr} {ts : List Tr} (h : LstAt K H D ts) (e : Same H H') : LstAt K H' D ts := by
  obtain ⟨vs, h1, h2⟩ := h
  exact ⟨vs, e _ _ h1, h2.same e⟩
theorem cat_lst {K : PySem.W.Frag} {H : Hp} {p q : Addr} {ts us : List Tr} (h1 : LstAt K H p ts) (h2 : LstAt K H q us) (hl : ts.length + us.length ≤ 900) {Q : VK} (k : ∀ r H', Same H H' → H r = none → LstAt K H' r (ts ++ us) → Q (.ref r) H') : rCat (.ref p) (.ref q) H Q := by
  obtain ⟨vs, a1, a2⟩ := h1
  obtain ⟨ws, b1, b2⟩ := h2
  have l1 := a2.len
  have l2 := b2.len
  refine ⟨p, q, vs, ws, rfl, rfl, a1, b1, by rw [sizeLine_eq]; omega, fun r nr => ?_⟩
  have s := same_new (o := .lst (vs ++ ws)) nr
  exact k r _ s nr ⟨vs ++ ws, upd_same, (a2.app b2).same s⟩
section
variable {P : Program} {w : World} {K : PySem.W.Frag} {mg : Str → Option Value} {base : Heap}
theorem ok_bits {f : Addr} {fd : FuncData} (F : Fun K "_law_bits" "_law_bits" sBits f fd) : FnOk P w K mg base CX0 1 f fd ["x", "y", "n"] (spBits K) := by
  refine F.ok scBits (fun vs H Q E h => ?_) (fun cdv A outer s H vs Q E hr h => ?_)
  · obtain ⟨x, y, n, rfl, _⟩ := h
    rfl
  · obtain ⟨x, y, n, rfl, hx, hy, k⟩ := h
    have d0 : ELi (cxOf CX0 P w K mg base nBits "_law_bits" (defScope sBits) f cdv A outer s H E).nox (LBits x y n) (valueOf (stAt sBits 0)) _ :=
      el_disp (ea_cons (et_tup ea_nil) (ea_cons (et_tup (ea_cons (et_tup (ea_cons et_str ea_nil)) ea_nil)) (ea_cons (et_tup (ea_cons (et_tup (ea_cons et_str (ea_cons (et_var (pv 0) (.head _)) (ea_cons (et_var (pv 2) (.tail _ (.tail _ (.head _)))) ea_nil)))) ea_nil)) (ea_cons (et_tup (ea_cons (et_tup (ea_cons et_str (ea_cons (et_var (pv 0) (.head _)) ea_nil))) ea_nil)) (ea_cons (et_tup (ea_cons (et_tup (ea_cons et_str (ea_cons (et_var (pv 0) (.head _)) ea_nil))) ea_nil)) (ea_cons (et_tup (ea_cons (et_tup (ea_cons et_str ea_nil)) ea_nil)) ea_nil))))))
    obtain ⟨te0, p0, r0⟩ := d0
    have d1 : ELi (cxOf CX0 P w K mg base nBits "_law_bits" (defScope sBits) f cdv A outer s H E).nox (LBits x y n) (rightOf (valueOf (stAt sBits 1))) _ :=
      el_disp (ea_cons (et_tup (ea_cons (et_tup (ea_cons et_str (ea_cons (et_var (pv 0) (.head _)) (ea_cons (et_var (pv 2) (.tail _ (.tail _ (.head _)))) (ea_cons (et_tup (ea_cons (et_tup (ea_cons et_str ea_nil)) ea_nil)) ea_nil))))) ea_nil)) (ea_cons (et_tup (ea_cons (et_tup (ea_cons et_str (ea_cons (et_var (pv 0) (.head _)) (ea_cons et_int ea_nil)))) (ea_cons (et_tup (ea_cons et_str (ea_cons (et_var (pv 0) (.head _)) (ea_cons (et_var (pv 2) (.tail _ (.tail _ (.head _)))) ea_nil)))) ea_nil))) ea_nil))
    obtain ⟨te1, p1, r1⟩ := d1
    have d2 : ELi (cxOf CX0 P w K mg base nBits "_law_bits" (defScope sBits) f cdv A outer s H E).nox (LBits x y n) (rightOf (valueOf (stAt sBits 2))) _ :=
      el_disp (ea_cons (et_tup (ea_cons (et_tup (ea_cons et_str (ea_cons et_str (ea_cons (et_var (pv 0) (.head _)) (ea_cons (et_var (pv 2) (.tail _ (.tail _ (.head _)))) ea_nil))))) (ea_cons (et_tup (ea_cons et_str ea_nil)) (ea_cons (et_tup (ea_cons et_str (ea_cons et_str ea_nil))) ea_nil)))) (ea_cons (et_tup (ea_cons (et_tup (ea_cons et_str (ea_cons (et_tup (ea_cons (et_tup (ea_cons et_str ea_nil)) ea_nil)) ea_nil))) ea_nil)) ea_nil))
    obtain ⟨te2, p2, r2⟩ := d2
    have d3 : ELi (cxOf CX0 P w K mg base nBits "_law_bits" (defScope sBits) f cdv A outer s H E).nox (LBits x y n) (rightOf (valueOf (stAt sBits 3))) _ :=
      el_disp (ea_cons (et_tup (ea_cons (et_tup (ea_cons et_str (ea_cons (et_var (pv 0) (.head _)) (ea_cons (et_var (pv 2) (.tail _ (.tail _ (.head _)))) (ea_cons (et_tup (ea_cons (et_tup (ea_cons et_str ea_nil)) ea_nil)) (ea_cons (et_tup ea_nil) ea_nil)))))) ea_nil)) (ea_cons (et_tup (ea_cons (et_tup (ea_cons et_str (ea_cons (et_var (pv 0) (.head _)) (ea_cons (et_var (pv 1) (.tail _ (.head _))) ea_nil)))) ea_nil)) (ea_cons (et_tup (ea_cons (et_tup (ea_cons et_str (ea_cons (et_var (pv 0) (.head _)) (ea_cons (et_var (pv 2) (.tail _ (.tail _ (.head _)))) (ea_cons (et_tup ea_nil) ea_nil))))) ea_nil)) ea_nil)))
    obtain ⟨te3, p3, r3⟩ := d3
    have d4 : ELi (cxOf CX0 P w K mg base nBits "_law_bits" (defScope sBits) f cdv A outer s H E).nox (LBits x y n) (rightOf (valueOf (stAt sBits 4))) _ :=
      el_disp (ea_cons (et_tup (ea_cons (et_tup (ea_cons et_str (ea_cons (et_tup (ea_cons (et_tup (ea_cons et_str (ea_cons (et_var (pv 0) (.head _)) ea_nil))) ea_nil)) (ea_cons (et_tup (ea_cons (et_tup (ea_cons et_str (ea_cons (et_var (pv 0) (.head _)) (ea_cons (et_var (pv 2) (.tail _ (.tail _ (.head _)))) ea_nil)))) ea_nil)) ea_nil)))) ea_nil)) (ea_cons (et_tup (ea_cons (et_tup (ea_cons et_str (ea_cons (et_var (pv 0) (.head _)) (ea_cons (et_var (pv 2) (.tail _ (.tail _ (.head _)))) ea_nil)))) (ea_cons (et_tup (ea_cons et_str ea_nil)) ea_nil))) ea_nil))
    obtain ⟨te4, p4, r4⟩ := d4
    have d5 : ELi (cxOf CX0 P w K mg base nBits "_law_bits" (defScope sBits) f cdv A outer s H E).nox (LBits x y n) (rightOf (valueOf (stAt sBits 5))) _ :=
      el_disp (ea_cons (et_tup (ea_cons (et_tup (ea_cons et_str (ea_cons et_str ea_nil))) (ea_cons (et_tup (ea_cons et_str (ea_cons et_str (ea_cons (et_tup (ea_cons (et_tup (ea_cons et_str (ea_cons (et_var (pv 0) (.head _)) (ea_cons (et_var (pv 2) (.tail _ (.tail _ (.head _)))) ea_nil)))) ea_nil)) ea_nil)))) ea_nil))) ea_nil)
    obtain ⟨te5, p5, r5⟩ := d5
    have d6 : ELi (cxOf CX0 P w K mg base nBits "_law_bits" (defScope sBits) f cdv A outer s H E).nox (LBits x y n) (rightOf (valueOf (stAt sBits 6))) _ :=
      el_disp (ea_cons (et_tup (ea_cons (et_tup (ea_cons et_str (ea_cons (et_tup (ea_cons (et_tup (ea_cons et_str ea_nil)) ea_nil)) (ea_cons (et_tup (ea_cons (et_tup (ea_cons et_str ea_nil)) ea_nil)) ea_nil)))) ea_nil)) ea_nil)
    obtain ⟨te6, p6, r6⟩ := d6
    refine ⟨_, (C8.pss_cut (ps_set (i := 3) scBits.nd rfl (Or.inl rfl) p0)
      (C8.pss_cut (ps_set (i := 3) scBits.nd rfl (Or.inl rfl) (pe_op op_cat (pv 3) p1))
      (C8.pss_cut (ps_set (i := 3) scBits.nd rfl (Or.inl rfl) (pe_op op_cat (pv 3) p2))
      (C8.pss_cut (ps_set (i := 3) scBits.nd rfl (Or.inl rfl) (pe_op op_cat (pv 3) p3))
      (C8.pss_cut (ps_set (i := 3) scBits.nd rfl (Or.inl rfl) (pe_op op_cat (pv 3) p4))
      (C8.pss_cut (ps_set (i := 3) scBits.nd rfl (Or.inl rfl) (pe_op op_cat (pv 3) p5))
      (pss_one (ps_ret (pe_op op_cat (pv 3) p6))))))))), ?_⟩
    have g : ∀ {H' : Hp} {v : Option V}, Gt K (LBits x y n) [some (.str x), some (.str y), some (.int n), v] H' := fun {H' v} p hp => by
      simp only [LBits, List.mem_cons, List.not_mem_nil, or_false] at hp
      rcases hp with rfl | rfl | rfl
      · exact ⟨_, rfl, .str x hx⟩
      · exact ⟨_, rfl, .str y hy⟩
      · exact ⟨_, rfl, .int n⟩
    have bl : (bitsT x y n).length = 17 := rfl
    refine ⟨fun σ H1 => ∃ D : Addr, σ = [some (.str x), some (.str y), some (.int n), some (.ref D)] ∧ Same H H1 ∧ H D = none ∧ LstAt K H1 D ((bitsT x y n).take 6), ?_, ?_⟩
    · exact r0 _ H _ g fun D vs H1 s1 nD eD tD => ⟨D, rfl, s1, nD, vs, eD, tD⟩
    rintro σ H1 ⟨D, rfl, s1, nD, L1⟩
    refine ⟨fun σ H1 => ∃ D : Addr, σ = [some (.str x), some (.str y), some (.int n), some (.ref D)] ∧ Same H H1 ∧ H D = none ∧ LstAt K H1 D ((bitsT x y n).take 8), ?_, ?_⟩
    · refine ⟨_, rfl, r1 _ H1 _ g fun q vs H2 s2 nq eq tq => ?_⟩
      exact cat_lst (L1.same s2) ⟨vs, eq, tq⟩ (Nat.le_of_ble_eq_true rfl) fun r H3 s3 nr L3 => ⟨r, rfl, (s1.trans s2).trans s3, (s1.trans s2).free nr, L3⟩
    clear s1 L1 nD
    rintro σ H1 ⟨D, rfl, s1, nD, L1⟩
    refine ⟨fun σ H1 => ∃ D : Addr, σ = [some (.str x), some (.str y), some (.int n), some (.ref D)] ∧ Same H H1 ∧ H D = none ∧ LstAt K H1 D ((bitsT x y n).take 10), ?_, ?_⟩
    · refine ⟨_, rfl, r2 _ H1 _ g fun q vs H2 s2 nq eq tq => ?_⟩
      exact cat_lst (L1.same s2) ⟨vs, eq, tq⟩ (Nat.le_of_ble_eq_true rfl) fun r H3 s3 nr L3 => ⟨r, rfl, (s1.trans s2).trans s3, (s1.trans s2).free nr, L3⟩
    clear s1 L1 nD
    rintro σ H1 ⟨D, rfl, s1, nD, L1⟩
    refine ⟨fun σ H1 => ∃ D : Addr, σ = [some (.str x), some (.str y), some (.int n), some (.ref D)] ∧ Same H H1 ∧ H D = none ∧ LstAt K H1 D ((bitsT x y n).take 13), ?_, ?_⟩
    · refine ⟨_, rfl, r3 _ H1 _ g fun q vs H2 s2 nq eq tq => ?_⟩
      exact cat_lst (L1.same s2) ⟨vs, eq, tq⟩ (Nat.le_of_ble_eq_true rfl) fun r H3 s3 nr L3 => ⟨r, rfl, (s1.trans s2).trans s3, (s1.trans s2).free nr, L3⟩
    clear s1 L1 nD
    rintro σ H1 ⟨D, rfl, s1, nD, L1⟩
    refine ⟨fun σ H1 => ∃ D : Addr, σ = [some (.str x), some (.str y), some (.int n), some (.ref D)] ∧ Same H H1 ∧ H D = none ∧ LstAt K H1 D ((bitsT x y n).take 15), ?_, ?_⟩
    · refine ⟨_, rfl, r4 _ H1 _ g fun q vs H2 s2 nq eq tq => ?_⟩
      exact cat_lst (L1.same s2) ⟨vs, eq, tq⟩ (Nat.le_of_ble_eq_true rfl) fun r H3 s3 nr L3 => ⟨r, rfl, (s1.trans s2).trans s3, (s1.trans s2).free nr, L3⟩
    clear s1 L1 nD
    rintro σ H1 ⟨D, rfl, s1, nD, L1⟩
    refine ⟨fun σ H1 => ∃ D : Addr, σ = [some (.str x), some (.str y), some (.int n), some (.ref D)] ∧ Same H H1 ∧ H D = none ∧ LstAt K H1 D ((bitsT x y n).take 16), ?_, ?_⟩
    · refine ⟨_, rfl, r5 _ H1 _ g fun q vs H2 s2 nq eq tq => ?_⟩
      exact cat_lst (L1.same s2) ⟨vs, eq, tq⟩ (Nat.le_of_ble_eq_true rfl) fun r H3 s3 nr L3 => ⟨r, rfl, (s1.trans s2).trans s3, (s1.trans s2).free nr, L3⟩
    clear s1 L1 nD
    rintro σ H1 ⟨D, rfl, s1, nD, L1⟩
    refine ⟨_, rfl, r6 _ H1 _ g fun q vs H2 s2 nq eq tq => ?_⟩
    refine cat_lst (L1.same s2) ⟨vs, eq, tq⟩ (Nat.le_of_ble_eq_true rfl) fun r H3 s3 nr L3 => ?_
    obtain ⟨us, e3, t3⟩ := L3
    exact k r us H3 ((s1.trans s2).trans s3) ((s1.trans s2).free nr) e3 t3
end
end BK

set_option Elab.async false
set_option maxRecDepth 100000
set_option maxHeartbeats 4000000
set_option linter.unusedVariables false
/-! _law_piece, _law_put -/
namespace BK
open PySem PySem.Spec PyProof.Rows L2 SW RZ ET
abbrev sPc : Stmt := top 58
abbrev nPc : List Str := ["state", "own", "name", "some", "block", "way"]
theorem scPc : FnScope nPc ["state", "own", "name"] (defScope sPc) := ⟨rfl, rfl, rfl, by decide +kernel, rfl, by decide +kernel, by decide +kernel⟩
def spPc (K : PySem.W.Frag) : Sp := fun vs H Q _ => ∃ (a : RA) (n : Nat) (oa : Addr) (own : List Str) (name : Str), vs = [.ref a.s, .ref oa, .str name] ∧ Rnd H a n ∧ n + 200 ≤ 1000000 ∧ SqT K H oa (own.map V.str) ∧ OwnG own ∧ nameS name = true ∧
  ∀ v p n' H', LawP own name p 6 → n' ≤ n + 10 → Rnd H' a n' → But a H H' → TrAt K H' v p → Q v H'
theorem name_line {z : Str} (h : nameS z = true) : z.length ≤ sizeLine := by
  have := name_short h
  rw [sizeLine_eq]
  omega
theorem own_ends {own : List Str} (h : OwnG own) : ∃ x y, own[0]? = some x ∧ x ∈ own ∧ y ∈ own ∧ atI (own.map V.str) (0 : Int) = some (.str x) ∧ atI (own.map V.str) (-1 : Int) = some (.str y) := by
  match own, h with
  | [], h => exact absurd h.l1 (by simp)
  | [x], h => exact ⟨x, x, rfl, by simp, by simp, rfl, rfl⟩
  | [x, y], h => exact ⟨x, y, rfl, by simp, by simp, rfl, rfl⟩
  | x :: y :: z :: r, h => exact absurd h.l2 (by simp)
theorem LstAt.rnd {K : PySem.W.Frag} {H H' : Hp} {D : Addr} {ts : List Tr} {a : RA} {n n' : Nat} (h : LstAt K H D ts) (o : SW.Off a D) (R : Rnd H a n) (R' : Rnd H' a n') (b : But a H H') : LstAt K H' D ts := by
  obtain ⟨vs, h1, h2⟩ := h
  exact ⟨vs, b.at o h1, h2.rnd R R' b⟩
theorem TrAll.take6 {K : PySem.W.Frag} {H : Hp} : ∀ {vs : List V} {ts : List Tr} (n : Nat), TrAll K H vs ts → TrAll K H (vs.take n) (ts.take n)
  | _, _, 0, _ => by rw [List.take_zero, List.take_zero]; exact .nil
  | _, _, n + 1, .nil => .nil
  | _, _, n + 1, .cons h k => .cons h (TrAll.take6 n k)
theorem _root_.SW.Rnd.sqt {K : PySem.W.Frag} {H H' : Hp} {a : RA} {n : Nat} {q : Addr} {xs : List V} (R : Rnd H a n) (b : But a H H') (h : SqT K H q xs) : SqT K H' q xs := sqt_but R b h
section
variable {P : Program} {w : World} {K : PySem.W.Frag} {mg : Str → Option Value} {base : Heap}
theorem ok_pc {f fT fO fD : Addr} {fd fdT fdO fdD : FuncData} (F : Fun K "_law_piece" "_law_piece" sPc f fd)
    (GT : FnOk P w K mg base CX0 1 fT fdT ["x", "y", "n"] (spBits K)) (bT : Binds K fdT ["x", "y", "n"] []) (gT : mg "_law_bits" = some (.ref fT)) (kT : PySem.W.keepIn K (.ref fT) = true)
    (GO : FnOk P w K mg base CX0 3 fO fdO ["state", "some"] (spOfL K)) (bO : Binds K fdO ["state", "some"] []) (gO : mg "_law_of" = some (.ref fO)) (kO : PySem.W.keepIn K (.ref fO) = true)
    (GD : FnOk P w K mg base CX0 2 fD fdD ["state", "many"] spDraw) (bD : Binds K fdD ["state", "many"] []) (gD : mg "_law_draw" = some (.ref fD)) (kD : PySem.W.keepIn K (.ref fD) = true) : FnOk P w K mg base CX0 4 f fd ["state", "own", "name"] (spPc K) := by
  refine F.ok scPc (fun vs H Q E h => ?_) (fun cdv A outer s H vs Q E hr h => ?_)
  · obtain ⟨a, n, oa, own, name, rfl, _⟩ := h
    rfl
  · obtain ⟨a, n, oa, own, name, rfl, R, hn, hoa, hO, hnm, k⟩ := h
    have hr1 : Room 1 _ := hr.mono (by decide)
    have hr2 : Room 2 _ := hr.mono (by decide)
    have one' : 1 ≤ sizeLine := by decide
    have two' : 2 ≤ sizeLine := by decide
    have three' : 3 ≤ sizeLine := by decide
    refine ⟨_, C8.pss_cut (ps_set (i := 3) scPc.nd rfl (Or.inl rfl) (pe_call GT hr1 rfl gT kT bT .nil pass0 (pa_cons (pe_ix ix_tup (pv 1) pe_int (fun _ _ => rfl)) (pa_cons (pe_ix ix_tup (pv 1) (pe_un un_neg pe_int) (fun _ _ => rfl)) (pa_cons (pe_call GD hr2 rfl gD kD bD .nil pass0 (pa_cons (pv 0) (pa_cons pe_int pa_nil))) pa_nil)))))
      (C8.pss_cut (ps_par (i := 4) (j := 5) rfl scPc.nd rfl rfl (by decide) rfl rfl (pa_cons (pe_call GO hr rfl gO kO bO .nil pass0 (pa_cons (pv 0) (pa_cons (pv 3) pa_nil))) (pa_cons (pe_call GD hr2 rfl gD kD bD .nil pass0 (pa_cons (pv 0) (pa_cons pe_int pa_nil))) pa_nil)) (by rfl))
      (C8.pss_cut (ps_if (pt_cmpR op_eq (pe_call GD hr2 rfl gD kD bD .nil pass0 (pa_cons (pv 0) (pa_cons pe_int pa_nil))) pe_int (nomark _)) (pss_one (ps_set (i := 4) scPc.nd rfl (Or.inl rfl) (pe_op op_catA (pv 4) (pe_call GO hr rfl gO kO bO .nil pass0 (pa_cons (pv 0) (pa_cons (pe_slice sl_list (pv 3) po_none (po_some pe_int)) pa_nil)))))) pss_nil)
      (C8.pss_cut (ps_if (pt_cmpR op_eq (pv 5) pe_int (nomark _)) (pss_one (ps_ret (pe_tup (pa_cons (pv 2) (pa_cons (pe_tup (pa_cons (pe_tup (pa_cons pe_str (pa_cons pe_str pa_nil))) pa_nil)) (pa_cons (pe_op op_catA (pv 4) (pe_tup (pa_cons (pe_tup (pa_cons pe_str (pa_cons pe_str (pa_cons (pe_tup (pa_cons (pe_tup (pa_cons pe_str (pa_cons (pe_ix ix_tup (pv 1) pe_int (fun _ _ => rfl)) pa_nil))) pa_nil)) pa_nil)))) pa_nil))) pa_nil)))))) pss_nil)
      (pss_one (ps_ret (pe_ifExp (pt_cmpR op_eq (pv 5) pe_int (nomark _)) (pe_tup (pa_cons (pv 2) (pa_cons (pe_tup (pa_cons (pe_tup (pa_cons pe_str (pa_cons pe_str pa_nil))) pa_nil)) (pa_cons (pe_op op_catA (pv 4) (pe_tup (pa_cons (pe_tup (pa_cons pe_str (pa_cons pe_str pa_nil))) pa_nil))) pa_nil))))
        (pe_tup (pa_cons (pv 2) (pa_cons (pe_tup pa_nil) (pa_cons (pv 4) pa_nil)))))))))), ?_⟩
    obtain ⟨x, y, ex, hx, hy, a0, a1⟩ := own_ends hO
    have lx : ∀ {H' : Hp}, TrAt K H' (.str x) (.str x) := .str x (name_line (hO.nm x hx))
    have ln : ∀ {H' : Hp}, TrAt K H' (.str name) (.str name) := .str name (name_line hnm)
    -- some
    refine ⟨fun σ H1 => ∃ (m : Int) (D : Addr), σ = [some (.ref a.s), some (.ref oa), some (.str name), some (.ref D), none, none] ∧ 0 ≤ m ∧ m ≤ 99 ∧ Rnd H1 a (n + 1) ∧ But a H H1 ∧ SW.Off a D ∧ LstAt K H1 D (bitsT x y m), ?_, ?_⟩
    · refine ⟨_, rfl, oa, _, 0, _, rfl, rfl, hoa, a0, _, rfl, _, rfl, oa, _, -1, _, rfl, rfl, hoa, a1, ?_⟩
      refine ⟨_, rfl, a, n, 2, rfl, R, by omega, by decide, by decide, fun m H1 m0 ml R1 b1 => ?_⟩
      refine ⟨x, y, m, rfl, name_line (hO.nm x hx), name_line (hO.nm y hy), fun D us H2 s2 nD eD tD => ?_⟩
      exact ⟨m, D, rfl, m0, by omega, R1.same s2, b1.trans (Same.but s2), R1.off nD, us, eD, tD⟩
    rintro σ H1 ⟨m, D, rfl, m0, m9, R1, b1, oD, L1⟩
    have hoa1 := R.sqt b1 hoa
    -- block, way
    refine ⟨fun σ H2 => ∃ (v4 : V) (bl : List Tr) (wy : Int), σ = [some (.ref a.s), some (.ref oa), some (.str name), some (.ref D), some v4, some (.int wy)] ∧ bl ∈ bitsB x y m ∧ TrAt K H2 v4 (.tup bl) ∧ Rnd H2 a (n + 3) ∧ But a H1 H2, ?_, ?_⟩
    · obtain ⟨us, eD, tD⟩ := id L1
      have ul : us.length = 17 := tD.len
      refine ⟨_, rfl, _, rfl, a, n + 1, D, us, rfl, R1, by omega, oD, eD, by omega, by omega, fun v i H2 hv R2 b2 => ?_⟩
      obtain ⟨t, ht, ty⟩ := (tD.rnd R1 R2 b2).get hv
      obtain ⟨bl, hbl, rfl⟩ := List.mem_map.mp (List.mem_of_getElem? ht)
      refine ⟨_, rfl, a, n + 2, 8, rfl, R2, by omega, by decide, by decide, fun wy H3 _ _ R3 b3 => ⟨_, _, rfl, ?_⟩⟩
      exact ⟨v, bl, wy, rfl, hbl, ty.rnd R2 R3 b3, R3, b2.trans b3⟩
    rintro σ H2 ⟨v4, bl, wy, rfl, hbl, t4, R2, b2⟩
    -- more
    refine ⟨fun σ H3 => ∃ (v4 : V) (bl : List Tr) (n3 : Nat), σ = [some (.ref a.s), some (.ref oa), some (.str name), some (.ref D), some v4, some (.int wy)] ∧ (∀ kd, ∃ j, j ≤ 4 ∧ Blk own kd bl j) ∧ bl.length ≤ 20 ∧ TrAt K H3 v4 (.tup bl) ∧ n3 ≤ n + 10 ∧ Rnd H3 a n3 ∧ But a H2 H3, ?_, ?_⟩
    · have few : ∀ b ∈ bitsB x y m, b.length ≤ 3 := fun b hb => by
        simp only [bitsB, List.mem_cons, List.not_mem_nil, or_false] at hb
        rcases hb with rfl | rfl | rfl | rfl | rfl | rfl | rfl | rfl | rfl | rfl | rfl | rfl | rfl | rfl | rfl | rfl | rfl <;> simp
      refine ⟨_, rfl, a, n + 3, 3, rfl, R2, by omega, by decide, by decide, fun r H3 r0 rl R3 b3 => ?_⟩
      refine ⟨rfl, _, rfl, ?_⟩
      have t43 := t4.rnd R2 R3 b3
      refine ite2 (fun _ => ?_) (fun _ => ?_)
      · refine ⟨_, rfl, _, rfl, _, rfl, 6, rfl, ?_⟩
        have L3 := (L1.rnd oD R1 R2 b2).rnd oD R2 R3 b3
        obtain ⟨us, eD, tD⟩ := L3
        refine ⟨D, us, rfl, SqL.of eD, fun q nq => ?_⟩
        have ul : us.length = 17 := tD.len
        have ec : cutV us none (some 6) = us.take 6 := by
          have e1 : HT.sIx us.length 0 none = 0 := by simp [HT.sIx]
          have e2 : HT.sIx us.length us.length (some 6) = 6 := by rw [ul]; decide
          unfold cutV
          rw [e1, e2]
          simp
        rw [ec]
        have sq := same_new (o := .lst (us.take 6)) nq
        have R4 := R3.same sq
        have oq := R3.off nq
        have eq : (upd H3 q (.lst (us.take 6))) q = some (.lst (us.take 6)) := upd_same
        have tq : TrAll K (upd H3 q (.lst (us.take 6))) (us.take 6) ((bitsT x y m).take 6) := (TrAll.take6 6 tD).same sq
        have t44 := t43.same sq
        generalize upd H3 q (.lst (us.take 6)) = H4 at sq R4 eq tq t44 ⊢
        have u6 : (us.take 6).length = 6 := by rw [List.length_take]; omega
        refine ⟨a, n + 4, q, us.take 6, rfl, R4, by omega, oq, eq, by omega, by omega, fun v i H5 hv R5 b5 => ?_⟩
        obtain ⟨t, ht, ty⟩ := (tq.rnd R4 R5 b5).get hv
        have hmem : t ∈ ((bitsB x y m).take 6).map Tr.tup := by
          have := List.mem_of_getElem? ht
          unfold bitsT at this
          rw [← List.map_take] at this
          exact this
        obtain ⟨b6, hb6, rfl⟩ := List.mem_map.mp hmem
        have l1 := few bl hbl
        have l2 := few b6 (List.mem_of_mem_take hb6)
        refine cat_tr2 (t44.rnd R4 R5 b5) ty (by omega) (by omega) fun r2 H6 s6 t6 => ?_
        refine ⟨r2, bl ++ b6, n + 5, rfl, fun kd => ?_, by rw [List.length_append]; omega, t6, by omega, R5.same s6, (((b3.trans (Same.but sq)).trans b5).trans (Same.but s6))⟩
        obtain ⟨j1, h1, h2⟩ := bits_ok (kd := kd) hx hy m0 m9 bl hbl
        obtain ⟨j2, h3, h4⟩ := bits_few (kd := kd) (y := y) hx m0 m9 b6 hb6
        exact ⟨j1 + j2, by omega, h2.append h4⟩
      · have l1 := few bl hbl
        refine ⟨v4, bl, n + 4, rfl, fun kd => ?_, by omega, t43, by omega, R3, b3⟩
        obtain ⟨j1, h1, h2⟩ := bits_ok (kd := kd) hx hy m0 m9 bl hbl
        exact ⟨j1, by omega, h2⟩
    clear t4 hbl
    rintro σ H3 ⟨v4, bl, n3, rfl, hB, bll, t4, hn3, R3, b3⟩
    have b03 := (b1.trans b2).trans b3
    have hoa3 := R.sqt b03 hoa
    -- with a context
    refine ⟨fun σ H4 => σ = [some (.ref a.s), some (.ref oa), some (.str name), some (.ref D), some v4, some (.int wy)] ∧ H4 = H3, ?_, ?_⟩
    · refine ⟨_, rfl, rfl, _, rfl, ?_⟩
      refine ite2 (fun _ => ?_) (fun _ => ⟨rfl, rfl⟩)
      refine ⟨_, rfl, two', fun q1 n1 => ⟨one', fun q2 n2 => ⟨_, rfl, _, rfl, ?_⟩⟩⟩
      obtain ⟨s1, c1⟩ := new_tr (K := K) n1 (.cons (.str "k" (by decide)) (.cons (.str "context" (by decide)) .nil))
      generalize upd H3 q1 (.tup [.str "k", .str "context"]) = F1 at s1 c1 n2 ⊢
      obtain ⟨s2, c2⟩ := new_tr n2 (.cons c1 .nil)
      have s12 := s1.trans s2
      generalize upd F1 q2 (.tup [.ref q1]) = F2 at s2 c2 s12 ⊢
      refine ⟨oa, _, 0, _, rfl, rfl, sqt_same s12 hoa3, a0, two', fun q3 n3' => ⟨one', fun q4 n4 => ⟨three', fun q5 n5 => ⟨one', fun q6 n6 => ?_⟩⟩⟩⟩
      obtain ⟨s3, c3⟩ := new_tr (K := K) n3' (.cons (.str "show" (by decide)) (.cons lx .nil))
      generalize upd F2 q3 (.tup [.str "show", .str x]) = F3 at s3 c3 n4 n5 n6 ⊢
      obtain ⟨s4, c4⟩ := new_tr n4 (.cons c3 .nil)
      generalize upd F3 q4 (.tup [.ref q3]) = F4 at s4 c4 n5 n6 ⊢
      obtain ⟨s5, c5⟩ := new_tr (K := K) n5 (.cons (.str "within" (by decide)) (.cons (.str "k" (by decide)) (.cons c4 .nil)))
      generalize upd F4 q5 (.tup [.str "within", .str "k", .ref q4]) = F5 at s5 c5 n6 ⊢
      obtain ⟨s6, c6⟩ := new_tr n6 (.cons c5 .nil)
      have s36 := (s3.trans s4).trans (s5.trans s6)
      generalize upd F5 q6 (.tup [.ref q5]) = F6 at s6 c6 s36 ⊢
      refine cat_tr2 (t4.same (s12.trans s36)) c6 (by omega) (by simp) fun r F7 s7 t7 => ⟨three', fun q8 n8 => ?_⟩
      have c27 := c2.same (s36.trans s7)
      obtain ⟨s8, c8⟩ := new_tr n8 (.cons ln (.cons c27 (.cons t7 .nil)))
      have sA := (s12.trans s36).trans (s7.trans s8)
      obtain ⟨j, hj, hBk⟩ := hB "context"
      exact k _ _ n3 _ ⟨_, _, "context", j + 2, rfl, .inr rfl, .inl rfl, hBk.append (tail_within hx), by omega⟩ hn3 (R3.same sA) (b03.trans (Same.but sA)) c8
    rintro σ H4 ⟨rfl, rfl⟩
    refine ⟨_, rfl, rfl, _, rfl, ?_⟩
    refine ite2 (fun _ => ?_) (fun _ => ?_)
    · refine ⟨_, rfl, two', fun q1 n1 => ⟨one', fun q2 n2 => ⟨_, rfl, two', fun q5 n5 => ⟨one', fun q6 n6 => ?_⟩⟩⟩⟩
      obtain ⟨s1, c1⟩ := new_tr (K := K) n1 (.cons (.str "k" (by decide)) (.cons (.str "token" (by decide)) .nil))
      generalize upd H4 q1 (.tup [.str "k", .str "token"]) = F1 at s1 c1 n2 n5 n6 ⊢
      obtain ⟨s2, c2⟩ := new_tr n2 (.cons c1 .nil)
      have s12 := s1.trans s2
      generalize upd F1 q2 (.tup [.ref q1]) = F2 at s2 c2 s12 n5 n6 ⊢
      obtain ⟨s5, c5⟩ := new_tr (K := K) n5 (.cons (.str "reset" (by decide)) (.cons (.str "k" (by decide)) .nil))
      generalize upd F2 q5 (.tup [.str "reset", .str "k"]) = F5 at s5 c5 n6 ⊢
      obtain ⟨s6, c6⟩ := new_tr n6 (.cons c5 .nil)
      have s36 := s5.trans s6
      generalize upd F5 q6 (.tup [.ref q5]) = F6 at s6 c6 s36 ⊢
      refine cat_tr2 (t4.same (s12.trans s36)) c6 (by omega) (by simp) fun r F7 s7 t7 => ⟨three', fun q8 n8 => ?_⟩
      have c27 := c2.same (s36.trans s7)
      obtain ⟨s8, c8⟩ := new_tr n8 (.cons ln (.cons c27 (.cons t7 .nil)))
      have sA := (s12.trans s36).trans (s7.trans s8)
      obtain ⟨j, hj, hBk⟩ := hB "token"
      exact k _ _ n3 _ ⟨_, _, "token", j + 1, rfl, .inr rfl, .inr rfl, hBk.append tail_reset, by omega⟩ hn3 (R3.same sA) (b03.trans (Same.but sA)) c8
    · refine ⟨_, rfl, Nat.zero_le _, fun q1 n1 => ⟨_, rfl, three', fun q8 n8 => ?_⟩⟩
      obtain ⟨s1, c1⟩ := new_tr (K := K) n1 .nil
      generalize upd H4 q1 (.tup []) = F1 at s1 c1 n8 ⊢
      obtain ⟨s8, c8⟩ := new_tr n8 (.cons ln (.cons c1 (.cons (t4.same s1) .nil)))
      have sA := s1.trans s8
      obtain ⟨j, hj, hBk⟩ := hB "token"
      exact k _ _ n3 _ ⟨_, _, "token", j, rfl, .inl rfl, .inr rfl, hBk, by omega⟩ hn3 (R3.same sA) (b03.trans (Same.but sA)) c8
end
end BK

set_option Elab.async false
set_option maxRecDepth 100000
set_option maxHeartbeats 4000000
set_option linter.unusedVariables false
/-! x[::-1], of a list and of a tuple -/
namespace SW
open PySem PySem.Spec PyProof.Rows L2 HT
section
variable {prog : Program} {w : World} {A : Around} {E : Value → Shared → Prop} {s : Shared}
theorem applied_rev {sl : Addr} {u : Tok} {n : Nat} {Q : Int × Int × Nat → Shared → Prop} (hs : s.heap.IsSliceOf sl .none .none (.int (-1) u))
    (h : Q ((n : Int) - 1, -1, n) s) : wpAny (model prog w) A (Builtin.Slice.sliceApplied (.ref sl) (pure (n : Int))) Q E s := by
  obtain ⟨os, hos, hcs, hds⟩ := id hs
  unfold Builtin.Slice.sliceApplied Builtin.Slice.sliceFields
  refine wpAny_bind (wpAny_bind (wpAny_field hos hds (x := .none) rfl (wpAny_bind (wpAny_field hos hds (x := .none) rfl (wpAny_bind (wpAny_field hos hds (x := .int (-1) u) rfl (wpAny_pure ?_)))))))
  refine wpAny_bind (slicePart_ (.int (-1) u) ?_)
  show wpAny _ _ (if ((-1 : Int) == 0) = true then _ else _) _ _ s
  rw [if_neg (by decide)]
  refine wpAny_bind (slicePart_ .none (wpAny_bind (slicePart_ .none (wpAny_bind (wpAny_pure ?_)))))
  show wpAny _ _ (match Builtin.Slice.sliceAdjust none none (-1) (n : Int) with | (lo, hi) => pure (lo, (-1 : Int), Builtin.Slice.slicePlaces lo hi (-1))) _ _ s
  have e1 : Builtin.Slice.sliceAdjust none none (-1) (n : Int) = ((n : Int) - 1, -1) := rfl
  rw [e1]
  show wpAny _ _ (pure ((n : Int) - 1, (-1 : Int), Builtin.Slice.slicePlaces ((n : Int) - 1) (-1) (-1))) _ _ s
  have e2 : Builtin.Slice.slicePlaces ((n : Int) - 1) (-1) (-1) = n := by
    unfold Builtin.Slice.slicePlaces
    have h1 : ¬ ((-1 : Int) > 0) := by omega
    have h2 : (- (-1 : Int)) = 1 := by omega
    simp only [h1, if_false, h2, Int.ediv_one]
    split <;> omega
  rw [e2]
  exact wpAny_pure h
theorem pick_rev (xs : Array Value) : ((List.range xs.size).filterMap fun (m : Nat) => xs[((xs.size : Int) - 1 + (m : Int) * (-1)).toNat]?).toArray = xs.toList.reverse.toArray := by
  have e : (List.range xs.size).filterMap (fun (m : Nat) => xs[((xs.size : Int) - 1 + (m : Int) * (-1)).toNat]?) = ((List.range xs.size).map fun k => xs.size - 1 - k).filterMap (xs[·]?) := by
    rw [List.filterMap_map]
    have key : ∀ l : List Nat, (∀ m ∈ l, m < xs.size) → l.filterMap (fun (m : Nat) => xs[((xs.size : Int) - 1 + (m : Int) * (-1)).toNat]?) = l.filterMap ((fun x => xs[x]?) ∘ fun k => xs.size - 1 - k) := by
      intro l
      induction l with
      | nil => intro _; rfl
      | cons m r ih =>
        intro h
        have hm := h m List.mem_cons_self
        have e2 : ((xs.size : Int) - 1 + (m : Int) * (-1)).toNat = xs.size - 1 - m := by omega
        have ih := ih fun z hz => h z (List.mem_cons_of_mem _ hz)
        simp only [List.filterMap_cons, Function.comp_apply]
        rw [e2, ih]
    exact key _ fun m hm => List.mem_range.mp hm
  rw [e, PySem.W.krv_range, List.filterMap_reverse, PySem.W.krv_all]
theorem tuple_rev {t sl : Addr} {items : Array Value} {u : Tok} {Q : Value → Shared → Prop} (ht : IsTup s.heap t items) (hs : s.heap.IsSliceOf sl .none .none (.int (-1) u))
    (h : Q (.ref s.heap.objs.size) { s with heap := s.heap.push { cls := .type "tuple", data := .seq items.toList.reverse.toArray } })
    (hsz : items.size ≤ sizeLine) : wpAny (model prog w) A (getItem (.ref t) (.ref sl)) Q E s := by
  have htake : sizeOk (.seq items.toList.reverse.toArray) := by
    show items.toList.reverse.toArray.size ≤ sizeLine
    rw [List.size_toArray, List.length_reverse, Array.length_toList]
    exact hsz
  obtain ⟨os, hos, hcs, hds⟩ := id hs
  have hTs : s.TypeIs (.ref sl) "slice" := ⟨os, hos, hcs⟩
  unfold getItem
  try with_reducible refine wpAny_holding ?_
  first | refine wpAny_bind (wpAny_pure ?_) | skip
  refine wpAny_bind (wpAny_sequenceKey ht.typeIs (by decide) ?_)
  refine wpAny_bind (wpAny_callSpecial?_slot (name := Str.ofString "__getitem__") ht.typeIs PyProof.Rows.slot_tuple_getitem
    (wpAny_call_entry PyProof.Rows.slot_tuple_getitem ht.typeIs entry_tuple_getitem ?_ (args_tuple_getitem _ _)))
  show wpAny _ _ (Builtin.Tuple.tupleItemsOf (.ref t) >>= _) _ _ s
  refine wpAny_bind (tupleItemsOf_ ht ?_)
  refine wpAny_bind (wpAny_typeOf hTs ?_)
  rw [if_pos (by decide)]
  refine wpAny_bind (applied_rev hs ?_)
  have hno : ¬ ((((items.size : Int) - 1) == 0 && (-1 : Int) == 1 && items.size == items.size) = true) := by
    intro q
    rw [Bool.and_eq_true, Bool.and_eq_true] at q
    exact absurd q.1.2 (by decide)
  show wpAny _ _ (if (((items.size : Int) - 1) == 0 && (-1 : Int) == 1 && items.size == items.size) = true then _ else _) _ _ s
  rw [if_neg hno, pick_rev]
  first
    | exact wpAny_bind (m := Builtin.Tuple.tupleExact _) (wpAny_newObj_type (wpAny_pure ⟨_, rfl, wpAny_pure h⟩) htake)
    | exact wpAny_bind (m := Builtin.Tuple.tupleExact _) (wpAny_newObj_type (wpAny_bind (wpAny_pure (wpAny_pure ⟨_, rfl, wpAny_pure h⟩))) htake)
    | exact wpAny_bind (wpAny_bind (m := Builtin.Tuple.tupleExact _) (wpAny_newObj_type (wpAny_pure (wpAny_pure ⟨_, rfl, wpAny_pure h⟩)) htake))
    | exact wpAny_bind (wpAny_bind (m := Builtin.Tuple.tupleExact _) (wpAny_newObj_type (wpAny_pure ⟨_, rfl, wpAny_pure h⟩) htake))
end
end SW
namespace L2
open PySem PySem.Spec PyProof.Rows
section
variable {X : Cx} {e : Expr} {te : TE} {pos p2 p3 p4 : Pos}
/-- what x[::-1] is, by values -/
def RevR (X : Cx) (r : V → Hp → VK → Prop) : Prop :=
  ∀ (pins : List (Addr × Obj)) (s : Shared) (σ : St) (H : Hp) (x : V) (v : Value) (u : Tok) (sl : Addr) (Q : VK), Inv X pins σ H s → RelV x v → s.heap.IsSliceOf sl .none .none (.int (-1) u) → r x H Q →
    ∃ T id, typeLookup (.type T) "__getitem__" = pure (some (.builtin id)) ∧ s.TypeIs v T ∧ wpAny (model X.prog X.w) X.A (getItem v (.ref sl)) (EP X pins σ Q) X.xe s
def tRev (r : V → Hp → VK → Prop) (te ts : TE) : TE := fun σ H Q => te σ H fun x H1 => ts σ H1 fun y H2 => y = .int (-1) ∧ r x H2 Q
theorem pe_rev {r : V → Hp → VK → Prop} {st : Expr} {ts : TE} (hr : RevR X r) (he : PE X e te) (hst : PE X st ts) : PE X (.Subscript e (.Slice none none (some st) p2) pos) (tRev r te ts) := by
  refine ⟨fun pins s σ H Q I h => ?_⟩
  refine Subscript_ (thn (he.run pins s σ H _ I h) fun v s1 ⟨x, H1, I1, r1, q1⟩ => ?_)
  refine wpAny_Slice ?_
  rw [evalPart_none]
  refine wpAny_pure ?_
  refine wpAny_pure ?_
  rw [evalPart_some]
  refine thn (hst.run pins s1 σ H1 _ I1 q1) fun vu s3 ⟨y, H3, I3, ry, hy, q3⟩ => ?_
  subst hy
  obtain ⟨t, rfl⟩ := ry
  have I4 : Inv X pins σ H3 { s3 with heap := s3.heap.push { cls := .type "slice", data := .fields #[.none, .none, .int (-1) t] } } := I3.kept (t' := s3.toks) fun b ob q => Heap.get?_push_of_some _ q
  obtain ⟨T, id, hT, ht, hg⟩ := hr pins { s3 with heap := s3.heap.push { cls := .type "slice", data := .fields #[.none, .none, .int (-1) t] } } σ H3 x v t s3.heap.objs.size Q I4 r1 (Heap.IsSliceOf.new ..) q3
  show wpAny (model X.prog X.w) X.A (subscriptTail e (.Slice none none (some st) p2) v (.ref s3.heap.objs.size)) (EP X pins σ Q) X.xe { s3 with heap := s3.heap.push { cls := .type "slice", data := .fields #[.none, .none, .int (-1) t] } }
  exact tail_any (ops := [v, .ref s3.heap.objs.size]) ht hT hg (by with_unfolding_all rfl)
def rRevL (K : PySem.W.Frag) : V → Hp → VK → Prop := fun x H Q => ∃ a xs, x = .ref a ∧ SqL K H a xs ∧ ∀ p, H p = none → Q (.ref p) (upd H p (.lst xs.reverse))
def rRevT (K : PySem.W.Frag) : V → Hp → VK → Prop := fun x H Q => ∃ a xs, x = .ref a ∧ SqT K H a xs ∧ ∀ p, H p = none → Q (.ref p) (upd H p (.tup xs.reverse))
theorem rev_list : RevR X (rRevL X.K) := by
  intro pins s σ H x v u sl Q I rx hs h
  obtain ⟨a, xs, rfl, hx, q⟩ := h
  cases rx
  obtain ⟨its, r, ht, hz⟩ := I.list hx
  have hlen := r.length
  refine ⟨"list", _, slot_list_getitem.lookup, ht.isList.typeIs, ?_⟩
  refine wpAny_getItem_list_slice ht.isList hs .none .none (.int (-1) u) (by decide) ?_ (by rw [List.size_toArray] <;> omega)
  rw [PySem.W.krv_pick]
  refine ⟨.ref s.heap.objs.size, _, I.laid (t' := s.toks) (o := .lst xs.reverse) (fun b ob q => Heap.get?_push_of_some _ q) (Nat.le_refl _) ?_, rfl, q _ (I.hok.fresh (Nat.le_refl _))⟩
  exact ⟨by rw [List.length_reverse]; exact hz, _, 0, r.reverse, Heap.get?_push_size _ rfl⟩
theorem rev_tup : RevR X (rRevT X.K) := by
  intro pins s σ H x v u sl Q I rx hs h
  obtain ⟨a, xs, rfl, hx, q⟩ := h
  cases rx
  obtain ⟨its, r, ht, hz⟩ := I.tuple hx
  have hlen : its.toArray.size = xs.length := by rw [List.size_toArray]; exact r.length.symm
  refine ⟨"tuple", _, PyProof.Rows.slot_tuple_getitem.lookup, ht.typeIs, ?_⟩
  refine SW.tuple_rev ht hs ?_ (by rw [hlen]; exact hz)
  refine ⟨.ref s.heap.objs.size, _, I.laid (t' := s.toks) (o := .tup xs.reverse) (fun b ob q => Heap.get?_push_of_some _ q) (Nat.le_refl _) ?_, rfl, q _ (I.hok.fresh (Nat.le_refl _))⟩
  exact ⟨by rw [List.length_reverse]; exact hz, _, r.reverse, IsTup.new _ _⟩
end
end L2
namespace SW
open PySem PySem.Spec PyProof.Rows L2
section
variable {X : Cx} {CX : CXT} {k : Nat} {f C : Addr} {fd : FuncData} {ps : List Str} {sp : Sp} {E : XK}
/-- y not in x, its own __contains__ -/
theorem op_notin_own (hs : PySem.W.findIn X.K (.ref C) "__contains__" = some (some (.ref f))) (hf : PySem.W.isFn X.K (.ref f) = true) (F : FnOk X.prog X.w X.K X.mg X.base CX k f fd ps sp) (hr : Room k X.A) (hb : L2.Binds X.K fd ps []) (hx : Passes CX X E) :
    OpR X (compareOp .NotIn) (fun y x H Q => ∃ a dx fs, x = .ref a ∧ H a = some (.ins C dx fs) ∧ sp [x, y] H (fun v H' => ∃ c, v = .bl c ∧ Q (.bl (!c)) H') E) := by
  intro pins s σ H y x u v Q I ry rx h
  obtain ⟨a, dx, fs, rfl, ha, q⟩ := h
  obtain rfl : v = Value.ref a := rx
  obtain ⟨od, J⟩ := inst_of I ha
  obtain ⟨m, hF⟩ := I.fr
  refine PySem.W.notIn_K hF I.ok.mod.kin J hs hf (wpAny_mono (run_same (vs := [.ref a, y]) F hr hb hx I (.cons rfl (.cons ry .nil)) q) (fun r s' z => ?_) fun _ _ x => x)
  obtain ⟨v', H', I', r', c, rfl, q'⟩ := z
  obtain rfl : r = Value.bool c := r'
  exact wpAny_truthy_bool ⟨.bl (!c), H', I', rfl, q'⟩
end
end SW

set_option Elab.async false
set_option maxRecDepth 100000
set_option maxHeartbeats 4000000
set_option linter.unusedVariables false
/-! _law_put -/
namespace BK
open PySem PySem.Spec PyProof.Rows L2 SW RZ ET
abbrev sPt : Stmt := top 59
abbrev nPt : List Str := ["rows", "piece", "found", "row"]
theorem scPt : FnScope nPt ["rows", "piece"] (defScope sPt) := ⟨rfl, rfl, rfl, by decide +kernel, rfl, by decide +kernel, by decide +kernel⟩
def spPt (K : PySem.W.Frag) : Sp := fun vs H Q _ => ∃ (L : Addr) (pv : V) (ps : List Tr) (p : Tr), vs = [.ref L, pv] ∧ LstAt K H L ps ∧ TrAt K H pv p ∧ tripleT p = true ∧ (∀ q ∈ ps, tripleT q = true) ∧ ps.length ≤ 6 ∧
  ∀ (D : Addr) (H' : Hp), H D = none → Same H H' → LstAt K H' D (putP ps p) → Q (.ref D) H'
theorem inV_str {z : Str} : ∀ {ns : List Str}, inV (.str z) (ns.map V.str) = decide (z ∈ ns)
  | [] => by simp [inV]
  | n :: r => by
    have ih := inV_str (z := z) (ns := r)
    unfold inV at ih ⊢
    rw [List.map_cons, List.any_cons, ih]
    have : eqV (.str n) (.str z) = decide (n = z) := by
      show (n == z) = decide (n = z)
      by_cases e : n = z
      · rw [e]; simp
      · rw [beq_eq_false_iff_ne.mpr e, decide_eq_false e]
    rw [this]
    by_cases e : n = z
    · subst e; simp
    · have : ¬ z = n := fun q => e q.symm
      simp [e, this]
theorem all_flat (ns : List Str) : (ns.map V.str).all flatV = true := by
  rw [List.all_eq_true]
  intro v hv
  obtain ⟨n, _, rfl⟩ := List.mem_map.mp hv
  rfl
section
variable {P : Program} {w : World} {K : PySem.W.Frag} {mg : Str → Option Value} {base : Heap}
/-- a list's pieces by their first item: the reading of a turn -/
theorem first_of {H : Hp} {v : V} {t : Tr} (h : TrAt K H v t) (ht : tripleT t = true) : ∃ (n : Str) (prm : Tr) (bts : List Tr) (c : Addr) (y2 y3 : V), t = .tup [.str n, prm, .tup bts] ∧ v = .ref c ∧ SqT K H c [.str n, y2, y3] ∧ n.length ≤ sizeLine ∧ TrAt K H y2 prm ∧ TrAt K H y3 (.tup bts) := by
  obtain ⟨n, prm, bts, rfl, _⟩ := triple_shape ht
  obtain ⟨c, y1, y2, y3, rfl, hc, t1, t2, t3⟩ := three_tr h
  cases t1 with
  | str _ hn => exact ⟨n, prm, bts, c, y2, y3, rfl, rfl, hc, hn, t2, t3⟩
theorem ok_pt {f : Addr} {fd : FuncData} (F : Fun K "_law_put" "_law_put" sPt f fd) : FnOk P w K mg base CX0 1 f fd ["rows", "piece"] (spPt K) := by
  refine F.ok scPt (fun vs H Q E h => ?_) (fun cdv A outer s H vs Q E hr h => ?_)
  · obtain ⟨L, pv, ps, p, rfl, _⟩ := h
    rfl
  · obtain ⟨L, pv', ps, p, rfl, ⟨vs, eL, tL⟩, tp, ptr, pst, pl, k⟩ := h
    refine ⟨_, C8.pss_cut (ps_setLc (i := 2) (own := [("row", 3)]) (g := gName 3) (tt := tYes) rfl scPt.nd rfl rfl (sw_true rfl rfl rfl rfl) (pi_list (pv 0)) (blkOk_by (N := nPt) (sc := defScope sPt) (by decide +kernel))
          (fun _ _ _ _ _ => pg_name (i := 3) scPt.nd rfl (Or.inl rfl)) (fun _ _ _ _ _ => pts_nil)
          (fun _ _ _ _ _ => pe_ifExp (pt_cmpR op_eq (pe_ix (r := rIxT K) (by exact ix_tup) (pv 3) pe_int (fun _ _ => rfl)) (pe_ix (r := rIxT K) (by exact ix_tup) (pv 1) pe_int (fun _ _ => rfl)) (nomark _)) (pv 1) (pv 3)))
      (pss_one (ps_ret (pe_ifExp (pt_cmpR op_in_seq (pe_ix (r := rIxT K) (by exact ix_tup) (pv 1) pe_int (fun _ _ => rfl))
          (pe_lc (own := [("row", 3)]) (g := gName 3) (tt := tYes) rfl scPt.nd (pi_list (pv 0)) (blkOk_by (N := nPt) (sc := defScope sPt) (by decide +kernel))
            (fun _ _ _ _ _ => pg_name (i := 3) scPt.nd rfl (Or.inl rfl)) (fun _ _ _ _ _ => pts_nil) (fun _ _ _ _ _ => pe_ix (r := rIxT K) (by exact ix_tup) (pv 3) pe_int (fun _ _ => rfl))) rfl) (pv 2) (pe_op op_cat (pv 2) (pe_lst (pa_cons (pv 1) pa_nil)))))), ?_⟩
    obtain ⟨n, prm, bts, c, y2, y3, rfl, rfl, hc, hn, _, _⟩ := first_of tp ptr
    have vl := tL.len
    refine ⟨fun σ H1 => ∃ (D : Addr) (us : List V), σ = [some (.ref L), some (.ref c), some (.ref D), none] ∧ Same H H1 ∧ H D = none ∧ H1 D = some (.lst us) ∧ TrAll K H1 us (ps.map fun o => if wordS o = n then .tup [.str n, prm, .tup bts] else o), ?_, ?_⟩
    · refine ⟨_, rfl, L, rfl, ⟨_, SqL.of eL⟩, fun D nD => ?_⟩
      refine lc_it (walk_list (K := K) (a := L) (xs := vs)) (fun i H2 => Same H H2 ∧ ∃ us, H2 D = some (.lst us) ∧ TrAll K H2 us ((ps.take i).map fun o => if wordS o = n then .tup [.str n, prm, .tup bts] else o)) ⟨same_new nD, [], upd_same, .nil⟩ (fun i H2 _ ⟨s2, _⟩ => SqL.of (s2 _ _ eL)) ?_ ?_
      · rintro i y Hx H2 hi ⟨s2, us, e2, t2⟩ ⟨rfl, hy⟩
        obtain ⟨t, ht, ty⟩ := (tL.same s2).get hy
        have il : i < ps.length := (List.getElem?_eq_some_iff.mp ht).1
        have et : ps.take (i + 1) = ps.take i ++ [t] := by rw [List.take_add_one, ht]; rfl
        obtain ⟨m, prm2, bts2, c2, z2, z3, rfl, rfl, hc2, hm, _, _⟩ := first_of ty (pst t (List.mem_of_getElem? ht))
        have ul := t2.len
        have fin : ∀ {x : V} {o : Tr}, TrAt K H2 x o → (if wordS (.tup [.str m, prm2, .tup bts2]) = n then .tup [.str n, prm, .tup bts] else .tup [.str m, prm2, .tup bts2]) = o → ∃ acc, H2 D = some (.lst acc) ∧ acc.length < sizeLine ∧ Same H (upd H2 D (.lst (acc ++ [x]))) ∧ ∃ us, (upd H2 D (.lst (acc ++ [x]))) D = some (.lst us) ∧ TrAll K (upd H2 D (.lst (acc ++ [x]))) us ((ps.take (i + 1)).map fun o => if wordS o = n then .tup [.str n, prm, .tup bts] else o) := fun {x o} tx eo => by
          refine ⟨us, e2, small1000 (by rw [ul, List.length_map, List.length_take]; omega), fun o u e => ?_, us ++ [x], upd_same, ?_⟩
          · rw [upd_ne (ne_of_none e nD)]
            exact s2 _ _ e
          · rw [et, List.map_append]
            refine (t2.updL e2).app (.cons ?_ .nil)
            have z := tx.updL (ys' := us ++ [x]) e2
            rw [← eo] at z
            exact z
        refine ⟨rfl, ?_⟩
        refine tyes ?_
        refine ⟨_, rfl, c2, _, 0, _, rfl, rfl, hc2, rfl, _, rfl, c, _, 0, _, rfl, rfl, sqt_same s2 hc, rfl, rfl, _, rfl, ?_⟩
        rw [eq_txt]
        refine ite2 (fun h => ?_) (fun h => ?_)
        · have h : m = n := of_decide_eq_true h
          exact ⟨_, rfl, fin (tp.same s2) (if_pos h)⟩
        · have h : ¬ m = n := fun e => h (decide_eq_true e)
          exact ⟨_, rfl, fin ty (if_neg h)⟩
      · rintro H2 ⟨s2, us, e2, t2⟩
        rw [tL.len, List.take_length] at t2
        exact ⟨D, us, rfl, s2, nD, e2, t2⟩
    rintro σ H1 ⟨D, us, rfl, s1, nD, e1, t1⟩
    refine ⟨_, rfl, c, _, 0, _, rfl, rfl, sqt_same s1 hc, rfl, _, rfl, L, rfl, ⟨_, SqL.of (s1 _ _ eL)⟩, fun D2 nD2 => ?_⟩
    refine lc_it (walk_list (K := K) (a := L) (xs := vs)) (fun i H2 => Same H1 H2 ∧ H2 D2 = some (.lst (((ps.take i).map wordS).map V.str))) ⟨same_new nD2, upd_same⟩ (fun i H2 _ ⟨s2, _⟩ => SqL.of (s2 _ _ (s1 _ _ eL))) ?_ ?_
    · rintro i y Hx H2 hi ⟨s2, e2⟩ ⟨rfl, hy⟩
      obtain ⟨t, ht, ty⟩ := ((tL.same s1).same s2).get hy
      have il : i < ps.length := (List.getElem?_eq_some_iff.mp ht).1
      have et : ps.take (i + 1) = ps.take i ++ [t] := by rw [List.take_add_one, ht]; rfl
      obtain ⟨m, prm2, bts2, c2, z2, z3, rfl, rfl, hc2, hm, _, _⟩ := first_of ty (pst t (List.mem_of_getElem? ht))
      refine ⟨rfl, ?_⟩
      refine tyes ?_
      refine ⟨_, rfl, c2, _, 0, _, rfl, rfl, hc2, rfl, _, e2, small1000 (by rw [List.length_map, List.length_map, List.length_take]; omega), fun o u e => ?_, ?_⟩
      · rw [upd_ne (ne_of_none e nD2)]
        exact s2 _ _ e
      · rw [upd_same, et, List.map_append, List.map_append]
        rfl
    · rintro H2 ⟨s2, e2⟩
      rw [tL.len, List.take_length] at e2
      have s12 := s1.trans s2
      refine ⟨D2, _, rfl, .inl (SqL.of e2), rfl, all_flat _, _, rfl, ?_⟩
      rw [inV_str]
      refine ite2 (fun h => ?_) (fun h => ?_)
      · have h : n ∈ ps.map wordS := of_decide_eq_true h
        refine ⟨_, rfl, k D H2 nD s12 ⟨us, s2 _ _ e1, ?_⟩⟩
        have eP : putP ps (.tup [.str n, prm, .tup bts]) = ps.map fun o => if wordS o = n then .tup [.str n, prm, .tup bts] else o := by
          show (if n ∈ ps.map wordS then _ else _) = _
          rw [if_pos h]
          rfl
        rw [eP]
        exact t1.same s2
      · have h : ¬ n ∈ ps.map wordS := fun e => h (decide_eq_true e)
        have eP : putP ps (.tup [.str n, prm, .tup bts]) = ps ++ [.tup [.str n, prm, .tup bts]] := by
          show (if n ∈ ps.map wordS then _ else _) = _
          rw [if_neg h]
        have eM : (ps.map fun o => if wordS o = n then .tup [.str n, prm, .tup bts] else o) = ps := by
          have : ∀ o ∈ ps, (if wordS o = n then .tup [.str n, prm, .tup bts] else o) = o := fun o ho => if_neg fun e => h (List.mem_map.mpr ⟨o, ho, e⟩)
          rw [List.map_congr_left this]
          simp
        rw [eM] at t1
        have ul := t1.len
        refine ⟨_, rfl, _, rfl, (show 1 ≤ sizeLine by decide), fun q nq => ?_⟩
        have sq := same_new (o := .lst [.ref c]) nq
        refine ⟨D, q, us, [.ref c], rfl, rfl, sq _ _ (s2 _ _ e1), upd_same, Nat.le_of_lt (small1000 (by rw [List.length_singleton]; omega)), fun r nr => ?_⟩
        have sr := same_new (o := .lst (us ++ [.ref c])) nr
        have sA := s2.trans (sq.trans sr)
        refine k r _ (s12.free (sq.free nr)) (s1.trans sA) ⟨us ++ [.ref c], upd_same, ?_⟩
        rw [eP]
        exact (t1.same sA).app (.cons (tp.same (s1.trans sA)) .nil)
end
end BK

set_option Elab.async false
set_option maxRecDepth 100000
set_option maxHeartbeats 4000000
set_option linter.unusedVariables false
/-! other books than the shelf's; what no shelf has -/
namespace BK
open PySem PySem.Spec PyProof.Rows L2 SW RZ ET
theorem nodup_rev {α : Type} {xs : List α} (h : xs.Nodup) : xs.reverse.Nodup := by
  have := List.pairwise_reverse (l := xs) (R := fun a b => a ≠ b)
  exact this.mpr (h.imp fun e => e.symm)
theorem nodup_of_map {α β : Type} {f : α → β} {xs : List α} (h : (xs.map f).Nodup) : xs.Nodup := by
  have h := List.pairwise_map.mp h
  exact h.imp fun e q => e (by rw [q])
theorem SrcG.mono {vs us : List Str} (hm : ∀ z ∈ vs, z ∈ us) {s : Tr} (h : SrcG vs s) : SrcG us s := by
  rcases h with h | ⟨z, e, hz⟩
  · exact .inl h
  · exact .inr ⟨z, e, hm z hz⟩
theorem GLeaf.mono {vs us : List Str} (hm : ∀ z ∈ vs, z ∈ us) {κ : Str → Str} {f l : Bool} {t : Tr} (h : GLeaf vs κ f l t) : GLeaf us κ f l t := by
  cases h with
  | yield => exact .yield
  | show_ h => exact .show_ (hm _ h)
  | set h hs => exact .set (hm _ h) (hs.mono hm)
  | hold ht hk h hs => exact .hold ht hk (hm _ h) (hs.mono hm)
  | reset ht hk => exact .reset ht hk
  | drop h => exact .drop (hm _ h)
  | leave => exact .leave
  | fail => exact .fail
  | copy hc hk => exact .copy hc hk
mutual
theorem GS.mono {vs us : List Str} (hm : ∀ z ∈ vs, z ∈ us) {κ : Str → Str} : ∀ {d : Nat} {f l : Bool} {t : Tr} {m : Nat}, GS vs κ d f l t m → GS us κ d f l t m
  | _, _, _, _, _, .leaf h => .leaf (h.mono hm)
  | _, _, _, _, _, .within hc hk h => .within hc hk (GB.mono hm h)
  | _, _, _, _, _, .with_ hv hs h => .with_ (hm _ hv) (hs.mono hm) (GB.mono hm h)
  | _, _, _, _, _, .loop h hy => .loop (GB.mono hm h) hy
  | _, _, _, _, _, .if_ hv h0 h1 ha hb => .if_ (hm _ hv) h0 h1 (GB.mono hm ha) (GB.mono hm hb)
  | _, _, _, _, _, .guard ha hb => .guard (GB.mono hm ha) (GB.mono hm hb)
theorem GB.mono {vs us : List Str} (hm : ∀ z ∈ vs, z ∈ us) {κ : Str → Str} : ∀ {d : Nat} {f l : Bool} {ts : List Tr} {m : Nat}, GB vs κ d f l ts m → GB us κ d f l ts m
  | _, _, _, _, _, .nil => .nil
  | _, _, _, _, _, .cons h r => .cons (GS.mono hm h) (GB.mono hm r)
end
theorem LawP.mono {vs us : List Str} (hm : ∀ z ∈ vs, z ∈ us) {name : Str} {p : Tr} {k j : Nat} (h : LawP vs name p k) (hk : k ≤ j) : LawP us name p j := by
  obtain ⟨prm, blk, kd, m, e, h1, h2, h3, h4⟩ := h.ex
  exact ⟨prm, blk, kd, m, e, h1, h2, ⟨h3.gb.mono hm, h3.pu⟩, by omega⟩
/-- the names of the law's pieces -/
def poolS : List Str := ["a", "b", "ab", "piece", "yield", "vars", "abcdefgh", "forget"]
theorem pool_name : ∀ z ∈ poolS, nameS z = true := by decide +kernel
theorem pool_odd : ("nobody" : Str) ∉ poolS ∧ ("" : Str) ∉ poolS := by decide +kernel
structure LawR (own : List Str) (ps : List Tr) : Prop where
  ow : OwnG own
  zq : ("zq" : Str) ∉ own
  pc : ∀ p ∈ ps, wordS p ∈ poolS ∧ LawP own (wordS p) p 6
  nd : (ps.map wordS).Nodup
  le : ps.length ≤ 6
theorem LawP.own_word {own : List Str} {z : Str} {p : Tr} {k : Nat} (h : LawP own z p k) : LawP own (wordS p) p k := by rw [h.word]; exact h
/-- a list of the law's pieces, so many statements each -/
theorem rows_ok {own : List Str} {ps : List Tr} (ow : OwnG own) (h : ∀ p ∈ ps, wordS p ∈ poolS ∧ LawP own (wordS p) p 8) (nd : (ps.map wordS).Nodup) (le : ps.length ≤ 6) : BkR (own.map Tr.str) ps :=
  book_ok ow (fun p hp => ⟨wordS p, pool_name _ (h p hp).1, (h p hp).2⟩) le nd
section
variable {own : List Str} {ps : List Tr}
theorem LawR.pc8 (h : LawR own ps) : ∀ p ∈ ps, wordS p ∈ poolS ∧ LawP own (wordS p) p 8 := fun p hp => ⟨(h.pc p hp).1, (h.pc p hp).2.mono (fun _ z => z) (by omega)⟩
theorem LawR.bk (h : LawR own ps) : BkR (own.map Tr.str) ps := rows_ok h.ow h.pc8 h.nd h.le
theorem LawR.tri (h : LawR own ps) : ∀ p ∈ ps, tripleT p = true := h.bk.tri
theorem LawR.sub {qs : List Tr} (h : LawR own ps) (hs : qs.Sublist ps) : LawR own qs :=
  ⟨h.ow, h.zq, fun p hp => h.pc p (hs.subset hp), h.nd.sublist (hs.map wordS), Nat.le_trans hs.length_le h.le⟩
theorem LawR.put (h : LawR own ps) {p : Tr} {z : Str} (hz : z ∈ poolS) (hp : LawP own z p 6) (hl : z ∈ ps.map wordS ∨ ps.length < 6) : LawR own (putP ps p) := by
  have ew := hp.word
  refine ⟨h.ow, h.zq, fun q hq => ?_, ?_, ?_⟩
  · have : q = p ∨ q ∈ ps := by
      unfold putP at hq
      split at hq
      · obtain ⟨o, ho, e⟩ := List.mem_map.mp hq
        split at e
        · exact .inl e.symm
        · exact .inr (e ▸ ho)
      · rcases List.mem_append.mp hq with hq | hq
        · exact .inr hq
        · exact .inl (List.mem_singleton.mp hq)
    rcases this with rfl | hq
    · rw [ew]
      exact ⟨hz, hp⟩
    · exact h.pc q hq
  · unfold putP
    split
    · have e : (ps.map fun o => if wordS o = wordS p then p else o).map wordS = ps.map wordS := by
        rw [List.map_map]
        refine List.map_congr_left fun o _ => ?_
        show wordS (if wordS o = wordS p then p else o) = wordS o
        split
        · rename_i e; exact e.symm
        · rfl
      rw [e]
      exact h.nd
    · rename_i hn
      rw [List.map_append, List.nodup_append]
      refine ⟨h.nd, by simp, fun a ha b hb e => ?_⟩
      have hb : b = wordS p := by simpa using hb
      rw [e, hb] at ha
      exact hn ha
  · unfold putP
    split
    · rw [List.length_map]; exact h.le
    · rename_i hn
      rw [ew] at hn
      rw [List.length_append, List.length_singleton]
      rcases hl with hl | hl
      · exact absurd hl hn
      · omega
/-- one left out -/
theorem LawR.cut (h : LawR own ps) (i : Nat) : BkR (own.map Tr.str) (ps.take i ++ ps.drop (i + 1)) := by
  have e : ps.take i ++ ps.drop (i + 1) = ps.eraseIdx i := by rw [List.eraseIdx_eq_take_drop_succ]
  rw [e]
  exact (h.sub (List.eraseIdx_sublist ps i)).bk
theorem cut_ne {i : Nat} (hi : i < ps.length) : ps.take i ++ ps.drop (i + 1) ≠ ps := fun e => by
  have := congrArg List.length e
  rw [List.length_append, List.length_take, List.length_drop] at this
  omega
def freshT : Tr → Tr
  | .tup [a, b, .tup ts] => .tup [a, b, .tup (ts ++ [failS])]
  | t => t
theorem fresh_ok {z : Str} {p : Tr} (h : LawP own z p 6) : LawP own z (freshT p) 7 ∧ freshT p ≠ p := by
  obtain ⟨prm, blk, kd, m, rfl, h1, h2, h3, h4⟩ := h.ex
  refine ⟨⟨prm, blk ++ [failS], kd, m + 1, rfl, h1, h2, h3.append tail_fail, by omega⟩, fun e => ?_⟩
  have e : (Tr.tup [.str z, prm, .tup (blk ++ [failS])]) = .tup [.str z, prm, .tup blk] := e
  simp only [Tr.tup.injEq, List.cons.injEq, and_true, true_and] at e
  have := congrArg List.length e
  simp at this
theorem mem_mid {α : Type} {p q : α} {xs : List α} {i : Nat} (h : q ∈ xs.take i ++ [p] ++ xs.drop (i + 1)) : q = p ∨ q ∈ xs := by
  rcases List.mem_append.mp h with h | h
  · rcases List.mem_append.mp h with h | h
    · exact .inr (List.mem_of_mem_take h)
    · exact .inl (List.mem_singleton.mp h)
  · exact .inr (List.mem_of_mem_drop h)
theorem mid_eq {α : Type} {p : α} {xs : List α} {i : Nat} (h : xs[i]? = some p) : xs.take i ++ [p] ++ xs.drop (i + 1) = xs := by
  obtain ⟨hi, e⟩ := List.getElem?_eq_some_iff.mp h
  rw [List.append_assoc, List.singleton_append, ← e, ← List.drop_eq_getElem_cons hi, List.take_append_drop]
/-- one longer by a statement -/
theorem LawR.mid (h : LawR own ps) {i : Nat} {p : Tr} (hp : ps[i]? = some p) : BkR (own.map Tr.str) (ps.take i ++ [freshT p] ++ ps.drop (i + 1)) ∧ ps.take i ++ [freshT p] ++ ps.drop (i + 1) ≠ ps := by
  have hm := List.mem_of_getElem? hp
  obtain ⟨h1, h2⟩ := fresh_ok (h.pc p hm).2
  obtain ⟨hi, _⟩ := List.getElem?_eq_some_iff.mp hp
  refine ⟨rows_ok h.ow (fun q hq => ?_) ?_ ?_, fun e => ?_⟩
  · rcases mem_mid hq with rfl | hq
    · rw [h1.word]
      exact ⟨(h.pc p hm).1, h1.mono (fun _ z => z) (by omega)⟩
    · exact h.pc8 q hq
  · have e : (ps.take i ++ [freshT p] ++ ps.drop (i + 1)).map wordS = ps.map wordS := by
      have e2 := mid_eq hp
      have : ps.map wordS = (ps.take i ++ [p] ++ ps.drop (i + 1)).map wordS := by rw [e2]
      rw [this]
      simp only [List.map_append, List.map_cons, List.map_nil]
      rw [h1.word]
    rw [e]
    exact h.nd
  · rw [List.length_append, List.length_append, List.length_take, List.length_drop, List.length_singleton]
    have := h.le
    omega
  · have e2 := (mid_eq hp).trans e.symm
    have : (ps.take i ++ ([p] ++ ps.drop (i + 1))) = (ps.take i ++ ([freshT p] ++ ps.drop (i + 1))) := by rw [← List.append_assoc, ← List.append_assoc]; exact e2
    have := List.append_cancel_left this
    exact h2 (List.cons.inj this).1.symm
/-- other variables -/
def ownR (own : List Str) : List Str := if 1 < own.length then own.reverse else own ++ [("zq" : Str)]
theorem LawR.other (h : LawR own ps) : BkR ((ownR own).map Tr.str) ps ∧ (ownR own).map Tr.str ≠ own.map Tr.str := by
  obtain ⟨ow, zq, pc, nd, le⟩ := h
  have hm : ∀ z ∈ own, z ∈ ownR own := fun z hz => by
    unfold ownR
    split
    · exact List.mem_reverse.mpr hz
    · exact List.mem_append_left _ hz
  have hO : OwnG (ownR own) := by
    have hz : nameS "zq" = true := by decide +kernel
    have l1 := ow.l1
    have l2 := ow.l2
    unfold ownR
    split
    · exact ⟨fun z hz => ow.nm z (List.mem_reverse.mp hz), nodup_rev ow.nd, by rw [List.length_reverse]; exact l1, by rw [List.length_reverse]; exact l2⟩
    · refine ⟨fun z h => ?_, ?_, by simp, by rw [List.length_append, List.length_singleton]; omega⟩
      · rcases List.mem_append.mp h with h | h
        · exact ow.nm z h
        · rw [List.mem_singleton.mp h]; exact hz
      · rw [List.nodup_append]
        refine ⟨ow.nd, by simp, fun a ha b hb e => ?_⟩
        rw [e, List.mem_singleton.mp hb] at ha
        exact zq ha
  refine ⟨rows_ok hO (fun p hp => ⟨(pc p hp).1, (pc p hp).2.mono hm (by omega)⟩) nd le, fun e => ?_⟩
  have e : ownR own = own := by
    have := congrArg texts e
    rw [names_texts', names_texts'] at this
    exact this
  unfold ownR at e
  split at e
  · rename_i l
    match own, ow, l, e with
    | [x, y], ow, _, e =>
      have e : [y, x] = [x, y] := e
      have := (List.cons.inj e).1
      have nd := ow.nd
      rw [this] at nd
      simp at nd
    | x :: y :: z :: r, ow, _, _ => have := ow.l2; simp at this
    | [x], _, l, _ => simp at l
    | [], _, l, _ => simp at l
  · have := congrArg List.length e
    simp at this
/-- the other way round -/
theorem LawR.back (h : LawR own ps) (hl : 1 < ps.length) : BkR (own.map Tr.str) ps.reverse ∧ ps.reverse ≠ ps := by
  refine ⟨rows_ok h.ow (fun p hp => h.pc8 p (List.mem_reverse.mp hp)) (by rw [List.map_reverse]; exact nodup_rev h.nd) (by rw [List.length_reverse]; exact h.le), fun e => ?_⟩
  have nd : ps.Nodup := by
    have := h.nd
    exact nodup_of_map this
  have e0 : ps.reverse[0]? = ps[0]? := by rw [e]
  rw [List.getElem?_reverse (by omega)] at e0
  have := (List.getElem?_inj (by omega) nd).mp e0
  omega
def bookT (us ps : List Tr) : Tr := .tup [.tup us, .tup ps]
theorem BkR.repr {us ps : List Tr} (h : BkR us ps) : ReprOk (bookT us ps) := right_repr h.ft
theorem pur_strs : ∀ zs : List Str, purTs (zs.map Tr.str) = true
  | [] => rfl
  | z :: r => by
    show (purT (.str z) && purTs (r.map Tr.str)) = true
    rw [pur_strs r]
    rfl
theorem pur_all : ∀ {ts : List Tr}, (∀ t ∈ ts, purT t = true) → purTs ts = true
  | [], _ => rfl
  | t :: r, h => by
    simp only [purTs, h t List.mem_cons_self, pur_all fun x hx => h x (List.mem_cons_of_mem _ hx), Bool.and_self]
theorem book_pur {zs : List Str} {ps : List Tr} (h : BkR (zs.map Tr.str) ps) : purT (bookT (zs.map Tr.str) ps) = true := by
  show (purTs (zs.map Tr.str) && (purTs ps && true)) = true
  rw [pur_strs, pur_all h.pn]
  rfl
/-- books that differ -/
theorem book_ne {zs ys : List Str} {ps qs : List Tr} (h : BkR (zs.map Tr.str) ps) (h2 : BkR (ys.map Tr.str) qs) (ne : ys.map Tr.str ≠ zs.map Tr.str ∨ qs ≠ ps) : PyData.eqv (pdT (bookT (zs.map Tr.str) ps)) (pdT (bookT (ys.map Tr.str) qs)) = false := by
  cases e : PyData.eqv (pdT (bookT (zs.map Tr.str) ps)) (pdT (bookT (ys.map Tr.str) qs)) with
  | false => rfl
  | true =>
    have e := eqv_eq (book_pur h) (book_pur h2) e
    unfold bookT at e
    simp only [Tr.tup.injEq, List.cons.injEq, and_true] at e
    rcases ne with ne | ne
    · exact absurd e.1.symm ne
    · exact absurd e.2.symm ne
end
end BK

set_option Elab.async false
set_option maxRecDepth 100000
set_option maxHeartbeats 4000000
set_option linter.unusedVariables false
/-! names that are no texts; a shelf is made; what a shelf's class gives -/
namespace BK
open PySem PySem.Spec PyProof.Rows L2 SW RZ ET
def spFindO (K : PySem.W.Frag) : Sp := fun vs H Q _ => ∃ (bv nv : V) (t : Value), vs = [bv, nv] ∧ TyX K H nv t ∧ PySem.W.kitOne K t (.type "str") = some false ∧ Q .non H
def spCO (K : PySem.W.Frag) (C : Addr) : Sp := fun vs H Q _ => ∃ (s d : Addr) (nv : V) (bk : Tr) (t : Value), vs = [.ref s, nv] ∧ ShAt K C H s d bk ∧ TyX K H nv t ∧ PySem.W.kitOne K t (.type "str") = some false ∧ Q (.bl false) H
def spOr (a b : Sp) : Sp := fun vs H Q E => a vs H Q E ∨ b vs H Q E
section
variable {P : Program} {w : World} {K : PySem.W.Frag} {mg : Str → Option Value} {base : Heap}
theorem fnok_or {CX : CXT} {k : Nat} {f : Addr} {fd : FuncData} {ps : List Str} {a b : Sp} (F : FnOk P w K mg base CX k f fd ps a) (G : FnOk P w K mg base CX k f fd ps b) : FnOk P w K mg base CX k f fd ps (spOr a b) :=
  ⟨fun vs H Q E h => h.elim (F.len vs H Q E) (G.len vs H Q E), fun A outer s H args us vs Q E hr e0 hb r h => h.elim (F.run A outer s H args us vs Q E hr e0 hb r) (G.run A outer s H args us vs Q E hr e0 hb r)⟩
theorem ok_findO {f : Addr} {fd : FuncData} (F : Fun K "find_piece" "find_piece" sFindP f fd) (T : Forms mg) : FnOk P w K mg base CX0 1 f fd ["book", "name"] (spFindO K) := by
  refine F.ok scFindP (fun vs H Q E h => ?_) (fun cdv A outer s H vs Q E hr h => ?_)
  · obtain ⟨bv, nv, t, rfl, _⟩ := h
    rfl
  · obtain ⟨bv, nv, t, rfl, ty, kt, k⟩ := h
    refine ⟨_, pss_cons (ps_if (pt_val (pe_callB call_isi (by rfl) T.isi boot_isinstance (pa_cons (pv 1) (pa_cons (pe_bltn (v := .ty "str") (u := .type "str") (by rfl) T.str (by decide +kernel) rfl) pa_nil))))
        (pss_one ps_dead) pss_nil)
      (pss_one (ps_ret pe_non)), ?_⟩
    refine ⟨_, rfl, nv, .ty "str", t, .type "str", false, rfl, .ty "str", ty, kt, _, rfl, iteF ?_⟩
    exact k
theorem ok_CO {C f fP : Addr} {fd fdP : FuncData} (F : Fun K "__contains__" "Shelf.__contains__" sSC f fd) (X : TxS K mg C)
    (GP : FnOk P w K mg base CX0 1 fP fdP ["book", "name"] (spFindO K)) (bP : Binds K fdP ["book", "name"] []) (gP : mg "find_piece" = some (.ref fP)) (kP : PySem.W.keepIn K (.ref fP) = true) : FnOk P w K mg base CX0 2 f fd ["self", "name"] (spCO K C) := by
  refine F.ok scSC (fun vs H Q E h => ?_) (fun cdv A outer s H vs Q E hr h => ?_)
  · obtain ⟨x, d, nv, bk, t, rfl, _⟩ := h
    rfl
  · obtain ⟨x, d, nv, bk, t, rfl, hS, ty, kt, k⟩ := h
    refine ⟨_, pss_one (ps_ret (pe_cmp (pc_notN (pe_call GP hr rfl gP kP bP .nil pass0 (pa_cons (pe_fld (pv 0) rfl) (pa_cons (pv 1) pa_nil)))))), ?_⟩
    obtain ⟨dx, v, ob, tv⟩ := hS.ob
    exact ⟨_, rfl, x, C, dx, _, v, rfl, ob, X.cl, X.nB, rfl, _, rfl, v, nv, t, rfl, ty, kt, k⟩
/-- the class, its methods -/
structure ShZ (P : Program) (w : World) (K : PySem.W.Frag) (mg : Str → Option Value) (base : Heap) (C fI fG fS fC fL fE fF fN fB : Addr) (fdI fdG fdS fdC fdL fdE fdF fdN fdB : FuncData) : Prop where
  X : TxS K mg C
  kM : Mk K C fI
  GI : FnOk P w K mg base CX0 18 fI fdI ["self", "book"] (spSI K C)
  bI : Binds K fdI ["self", "book"] []
  hG : PySem.W.findIn K (.ref C) "__getitem__" = some (some (.ref fG))
  iG : PySem.W.isFn K (.ref fG) = true
  nG : PySem.W.fnIn K fG = true
  GG : FnOk P w K mg base CX0 2 fG fdG ["self", "name"] (spSG K C)
  bG : Binds K fdG ["self", "name"] []
  nS : PySem.W.noSeq K C = true
  hS : PySem.W.findIn K (.ref C) "__setitem__" = some (some (.ref fS))
  iS : PySem.W.isFn K (.ref fS) = true
  GS : FnOk P w K mg base CX0 18 fS fdS ["self", "name", "piece"] (spSS K C)
  bS : Binds K fdS ["self", "name", "piece"] []
  hC : PySem.W.findIn K (.ref C) "__contains__" = some (some (.ref fC))
  iC : PySem.W.isFn K (.ref fC) = true
  GC : FnOk P w K mg base CX0 2 fC fdC ["self", "name"] (spOr (spSC K C) (spCO K C))
  bC : Binds K fdC ["self", "name"] []
  hL : PySem.W.findIn K (.ref C) "__len__" = some (some (.ref fL))
  iL : PySem.W.isFn K (.ref fL) = true
  GL : FnOk P w K mg base CX0 1 fL fdL ["self"] (spSL K C)
  bL : Binds K fdL ["self"] []
  hE : PySem.W.findIn K (.ref C) "__eq__" = some (some (.ref fE))
  iE : PySem.W.isFn K (.ref fE) = true
  GE : FnOk P w K mg base CX0 1 fE fdE ["self", "other"] (spSE K C)
  bE : Binds K fdE ["self", "other"] []
  mF : Meth K C "forget" fF
  GF : FnOk P w K mg base CX0 5 fF fdF ["self", "name"] (spSF K C)
  bF : Binds K fdF ["self", "name"] []
  mN : Meth K C "names" fN
  GN : FnOk P w K mg base CX0 1 fN fdN ["self"] (spSN K C)
  bN : Binds K fdN ["self"] []
  mB : Meth K C "book" fB
  GB : FnOk P w K mg base CX0 1 fB fdB ["self"] (spSB K C)
  bB : Binds K fdB ["self"] []
  tyC : ∀ (H : Hp) (a dx : Addr) (fs : List (Str × V)), H a = some (.ins C dx fs) → TyX K H (.ref a) (.ref C)
  kN : PySem.W.kitOne K (.type "NoneType") (.ref C) = some false
  kT : PySem.W.kitOne K (.type "tuple") (.ref C) = some false
  kL : PySem.W.kitOne K (.type "list") (.ref C) = some false
  fC0 : PySem.W.notFirst K C (.ref C) = true
  fN0 : PySem.W.notFirst K C (.type "NoneType") = true
  fT0 : PySem.W.notFirst K C (.type "tuple") = true
  fL0 : PySem.W.notFirst K C (.type "list") = true
  sL : PySem.W.kitOne K (.type "list") (.type "str") = some false
/-- a shelf is made -/
theorem make_sh {C x dx : Addr} {H : Hp} {bv : V} {us ps : List Tr} {R : VK} (hx : H x = none) (hdx : H dx = none) (ne : dx ≠ x) (hb : TrAt K H bv (.tup [.tup us, .tup ps])) (hB : BkR us ps)
    (k : ∀ (d : Addr) (H' : Hp), Same H H' → ShAt K C H' x d (.tup [.tup us, .tup ps]) → R .non H') : spSI K C (.ref x :: ([bv] ++ [])) (upd (upd H dx (.own x)) x (.ins C dx [])) R E0 := by
  have s1 := same_new (o := .own x) hdx
  have hx1 : (upd H dx (.own x)) x = none := by rw [upd_ne ne.symm]; exact hx
  have s2 := same_new (o := .ins C dx []) hx1
  refine ⟨x, dx, bv, us, ps, rfl, upd_same, hb.same (s1.trans s2), hB, fun d H' nd hS bS => k d H' (fun b o e => ?_) hS⟩
  exact bS b o ((s1.trans s2) b o e) (ne_of_none e hx)
end
end BK

set_option Elab.async false
set_option maxRecDepth 100000
set_option maxHeartbeats 4000000
set_option linter.unusedVariables false
/-! _law_shown: names, book -/
namespace BK
open PySem PySem.Spec PyProof.Rows L2 SW RZ ET
abbrev sSw : Stmt := top 60
abbrev nSw : List Str := ["shelf", "own", "rows", "names", "book", "name", "due", "some", "at", "row", "fresh", "odd", "one"]
theorem scSw : FnScope nSw ["shelf", "own", "rows"] (defScope sSw) := ⟨rfl, rfl, rfl, by decide +kernel, rfl, by decide +kernel, by decide +kernel⟩
abbrev XSw (P : Program) (w : World) (K : PySem.W.Frag) (mg : Str → Option Value) (base : Heap) (f : Addr) (cdv : Value) (A : Around) (outer : List Env) (s : Shared) (H : Hp) (E : XK) : Cx := (cxOf CX0 P w K mg base nSw "_law_shown" (defScope sSw) f cdv A outer s H E).nox
/-- what stands while the law looks at a shelf -/
structure SwB (K : PySem.W.Frag) (C : Addr) (H : Hp) (s d oa L : Addr) (own : List Str) (ps : List Tr) (NL : Addr) (BK : V) : Prop where
  sh : ShAt K C H s d (bookT (own.map Tr.str) ps)
  ow : SqT K H oa (own.map V.str)
  ro : LstAt K H L ps
  nm : H NL = some (.lst ((ps.map wordS).map V.str))
  bk : TrAt K H BK (bookT (own.map Tr.str) ps)
theorem SwB.same {K : PySem.W.Frag} {C : Addr} {H H' : Hp} {s d oa L : Addr} {own : List Str} {ps : List Tr} {NL : Addr} {BK : V} (h : SwB K C H s d oa L own ps NL BK) (e : Same H H') : SwB K C H' s d oa L own ps NL BK :=
  ⟨h.sh.same e, sqt_same e h.ow, h.ro.same e, e _ _ h.nm, h.bk.same e⟩
theorem strs_tr {K : PySem.W.Frag} {H : Hp} : ∀ {zs : List Str}, (∀ z ∈ zs, z.length ≤ sizeLine) → TrAll K H (zs.map V.str) (zs.map Tr.str)
  | [], _ => .nil
  | z :: r, h => .cons (.str z (h z List.mem_cons_self)) (strs_tr fun x hx => h x (List.mem_cons_of_mem _ hx))
theorem own_tr {K : PySem.W.Frag} {H : Hp} {oa : Addr} {own : List Str} (h : SqT K H oa (own.map V.str)) (ow : OwnG own) : TrAt K H (.ref oa) (.tup (own.map Tr.str)) :=
  .tup h (strs_tr fun z hz => name_line (ow.nm z hz))
section
variable {P : Program} {w : World} {K : PySem.W.Frag} {mg : Str → Option Value} {base : Heap} {f : Addr} {cdv : Value} {A : Around} {outer : List Env} {s0 : Shared} {H : Hp} {E : XK}
theorem sw0 (mT : mg "tuple" = none) : ∃ t, PS (XSw P w K mg base f cdv A outer s0 H E) (stAt sSw 0) t ∧
    ∀ {D} {C s d oa L : Addr} {own : List Str} {ps : List Tr} {H1 : Hp}, LawR own ps → ShAt K C H1 s d (bookT (own.map Tr.str) ps) → SqT K H1 oa (own.map V.str) → LstAt K H1 L ps →
      (∀ NL BK H2, Same H1 H2 → SwB K C H2 s d oa L own ps NL BK → D.nx [some (.ref s), some (.ref oa), some (.ref L), some (.ref NL), some BK, none, none, none, none, none, none, none, none] H2) →
      t D [some (.ref s), some (.ref oa), some (.ref L), none, none, none, none, none, none, none, none, none, none] H1 := by
  refine ⟨_, ps_asg (pe_tup (pa_cons (pe_lc (own := [("row", 9)]) (g := gName 9) (tt := tYes) (te := tOp (rIxT K) (tVar 9) (tC (.int 0))) rfl scSw.nd (pi_list (pv 2)) (blkOk_by (N := nSw) (sc := defScope sSw) (by decide +kernel))
        (fun _ _ _ _ _ => pg_name (i := 9) scSw.nd rfl (Or.inl rfl)) (fun _ _ _ _ _ => pts_nil) (fun _ _ _ _ _ => by exact pe_ix ix_tup (pv 9) pe_int (fun _ _ => rfl)))
      (pa_cons (pe_tup (pa_cons (pv 1) (pa_cons (pe_callTy call_tuple_of (by rfl) mT boot_tuple (pa_cons (pv 2) pa_nil)) pa_nil))) pa_nil)))
    (pg_tup rfl (pgs_cons (pg_name (i := 3) scSw.nd rfl (Or.inr rfl)) (pgs_cons (pg_name (i := 4) scSw.nd rfl (Or.inl rfl)) pgs_nil))), ?_⟩
  intro D C s d oa L own ps H1 hR hS hO ⟨vs, eL, tL⟩ k
  have hle := hR.le
  have two' : 2 ≤ sizeLine := by decide
  refine ⟨_, rfl, L, rfl, ⟨_, SqL.of eL⟩, fun N nN => ?_⟩
  refine lc_it (walk_list (K := K) (a := L) (xs := vs)) (fun i H2 => Same H1 H2 ∧ H2 N = some (.lst (((ps.take i).map wordS).map V.str))) ⟨same_new nN, upd_same⟩ (fun i H2 _ ⟨s2, _⟩ => SqL.of (s2 _ _ eL)) ?_ ?_
  · rintro i y Hx H2 hi ⟨s2, e2⟩ ⟨rfl, hy⟩
    obtain ⟨t, ht, ty⟩ := (tL.same s2).get hy
    have il : i < ps.length := (List.getElem?_eq_some_iff.mp ht).1
    have et : ps.take (i + 1) = ps.take i ++ [t] := by rw [List.take_add_one, ht]; rfl
    obtain ⟨m, prm2, bts2, c2, z2, z3, rfl, rfl, hc2, hm, _, _⟩ := first_of ty (hR.tri t (List.mem_of_getElem? ht))
    refine ⟨rfl, ?_⟩
    refine tyes ?_
    refine ⟨_, rfl, c2, _, 0, _, rfl, rfl, hc2, rfl, _, e2, small1000 (by rw [List.length_map, List.length_map, List.length_take]; omega), fun o u e => ?_, ?_⟩
    · rw [upd_ne (ne_of_none e nN)]
      exact s2 _ _ e
    · rw [upd_same, et, List.map_append, List.map_append]
      rfl
  · rintro H2 ⟨s2, e2⟩
    rw [tL.len, List.take_length] at e2
    refine ⟨_, rfl, _, rfl, L, vs, rfl, .inl ⟨SqL.of (s2 _ _ eL), fun l nl => ⟨two', fun q nq => ?_⟩⟩⟩
    have sl := same_new (o := .tup vs) nl
    have tl : TrAt K (upd H2 l (.tup vs)) (.ref l) (.tup ps) := .tup (SqT.of upd_same) ((tL.same s2).same sl)
    generalize upd H2 l (.tup vs) = H3 at sl tl nq ⊢
    have s23 := s2.trans sl
    obtain ⟨s4, t4⟩ := new_tr nq (.cons (own_tr (sqt_same s23 hO) hR.ow) (.cons tl .nil))
    have sA := s23.trans s4
    refine ⟨two', fun r nr => ⟨r, _, rfl, SqT.of upd_same, rfl, _, _, rfl, _, _, rfl, rfl, ?_⟩⟩
    have s5 := same_new (o := .tup [.ref N, .ref q]) nr
    have sB := sA.trans s5
    exact k N _ _ sB ⟨hS.same sB, sqt_same sB hO, ⟨vs, sB _ _ eL, tL.same sB⟩, ((sl.trans s4).trans s5) _ _ e2, t4.same s5⟩
end
end BK

set_option Elab.async false
set_option maxRecDepth 100000
set_option maxHeartbeats 4000000
set_option linter.unusedVariables false
/-! _law_shown: the texts of what the shelf shows -/
namespace BK
open PySem PySem.Spec PyProof.Rows L2 SW RZ ET
theorem repr_tree {t : Tr} {de si : Nat} (h : Sh t de si) (hd : de ≤ 58) (hs : si ≤ 150000) : (pdT t).showable = true ∧ (pdT t).hasDict = false ∧ (pdT t).depth ≤ 60 ∧ (pdT t).shown.length ≤ sizeLine := by
  refine ⟨pd_show t h.da, pd_noDict t, by rw [pd_depth]; have := h.de; omega, ?_⟩
  have := PyData.shown_le 100 (by decide) _ (pd_leaves t h.da)
  have s := h.si
  rw [sizeLine_eq]
  omega
theorem repr_one {t : Tr} {de si : Nat} (h : Sh t de si) (hd : de ≤ 57) (hs : si ≤ 140000) : (PyData.list [pdT t]).showable = true ∧ (PyData.list [pdT t]).hasDict = false ∧ (PyData.list [pdT t]).depth ≤ 60 ∧ (PyData.list [pdT t]).shown.length ≤ sizeLine := by
  refine ⟨by simp only [PyData.showable, PyData.showableAll, pd_show t h.da, Bool.and_self], by simp only [PyData.hasDict, PyData.hasDictAll, pd_noDict t, Bool.or_self], ?_, ?_⟩
  · simp only [PyData.depth, PyData.depthAll, pd_depth]
    have := h.de
    omega
  · have l : PyData.leavesShort 100 (.list [pdT t]) = true := by simp only [PyData.leavesShort, PyData.leavesShortAll, pd_leaves t h.da, Bool.and_self]
    have := PyData.shown_le 100 (by decide) _ l
    have s := h.si
    simp only [PyData.weight, PyData.weightAll] at this
    rw [sizeLine_eq]
    omega
theorem piece_sh {p : Tr} (h : SmallP p) : Sh p 12 2200 := by
  obtain ⟨h1, h2, h3⟩ := h
  exact piece_shown h1 h2 (by omega)
theorem book_sh {us ps : List Tr} (h : BkR us ps) : Sh (bookT us ps) 14 14000 := by
  obtain ⟨vs, qs, e, l6, l3, nv, rp⟩ := book_right h.ft
  cases e
  have k1 : Shs us 0 (us.length * 21) := Shs.all fun t ht => by
    have := List.all_eq_true.mp nv t ht
    obtain ⟨s, rfl⟩ := name_str this
    exact sh_str (name_data this) (name_short this)
  have k2 : Shs ps 12 (ps.length * 2201) := Shs.all fun t ht => piece_shown (rp t ht).1 (rp t ht).2.1 (rp t ht).2.2
  have k := (Shs.tup (Shs.cons k1.tup (Shs.cons k2.tup Shs.nil)))
  exact k.mono (by omega) (by omega)
theorem names_sh {zs : List Str} (h : ∀ z ∈ zs, nameS z = true) (hl : zs.length ≤ 6) : Sh (.tup (zs.map Tr.str)) 1 126 := by
  have k1 : Shs (zs.map Tr.str) 0 ((zs.map Tr.str).length * 21) := Shs.all fun t ht => by
    obtain ⟨z, hz, rfl⟩ := List.mem_map.mp ht
    exact sh_str (name_data (h z hz)) (name_short (h z hz))
  exact k1.tup.mono (by omega) (by rw [List.length_map]; omega)
theorem LawR.names {own : List Str} {ps : List Tr} (h : LawR own ps) : ∀ z ∈ ps.map wordS, nameS z = true := fun z hz => by
  obtain ⟨p, hp, rfl⟩ := List.mem_map.mp hz
  exact pool_name _ (h.pc p hp).1
section
variable {P : Program} {w : World} {K : PySem.W.Frag} {mg : Str → Option Value} {base : Heap} {f : Addr} {cdv : Value} {A : Around} {outer : List Env} {s0 : Shared} {H : Hp} {E : XK}
variable {C fI fG fS fC fL fE fF fN fB : Addr} {fdI fdG fdS fdC fdL fdE fdF fdN fdB : FuncData}
theorem sw1 (Z : ShZ P w K mg base C fI fG fS fC fL fE fF fN fB fdI fdG fdS fdC fdL fdE fdF fdN fdB) (gd : A.guards = some []) (hr : Room 19 (A.deeper (envOfC "_law_shown" (defScope sSw) s0.heap.objs.size f cdv)))
    (mT : mg "tuple" = none) (mR : mg "repr" = none) (mL : mg "len" = none) : ∃ t, PS (XSw P w K mg base f cdv A outer s0 H E) (stAt sSw 1) t ∧
    ∀ {D} {s d oa L NL : Addr} {BK : V} {own : List Str} {ps : List Tr} {H1 : Hp} {v5 v6 v7 v8 v9 v10 v11 v12 : Option V}, LawR own ps → SwB K C H1 s d oa L own ps NL BK →
      (∀ H2, Same H1 H2 → D.nx [some (.ref s), some (.ref oa), some (.ref L), some (.ref NL), some BK, v5, v6, v7, v8, v9, v10, v11, v12] H2) →
      t D [some (.ref s), some (.ref oa), some (.ref L), some (.ref NL), some BK, v5, v6, v7, v8, v9, v10, v11, v12] H1 := by
  have gd' : (A.deeper (envOfC "_law_shown" (defScope sSw) s0.heap.objs.size f cdv)).guards = some [] := gd
  have hr0 : Room 0 _ := hr.mono (by decide)
  have hr1 : Room 1 _ := hr.mono (by decide)
  have hr2 : Room 2 _ := hr.mono (by decide)
  refine ⟨_, ps_if (pt_cmpR op_ne (pe_callB (call_reprD gd' hr0) (by rfl) mR boot_repr (pa_cons (pe_tup (pa_cons (pe_meth0 (pv 0) Z.X.cl Z.mN Z.GN hr1 Z.bN .nil pass0) (pa_cons (pe_meth0 (pv 0) Z.X.cl Z.mB Z.GB hr1 Z.bB .nil pass0) (pa_cons (pe_callB (call_len_own Z.hL Z.iL Z.GL hr2 Z.bL pass0) (by rfl) mL boot_len (pa_cons (pv 0) pa_nil)) pa_nil)))) pa_nil))
      (pe_callB (call_reprD gd' hr0) (by rfl) mR boot_repr (pa_cons (pe_tup (pa_cons (pe_callTy call_tuple_of (by rfl) mT boot_tuple (pa_cons (pv 3) pa_nil)) (pa_cons (pv 4) (pa_cons (pe_callB call_len_seq (by rfl) mL boot_len (pa_cons (pv 2) pa_nil)) pa_nil)))) pa_nil)) (nomark _)) (pss_one (ps_ret pe_bl)) pss_nil, ?_⟩
  intro D s d oa L NL BK own ps H1 v5 v6 v7 v8 v9 v10 v11 v12 hR hB k
  have hle := hR.le
  have hbk := hR.bk
  have three' : 3 ≤ sizeLine := by decide
  obtain ⟨dx, v, ob, tv⟩ := hB.sh.ob
  have hT : Sh (.tup [.tup ((ps.map wordS).map Tr.str), bookT (own.map Tr.str) ps, .int (ps.length : Int)]) 16 15000 :=
    (Shs.tup (Shs.cons (names_sh hR.names (by rw [List.length_map]; exact hle)) (Shs.cons (book_sh hbk) (Shs.cons (sh_int (by omega)) Shs.nil)))).mono (by omega) (by omega)
  obtain ⟨r1, r2, r3, r4⟩ := repr_tree hT (by omega) (by omega)
  refine ⟨_, rfl, s, dx, _, rfl, ob, shf_no v d (by decide +kernel) (by decide +kernel) (by decide +kernel), s, d, _, ps, rfl, hB.sh, hbk, fun nv H2 s2 t2 => ?_⟩
  have ob2 := s2 _ _ ob
  have hB2 := hB.same s2
  refine ⟨_, rfl, s, dx, _, rfl, ob2, shf_no v d (by decide +kernel) (by decide +kernel) (by decide +kernel), s, d, _, rfl, hB2.sh, fun bv tb => ?_⟩
  refine ⟨_, rfl, s, dx, _, rfl, ob2, s, d, _, ps, rfl, hB2.sh, ps.length, rfl, by omega, three', fun q nq => ?_⟩
  have e1 : (ps.map fun p => Tr.str (wordS p)) = (ps.map wordS).map Tr.str := by rw [List.map_map]; rfl
  rw [e1] at t2
  obtain ⟨s3, t3⟩ := new_tr nq (.cons t2 (.cons tb (.cons (.int (ps.length : Int)) .nil)))
  have s13 := s2.trans s3
  have hB3 := hB.same s13
  generalize upd H2 q (.tup [nv, bv, .int (ps.length : Int)]) = H3 at s3 t3 s13 hB3 ⊢
  refine ⟨q, _, rfl, t3.dp hT.da, r1, r2, r3, r4, ?_⟩
  obtain ⟨vs, eL, tL⟩ := id hB3.ro
  refine ⟨_, rfl, NL, _, rfl, .inl ⟨SqL.of hB3.nm, fun l nl => ?_⟩⟩
  have sl := same_new (o := .tup ((ps.map wordS).map V.str)) nl
  have tl : TrAt K (upd H3 l (.tup ((ps.map wordS).map V.str))) (.ref l) (.tup ((ps.map wordS).map Tr.str)) := .tup (SqT.of upd_same) (strs_tr fun z hz => name_line (hR.names z hz))
  generalize upd H3 l (.tup ((ps.map wordS).map V.str)) = H4 at sl tl ⊢
  refine ⟨_, rfl, _, rfl, L, vs, rfl, .inl (SqL.of (sl _ _ eL)), three', fun q2 nq2 => ?_⟩
  rw [tL.len]
  obtain ⟨s5, t5⟩ := new_tr nq2 (.cons tl (.cons (hB3.same sl).bk (.cons (.int (ps.length : Int)) .nil)))
  have s15 := s13.trans (sl.trans s5)
  refine ⟨q2, _, rfl, t5.dp hT.da, r1, r2, r3, r4, rfl, _, rfl, ?_⟩
  refine ite2 (fun h => ?_) (fun _ => k _ s15)
  exact absurd h (by simp)
end
end BK

set_option Elab.async false
set_option maxRecDepth 100000
set_option maxHeartbeats 4000000
set_option linter.unusedVariables false
/-! _law_shown: each piece by its name -/
namespace BK
open PySem PySem.Spec PyProof.Rows L2 SW RZ ET
theorem filter_one : ∀ {ps : List Tr}, (ps.map wordS).Nodup → ∀ {p : Tr}, p ∈ ps → (ps.filter fun o => decide (wordS o = wordS p)) = [p] ∧ findR ps (.str (wordS p)) = p
  | [], _, _, h => by cases h
  | a :: r, nd, p, h => by
    rw [List.map_cons, List.nodup_cons] at nd
    rcases List.mem_cons.mp h with e | hr
    · subst e
      have no : (r.filter fun o => decide (wordS o = wordS p)) = [] := by
        rw [List.filter_eq_nil_iff]
        intro o ho e
        exact nd.1 (List.mem_map.mpr ⟨o, ho, of_decide_eq_true e⟩)
      constructor
      · rw [List.filter_cons_of_pos (by simp), no]
      · show (((p :: r).find? fun o => decide (wordS o = wordS p)).getD .non) = p
        rw [List.find?_cons]
        simp
    · have ne : ¬ wordS a = wordS p := fun e => nd.1 (List.mem_map.mpr ⟨p, hr, e.symm⟩)
      obtain ⟨h1, h2⟩ := filter_one nd.2 hr
      constructor
      · rw [List.filter_cons_of_neg (by simp [ne]), h1]
      · have h2 : ((r.find? fun o => decide (wordS o = wordS p)).getD .non) = p := h2
        show (((a :: r).find? fun o => decide (wordS o = wordS p)).getD .non) = p
        rw [List.find?_cons]
        simp only [ne, decide_false]
        exact h2
section
variable {P : Program} {w : World} {K : PySem.W.Frag} {mg : Str → Option Value} {base : Heap} {f : Addr} {cdv : Value} {A : Around} {outer : List Env} {s0 : Shared} {H : Hp} {E : XK}
variable {C fI fG fS fC fL fE fF fN fB : Addr} {fdI fdG fdS fdC fdL fdE fdF fdN fdB : FuncData}
theorem dp_one {H : Hp} {q : Addr} {v : V} {t : Tr} (e : H q = some (.lst [v])) (h : TrAt K H v t) (d : dataT t = true) : Dp K H (.ref q) (.list [pdT t]) := .lst (SqL.of e) (.cons (h.dp d) .nil)
theorem sw2 (Z : ShZ P w K mg base C fI fG fS fC fL fE fF fN fB fdI fdG fdS fdC fdL fdE fdF fdN fdB) (gd : A.guards = some []) (hr : Room 19 (A.deeper (envOfC "_law_shown" (defScope sSw) s0.heap.objs.size f cdv)))
    (mR : mg "repr" = none) : ∃ t, PS (XSw P w K mg base f cdv A outer s0 H E) (stAt sSw 2) t ∧
    ∀ {D} {s d oa L NL : Addr} {BK : V} {own : List Str} {ps : List Tr} {H1 : Hp} {v5 v6 v7 v8 v9 v10 v11 v12 : Option V}, LawR own ps → SwB K C H1 s d oa L own ps NL BK →
      (∀ H2 v5 v6, Same H1 H2 → D.nx [some (.ref s), some (.ref oa), some (.ref L), some (.ref NL), some BK, v5, v6, v7, v8, v9, v10, v11, v12] H2) →
      t D [some (.ref s), some (.ref oa), some (.ref L), some (.ref NL), some BK, v5, v6, v7, v8, v9, v10, v11, v12] H1 := by
  have gd' : (A.deeper (envOfC "_law_shown" (defScope sSw) s0.heap.objs.size f cdv)).guards = some [] := gd
  have hr0 : Room 0 _ := hr.mono (by decide)
  have hr1 : Room 1 _ := hr.mono (by decide)
  have hr2 : Room 2 _ := hr.mono (by decide)
  have hr3 : Room 3 _ := hr.mono (by decide)
  refine ⟨_, ps_for PassesOwn.never rfl (pi_list (pv 3)) (pg_name (i := 5) scSw.nd rfl (Or.inr rfl))
    (C8.pss_cut (ps_setLc (i := 6) (own := [("row", 9)]) (g := gName 9) rfl scSw.nd rfl rfl (sw_true rfl rfl rfl rfl) (pi_list (pv 2)) (blkOk_by (N := nSw) (sc := defScope sSw) (by decide +kernel))
          (fun _ _ _ _ _ => pg_name (i := 9) scSw.nd rfl (Or.inl rfl))
          (fun _ _ _ _ _ => pts_one (pt_cmpR op_eq (pe_ix (r := rIxT K) (by exact ix_tup) (pv 9) pe_int (fun _ _ => rfl)) (pv 5) (nomark _)))
          (fun _ _ _ _ _ => pv 9))
    (pss_one (ps_if (PW.pt (pw_or (pt_cmpR (op_notin_own Z.hC Z.iC Z.GC hr2 Z.bC pass0) (pv 5) (pv 0) rfl)
      (pw_or1 (pt_cmpR op_ne (pe_callB (call_reprD gd' hr0) (by rfl) mR boot_repr (pa_cons (pe_lst (pa_cons (pe_own Z.hG Z.iG Z.nG Z.GG hr3 Z.bG pass0 (pv 0) (pv 5) (fun _ _ => rfl)) pa_nil)) pa_nil)) (pe_callB (call_reprD gd' hr0) (by rfl) mR boot_repr (pa_cons (pv 6) pa_nil)) (nomark _))))) (pss_one (ps_ret pe_bl)) pss_nil))), ?_⟩
  intro D s d oa L NL BK own ps H1 v5 v6 v7 v8 v9 v10 v11 v12 hR hB k
  have hle := hR.le
  have hbk := hR.bk
  have one' : 1 ≤ sizeLine := by decide
  refine ⟨_, rfl, NL, rfl, ⟨_, SqL.of hB.nm⟩, for_it (walk_list (K := K) (a := NL) (xs := (ps.map wordS).map V.str)) (fun i σ H2 => (∃ v5 v6, σ = [some (.ref s), some (.ref oa), some (.ref L), some (.ref NL), some BK, v5, v6, v7, v8, v9, v10, v11, v12]) ∧ Same H1 H2) ⟨⟨v5, v6, rfl⟩, Same.refl _⟩ (fun i σ H2 _ ⟨_, s2⟩ => SqL.of (s2 _ _ hB.nm)) ?_ ?_⟩
  · rintro i y σ Hx H2 hi ⟨⟨v5, v6, rfl⟩, s2⟩ ⟨rfl, hy⟩
    obtain ⟨p, hp, rfl⟩ : ∃ p, ps[i]? = some p ∧ y = .str (wordS p) := by
      rw [List.getElem?_map, List.getElem?_map] at hy
      cases e : ps[i]? with
      | none => rw [e] at hy; cases hy
      | some p => rw [e] at hy; exact ⟨p, rfl, (Option.some.inj hy).symm⟩
    have hm := List.mem_of_getElem? hp
    obtain ⟨f1, f2⟩ := filter_one hR.nd hm
    have hB2 := hB.same s2
    obtain ⟨vs, eL, tL⟩ := id hB2.ro
    have nl := name_line (hR.names (wordS p) (List.mem_map.mpr ⟨p, hm, rfl⟩))
    have tn : ∀ {H' : Hp}, TrAt K H' (.str (wordS p)) (.str (wordS p)) := .str _ nl
    refine ⟨fun σ H3 => ∃ (D6 : Addr) (z : V), σ = [some (.ref s), some (.ref oa), some (.ref L), some (.ref NL), some BK, some (.str (wordS p)), some (.ref D6), v7, v8, v9, v10, v11, v12] ∧ Same H2 H3 ∧ H3 D6 = some (.lst [z]) ∧ TrAt K H3 z p, ?_, ?_⟩
    · refine ⟨_, rfl, L, rfl, ⟨_, SqL.of eL⟩, fun N nN => ?_⟩
      refine lc_it (walk_list (K := K) (a := L) (xs := vs)) (fun j H3 => Same H2 H3 ∧ ∃ zs, H3 N = some (.lst zs) ∧ TrAll K H3 zs ((ps.take j).filter fun o => decide (wordS o = wordS p))) ⟨same_new nN, [], upd_same, .nil⟩ (fun j H3 _ ⟨s3, _⟩ => SqL.of (s3 _ _ eL)) ?_ ?_
      · rintro j y Hx H3 hj ⟨s3, zs, e3, t3⟩ ⟨rfl, hy⟩
        obtain ⟨t, ht, ty⟩ := (tL.same s3).get hy
        have jl : j < ps.length := (List.getElem?_eq_some_iff.mp ht).1
        have et : ps.take (j + 1) = ps.take j ++ [t] := by rw [List.take_add_one, ht]; rfl
        obtain ⟨m, prm2, bts2, c2, z2, z3, rfl, rfl, hc2, hm, _, _⟩ := first_of ty (hR.tri t (List.mem_of_getElem? ht))
        have zl := t3.len
        refine ⟨rfl, ?_⟩
        refine ⟨_, rfl, c2, _, 0, _, rfl, rfl, hc2, rfl, _, rfl, rfl, _, rfl, ?_⟩
        rw [eq_txt]
        refine ite2 (fun h => ?_) (fun h => ?_)
        · have h : m = wordS p := of_decide_eq_true h
          refine ⟨_, rfl, _, e3, small1000 (by rw [zl]; refine Nat.le_trans (List.length_filter_le _ _) ?_; rw [List.length_take]; omega), fun o u e => ?_, _, upd_same, ?_⟩
          · rw [upd_ne (ne_of_none e nN)]
            exact s3 _ _ e
          · rw [et, List.filter_append, List.filter_cons_of_pos (by exact decide_eq_true h)]
            exact (t3.updL e3).app (.cons (ty.updL e3) .nil)
        · have h : ¬ m = wordS p := fun e => h (decide_eq_true e)
          refine ⟨s3, zs, e3, ?_⟩
          have pe : ¬ decide (wordS (.tup [.str m, prm2, .tup bts2]) = wordS p) = true := by
            rw [decide_eq_false (by exact h)]; decide
          rw [et, List.filter_append, List.filter_cons_of_neg (by exact pe), List.filter_nil, List.append_nil]
          exact t3
      · rintro H3 ⟨s3, zs, e3, t3⟩
        rw [tL.len, List.take_length, f1] at t3
        cases t3 with
        | cons a r =>
        cases r
        exact ⟨N, _, rfl, s3, e3, a⟩
    rintro σ H3 ⟨D6, z, rfl, s3, e6, t6⟩
    have hB3 := hB2.same s3
    obtain ⟨dx, v, ob, tv⟩ := hB3.sh.ob
    have nf : findR ps (.str (wordS p)) ≠ .non := by
      rw [f2]
      intro e
      have := hR.tri p hm
      rw [e] at this
      exact Bool.noConfusion this
    have eI : inR ps (.str (wordS p)) = true := by
      unfold inR
      rw [f2]
      have := hR.tri p hm
      cases p with
      | non => exact Bool.noConfusion this
      | _ => rfl
    have sp := piece_sh (hbk.sm p hm)
    obtain ⟨r1, r2, r3, r4⟩ := repr_one sp (by omega) (by omega)
    refine ⟨_, rfl, _, rfl, s, dx, _, rfl, ob, .inl ⟨s, d, .str (wordS p), _, ps, .str (wordS p), rfl, hB3.sh, hbk, tn, true, by rw [eI], ?_⟩⟩
    refine ⟨_, rfl, iteF ?_⟩
    refine ⟨_, rfl, _, rfl, s, dx, _, rfl, ob, s, d, .str (wordS p), _, ps, .str (wordS p), rfl, hB3.sh, hbk, tn, nf, fun u tu => ⟨one', fun q nq => ?_⟩⟩
    rw [f2] at tu
    have sq := same_new (o := .lst [u]) nq
    refine ⟨q, _, rfl, dp_one upd_same (tu.same sq) sp.da, r1, r2, r3, r4, ?_⟩
    refine ⟨_, rfl, D6, _, rfl, dp_one (sq _ _ e6) (t6.same sq) sp.da, r1, r2, r3, r4, rfl, _, rfl, ?_⟩
    refine ite2 (fun h => absurd h (by simp)) (fun _ => ?_)
    exact ⟨⟨_, _, rfl⟩, (s2.trans s3).trans sq⟩
  · rintro σ H2 ⟨⟨v5, v6, rfl⟩, s2⟩
    exact k H2 v5 v6 s2
end
end BK

set_option Elab.async false
set_option maxRecDepth 100000
set_option maxHeartbeats 4000000
set_option linter.unusedVariables false
/-! _law_shown: what is in no shelf -/
namespace BK
open PySem PySem.Spec PyProof.Rows L2 SW RZ ET
def NotIn (K : PySem.W.Frag) (ps : List Tr) (H : Hp) (y : V) : Prop := (∃ tn, TrAt K H y tn ∧ inR ps tn = false) ∨ ∃ t, TyX K H y t ∧ PySem.W.kitOne K t (.type "str") = some false
theorem inR_no {ps : List Tr} {z : Str} (h : ∀ p ∈ ps, tripleT p = true) (hz : z ∉ ps.map wordS) : inR ps (.str z) = false := by
  unfold inR
  rw [(find_none h).mpr hz]
section
variable {P : Program} {w : World} {K : PySem.W.Frag} {mg : Str → Option Value} {base : Heap} {f : Addr} {cdv : Value} {A : Around} {outer : List Env} {s0 : Shared} {H : Hp} {E : XK}
variable {C fI fG fS fC fL fE fF fN fB : Addr} {fdI fdG fdS fdC fdL fdE fdF fdN fdB : FuncData}
theorem sp_notin {s d : Addr} {H : Hp} {us ps : List Tr} {y : V} {Q : VK} (hS : ShAt K C H s d (bookT us ps)) (hB : BkR us ps) (h : NotIn K ps H y) (q : Q (.bl false) H) : spOr (spSC K C) (spCO K C) [.ref s, y] H Q E := by
  rcases h with ⟨tn, ty, e⟩ | ⟨t, ty, e⟩
  · refine .inl ⟨s, d, y, us, ps, tn, rfl, hS, hB, ty, ?_⟩
    rw [e]
    exact q
  · exact .inr ⟨s, d, y, _, t, rfl, hS, ty, e, q⟩
theorem dp_nil {H : Hp} {q : Addr} (e : H q = some (.lst [])) : Dp K H (.ref q) (.list []) := .lst (SqL.of e) .nil
theorem sw3 (Z : ShZ P w K mg base C fI fG fS fC fL fE fF fN fB fdI fdG fdS fdC fdL fdE fdF fdN fdB) (hr : Room 19 (A.deeper (envOfC "_law_shown" (defScope sSw) s0.heap.objs.size f cdv))) :
    ∃ t, PS (XSw P w K mg base f cdv A outer s0 H E) (stAt sSw 3) t ∧
    ∀ {D} {s d oa L NL : Addr} {BK : V} {own : List Str} {ps : List Tr} {H1 : Hp} {v5 v6 v7 v8 v9 v10 v11 v12 : Option V}, LawR own ps → SwB K C H1 s d oa L own ps NL BK →
      (∀ H2, Same H1 H2 → D.nx [some (.ref s), some (.ref oa), some (.ref L), some (.ref NL), some BK, v5, v6, v7, v8, v9, v10, v11, v12] H2) →
      t D [some (.ref s), some (.ref oa), some (.ref L), some (.ref NL), some BK, v5, v6, v7, v8, v9, v10, v11, v12] H1 := by
  have hr2 : Room 2 _ := hr.mono (by decide)
  refine ⟨_, ps_if (pt_cmpR (op_neD hr.units) (pe_lc (own := [("odd", 11)]) (g := gName 11) (te := tVar 11) rfl scSw.nd
        (pi_list (pe_lst (pa_cons pe_non (pa_cons pe_int (pa_cons pe_str (pa_cons pe_str (pa_cons (pv 4) (pa_cons (pv 3) (pa_cons (pe_tup pa_nil) (pa_cons pe_bl (pa_cons pe_dnewK pa_nil)))))))))))
        (blkOk_by (N := nSw) (sc := defScope sSw) (by decide +kernel)) (fun _ _ _ _ _ => pg_name (i := 11) scSw.nd rfl (Or.inl rfl))
        (fun _ _ _ _ _ => pts_one (pt_cmpR (op_in_own Z.hC Z.iC Z.GC hr2 Z.bC pass0) (pv 11) (pv 0) rfl)) (fun _ _ _ _ _ => pv 11)) (pe_lst pa_nil) (nomark _)) (pss_one (ps_ret pe_bl)) pss_nil, ?_⟩
  intro D s d oa L NL BK own ps H1 v5 v6 v7 v8 v9 v10 v11 v12 hR hB k
  have hbk := hR.bk
  have htr := hR.tri
  have hno : ("nobody" : Str) ∉ ps.map wordS ∧ ("" : Str) ∉ ps.map wordS := by
    have hsub : ∀ z ∈ ps.map wordS, z ∈ poolS := fun z hz => by
      obtain ⟨p, hp, rfl⟩ := List.mem_map.mp hz
      exact (hR.pc p hp).1
    exact ⟨fun h => pool_odd.1 (hsub _ h), fun h => pool_odd.2 (hsub _ h)⟩
  refine ⟨_, rfl, _, rfl, Nat.zero_le _, fun q1 n1 q2 n2 => ⟨(show 9 ≤ sizeLine by decide), fun l nl => ⟨l, rfl, ⟨_, SqL.of upd_same⟩, fun N nN => ?_⟩⟩⟩
  have s1 := same_new (o := .tup []) n1
  have e1 : (upd H1 q1 (.tup [])) q1 = some (.tup []) := upd_same
  generalize upd H1 q1 (.tup []) = F1 at s1 e1 n2 nl nN ⊢
  have s2 := same_new (o := .dK []) n2
  have e2 : (upd F1 q2 (.dK [])) q2 = some (.dK []) := upd_same
  have e1 := s2 _ _ e1
  have s12 := s1.trans s2
  clear n1 s1
  generalize upd F1 q2 (.dK []) = F2 at s12 e1 e2 nl nN ⊢
  have s3 := same_new (o := .lst [.non, .int 5, .str "", .str "nobody", BK, .ref NL, .ref q1, .bl true, .ref q2]) nl
  have el : (upd F2 l (.lst [.non, .int 5, .str "", .str "nobody", BK, .ref NL, .ref q1, .bl true, .ref q2])) l = some (.lst [.non, .int 5, .str "", .str "nobody", BK, .ref NL, .ref q1, .bl true, .ref q2]) := upd_same
  have e1 := s3 _ _ e1
  have e2 := s3 _ _ e2
  have s13 := s12.trans s3
  generalize upd F2 l (.lst [.non, .int 5, .str "", .str "nobody", BK, .ref NL, .ref q1, .bl true, .ref q2]) = F3 at s13 e1 e2 el nN ⊢
  have hB3 := hB.same s13
  have all : ∀ {H' : Hp}, Same F3 H' → ∀ y ∈ [V.non, .int 5, .str "", .str "nobody", BK, .ref NL, .ref q1, .bl true, .ref q2], NotIn K ps H' y := fun {H'} sm y hy => by
    simp only [List.mem_cons, List.not_mem_nil, or_false] at hy
    rcases hy with rfl | rfl | rfl | rfl | rfl | rfl | rfl | rfl | rfl
    · exact .inl ⟨.non, .non, rfl⟩
    · exact .inl ⟨.int 5, .int 5, rfl⟩
    · exact .inl ⟨.str "", .str "" (by decide), inR_no htr hno.2⟩
    · exact .inl ⟨.str "nobody", .str "nobody" (by decide), inR_no htr hno.1⟩
    · exact .inl ⟨_, hB3.bk.same sm, rfl⟩
    · exact .inr ⟨.type "list", sql_ty (SqL.of (sm _ _ hB3.nm)), Z.sL⟩
    · exact .inl ⟨.tup [], .tup (SqT.of (sm _ _ e1)) .nil, rfl⟩
    · exact .inl ⟨.bl true, .bl true, rfl⟩
    · exact .inl ⟨.dct, .dct (sm _ _ e2), rfl⟩
  refine lc_it (walk_list (K := K) (a := l) (xs := [.non, .int 5, .str "", .str "nobody", BK, .ref NL, .ref q1, .bl true, .ref q2])) (fun i H2 => Same F3 H2 ∧ H2 N = some (.lst [])) ⟨same_new nN, upd_same⟩ (fun i H2 _ ⟨s2, _⟩ => SqL.of (s2 _ _ el)) ?_ ?_
  · rintro i y Hx H2 hi ⟨s2, eN⟩ ⟨rfl, hy⟩
    have hB4 := hB3.same s2
    obtain ⟨dx, v, ob, tv⟩ := hB4.sh.ob
    refine ⟨rfl, ?_⟩
    refine ⟨_, rfl, _, rfl, s, dx, _, rfl, ob, sp_notin hB4.sh hbk (all s2 y (List.mem_of_getElem? hy)) ⟨false, rfl, ?_⟩⟩
    refine ⟨_, rfl, iteF ?_⟩
    exact ⟨s2, eN⟩
  · rintro H2 ⟨s2, eN⟩
    refine ⟨Nat.zero_le _, fun q nq => ?_⟩
    have sq := same_new (o := .lst []) nq
    refine ⟨_, _, dp_nil (sq _ _ eN), dp_nil upd_same, by decide +kernel, by decide +kernel, _, rfl, ?_⟩
    refine ite2 (fun h => absurd h (by decide +kernel)) (fun _ => k _ ((s13.trans s2).trans sq))
end
end BK

set_option Elab.async false
set_option maxRecDepth 100000
set_option maxHeartbeats 4000000
set_option linter.unusedVariables false
/-! _law_shown: no variable is in a shelf -/
namespace BK
open PySem PySem.Spec PyProof.Rows L2 SW RZ ET
section
variable {P : Program} {w : World} {K : PySem.W.Frag} {mg : Str → Option Value} {base : Heap} {f : Addr} {cdv : Value} {A : Around} {outer : List Env} {s0 : Shared} {H : Hp} {E : XK}
variable {C fI fG fS fC fL fE fF fN fB : Addr} {fdI fdG fdS fdC fdL fdE fdF fdN fdB : FuncData}
theorem sw4 (Z : ShZ P w K mg base C fI fG fS fC fL fE fF fN fB fdI fdG fdS fdC fdL fdE fdF fdN fdB) (hr : Room 19 (A.deeper (envOfC "_law_shown" (defScope sSw) s0.heap.objs.size f cdv))) :
    ∃ t, PS (XSw P w K mg base f cdv A outer s0 H E) (stAt sSw 4) t ∧
    ∀ {D} {s d oa L NL : Addr} {BK : V} {own : List Str} {ps : List Tr} {H1 : Hp} {v5 v6 v7 v8 v9 v10 v11 v12 : Option V}, LawR own ps → SwB K C H1 s d oa L own ps NL BK →
      (∀ H2, Same H1 H2 → D.nx [some (.ref s), some (.ref oa), some (.ref L), some (.ref NL), some BK, v5, v6, v7, v8, v9, v10, v11, v12] H2) →
      t D [some (.ref s), some (.ref oa), some (.ref L), some (.ref NL), some BK, v5, v6, v7, v8, v9, v10, v11, v12] H1 := by
  have hr2 : Room 2 _ := hr.mono (by decide)
  refine ⟨_, ps_if (pt_cmpR (op_neD hr.units) (pe_lc (own := [("name", 5)]) (g := gName 5) (te := tVar 5) rfl scSw.nd (pi_tup (pv 1))
        (blkOk_by (N := nSw) (sc := defScope sSw) (by decide +kernel)) (fun _ _ _ _ _ => pg_name (i := 5) scSw.nd rfl (Or.inl rfl))
        (fun _ _ _ _ _ => pts_one (PW.pt (pw_and (pt_cmpR (r := rIn K true) (by exact op_notIn_seq) (pv 5) (pv 3) rfl) (pw_and1 (pt_cmpR (op_in_own Z.hC Z.iC Z.GC hr2 Z.bC pass0) (pv 5) (pv 0) rfl))))) (fun _ _ _ _ _ => pv 5)) (pe_lst pa_nil) (nomark _)) (pss_one (ps_ret pe_bl)) pss_nil, ?_⟩
  intro D s d oa L NL BK own ps H1 v5 v6 v7 v8 v9 v10 v11 v12 hR hB k
  have hbk := hR.bk
  have htr := hR.tri
  refine ⟨_, rfl, oa, rfl, ⟨_, hB.ow⟩, fun N nN => ?_⟩
  refine lc_it (walk_tup (K := K) (a := oa) (xs := own.map V.str)) (fun i H2 => Same H1 H2 ∧ H2 N = some (.lst [])) ⟨same_new nN, upd_same⟩ (fun i H2 _ ⟨s2, _⟩ => sqt_same s2 hB.ow) ?_ ?_
  · rintro i y Hx H2 hi ⟨s2, eN⟩ ⟨rfl, hy⟩
    obtain ⟨z, hz, rfl⟩ := List.mem_map.mp (List.mem_of_getElem? hy)
    have hB4 := hB.same s2
    obtain ⟨dx, v, ob, tv⟩ := hB4.sh.ob
    refine ⟨rfl, ?_⟩
    refine ⟨_, rfl, _, rfl, NL, _, rfl, .inl (SqL.of hB4.nm), rfl, all_flat _, _, rfl, ?_⟩
    rw [inV_str]
    by_cases hin : z ∈ ps.map wordS
    · rw [decide_eq_true hin]
      refine iteF ?_
      exact iteF ⟨s2, eN⟩
    · rw [decide_eq_false hin]
      refine iteT ?_
      refine ⟨_, rfl, _, rfl, s, dx, _, rfl, ob, sp_notin hB4.sh hbk (.inl ⟨.str z, .str z (name_line (hR.ow.nm z hz)), inR_no htr hin⟩) ⟨false, rfl, ?_⟩⟩
      refine ⟨_, rfl, iteF ?_⟩
      exact ⟨s2, eN⟩
  · rintro H2 ⟨s2, eN⟩
    refine ⟨Nat.zero_le _, fun q nq => ?_⟩
    have sq := same_new (o := .lst []) nq
    refine ⟨_, _, dp_nil (sq _ _ eN), dp_nil upd_same, by decide +kernel, by decide +kernel, _, rfl, ?_⟩
    refine ite2 (fun h => absurd h (by decide +kernel)) (fun _ => k _ (s2.trans sq))
end
end BK

set_option Elab.async false
set_option maxRecDepth 100000
set_option maxHeartbeats 4000000
set_option linter.unusedVariables false
/-! _law_shown: shelves with a piece less -/
namespace BK
open PySem PySem.Spec PyProof.Rows L2 SW RZ ET
/-- another shelf, with another book -/
def Oth (K : PySem.W.Frag) (C : Addr) (own : List Str) (ps : List Tr) (H : Hp) (y : V) : Prop := ∃ (x d : Addr) (us : List Str) (qs : List Tr), y = .ref x ∧ ShAt K C H x d (bookT (us.map Tr.str) qs) ∧ BkR (us.map Tr.str) qs ∧ (us.map Tr.str ≠ own.map Tr.str ∨ qs ≠ ps)
theorem ShAt.updL {K : PySem.W.Frag} {C : Addr} {H : Hp} {s d N : Addr} {ys ys' : List V} {bk : Tr} (e : H N = some (.lst ys)) (h : ShAt K C H s d bk) : ShAt K C (upd H N (.lst ys')) s d bk := by
  obtain ⟨⟨dx, v, h1, h2⟩, h3⟩ := h
  exact ⟨⟨dx, v, by rw [upd_ne (ne_of h1 e (by intro z; cases z))]; exact h1, h2.updL e⟩, by rw [upd_ne (ne_of h3 e (by intro z; cases z))]; exact h3⟩
section
variable {K : PySem.W.Frag} {C : Addr} {own : List Str} {ps : List Tr} {H H' : Hp} {y : V}
theorem Oth.same (h : Oth K C own ps H y) (e : Same H H') : Oth K C own ps H' y := by
  obtain ⟨x, d, us, qs, h1, h2, h3, h4⟩ := h
  exact ⟨x, d, us, qs, h1, h2.same e, h3, h4⟩
theorem Oth.updL {N : Addr} {ys ys' : List V} (h : Oth K C own ps H y) (e : H N = some (.lst ys)) : Oth K C own ps (upd H N (.lst ys')) y := by
  obtain ⟨x, d, us, qs, h1, h2, h3, h4⟩ := h
  exact ⟨x, d, us, qs, h1, h2.updL e, h3, h4⟩
theorem TrAll.dropn : ∀ {vs : List V} {ts : List Tr} (n : Nat), TrAll K H vs ts → TrAll K H (vs.drop n) (ts.drop n)
  | _, _, 0, h => h
  | _, _, n + 1, .nil => .nil
  | _, _, n + 1, .cons h k => TrAll.dropn n k
end
theorem cut_take {xs : List V} {i : Nat} (h : i ≤ xs.length) : cutV xs none (some (i : Int)) = xs.take i := by
  unfold cutV
  have e1 : HT.sIx xs.length 0 none = 0 := rfl
  have e2 : HT.sIx xs.length xs.length (some (i : Int)) = i := by
    unfold HT.sIx
    show (if (i : Int) < 0 then _ else min (i : Int).toNat xs.length) = i
    rw [if_neg (by omega)]
    omega
  rw [e1, e2]
  simp
theorem cut_drop {xs : List V} {i : Nat} (h : i < xs.length) : cutV xs (some ((i : Int) + 1)) none = xs.drop (i + 1) := by
  unfold cutV
  have e1 : HT.sIx xs.length 0 (some ((i : Int) + 1)) = i + 1 := by
    unfold HT.sIx
    show (if (i : Int) + 1 < 0 then _ else min ((i : Int) + 1).toNat xs.length) = i + 1
    rw [if_neg (by omega)]
    omega
  have e2 : HT.sIx xs.length xs.length none = xs.length := rfl
  rw [e1, e2]
  rw [List.take_of_length_le (by rw [List.length_drop]; omega)]
def rTupOf (K : PySem.W.Frag) : List V → Hp → VK → Prop := fun xs H Q => ∃ p ys, xs = [.ref p] ∧ SqL K H p ys ∧ ∀ l, H l = none → Q (.ref l) (upd H l (.tup ys))
theorem call_tup {X : Cx} : CallR X (.type "tuple") (rTupOf X.K) := by
  intro pins s σ H xs us Q I r h
  obtain ⟨p, ys, e, h1, h2⟩ := h
  exact call_tuple_of pins s σ H xs us Q I r ⟨p, ys, e, .inl ⟨h1, h2⟩⟩
section
variable {P : Program} {w : World} {K : PySem.W.Frag} {mg : Str → Option Value} {base : Heap} {f : Addr} {cdv : Value} {A : Around} {outer : List Env} {s0 : Shared} {H : Hp} {E : XK}
variable {C fI fG fS fC fL fE fF fN fB : Addr} {fdI fdG fdS fdC fdL fdE fdF fdN fdB : FuncData}
theorem sw5 (Z : ShZ P w K mg base C fI fG fS fC fL fE fF fN fB fdI fdG fdS fdC fdL fdE fdF fdN fdB) (hr : Room 19 (A.deeper (envOfC "_law_shown" (defScope sSw) s0.heap.objs.size f cdv)))
    (mT : mg "tuple" = none) (mG : mg "range" = none) (mL : mg "len" = none) :
    ∃ t, PS (XSw P w K mg base f cdv A outer s0 H E) (stAt sSw 5) t ∧
    ∀ {D} {s d oa L NL : Addr} {BK : V} {own : List Str} {ps : List Tr} {H1 : Hp} {v5 v6 v7 v8 v9 v10 v11 v12 : Option V}, LawR own ps → SwB K C H1 s d oa L own ps NL BK →
      (∀ (N : Addr) (ys : List V) H2, H1 N = none → Same H1 H2 → H2 N = some (.lst ys) → ys.length ≤ 6 → (∀ y ∈ ys, Oth K C own ps H2 y) → D.nx [some (.ref s), some (.ref oa), some (.ref L), some (.ref NL), some BK, v5, v6, some (.ref N), v8, v9, v10, v11, v12] H2) →
      t D [some (.ref s), some (.ref oa), some (.ref L), some (.ref NL), some BK, v5, v6, v7, v8, v9, v10, v11, v12] H1 := by
  refine ⟨_, ps_setLc (i := 7) (own := [("at", 8)]) (g := gName 8) (tt := tYes) rfl scSw.nd rfl rfl (sw_true rfl rfl rfl rfl) (pi_range1 rfl mG (pa_cons (pe_callB call_len_seq (by rfl) mL boot_len (pa_cons (pv 2) pa_nil)) pa_nil)) (blkOk_by (N := nSw) (sc := defScope sSw) (by decide +kernel))
      (fun _ _ _ _ _ => pg_name (i := 8) scSw.nd rfl (Or.inl rfl)) (fun _ _ _ _ _ => pts_nil)
      (fun _ _ _ _ _ => pe_make Z.kM Z.GI hr rfl Z.X.mgC Z.bI .nil pass0 (pa_cons (pe_tup (pa_cons (pv 1) (pa_cons (pe_callTy (r := rTupOf K) (by exact call_tup) (by rfl) mT boot_tuple (pa_cons (pe_op op_cat (pe_slice (r := rSlL K) (by exact sl_list) (pv 2) po_none (po_some (pv 8))) (pe_slice (r := rSlL K) (by exact sl_list) (pv 2) (po_some (pe_op op_add (pv 8) pe_int)) po_none)) pa_nil)) pa_nil))) pa_nil)), ?_⟩
  intro D s d oa L NL BK own ps H1 v5 v6 v7 v8 v9 v10 v11 v12 hR hB k
  have two' : 2 ≤ sizeLine := by decide
  have hle := hR.le
  obtain ⟨vs, eL, tL⟩ := id hB.ro
  have vl := tL.len
  refine ⟨_, rfl, L, vs, rfl, .inl (SqL.of eL), (vs.length : Int), rfl, by omega, by omega, fun N nN => ?_⟩
  refine lc_range (lo := 0) (n := (vs.length : Int).toNat) (fun i H2 => Same H1 H2 ∧ ∃ ys, H2 N = some (.lst ys) ∧ ys.length = i ∧ ∀ y ∈ ys, Oth K C own ps H2 y) ⟨same_new nN, [], upd_same, rfl, fun y hy => by cases hy⟩ ?_ ?_
  · rintro i H2 hi ⟨s2, ys, e2, l2, o2⟩
    have hi : i < ps.length := by omega
    have z0 : ((0 : Int) + (i : Int)) = (i : Int) := by omega
    refine ⟨rfl, ?_⟩
    refine tyes ?_
    rw [z0]
    refine ⟨_, rfl, _, rfl, _, rfl, (i : Int), rfl, L, vs, rfl, SqL.of (s2 _ _ eL), fun q1 n1 => ?_⟩
    rw [cut_take (by omega)]
    have s3 := same_new (o := .lst (vs.take i)) n1
    have e3 : (upd H2 q1 (.lst (vs.take i))) q1 = some (.lst (vs.take i)) := upd_same
    generalize upd H2 q1 (.lst (vs.take i)) = H3 at s3 e3 ⊢
    have s23 := s2.trans s3
    refine ⟨_, rfl, _, rfl, _, _, rfl, rfl, (i : Int) + 1, rfl, L, vs, rfl, SqL.of (s23 _ _ eL), fun q2 n2 => ?_⟩
    rw [cut_drop (by omega)]
    have s4 := same_new (o := .lst (vs.drop (i + 1))) n2
    have e4 : (upd H3 q2 (.lst (vs.drop (i + 1)))) q2 = some (.lst (vs.drop (i + 1))) := upd_same
    have e34 := s4 _ _ e3
    generalize upd H3 q2 (.lst (vs.drop (i + 1))) = H4 at s4 e4 e34 ⊢
    have s24 := s23.trans s4
    refine ⟨q1, q2, _, _, rfl, rfl, e34, e4, Nat.le_of_lt (small1000 (by rw [List.length_take, List.length_drop]; omega)), fun q3 n3 => ?_⟩
    have s5 := same_new (o := .lst (vs.take i ++ vs.drop (i + 1))) n3
    have e5 : (upd H4 q3 (.lst (vs.take i ++ vs.drop (i + 1)))) q3 = some (.lst (vs.take i ++ vs.drop (i + 1))) := upd_same
    generalize upd H4 q3 (.lst (vs.take i ++ vs.drop (i + 1))) = H5 at s5 e5 ⊢
    have s25 := s24.trans s5
    refine ⟨q3, _, rfl, SqL.of e5, fun q4 n4 => ⟨two', fun q5 n5 => ?_⟩⟩
    have s6 := same_new (o := .tup (vs.take i ++ vs.drop (i + 1))) n4
    have tA := tL.same (s25.trans s6)
    have t6 : TrAt K (upd H5 q4 (.tup (vs.take i ++ vs.drop (i + 1)))) (.ref q4) (.tup (ps.take i ++ ps.drop (i + 1))) := .tup (SqT.of upd_same) ((TrAll.take6 i tA).app (TrAll.dropn (i + 1) tA))
    generalize upd H5 q4 (.tup (vs.take i ++ vs.drop (i + 1))) = H6 at s6 t6 n5 ⊢
    have s26 := s25.trans s6
    obtain ⟨s7, t7⟩ := new_tr n5 (.cons (own_tr (sqt_same s26 hB.ow) hR.ow) (.cons t6 .nil))
    generalize upd H6 q5 (.tup [.ref oa, .ref q4]) = H7 at s7 t7 ⊢
    have s27 := s26.trans s7
    intro x dx hx hdx ne
    refine make_sh hx hdx ne t7 (hR.cut i) fun d' H8 s8 hS => ⟨rfl, ?_⟩
    have s28 := s27.trans s8
    have sX : Same H2 H8 := ((s3.trans s4).trans ((s5.trans s6).trans (s7.trans s8)))
    have eN := sX _ _ e2
    refine ⟨ys, eN, small1000 (by omega), fun o u e => ?_, ys ++ [.ref x], upd_same, by rw [List.length_append, l2]; rfl, fun y hy => ?_⟩
    · rw [upd_ne (ne_of_none e nN)]
      exact s28 _ _ e
    · rcases List.mem_append.mp hy with hy | hy
      · exact ((o2 y hy).same sX).updL eN
      · rw [List.mem_singleton.mp hy]
        exact ⟨x, d', own, _, rfl, hS.updL eN, hR.cut i, .inr (cut_ne hi)⟩
  · rintro H2 ⟨s2, ys, e2, l2, o2⟩
    exact k N ys H2 nN s2 e2 (by omega) o2
end
end BK

set_option Elab.async false
set_option maxRecDepth 100000
set_option maxHeartbeats 4000000
set_option linter.unusedVariables false
/-! _law_shown: shelves with a piece that is longer -/
namespace BK
open PySem PySem.Spec PyProof.Rows L2 SW RZ ET
theorem gs_pos {vs : List Str} {κ : Str → Str} {d : Nat} {f l : Bool} {t : Tr} {m : Nat} (h : GS vs κ d f l t m) : 1 ≤ m := by
  cases h <;> omega
theorem gb_len {vs : List Str} {κ : Str → Str} {d : Nat} {f l : Bool} : ∀ {ts : List Tr} {m : Nat}, GB vs κ d f l ts m → ts.length ≤ m
  | [], _, _ => Nat.zero_le _
  | t :: r, _, .cons h k => by
    have h1 := gs_pos h
    have h2 := gb_len k
    rw [List.length_cons]
    omega
section
variable {P : Program} {w : World} {K : PySem.W.Frag} {mg : Str → Option Value} {base : Heap} {f : Addr} {cdv : Value} {A : Around} {outer : List Env} {s0 : Shared} {H : Hp} {E : XK}
variable {C fI fG fS fC fL fE fF fN fB : Addr} {fdI fdG fdS fdC fdL fdE fdF fdN fdB : FuncData}
theorem sw6 (Z : ShZ P w K mg base C fI fG fS fC fL fE fF fN fB fdI fdG fdS fdC fdL fdE fdF fdN fdB) (hr : Room 19 (A.deeper (envOfC "_law_shown" (defScope sSw) s0.heap.objs.size f cdv)))
    (mT : mg "tuple" = none) (mE : mg "enumerate" = none) :
    ∃ t, PS (XSw P w K mg base f cdv A outer s0 H E) (stAt sSw 6) t ∧
    ∀ {D} {s d oa L NL N : Addr} {BK : V} {own : List Str} {ps : List Tr} {H0 H1 : Hp} {ys : List V} {v5 v6 v8 v9 v10 v11 v12 : Option V}, LawR own ps → SwB K C H0 s d oa L own ps NL BK → H0 N = none → Same H0 H1 → H1 N = some (.lst ys) → ys.length ≤ 6 → (∀ y ∈ ys, Oth K C own ps H1 y) →
      (∀ (ys : List V) H2 v8 v9 v10, Same H0 H2 → H2 N = some (.lst ys) → ys.length ≤ 12 → (∀ y ∈ ys, Oth K C own ps H2 y) → D.nx [some (.ref s), some (.ref oa), some (.ref L), some (.ref NL), some BK, v5, v6, some (.ref N), v8, v9, v10, v11, v12] H2) →
      t D [some (.ref s), some (.ref oa), some (.ref L), some (.ref NL), some BK, v5, v6, some (.ref N), v8, v9, v10, v11, v12] H1 := by
  refine ⟨_, ps_for PassesOwn.never rfl (pi_enum (by rfl) mE (pa_cons (pv 2) pa_nil)) (pg_tup rfl (pgs_cons (pg_name (i := 8) scSw.nd rfl (Or.inl rfl)) (pgs_cons (pg_name (i := 9) scSw.nd rfl (Or.inl rfl)) pgs_nil)))
    (C8.pss_cut (ps_set (i := 10) scSw.nd rfl (Or.inl rfl) (pe_tup (pa_cons (pe_ix ix_tup (pv 9) pe_int (fun _ _ => rfl)) (pa_cons (pe_ix ix_tup (pv 9) pe_int (fun _ _ => rfl)) (pa_cons (pe_op op_catA (pe_ix ix_tup (pv 9) pe_int (fun _ _ => rfl)) (pe_tup (pa_cons (pe_tup (pa_cons pe_str pa_nil)) pa_nil))) pa_nil)))))
    (pss_one (ps_expr (pe_bm PySem.F.plainAttrs_list PySem.F.slot_list_append PySem.F.type_list_append mt_append (pv 7) (pa_cons (pe_make Z.kM Z.GI hr rfl Z.X.mgC Z.bI .nil pass0 (pa_cons (pe_tup (pa_cons (pv 1) (pa_cons (pe_callTy call_tup (by rfl) mT boot_tuple
      (pa_cons (pe_op op_cat (pe_op op_cat (pe_slice sl_list (pv 2) po_none (po_some (pv 8))) (pe_lst (pa_cons (pv 10) pa_nil))) (pe_slice sl_list (pv 2) (po_some (pe_op op_add (pv 8) pe_int)) po_none)) pa_nil)) pa_nil))) pa_nil)) pa_nil))))), ?_⟩
  intro D s d oa L NL N BK own ps H0 H1 ys v5 v6 v8 v9 v10 v11 v12 hR hB nN s01 e1 l1 o1 k
  have one' : 1 ≤ sizeLine := by decide
  have two' : 2 ≤ sizeLine := by decide
  have three' : 3 ≤ sizeLine := by decide
  have hle := hR.le
  obtain ⟨vs, eL, tL⟩ := id hB.ro
  have vl := tL.len
  have app : ∀ {H' : Hp} {o : HO}, Same H0 H' → Same H0 (upd H' N o) := fun {H' o} s' b u e => by
    rw [upd_ne (ne_of_none e nN)]
    exact s' b u e
  refine ⟨_, rfl, L, vs, rfl, SqL.of (s01 _ _ eL), for_it (walk_enum (K := K) (a := L) (xs := vs)) (fun i σ H2 => ∃ (v8 v9 v10 : Option V) (ys : List V), σ = [some (.ref s), some (.ref oa), some (.ref L), some (.ref NL), some BK, v5, v6, some (.ref N), v8, v9, v10, v11, v12] ∧ Same H0 H2 ∧ H2 N = some (.lst ys) ∧ ys.length ≤ 6 + i ∧ ∀ y ∈ ys, Oth K C own ps H2 y)
      ⟨v8, v9, v10, ys, rfl, s01, e1, l1, o1⟩ (fun i σ H2 _ ⟨_, _, _, _, _, s2, _⟩ => SqL.of (s2 _ _ eL)) ?_ ?_⟩
  · rintro i y σ H2 H3 hi ⟨v8, v9, v10, ys, rfl, s2, e2, l2, o2⟩ ⟨T, xi, y', rfl, nT, rfl, q1, q2⟩
    obtain rfl : V.int (i : Nat) = xi := Option.some.inj q1
    have q2 : vs[i]? = some y' := q2
    have hi : i < vs.length := (List.getElem?_eq_some_iff.mp q2).1
    have sT := same_new (o := .tup [.int (i : Nat), y']) nT
    obtain ⟨p, hp, _⟩ := tL.get q2
    have hm := List.mem_of_getElem? hp
    refine ⟨T, _, rfl, SqT.of upd_same, rfl, _, _, rfl, _, _, rfl, rfl, ?_⟩
    have s3 := s2.trans sT
    have e3 := sT _ _ e2
    have o3 : ∀ y ∈ ys, Oth K C own ps (upd H2 T (.tup [.int (i : Nat), y'])) y := fun y hy => (o2 y hy).same sT
    generalize upd H2 T (.tup [.int (i : Nat), y']) = H3 at s3 e3 o3 ⊢
    clear sT e2 o2 nT
    have ty : TrAt K H3 y' p := by
      obtain ⟨t', q4, ty⟩ := (tL.same s3).get q2
      obtain rfl : p = t' := Option.some.inj (hp.symm.trans q4)
      exact ty
    have bl : ∀ {n : Str} {prm : Tr} {bts : List Tr}, p = .tup [.str n, prm, .tup bts] → bts.length ≤ 6 := fun {n prm bts} e => by
      obtain ⟨prm', blk, kd, m, e2, _, _, hblk, hm6⟩ := (hR.pc p hm).2.ex
      rw [e] at e2
      simp only [Tr.tup.injEq, List.cons.injEq, and_true] at e2
      rw [e2.2.2]
      exact Nat.le_trans (gb_len hblk.gb) hm6
    obtain ⟨n, prm, bts, c, y2, y3, ep, rfl, hc, hn, t2, t3⟩ := first_of ty (hR.tri p hm)
    have bl := bl ep
    have ef : freshT p = .tup [.str n, prm, .tup (bts ++ [failS])] := by rw [ep]; rfl
    -- fresh
    refine ⟨fun σ H4 => ∃ fv : V, σ = [some (.ref s), some (.ref oa), some (.ref L), some (.ref NL), some BK, v5, v6, some (.ref N), some (.int (i : Nat)), some (.ref c), some fv, v11, v12] ∧ Same H3 H4 ∧ TrAt K H4 fv (freshT p), ?_, ?_⟩
    · refine ⟨_, rfl, c, _, 0, _, rfl, rfl, hc, rfl, _, rfl, c, _, 1, _, rfl, rfl, hc, rfl, _, rfl, c, _, 2, _, rfl, rfl, hc, rfl, one', fun r1 n1 => ⟨one', fun r2 n2 => ?_⟩⟩
      obtain ⟨z1, w1⟩ := new_tr (K := K) n1 (.cons (.str "fail" (by decide)) .nil)
      generalize upd H3 r1 (.tup [.str "fail"]) = F1 at z1 w1 n2 ⊢
      obtain ⟨z2, w2⟩ := new_tr n2 (.cons w1 .nil)
      have z12 := z1.trans z2
      generalize upd F1 r2 (.tup [.ref r1]) = F2 at z12 w2 ⊢
      refine cat_tr2 (t3.same z12) w2 (by omega) (by simp) fun r F3 z3 w3 => ⟨three', fun r3 n3 => ?_⟩
      have z13 := z12.trans z3
      obtain ⟨z4, w4⟩ := new_tr n3 (.cons (.str n hn) (.cons (t2.same z13) (.cons w3 .nil)))
      refine ⟨_, rfl, z13.trans z4, ?_⟩
      rw [ef]
      exact w4
    rintro σ H4 ⟨fv, rfl, s34, t4⟩
    have s4 := s3.trans s34
    have e4 := s34 _ _ e3
    have o4 : ∀ y ∈ ys, Oth K C own ps H4 y := fun y hy => (o3 y hy).same s34
    refine ⟨_, rfl, .inl ⟨rfl, _, SqL.of e4⟩, _, rfl, _, rfl, _, rfl, (i : Int), rfl, L, vs, rfl, SqL.of (s4 _ _ eL), fun q1 n1 => ?_⟩
    rw [cut_take (by omega)]
    have a1 := same_new (o := .lst (vs.take i)) n1
    have b1 : (upd H4 q1 (.lst (vs.take i))) q1 = some (.lst (vs.take i)) := upd_same
    generalize upd H4 q1 (.lst (vs.take i)) = G1 at a1 b1 ⊢
    refine ⟨_, rfl, one', fun q2 n2 => ?_⟩
    have a2 := same_new (o := .lst [fv]) n2
    have b2 : (upd G1 q2 (.lst [fv])) q2 = some (.lst [fv]) := upd_same
    have b1 := a2 _ _ b1
    generalize upd G1 q2 (.lst [fv]) = G2 at a2 b1 b2 ⊢
    refine ⟨q1, q2, _, _, rfl, rfl, b1, b2, Nat.le_of_lt (small1000 (by rw [List.length_take, List.length_singleton]; omega)), fun q3 n3 => ?_⟩
    have a3 := same_new (o := .lst (vs.take i ++ [fv])) n3
    have b3 : (upd G2 q3 (.lst (vs.take i ++ [fv]))) q3 = some (.lst (vs.take i ++ [fv])) := upd_same
    generalize upd G2 q3 (.lst (vs.take i ++ [fv])) = G3 at a3 b3 ⊢
    have a13 := (a1.trans a2).trans a3
    refine ⟨_, rfl, _, rfl, _, _, rfl, rfl, (i : Int) + 1, rfl, L, vs, rfl, SqL.of (a13 _ _ (s4 _ _ eL)), fun q4 n4 => ?_⟩
    rw [cut_drop (by omega)]
    have a4 := same_new (o := .lst (vs.drop (i + 1))) n4
    have b4 : (upd G3 q4 (.lst (vs.drop (i + 1)))) q4 = some (.lst (vs.drop (i + 1))) := upd_same
    have b3 := a4 _ _ b3
    generalize upd G3 q4 (.lst (vs.drop (i + 1))) = G4 at a4 b3 b4 ⊢
    refine ⟨q3, q4, _, _, rfl, rfl, b3, b4, Nat.le_of_lt (small1000 (by rw [List.length_append, List.length_take, List.length_singleton, List.length_drop]; omega)), fun q5 n5 => ?_⟩
    have a5 := same_new (o := .lst (vs.take i ++ [fv] ++ vs.drop (i + 1))) n5
    have b5 : (upd G4 q5 (.lst (vs.take i ++ [fv] ++ vs.drop (i + 1)))) q5 = some (.lst (vs.take i ++ [fv] ++ vs.drop (i + 1))) := upd_same
    generalize upd G4 q5 (.lst (vs.take i ++ [fv] ++ vs.drop (i + 1))) = G5 at a5 b5 ⊢
    have a15 := a13.trans (a4.trans a5)
    refine ⟨q5, _, rfl, SqL.of b5, fun q6 n6 => ⟨two', fun q7 n7 => ?_⟩⟩
    have a6 := same_new (o := .tup (vs.take i ++ [fv] ++ vs.drop (i + 1))) n6
    have a16 := a15.trans a6
    have tA := tL.same (s4.trans a16)
    have t6 : TrAt K (upd G5 q6 (.tup (vs.take i ++ [fv] ++ vs.drop (i + 1)))) (.ref q6) (.tup (ps.take i ++ [freshT p] ++ ps.drop (i + 1))) := .tup (SqT.of upd_same) (((TrAll.take6 i tA).app (.cons (t4.same a16) .nil)).app (TrAll.dropn (i + 1) tA))
    generalize upd G5 q6 (.tup (vs.take i ++ [fv] ++ vs.drop (i + 1))) = G6 at a6 a16 t6 n7 ⊢
    obtain ⟨a7, t7⟩ := new_tr n7 (.cons (own_tr (sqt_same (s4.trans a16) hB.ow) hR.ow) (.cons t6 .nil))
    generalize upd G6 q7 (.tup [.ref oa, .ref q6]) = G7 at a7 t7 ⊢
    have a17 := a16.trans a7
    obtain ⟨hmid, hne⟩ := hR.mid hp
    intro x dx hx hdx ne
    refine make_sh hx hdx ne t7 hmid fun d' H8 a8 hS => ⟨rfl, ?_⟩
    have a18 := a17.trans a8
    have e8 := a18 _ _ e4
    refine ⟨N, ys, .ref x, rfl, rfl, e8, small1000 (by omega), _, _, _, ys ++ [.ref x], rfl, app (s4.trans a18), upd_same, by rw [List.length_append, List.length_singleton]; omega, fun y hy => ?_⟩
    rcases List.mem_append.mp hy with hy | hy
    · exact ((o4 y hy).same a18).updL e8
    · rw [List.mem_singleton.mp hy]
      exact ⟨x, d', own, _, rfl, hS.updL e8, hmid, .inr hne⟩
  · rintro σ H2 ⟨v8, v9, v10, ys, rfl, s2, e2, l2, o2⟩
    exact k ys H2 v8 v9 v10 s2 e2 (by omega) o2
end
end BK

set_option Elab.async false
set_option maxRecDepth 100000
set_option maxHeartbeats 4000000
set_option linter.unusedVariables false
/-! _law_shown: other variables, the pieces the other way round -/
namespace BK
open PySem PySem.Spec PyProof.Rows L2 SW RZ ET
section
variable {P : Program} {w : World} {K : PySem.W.Frag} {mg : Str → Option Value} {base : Heap} {f : Addr} {cdv : Value} {A : Around} {outer : List Env} {s0 : Shared} {H : Hp} {E : XK}
variable {C fI fG fS fC fL fE fF fN fB : Addr} {fdI fdG fdS fdC fdL fdE fdF fdN fdB : FuncData}
theorem TrAll.rev {K : PySem.W.Frag} {H : Hp} : ∀ {vs : List V} {ts : List Tr}, TrAll K H vs ts → TrAll K H vs.reverse ts.reverse
  | _, _, .nil => .nil
  | _, _, .cons h k => by
    rw [List.reverse_cons, List.reverse_cons]
    exact (TrAll.rev k).app (.cons h .nil)
theorem sw7 (Z : ShZ P w K mg base C fI fG fS fC fL fE fF fN fB fdI fdG fdS fdC fdL fdE fdF fdN fdB) (hr : Room 19 (A.deeper (envOfC "_law_shown" (defScope sSw) s0.heap.objs.size f cdv)))
    (mT : mg "tuple" = none) (mL : mg "len" = none) :
    ∃ t, PS (XSw P w K mg base f cdv A outer s0 H E) (stAt sSw 7) t ∧
    ∀ {D} {s d oa L NL N : Addr} {BK : V} {own : List Str} {ps : List Tr} {H0 H1 : Hp} {ys : List V} {v5 v6 v8 v9 v10 v11 v12 : Option V}, LawR own ps → SwB K C H0 s d oa L own ps NL BK → H0 N = none → Same H0 H1 → H1 N = some (.lst ys) → ys.length ≤ 12 → (∀ y ∈ ys, Oth K C own ps H1 y) →
      (∀ (ys : List V) H2, Same H0 H2 → H2 N = some (.lst ys) → ys.length ≤ 13 → (∀ y ∈ ys, Oth K C own ps H2 y) → D.nx [some (.ref s), some (.ref oa), some (.ref L), some (.ref NL), some BK, v5, v6, some (.ref N), v8, v9, v10, v11, v12] H2) →
      t D [some (.ref s), some (.ref oa), some (.ref L), some (.ref NL), some BK, v5, v6, some (.ref N), v8, v9, v10, v11, v12] H1 := by
  refine ⟨_, ps_expr (pe_bm PySem.F.plainAttrs_list PySem.F.slot_list_append PySem.F.type_list_append mt_append (pv 7) (pa_cons (pe_make Z.kM Z.GI hr rfl Z.X.mgC Z.bI .nil pass0 (pa_cons (pe_tup (pa_cons
      (pe_ifExp (pt_cmpR op_gt (pe_callB call_len_seq (by rfl) mL boot_len (pa_cons (pv 1) pa_nil)) pe_int (nomark _)) (pe_rev rev_tup (pv 1) (pe_un un_neg pe_int)) (pe_op op_catA (pv 1) (pe_tup (pa_cons pe_str pa_nil))))
      (pa_cons (pe_callTy call_tup (by rfl) mT boot_tuple (pa_cons (pv 2) pa_nil)) pa_nil))) pa_nil)) pa_nil)), ?_⟩
  intro D s d oa L NL N BK own ps H0 H1 ys v5 v6 v8 v9 v10 v11 v12 hR hB nN s01 e1 l1 o1 k
  have one' : 1 ≤ sizeLine := by decide
  have two' : 2 ≤ sizeLine := by decide
  have hle := hR.le
  obtain ⟨vs, eL, tL⟩ := id hB.ro
  obtain ⟨hob, hon⟩ := hR.other
  have app : ∀ {H' : Hp} {o : HO}, Same H0 H' → Same H0 (upd H' N o) := fun {H' o} s' b u e => by
    rw [upd_ne (ne_of_none e nN)]
    exact s' b u e
  have hO := sqt_same s01 hB.ow
  have ol1 := hR.ow.l1
  have ol2 := hR.ow.l2
  refine ⟨_, rfl, .inl ⟨rfl, _, SqL.of e1⟩, _, rfl, oa, _, rfl, .inr hO, _, _, rfl, rfl, _, rfl, ?_⟩
  rw [List.length_map]
  refine ite2 (fun h => ?_) (fun h => ?_)
  · have h : (1 : Int) < (own.length : Int) := of_decide_eq_true h
    have eR : ownR own = own.reverse := if_pos (by omega)
    refine ⟨_, rfl, _, rfl, rfl, oa, _, rfl, hO, fun p np => ?_⟩
    · have c2 := same_new (o := .tup (own.map V.str).reverse) np
      have t2 : TrAt K (upd H1 p (.tup (own.map V.str).reverse)) (.ref p) (.tup ((ownR own).map Tr.str)) := by
        rw [eR, ← List.map_reverse]
        exact .tup (SqT.of upd_same) (strs_tr fun z hz => name_line (hR.ow.nm z (List.mem_reverse.mp hz)))
      generalize upd H1 p (.tup (own.map V.str).reverse) = F2 at c2 t2 ⊢
      have t2 := t2
      refine ⟨_, rfl, L, vs, rfl, SqL.of ((s01.trans c2) _ _ eL), fun q4 n4 => ⟨two', fun q5 n5 => ?_⟩⟩
      have a6 := same_new (o := .tup vs) n4
      have c6 := c2.trans a6
      have t6 : TrAt K (upd F2 q4 (.tup vs)) (.ref q4) (.tup ps) := .tup (SqT.of upd_same) (tL.same (s01.trans c6))
      have t26 := t2.same a6
      generalize upd F2 q4 (.tup vs) = F3 at c6 t6 t26 n5 ⊢
      obtain ⟨a7, t7⟩ := new_tr n5 (.cons t26 (.cons t6 .nil))
      generalize hF4 : upd F3 q5 (.tup _) = F4 at a7 t7 ⊢
      have c7 := c6.trans a7
      intro x dx hx hdx ne
      refine make_sh hx hdx ne t7 hob fun d' H8 a8 hS => ⟨rfl, ?_⟩
      have c8 := c7.trans a8
      have e8 := c8 _ _ e1
      refine ⟨N, ys, .ref x, rfl, rfl, e8, small1000 (by omega), k (ys ++ [.ref x]) _ (app (s01.trans c8)) upd_same (by rw [List.length_append, List.length_singleton]; omega) fun y hy => ?_⟩
      rcases List.mem_append.mp hy with hy | hy
      · exact ((o1 y hy).same c8).updL e8
      · rw [List.mem_singleton.mp hy]
        exact ⟨x, d', ownR own, _, rfl, hS.updL e8, hob, .inl hon⟩
  · have h : ¬ (1 : Int) < (own.length : Int) := fun e => h (decide_eq_true e)
    have eR : ownR own = own ++ [("zq" : Str)] := if_neg (by omega)
    refine ⟨_, rfl, one', fun p np => ?_⟩
    · obtain ⟨z1, w1⟩ := new_tr (K := K) np (.cons (.str "zq" (by decide)) .nil)
      generalize upd H1 p (.tup [.str "zq"]) = F1 at z1 w1 ⊢
      refine cat_tr2 ((own_tr hO hR.ow).same z1) w1 (by rw [List.length_map]; omega) (by simp) fun r F2 z2 t2 => ?_
      have c2 := z1.trans z2
      have t2 : TrAt K F2 r (.tup ((ownR own).map Tr.str)) := by
        rw [eR, List.map_append]
        exact t2
      have t2 := t2
      refine ⟨_, rfl, L, vs, rfl, SqL.of ((s01.trans c2) _ _ eL), fun q4 n4 => ⟨two', fun q5 n5 => ?_⟩⟩
      have a6 := same_new (o := .tup vs) n4
      have c6 := c2.trans a6
      have t6 : TrAt K (upd F2 q4 (.tup vs)) (.ref q4) (.tup ps) := .tup (SqT.of upd_same) (tL.same (s01.trans c6))
      have t26 := t2.same a6
      generalize upd F2 q4 (.tup vs) = F3 at c6 t6 t26 n5 ⊢
      obtain ⟨a7, t7⟩ := new_tr n5 (.cons t26 (.cons t6 .nil))
      generalize hF4 : upd F3 q5 (.tup _) = F4 at a7 t7 ⊢
      have c7 := c6.trans a7
      intro x dx hx hdx ne
      refine make_sh hx hdx ne t7 hob fun d' H8 a8 hS => ⟨rfl, ?_⟩
      have c8 := c7.trans a8
      have e8 := c8 _ _ e1
      refine ⟨N, ys, .ref x, rfl, rfl, e8, small1000 (by omega), k (ys ++ [.ref x]) _ (app (s01.trans c8)) upd_same (by rw [List.length_append, List.length_singleton]; omega) fun y hy => ?_⟩
      rcases List.mem_append.mp hy with hy | hy
      · exact ((o1 y hy).same c8).updL e8
      · rw [List.mem_singleton.mp hy]
        exact ⟨x, d', ownR own, _, rfl, hS.updL e8, hob, .inl hon⟩
theorem sw8 (Z : ShZ P w K mg base C fI fG fS fC fL fE fF fN fB fdI fdG fdS fdC fdL fdE fdF fdN fdB) (hr : Room 19 (A.deeper (envOfC "_law_shown" (defScope sSw) s0.heap.objs.size f cdv)))
    (mT : mg "tuple" = none) (mL : mg "len" = none) :
    ∃ t, PS (XSw P w K mg base f cdv A outer s0 H E) (stAt sSw 8) t ∧
    ∀ {D} {s d oa L NL N : Addr} {BK : V} {own : List Str} {ps : List Tr} {H0 H1 : Hp} {ys : List V} {v5 v6 v8 v9 v10 v11 v12 : Option V}, LawR own ps → SwB K C H0 s d oa L own ps NL BK → H0 N = none → Same H0 H1 → H1 N = some (.lst ys) → ys.length ≤ 13 → (∀ y ∈ ys, Oth K C own ps H1 y) →
      (∀ (ys : List V) H2, Same H0 H2 → H2 N = some (.lst ys) → ys.length ≤ 14 → (∀ y ∈ ys, Oth K C own ps H2 y) → D.nx [some (.ref s), some (.ref oa), some (.ref L), some (.ref NL), some BK, v5, v6, some (.ref N), v8, v9, v10, v11, v12] H2) →
      t D [some (.ref s), some (.ref oa), some (.ref L), some (.ref NL), some BK, v5, v6, some (.ref N), v8, v9, v10, v11, v12] H1 := by
  refine ⟨_, ps_if (pt_cmpR op_gt (pe_callB call_len_seq (by rfl) mL boot_len (pa_cons (pv 2) pa_nil)) pe_int (nomark _)) (pss_one (ps_expr (pe_bm PySem.F.plainAttrs_list PySem.F.slot_list_append PySem.F.type_list_append mt_append (pv 7) (pa_cons (pe_make Z.kM Z.GI hr rfl Z.X.mgC Z.bI .nil pass0 (pa_cons (pe_tup (pa_cons (pv 1)
      (pa_cons (pe_callTy call_tup (by rfl) mT boot_tuple (pa_cons (pe_rev rev_list (pv 2) (pe_un un_neg pe_int)) pa_nil)) pa_nil))) pa_nil)) pa_nil)))) pss_nil, ?_⟩
  intro D s d oa L NL N BK own ps H0 H1 ys v5 v6 v8 v9 v10 v11 v12 hR hB nN s01 e1 l1 o1 k
  have two' : 2 ≤ sizeLine := by decide
  have hle := hR.le
  obtain ⟨vs, eL, tL⟩ := id hB.ro
  have vl := tL.len
  have app : ∀ {H' : Hp} {o : HO}, Same H0 H' → Same H0 (upd H' N o) := fun {H' o} s' b u e => by
    rw [upd_ne (ne_of_none e nN)]
    exact s' b u e
  have hO := sqt_same s01 hB.ow
  refine ⟨_, rfl, L, vs, rfl, .inl (SqL.of (s01 _ _ eL)), _, _, rfl, rfl, _, rfl, ?_⟩
  refine ite2 (fun h => ?_) (fun _ => k ys H1 s01 e1 (by omega) o1)
  have h : (1 : Int) < (vs.length : Int) := of_decide_eq_true h
  obtain ⟨hob, hon⟩ := hR.back (by omega)
  refine ⟨_, rfl, .inl ⟨rfl, _, SqL.of e1⟩, _, rfl, _, rfl, _, rfl, rfl, L, vs, rfl, SqL.of (s01 _ _ eL), fun q1 n1 => ?_⟩
  have a1 := same_new (o := .lst vs.reverse) n1
  have b1 : (upd H1 q1 (.lst vs.reverse)) q1 = some (.lst vs.reverse) := upd_same
  generalize upd H1 q1 (.lst vs.reverse) = F1 at a1 b1 ⊢
  refine ⟨q1, _, rfl, SqL.of b1, fun q4 n4 => ⟨two', fun q5 n5 => ?_⟩⟩
  have a6 := same_new (o := .tup vs.reverse) n4
  have c6 := a1.trans a6
  have t6 : TrAt K (upd F1 q4 (.tup vs.reverse)) (.ref q4) (.tup ps.reverse) := .tup (SqT.of upd_same) (tL.same (s01.trans c6)).rev
  generalize upd F1 q4 (.tup vs.reverse) = F3 at c6 t6 n5 ⊢
  obtain ⟨a7, t7⟩ := new_tr n5 (.cons (own_tr (sqt_same c6 hO) hR.ow) (.cons t6 .nil))
  generalize upd F3 q5 (.tup [.ref oa, .ref q4]) = F4 at a7 t7 ⊢
  have c7 := c6.trans a7
  intro x dx hx hdx ne
  refine make_sh hx hdx ne t7 hob fun d' H8 a8 hS => ⟨rfl, ?_⟩
  have c8 := c7.trans a8
  have e8 := c8 _ _ e1
  refine ⟨N, ys, .ref x, rfl, rfl, e8, small1000 (by omega), k (ys ++ [.ref x]) _ (app (s01.trans c8)) upd_same (by rw [List.length_append, List.length_singleton]; omega) fun y hy => ?_⟩
  rcases List.mem_append.mp hy with hy | hy
  · exact ((o1 y hy).same c8).updL e8
  · rw [List.mem_singleton.mp hy]
    exact ⟨x, d', own, _, rfl, hS.updL e8, hob, .inr hon⟩
end
end BK

set_option Elab.async false
set_option maxRecDepth 100000
set_option maxHeartbeats 4000000
set_option linter.unusedVariables false
/-! _law_shown: none of the others is this shelf; a shelf of its book is -/
namespace BK
open PySem PySem.Spec PyProof.Rows L2 SW RZ ET
section
variable {P : Program} {w : World} {K : PySem.W.Frag} {mg : Str → Option Value} {base : Heap} {f : Addr} {cdv : Value} {A : Around} {outer : List Env} {s0 : Shared} {H : Hp} {E : XK}
variable {C fI fG fS fC fL fE fF fN fB : Addr} {fdI fdG fdS fdC fdL fdE fdF fdN fdB : FuncData}
/-- what is another shelf, or none -/
def UnE (K : PySem.W.Frag) (C : Addr) (own : List Str) (ps : List Tr) (H : Hp) (y : V) : Prop := Oth K C own ps H y ∨ ∃ t, TyX K H y t ∧ PySem.W.kitOne K t (.ref C) = some false ∧ PySem.W.notFirst K C t = true
theorem sp_un (Z : ShZ P w K mg base C fI fG fS fC fL fE fF fN fB fdI fdG fdS fdC fdL fdE fdF fdN fdB) {s d : Addr} {H : Hp} {own : List Str} {ps : List Tr} {y : V} {Q : VK} (hS : ShAt K C H s d (bookT (own.map Tr.str) ps)) (hB : BkR (own.map Tr.str) ps) (h : UnE K C own ps H y) (q : Q (.bl false) H) : rOwnCmp K C (spSE K C) E0 id (.ref s) y H Q := by
  obtain ⟨dx, v, ob, tv⟩ := hS.ob
  rcases h with ⟨x, d', us, qs, rfl, hX, hB', ne⟩ | ⟨t, ty, k1, k2⟩
  · obtain ⟨dx', v', ob', tv'⟩ := hX.ob
    refine ⟨s, dx, _, .ref C, rfl, ob, Z.tyC H x dx' _ ob', Z.fC0, s, d, .ref x, _, rfl, hS, hB.repr, .inl ⟨x, d', _, rfl, hX, hB'.repr, _, rfl, ?_⟩⟩
    rw [book_ne hB hB' ne]
    exact q
  · exact ⟨s, dx, _, t, rfl, ob, ty, k2, s, d, y, _, rfl, hS, hB.repr, .inr ⟨t, ty, k1, false, rfl, q⟩⟩
theorem sp_eq (Z : ShZ P w K mg base C fI fG fS fC fL fE fF fN fB fdI fdG fdS fdC fdL fdE fdF fdN fdB) {s d s' d' : Addr} {H : Hp} {us ps : List Tr} {Q : VK} (hS : ShAt K C H s d (bookT us ps)) (hX : ShAt K C H s' d' (bookT us ps)) (hB : BkR us ps) (q : Q (.bl true) H) : rOwnCmp K C (spSE K C) E0 id (.ref s) (.ref s') H Q := by
  obtain ⟨dx, v, ob, tv⟩ := hS.ob
  obtain ⟨dx', v', ob', tv'⟩ := hX.ob
  refine ⟨s, dx, _, .ref C, rfl, ob, Z.tyC H s' dx' _ ob', Z.fC0, s, d, .ref s', _, rfl, hS, hB.repr, .inl ⟨s', d', _, rfl, hX, hB.repr, _, rfl, ?_⟩⟩
  rw [eqv_self hB.repr.da]
  exact q
theorem sw9 (Z : ShZ P w K mg base C fI fG fS fC fL fE fF fN fB fdI fdG fdS fdC fdL fdE fdF fdN fdB) (hr : Room 19 (A.deeper (envOfC "_law_shown" (defScope sSw) s0.heap.objs.size f cdv))) :
    ∃ t, PS (XSw P w K mg base f cdv A outer s0 H E) (stAt sSw 9) t ∧
    ∀ {D} {s d oa L NL N : Addr} {BK : V} {own : List Str} {ps : List Tr} {H1 : Hp} {ys : List V} {v5 v6 v8 v9 v10 v11 v12 : Option V}, LawR own ps → SwB K C H1 s d oa L own ps NL BK → H1 N = some (.lst ys) → ys.length ≤ 14 → (∀ y ∈ ys, Oth K C own ps H1 y) →
      (∀ H2, Same H1 H2 → D.nx [some (.ref s), some (.ref oa), some (.ref L), some (.ref NL), some BK, v5, v6, some (.ref N), v8, v9, v10, v11, v12] H2) →
      t D [some (.ref s), some (.ref oa), some (.ref L), some (.ref NL), some BK, v5, v6, some (.ref N), v8, v9, v10, v11, v12] H1 := by
  have hr1 : Room 1 _ := hr.mono (by decide)
  refine ⟨_, ps_if (pt_cmpR (op_neD hr.units) (pe_lc (own := [("one", 12)]) (g := gName 12) (te := tVar 12) rfl scSw.nd
        (pi_list (pe_op op_cat (pv 7) (pe_lst (pa_cons pe_non (pa_cons (pv 4) (pa_cons (pv 3) (pa_cons (pe_tup pa_nil) pa_nil)))))))
        (blkOk_by (N := nSw) (sc := defScope sSw) (by decide +kernel)) (fun _ _ _ _ _ => pg_name (i := 12) scSw.nd rfl (Or.inl rfl))
        (fun _ _ _ _ _ => pts_one (pt_cmpR (r := rOwnCmp K C (spSE K C) E0 id) (by exact op_eq_own Z.hE Z.iE Z.GE hr1 Z.bE pass0) (pv 0) (pv 12) (nomark _))) (fun _ _ _ _ _ => pv 12)) (pe_lst pa_nil) (nomark _)) (pss_one (ps_ret pe_bl)) pss_nil, ?_⟩
  intro D s d oa L NL N BK own ps H1 ys v5 v6 v8 v9 v10 v11 v12 hR hB eN lN oN k
  have hbk := hR.bk
  refine ⟨_, rfl, _, rfl, _, rfl, Nat.zero_le _, fun q1 n1 => ⟨(show 4 ≤ sizeLine by decide), fun l nl => ?_⟩⟩
  have s1 := same_new (o := .tup []) n1
  have e1 : (upd H1 q1 (.tup [])) q1 = some (.tup []) := upd_same
  generalize upd H1 q1 (.tup []) = F1 at s1 e1 nl ⊢
  have s2 := same_new (o := .lst [.non, BK, .ref NL, .ref q1]) nl
  have el : (upd F1 l (.lst [.non, BK, .ref NL, .ref q1])) l = some (.lst [.non, BK, .ref NL, .ref q1]) := upd_same
  have e1 := s2 _ _ e1
  have s12 := s1.trans s2
  generalize upd F1 l (.lst [.non, BK, .ref NL, .ref q1]) = F2 at s12 e1 el ⊢
  refine ⟨N, l, ys, _, rfl, rfl, s12 _ _ eN, el, Nat.le_of_lt (small1000 (by simp only [List.length_cons, List.length_nil]; omega)), fun q3 n3 => ?_⟩
  have s3 := same_new (o := .lst (ys ++ [.non, BK, .ref NL, .ref q1])) n3
  have e3 : (upd F2 q3 (.lst (ys ++ [.non, BK, .ref NL, .ref q1]))) q3 = some (.lst (ys ++ [.non, BK, .ref NL, .ref q1])) := upd_same
  have e1 := s3 _ _ e1
  have s13 := s12.trans s3
  generalize upd F2 q3 (.lst (ys ++ [.non, BK, .ref NL, .ref q1])) = F3 at s13 e1 e3 ⊢
  have hB3 := hB.same s13
  have all : ∀ {H' : Hp}, Same F3 H' → ∀ y ∈ ys ++ [V.non, BK, .ref NL, .ref q1], UnE K C own ps H' y := fun {H'} sm y hy => by
    rcases List.mem_append.mp hy with hy | hy
    · exact .inl ((oN y hy).same (s13.trans sm))
    simp only [List.mem_cons, List.not_mem_nil, or_false] at hy
    rcases hy with rfl | rfl | rfl | rfl
    · exact .inr ⟨_, (TrAt.non (K := K) (H := H')).ty, Z.kN, Z.fN0⟩
    · exact .inr ⟨_, (hB3.bk.same sm).ty, Z.kT, Z.fT0⟩
    · exact .inr ⟨.type "list", sql_ty (SqL.of (sm _ _ hB3.nm)), Z.kL, Z.fL0⟩
    · exact .inr ⟨_, (TrAt.tup (SqT.of (sm _ _ e1)) .nil).ty, Z.kT, Z.fT0⟩
  refine ⟨q3, rfl, ⟨_, SqL.of e3⟩, fun M nM => ?_⟩
  refine lc_it (walk_list (K := K) (a := q3) (xs := ys ++ [.non, BK, .ref NL, .ref q1])) (fun i H2 => Same F3 H2 ∧ H2 M = some (.lst [])) ⟨same_new nM, upd_same⟩ (fun i H2 _ ⟨s2, _⟩ => SqL.of (s2 _ _ e3)) ?_ ?_
  · rintro i y Hx H2 hi ⟨s2, eM⟩ ⟨rfl, hy⟩
    have hB4 := hB3.same s2
    refine ⟨rfl, ?_⟩
    refine ⟨_, rfl, _, rfl, sp_un Z hB4.sh hbk (all s2 y (List.mem_of_getElem? hy)) ?_⟩
    exact ⟨_, rfl, iteF ⟨s2, eM⟩⟩
  · rintro H2 ⟨s2, eM⟩
    refine ⟨Nat.zero_le _, fun q nq => ?_⟩
    have sq := same_new (o := .lst []) nq
    refine ⟨_, _, dp_nil (sq _ _ eM), dp_nil upd_same, by decide +kernel, by decide +kernel, _, rfl, ?_⟩
    refine ite2 (fun h => absurd h (by decide +kernel)) (fun _ => k _ ((s13.trans s2).trans sq))
theorem sw10 (Z : ShZ P w K mg base C fI fG fS fC fL fE fF fN fB fdI fdG fdS fdC fdL fdE fdF fdN fdB) (hr : Room 19 (A.deeper (envOfC "_law_shown" (defScope sSw) s0.heap.objs.size f cdv))) :
    ∃ t, PS (XSw P w K mg base f cdv A outer s0 H E) (stAt sSw 10) t ∧
    ∀ {D} {s d oa L NL : Addr} {BK : V} {own : List Str} {ps : List Tr} {H1 : Hp} {v5 v6 v7 v8 v9 v10 v11 v12 : Option V}, LawR own ps → SwB K C H1 s d oa L own ps NL BK →
      (∀ H2, Same H1 H2 → D.rt (.bl true) H2) →
      t D [some (.ref s), some (.ref oa), some (.ref L), some (.ref NL), some BK, v5, v6, v7, v8, v9, v10, v11, v12] H1 := by
  have hr1 : Room 1 _ := hr.mono (by decide)
  refine ⟨_, ps_ret (pe_and (pe_cmpR op_isBl (pe_cmpR (op_eq_own Z.hE Z.iE Z.GE hr1 Z.bE pass0) (pv 0) (pe_make Z.kM Z.GI hr rfl Z.X.mgC Z.bI .nil pass0 (pa_cons (pv 4) pa_nil)) (nomark _)) pe_bl rfl)
    (pe_one (pe_cmpR op_isBl (pe_cmpR (op_eq_own Z.hE Z.iE Z.GE hr1 Z.bE pass0) (pe_make Z.kM Z.GI hr rfl Z.X.mgC Z.bI .nil pass0 (pa_cons (pv 4) pa_nil)) (pv 0) (nomark _)) pe_bl rfl))), ?_⟩
  intro D s d oa L NL BK own ps H1 v5 v6 v7 v8 v9 v10 v11 v12 hR hB k
  have hbk := hR.bk
  refine ⟨_, rfl, _, rfl, ?_⟩
  intro x dx hx hdx ne
  refine make_sh hx hdx ne hB.bk hbk fun d' H2 s2 hS => ⟨rfl, ?_⟩
  have hB2 := hB.same s2
  refine sp_eq Z hB2.sh hS hbk ?_
  refine ⟨_, _, rfl, rfl, _, rfl, iteT ?_⟩
  refine ⟨_, rfl, ?_⟩
  intro x2 dx2 hx2 hdx2 ne2
  refine make_sh hx2 hdx2 ne2 hB2.bk hbk fun d3 H3 s3 hS3 => ⟨rfl, ?_⟩
  have hB3 := hB2.same s3
  refine ⟨_, rfl, sp_eq Z hS3 hB3.sh hbk ?_⟩
  exact ⟨_, _, rfl, rfl, k _ (s2.trans s3)⟩
end
end BK

set_option Elab.async false
set_option maxRecDepth 100000
set_option maxHeartbeats 4000000
set_option linter.unusedVariables false
/-! _law_shown -/
namespace BK
open PySem PySem.Spec PyProof.Rows L2 SW RZ ET
def spSw (K : PySem.W.Frag) (C : Addr) : Sp := fun vs H Q _ => ∃ (s d oa L : Addr) (own : List Str) (ps : List Tr), vs = [.ref s, .ref oa, .ref L] ∧ LawR own ps ∧ ShAt K C H s d (bookT (own.map Tr.str) ps) ∧ SqT K H oa (own.map V.str) ∧ LstAt K H L ps ∧ ∀ H', Same H H' → Q (.bl true) H'
section
variable {P : Program} {w : World} {K : PySem.W.Frag} {mg : Str → Option Value} {base : Heap}
variable {C fI fG fS fC fL fE fF fN fB : Addr} {fdI fdG fdS fdC fdL fdE fdF fdN fdB : FuncData}
theorem ok_shown {f : Addr} {oc kV doc pm ct cdv : Value} {od an : Option Addr} {osl : Array (Option Value)} (lk : K.lookup f = some ⟨oc, od, .func (PySem.W.fnOf "_law_shown" "_law_shown" (defArgs sSw) (defBody sSw) (defScope sSw) .none kV doc pm an cdv ct), osl⟩)
    (hcd : PySem.W.codeIn K cdv "_law_shown" = true) (Z : ShZ P w K mg base C fI fG fS fC fL fE fF fN fB fdI fdG fdS fdC fdL fdE fdF fdN fdB)
    (mT : mg "tuple" = none) (mR : mg "repr" = none) (mL : mg "len" = none) (mG : mg "range" = none) (mE : mg "enumerate" = none) :
    FnG P w K mg base 20 f (PySem.W.fnOf "_law_shown" "_law_shown" (defArgs sSw) (defBody sSw) (defScope sSw) .none kV doc pm an cdv ct) ["shelf", "own", "rows"] (spSw K C) := by
  refine fng_of lk hcd scSw (fun vs H Q E h => ?_) (fun A outer s0 H vs Q E gd hr h => ?_)
  · obtain ⟨s, d, oa, L, own, ps, rfl, _⟩ := h
    rfl
  · obtain ⟨s, d, oa, L, own, ps, rfl, hR, hS, hO, hL, k⟩ := h
    obtain ⟨t0, p0, r0⟩ := sw0 (P := P) (w := w) (K := K) (mg := mg) (base := base) (f := f) (cdv := cdv) (A := A) (outer := outer) (s0 := s0) (H := H) (E := E) mT
    obtain ⟨t1, p1, r1⟩ := sw1 (outer := outer) (H := H) (E := E) Z gd hr mT mR mL
    obtain ⟨t2, p2, r2⟩ := sw2 (outer := outer) (H := H) (E := E) Z gd hr mR
    obtain ⟨t3, p3, r3⟩ := sw3 (outer := outer) (H := H) (E := E) Z hr
    obtain ⟨t4, p4, r4⟩ := sw4 (outer := outer) (H := H) (E := E) Z hr
    obtain ⟨t5, p5, r5⟩ := sw5 (outer := outer) (H := H) (E := E) Z hr mT mG mL
    obtain ⟨t6, p6, r6⟩ := sw6 (outer := outer) (H := H) (E := E) Z hr mT mE
    obtain ⟨t7, p7, r7⟩ := sw7 (outer := outer) (H := H) (E := E) Z hr mT mL
    obtain ⟨t8, p8, r8⟩ := sw8 (outer := outer) (H := H) (E := E) Z hr mT mL
    obtain ⟨t9, p9, r9⟩ := sw9 (outer := outer) (H := H) (E := E) Z hr
    obtain ⟨t10, p10, r10⟩ := sw10 (outer := outer) (H := H) (E := E) Z hr
    refine ⟨_, C8.pss_cut p0 (C8.pss_cut p1 (C8.pss_cut p2 (C8.pss_cut p3 (C8.pss_cut p4 (C8.pss_cut p5 (C8.pss_cut p6 (C8.pss_cut p7 (C8.pss_cut p8 (C8.pss_cut p9 (pss_one p10)))))))))), ?_⟩
    refine ⟨fun σ H1 => ∃ (NL : Addr) (BK : V), σ = [some (.ref s), some (.ref oa), some (.ref L), some (.ref NL), some BK, none, none, none, none, none, none, none, none] ∧ Same H H1 ∧ SwB K C H1 s d oa L own ps NL BK, ?_, ?_⟩
    · exact r0 hR hS hO hL fun NL BK H2 s2 hB => ⟨NL, BK, rfl, s2, hB⟩
    rintro σ H1 ⟨NL, BK, rfl, s1, hB1⟩
    refine ⟨fun σ H2 => σ = [some (.ref s), some (.ref oa), some (.ref L), some (.ref NL), some BK, none, none, none, none, none, none, none, none] ∧ Same H1 H2, ?_, ?_⟩
    · exact r1 hR hB1 fun H2 s2 => ⟨rfl, s2⟩
    rintro σ H2 ⟨rfl, s2⟩
    have hB2 := hB1.same s2
    refine ⟨fun σ H3 => ∃ v5 v6, σ = [some (.ref s), some (.ref oa), some (.ref L), some (.ref NL), some BK, v5, v6, none, none, none, none, none, none] ∧ Same H2 H3, ?_, ?_⟩
    · exact r2 hR hB2 fun H3 v5 v6 s3 => ⟨v5, v6, rfl, s3⟩
    rintro σ H3 ⟨v5, v6, rfl, s3⟩
    have hB3 := hB2.same s3
    refine ⟨fun σ H4 => σ = [some (.ref s), some (.ref oa), some (.ref L), some (.ref NL), some BK, v5, v6, none, none, none, none, none, none] ∧ Same H3 H4, ?_, ?_⟩
    · exact r3 hR hB3 fun H4 s4 => ⟨rfl, s4⟩
    rintro σ H4 ⟨rfl, s4⟩
    have hB4 := hB3.same s4
    refine ⟨fun σ H5 => σ = [some (.ref s), some (.ref oa), some (.ref L), some (.ref NL), some BK, v5, v6, none, none, none, none, none, none] ∧ Same H4 H5, ?_, ?_⟩
    · exact r4 hR hB4 fun H5 s5 => ⟨rfl, s5⟩
    rintro σ H5 ⟨rfl, s5⟩
    have hB5 := hB4.same s5
    refine ⟨fun σ H6 => ∃ (N : Addr) (ys : List V), σ = [some (.ref s), some (.ref oa), some (.ref L), some (.ref NL), some BK, v5, v6, some (.ref N), none, none, none, none, none] ∧ H5 N = none ∧ Same H5 H6 ∧ H6 N = some (.lst ys) ∧ ys.length ≤ 6 ∧ ∀ y ∈ ys, Oth K C own ps H6 y, ?_, ?_⟩
    · exact r5 hR hB5 fun N ys H6 nN s6 eN lN oN => ⟨N, ys, rfl, nN, s6, eN, lN, oN⟩
    rintro σ H6 ⟨N, ys, rfl, nN, s6, eN, lN, oN⟩
    refine ⟨fun σ H7 => ∃ (ys : List V) (v8 v9 v10 : Option V), σ = [some (.ref s), some (.ref oa), some (.ref L), some (.ref NL), some BK, v5, v6, some (.ref N), v8, v9, v10, none, none] ∧ Same H5 H7 ∧ H7 N = some (.lst ys) ∧ ys.length ≤ 12 ∧ ∀ y ∈ ys, Oth K C own ps H7 y, ?_, ?_⟩
    · exact r6 hR hB5 nN s6 eN lN oN fun ys H7 v8 v9 v10 s7 e7 l7 o7 => ⟨ys, v8, v9, v10, rfl, s7, e7, l7, o7⟩
    clear eN lN oN s6
    rintro σ H7 ⟨ys, v8, v9, v10, rfl, s7, e7, l7, o7⟩
    refine ⟨fun σ H8 => ∃ (ys : List V), σ = [some (.ref s), some (.ref oa), some (.ref L), some (.ref NL), some BK, v5, v6, some (.ref N), v8, v9, v10, none, none] ∧ Same H5 H8 ∧ H8 N = some (.lst ys) ∧ ys.length ≤ 13 ∧ ∀ y ∈ ys, Oth K C own ps H8 y, ?_, ?_⟩
    · exact r7 hR hB5 nN s7 e7 l7 o7 fun ys H8 s8 e8 l8 o8 => ⟨ys, rfl, s8, e8, l8, o8⟩
    clear e7 l7 o7 s7
    rintro σ H8 ⟨ys, rfl, s8, e8, l8, o8⟩
    refine ⟨fun σ H9 => ∃ (ys : List V), σ = [some (.ref s), some (.ref oa), some (.ref L), some (.ref NL), some BK, v5, v6, some (.ref N), v8, v9, v10, none, none] ∧ Same H5 H9 ∧ H9 N = some (.lst ys) ∧ ys.length ≤ 14 ∧ ∀ y ∈ ys, Oth K C own ps H9 y, ?_, ?_⟩
    · exact r8 hR hB5 nN s8 e8 l8 o8 fun ys H9 s9 e9 l9 o9 => ⟨ys, rfl, s9, e9, l9, o9⟩
    clear e8 l8 o8 s8
    rintro σ H9 ⟨ys, rfl, s9, e9, l9, o9⟩
    have hB9 := hB5.same s9
    refine ⟨fun σ H10 => σ = [some (.ref s), some (.ref oa), some (.ref L), some (.ref NL), some BK, v5, v6, some (.ref N), v8, v9, v10, none, none] ∧ Same H9 H10, ?_, ?_⟩
    · exact r9 hR hB9 e9 l9 o9 fun H10 s10 => ⟨rfl, s10⟩
    rintro σ H10 ⟨rfl, s10⟩
    exact r10 hR (hB9.same s10) fun H11 s11 => k _ ((((((s1.trans s2).trans s3).trans s4).trans s5).trans s9).trans (s10.trans s11))
end
end BK

set_option Elab.async false
set_option maxRecDepth 100000
set_option maxHeartbeats 4000000
set_option linter.unusedVariables false
/-! _law_deeds_right: what stands while deeds are done -/
namespace BK
open PySem PySem.Spec PyProof.Rows L2 SW RZ ET
theorem _root_.SW.Rnd.butS {H H' : Hp} {a : RA} {n : Nat} {s : Addr} (R : Rnd H a n) (o : SW.Off a s) (b : ButS s H H') : Rnd H' a n := by
  obtain ⟨ns, ls, h1, h2, h3, r⟩ := R
  exact ⟨ns, ls, b _ _ h1 o.s.symm, b _ _ h2 o.c.symm, b _ _ h3 o.l.symm, r⟩
theorem ButS.free {s b : Addr} {H H' : Hp} (h : ButS s H H') (n : H' b = none) (ne : b ≠ s) : H b = none := by
  cases e : H b with
  | none => rfl
  | some o =>
    rw [h b o e ne] at n
    cases n
theorem Same.butS {s : Addr} {H H' : Hp} (h : Same H H') : ButS s H H' := fun b o e _ => h b o e
/-- the names that are drawn from -/
structure PoolG (pool : List Str) : Prop where
  nd : pool.Nodup
  mem : ∀ z ∈ pool, z ∈ poolS
  len : pool.length = 8
/-- the shelf, the other one, the lists -/
structure DdI (K : PySem.W.Frag) (C : Addr) (H : Hp) (a : RA) (n : Nat) (s d s2 d2 oa pl L B : Addr) (own pool : List Str) (ps rs qs bs : List Tr) : Prop where
  rnd : Rnd H a n
  sh : ShAt K C H s d (bookT (own.map Tr.str) ps)
  ot : ShAt K C H s2 d2 (bookT (own.map Tr.str) qs)
  ow : SqT K H oa (own.map V.str)
  po : H pl = some (.lst (pool.map V.str))
  ro : LstAt K H L rs
  be : LstAt K H B bs
  ne : s ≠ s2
  os : SW.Off a s
  od : SW.Off a d
  os2 : SW.Off a s2
  od2 : SW.Off a d2
  op : SW.Off a pl
  oL : SW.Off a L
  oB : SW.Off a B
section
variable {K : PySem.W.Frag} {C : Addr} {H H' : Hp} {a : RA} {n n' : Nat} {s d s2 d2 oa pl L B : Addr} {own pool : List Str} {ps rs qs bs : List Tr}
theorem ShAt.rnd {bk : Tr} (h : ShAt K C H s d bk) (o1 : SW.Off a s) (o2 : SW.Off a d) (R : Rnd H a n) (R' : Rnd H' a n') (b : But a H H') : ShAt K C H' s d bk := by
  obtain ⟨⟨dx, v, h1, h2⟩, h3⟩ := h
  exact ⟨⟨dx, v, b.at o1 h1, h2.rnd R R' b⟩, b.at o2 h3⟩
theorem LstAt.butS {ts : List Tr} {dx : Addr} {fs : List (Str × V)} (h : LstAt K H L ts) (ob : H s = some (.ins C dx fs)) (b : ButS s H H') : LstAt K H' L ts := by
  obtain ⟨vs, h1, h2⟩ := h
  exact ⟨vs, b _ _ h1 (ne_of h1 ob (by intro z; cases z)), h2.ins ob b⟩
theorem DdI.draw (h : DdI K C H a n s d s2 d2 oa pl L B own pool ps rs qs bs) (R' : Rnd H' a n') (b : But a H H') : DdI K C H' a n' s d s2 d2 oa pl L B own pool ps rs qs bs :=
  ⟨R', h.sh.rnd h.os h.od h.rnd R' b, h.ot.rnd h.os2 h.od2 h.rnd R' b, sqt_but h.rnd b h.ow, b.at h.op h.po, h.ro.rnd h.oL h.rnd R' b, h.be.rnd h.oB h.rnd R' b, h.ne, h.os, h.od, h.os2, h.od2, h.op, h.oL, h.oB⟩
theorem DdI.same (h : DdI K C H a n s d s2 d2 oa pl L B own pool ps rs qs bs) (e : Same H H') : DdI K C H' a n s d s2 d2 oa pl L B own pool ps rs qs bs :=
  ⟨h.rnd.same e, h.sh.same e, h.ot.same e, sqt_same e h.ow, e _ _ h.po, h.ro.same e, h.be.same e, h.ne, h.os, h.od, h.os2, h.od2, h.op, h.oL, h.oB⟩
theorem DdI.rows {L' : Addr} {rs' : List Tr} (h : DdI K C H a n s d s2 d2 oa pl L B own pool ps rs qs bs) (e : LstAt K H L' rs') (o : SW.Off a L') : DdI K C H a n s d s2 d2 oa pl L' B own pool ps rs' qs bs :=
  ⟨h.rnd, h.sh, h.ot, h.ow, h.po, e, h.be, h.ne, h.os, h.od, h.os2, h.od2, h.op, o, h.oB⟩
theorem DdI.besides {B' : Addr} {bs' : List Tr} (h : DdI K C H a n s d s2 d2 oa pl L B own pool ps rs qs bs) (e : LstAt K H B' bs') (o : SW.Off a B') : DdI K C H a n s d s2 d2 oa pl L B' own pool ps rs qs bs' :=
  ⟨h.rnd, h.sh, h.ot, h.ow, h.po, h.ro, e, h.ne, h.os, h.od, h.os2, h.od2, h.op, h.oL, o⟩
theorem DdI.swap (h : DdI K C H a n s d s2 d2 oa pl L B own pool ps rs qs bs) : DdI K C H a n s2 d2 s d oa pl L B own pool qs rs ps bs :=
  ⟨h.rnd, h.ot, h.sh, h.ow, h.po, h.ro, h.be, h.ne.symm, h.os2, h.od2, h.os, h.od, h.op, h.oL, h.oB⟩
/-- the shelf is changed -/
theorem DdI.butS {d' : Addr} {ps' : List Tr} (h : DdI K C H a n s d s2 d2 oa pl L B own pool ps rs qs bs) (b : ButS s H H') (hd : d' = d ∨ H d' = none) (hS : ShAt K C H' s d' (bookT (own.map Tr.str) ps')) : DdI K C H' a n s d' s2 d2 oa pl L B own pool ps' rs qs bs := by
  obtain ⟨dx, v, ob, tv⟩ := id h.sh.ob
  obtain ⟨⟨dx2, v2, ob2, tv2⟩, dc2⟩ := id h.ot
  refine ⟨h.rnd.butS h.os b, hS, ⟨⟨dx2, v2, b _ _ ob2 h.ne.symm, tv2.ins ob b⟩, b _ _ dc2 (ne_of dc2 ob (by intro z; cases z))⟩, sqt_ins ob b h.ow, b _ _ h.po (ne_of h.po ob (by intro z; cases z)), h.ro.butS ob b, h.be.butS ob b, h.ne, h.os, ?_, h.os2, h.od2, h.op, h.oL, h.oB⟩
  rcases hd with rfl | hd
  · exact h.od
  · exact h.rnd.off hd
end
/-! names and rows -/
theorem LawR.nil {own : List Str} (ow : OwnG own) (zq : ("zq" : Str) ∉ own) : LawR own [] := ⟨ow, zq, (fun p hp => nomatch hp), List.nodup_nil, Nat.zero_le _⟩
theorem LawR.one {own : List Str} {ps : List Tr} (h : LawR own ps) {p : Tr} (hp : p ∈ ps) : LawR own [p] := h.sub (List.singleton_sublist.mpr hp)
end BK

set_option Elab.async false
set_option maxRecDepth 100000
set_option maxHeartbeats 4000000
set_option linter.unusedVariables false
/-! _law_deeds_right: the rows, the shelves -/
namespace BK
open PySem PySem.Spec PyProof.Rows L2 SW RZ ET
abbrev sDd : Stmt := top 61
abbrev nDd : List Str := ["state", "own", "pool", "rows", "shelf", "other", "beside", "k", "way", "name", "elder", "there", "kept", "piece", "row"]
theorem scDd : FnScope nDd ["state", "own", "pool"] (defScope sDd) := ⟨rfl, rfl, rfl, by decide +kernel, rfl, by decide +kernel, by decide +kernel⟩
abbrev XDd (P : Program) (w : World) (K : PySem.W.Frag) (mg : Str → Option Value) (base : Heap) (f : Addr) (cdv : Value) (A : Around) (outer : List Env) (s : Shared) (H : Hp) (E : XK) : Cx := (cxOf CX0 P w K mg base nDd "_law_deeds_right" (defScope sDd) f cdv A outer s H E).nox
section
variable {P : Program} {w : World} {K : PySem.W.Frag} {mg : Str → Option Value} {base : Heap} {f : Addr} {cdv : Value} {A : Around} {outer : List Env} {s0 : Shared} {H : Hp} {E : XK}
variable {fP fD : Addr} {fdP fdD : FuncData}
theorem dd0 (hr : Room 20 (A.deeper (envOfC "_law_deeds_right" (defScope sDd) s0.heap.objs.size f cdv)))
    (GP : FnOk P w K mg base CX0 4 fP fdP ["state", "own", "name"] (spPc K)) (bP : Binds K fdP ["state", "own", "name"] []) (gP : mg "_law_piece" = some (.ref fP)) (kP : PySem.W.keepIn K (.ref fP) = true)
    (GD : FnOk P w K mg base CX0 2 fD fdD ["state", "many"] spDraw) (bD : Binds K fdD ["state", "many"] []) (gD : mg "_law_draw" = some (.ref fD)) (kD : PySem.W.keepIn K (.ref fD) = true) :
    ∃ t, PS (XDd P w K mg base f cdv A outer s0 H E) (stAt sDd 0) t ∧
    ∀ {D} {a : RA} {n : Nat} {oa pl : Addr} {own pool : List Str} {H1 : Hp}, Rnd H1 a n → n + 2000 ≤ 1000000 → SW.Off a pl → H1 pl = some (.lst (pool.map V.str)) → SqT K H1 oa (own.map V.str) → OwnG own → ("zq" : Str) ∉ own → PoolG pool →
      (∀ (L : Addr) (ps : List Tr) (n' : Nat) (H2 : Hp), LawR own ps → LstAt K H2 L ps → SW.Off a L → Rnd H2 a n' → n' ≤ n + 100 → But a H1 H2 → D.nx [some (.ref a.s), some (.ref oa), some (.ref pl), some (.ref L), none, none, none, none, none, none, none, none, none, none, none] H2) →
      t D [some (.ref a.s), some (.ref oa), some (.ref pl), none, none, none, none, none, none, none, none, none, none, none, none] H1 := by
  have hr2 : Room 2 _ := hr.mono (by decide)
  have hr4 : Room 4 _ := hr.mono (by decide)
  refine ⟨_, ps_setLc (i := 3) (own := [("name", 9)]) (g := gName 9) (tt := tYes) (te := tCall (spPc K) [] E0 (tCons (tVar 0) (tCons (tVar 1) (tCons (tVar 9) tNil)))) rfl scDd.nd rfl rfl (sw_true rfl rfl rfl rfl)
      (pi_list (pe_slice sl_list (pv 2) po_none (po_some (pe_call GD hr2 rfl gD kD bD .nil pass0 (pa_cons (pv 0) (pa_cons pe_int pa_nil)))))) (blkOk_by (N := nDd) (sc := defScope sDd) (by decide +kernel))
      (fun _ _ _ _ _ => pg_name (i := 9) scDd.nd rfl (Or.inl rfl)) (fun _ _ _ _ _ => pts_nil)
      (fun _ _ _ _ _ => by exact pe_call GP hr4 rfl gP kP bP .nil pass0 (pa_cons (pv 0) (pa_cons (pv 1) (pa_cons (pv 9) pa_nil)))), ?_⟩
  intro D a n oa pl own pool H1 R hn op po hO ow zq hp k
  refine ⟨_, rfl, _, rfl, a, n, 7, rfl, R, by omega, by decide, by decide, fun r H2 r0 rl R2 b2 => ?_⟩
  have po2 := b2.at op po
  have hO2 := sqt_but R b2 hO
  refine ⟨r, rfl, pl, _, rfl, SqL.of po2, fun q nq => ?_⟩
  have pll := hp.len
  obtain ⟨m, rfl⟩ : ∃ m : Nat, r = (m : Int) := ⟨r.toNat, by omega⟩
  rw [cut_take (by rw [List.length_map]; omega), ← List.map_take]
  have sq := same_new (o := .lst ((pool.take m).map V.str)) nq
  have eq : (upd H2 q (.lst ((pool.take m).map V.str))) q = some (.lst ((pool.take m).map V.str)) := upd_same
  have oq := R2.off nq
  have R3 := R2.same sq
  have b3 := b2.trans (Same.but sq)
  have hO3 := sqt_same sq hO2
  generalize upd H2 q (.lst ((pool.take m).map V.str)) = H3 at sq eq R3 b3 hO3 ⊢
  have ml : (pool.take m).length ≤ 6 := by rw [List.length_take]; omega
  have hmem : ∀ z ∈ pool.take m, z ∈ poolS := fun z hz => hp.mem z (List.mem_of_mem_take hz)
  have hnd : (pool.take m).Nodup := hp.nd.sublist (List.take_sublist _ _)
  generalize pool.take m = some_ at eq ml hmem hnd ⊢
  refine ⟨q, rfl, ⟨_, SqL.of eq⟩, fun N nN => ?_⟩
  have oN := R3.off nN
  refine lc_it (walk_list (K := K) (a := q) (xs := some_.map V.str)) (fun i H4 => ∃ (ps : List Tr) (n' : Nat), LstAt K H4 N ps ∧ ps.map wordS = some_.take i ∧ (∀ p ∈ ps, LawP own (wordS p) p 6) ∧ Rnd H4 a n' ∧ n' ≤ n + 1 + 10 * i ∧ But a H3 H4) ⟨[], n + 1, ⟨[], upd_same, .nil⟩, rfl, (fun p hp => nomatch hp), R3.same (same_new nN), by omega, Same.but (same_new nN)⟩
    (fun i H4 _ ⟨_, _, _, _, _, _, _, b4⟩ => SqL.of (b4.at oq eq)) ?_ ?_
  · rintro i y Hx H4 hi ⟨ps, n', ⟨us, eN, tN⟩, ew, hl, R4, hn4, b4⟩ ⟨rfl, hy⟩
    obtain ⟨z, hz, rfl⟩ : ∃ z, some_[i]? = some z ∧ y = V.str z := by
      rw [List.getElem?_map] at hy
      cases e : some_[i]? with
      | none => rw [e] at hy; cases hy
      | some z => rw [e] at hy; exact ⟨z, rfl, (Option.some.inj hy).symm⟩
    have il : i < some_.length := (List.getElem?_eq_some_iff.mp hz).1
    have et : some_.take (i + 1) = some_.take i ++ [z] := by rw [List.take_add_one, hz]; rfl
    have hzm := hmem z (List.mem_of_getElem? hz)
    have pl' : ps.length = i := by
      have := congrArg List.length ew
      rw [List.length_map, List.length_take] at this
      omega
    have ul := tN.len
    refine ⟨rfl, ?_⟩
    refine tyes ?_
    refine ⟨_, rfl, _, rfl, _, rfl, a, n', oa, own, z, rfl, R4, by omega, sqt_but R3 b4 hO3, ow, pool_name z hzm, fun v p n5 H5 hL hn5 R5 b5 tv => ?_⟩
    have e5 := b5.at oN eN
    have t5 := tN.rnd R4 R5 b5
    refine ⟨_, e5, small1000 (by omega), ps ++ [p], n5, ⟨us ++ [v], upd_same, (t5.updL e5).app (.cons (tv.updL e5) .nil)⟩, ?_, ?_, R5.upd oN, by omega, ?_⟩
    · rw [List.map_append, ew, et, List.map_cons, List.map_nil, hL.word]
    · intro u hu
      rcases List.mem_append.mp hu with hu | hu
      · exact hl u hu
      · rw [List.mem_singleton.mp hu]
        exact hL.own_word
    · exact fun b o e h1 h2 => by
        have nb : b ≠ N := ne_of_none e nN
        rw [upd_ne nb]
        exact (b4.trans b5) b o e h1 h2
  · rintro H4 ⟨ps, n', hL, ew, hl, R4, hn4, b4⟩
    rw [List.length_map, List.take_length] at ew
    have pl' : ps.length = some_.length := by rw [← ew, List.length_map]
    rw [List.length_map] at hn4
    refine k N ps n' H4 ⟨ow, zq, fun p hp => ⟨?_, hl p hp⟩, by rw [ew]; exact hnd, by omega⟩ hL oN R4 (by omega) (b3.trans b4)
    exact hmem _ (by rw [← ew]; exact List.mem_map.mpr ⟨p, hp, rfl⟩)
end
end BK

set_option Elab.async false
set_option maxRecDepth 100000
set_option maxHeartbeats 4000000
set_option linter.unusedVariables false
/-! _law_deeds_right: the shelves are made, shown -/
namespace BK
open PySem PySem.Spec PyProof.Rows L2 SW RZ ET
section
variable {P : Program} {w : World} {K : PySem.W.Frag} {mg : Str → Option Value} {base : Heap} {f : Addr} {cdv : Value} {A : Around} {outer : List Env} {s0 : Shared} {H : Hp} {E : XK}
variable {C fI fG fS fC fL fE fF fN fB : Addr} {fdI fdG fdS fdC fdL fdE fdF fdN fdB : FuncData}
theorem off_dc {a : RA} {n : Nat} {d : Addr} {H : Hp} (R : Rnd H a n) (h : H d = some (.dK [])) : SW.Off a d := by
  obtain ⟨ns, ls, h1, h2, h3, _⟩ := R
  exact ⟨ne_of h h1 (fun z => by unfold rk at z; cases z), ne_of h h3 (fun z => nomatch z), ne_of h h2 (fun z => nomatch z)⟩
theorem dd1 (Z : ShZ P w K mg base C fI fG fS fC fL fE fF fN fB fdI fdG fdS fdC fdL fdE fdF fdN fdB) (hr : Room 20 (A.deeper (envOfC "_law_deeds_right" (defScope sDd) s0.heap.objs.size f cdv))) (mT : mg "tuple" = none) :
    ∃ t, PS (XDd P w K mg base f cdv A outer s0 H E) (stAt sDd 1) t ∧
    ∀ {D} {a : RA} {n : Nat} {oa pl L : Addr} {own pool : List Str} {ps : List Tr} {H1 : Hp}, Rnd H1 a n → SW.Off a pl → H1 pl = some (.lst (pool.map V.str)) → SqT K H1 oa (own.map V.str) → ("zq" : Str) ∉ own → LawR own ps → LstAt K H1 L ps → SW.Off a L →
      (∀ (s d s2 d2 B : Addr) (H2 : Hp), DdI K C H2 a n s d s2 d2 oa pl L B own pool ps ps [] [] → D.nx [some (.ref a.s), some (.ref oa), some (.ref pl), some (.ref L), some (.ref s), some (.ref s2), some (.ref B), none, none, none, none, none, none, none, none] H2) →
      t D [some (.ref a.s), some (.ref oa), some (.ref pl), some (.ref L), none, none, none, none, none, none, none, none, none, none, none] H1 := by
  have hr19 : Room 19 _ := hr.mono (by decide)
  refine ⟨_, ps_par3 (i := 4) (j := 5) (l := 6) rfl scDd.nd rfl rfl rfl (by decide) (by decide) (by decide) rfl rfl rfl
    (pa_cons (pe_make Z.kM Z.GI hr19 rfl Z.X.mgC Z.bI .nil pass0 (pa_cons (pe_tup (pa_cons (pv 1) (pa_cons (pe_callTy call_tup (by rfl) mT boot_tuple (pa_cons (pv 3) pa_nil)) pa_nil))) pa_nil))
    (pa_cons (pe_make Z.kM Z.GI hr19 rfl Z.X.mgC Z.bI .nil pass0 (pa_cons (pe_tup (pa_cons (pv 1) (pa_cons (pe_tup pa_nil) pa_nil))) pa_nil))
    (pa_cons (pe_lst pa_nil) pa_nil))) (by rfl), ?_⟩
  intro D a n oa pl L own pool ps H1 R op po hO zq hR hL oL k
  have two' : 2 ≤ sizeLine := by decide
  obtain ⟨vs, eL, tL⟩ := id hL
  have hnil : LawR own [] := LawR.nil hR.ow zq
  refine ⟨_, rfl, _, rfl, L, vs, rfl, SqL.of eL, fun q4 n4 => ⟨two', fun q5 n5 => ?_⟩⟩
  have a6 := same_new (o := .tup vs) n4
  have t6 : TrAt K (upd H1 q4 (.tup vs)) (.ref q4) (.tup ps) := .tup (SqT.of upd_same) (tL.same a6)
  generalize upd H1 q4 (.tup vs) = F1 at a6 t6 n5 ⊢
  obtain ⟨a7, t7⟩ := new_tr n5 (.cons (own_tr (sqt_same a6 hO) hR.ow) (.cons t6 .nil))
  generalize upd F1 q5 (.tup [.ref oa, .ref q4]) = F2 at a7 t7 ⊢
  have c7 := a6.trans a7
  intro x dx hx hdx ne
  refine make_sh hx hdx ne t7 hR.bk fun d H8 a8 hS => ⟨rfl, ?_⟩
  have c8 := c7.trans a8
  have ox := (R.same c7).off hx
  have hd : ∃ o, H8 d = some o := ⟨_, hS.dc⟩
  refine ⟨_, rfl, Nat.zero_le _, fun q6 n6 => ⟨two', fun q7 n7 => ?_⟩⟩
  obtain ⟨a9, t9⟩ := new_tr (K := K) n6 .nil
  generalize upd H8 q6 (.tup []) = F3 at a9 t9 n7 ⊢
  have c9 := c8.trans a9
  obtain ⟨a10, t10⟩ := new_tr n7 (.cons (own_tr (sqt_same c9 hO) hR.ow) (.cons t9 .nil))
  generalize upd F3 q7 (.tup [.ref oa, .ref q6]) = F4 at a10 t10 ⊢
  have c10 := c9.trans a10
  have s10 := a9.trans a10
  have hS10 := hS.same s10
  intro x2 dx2 hx2 hdx2 ne2
  refine make_sh hx2 hdx2 ne2 t10 hnil.bk fun d2 H11 a11 hS2 => ⟨rfl, ?_⟩
  have c11 := c10.trans a11
  have ox2 := (R.same c10).off hx2
  refine ⟨Nat.zero_le _, fun B nB => ?_⟩
  have sB := same_new (o := .lst []) nB
  have c12 := c11.trans sB
  have oB := (R.same c11).off nB
  refine ⟨_, _, _, rfl, ?_⟩
  refine k x d x2 d2 B _ ⟨R.same c12, (hS10.same a11).same sB, hS2.same sB, sqt_same c12 hO, c12 _ _ po, ⟨vs, c12 _ _ eL, tL.same c12⟩, ⟨[], upd_same, .nil⟩, ?_, ox, ?_, ox2, ?_, op, oL, oB⟩
  · obtain ⟨dx', v', ob', _⟩ := hS10.ob
    exact ne_of_none ob' hx2
  · exact off_dc (R.same c10) hS10.dc
  · exact off_dc (R.same c11) hS2.dc
theorem sp_shown {a : RA} {n : Nat} {s d s2 d2 oa pl L B : Addr} {own pool : List Str} {ps qs bs : List Tr} {H : Hp} {Q : VK} {E : XK} (h : DdI K C H a n s d s2 d2 oa pl L B own pool ps ps qs bs) (hR : LawR own ps) (q : ∀ H', Same H H' → Q (.bl true) H') : spSw K C [.ref s, .ref oa, .ref L] H Q E :=
  ⟨s, d, oa, L, own, ps, rfl, hR, h.sh, h.ow, h.ro, q⟩
theorem dd2 {fW : Addr} {fdW : FuncData} (gd : A.guards = some []) (hr : Room 20 (A.deeper (envOfC "_law_deeds_right" (defScope sDd) s0.heap.objs.size f cdv)))
    (GW : FnG P w K mg base 20 fW fdW ["shelf", "own", "rows"] (spSw K C)) (bW : Binds K fdW ["shelf", "own", "rows"] []) (gW : mg "_law_shown" = some (.ref fW)) (kW : PySem.W.keepIn K (.ref fW) = true) :
    ∃ t, PS (XDd P w K mg base f cdv A outer s0 H E) (stAt sDd 2) t ∧
    ∀ {D} {a : RA} {n : Nat} {s d s2 d2 oa pl L B : Addr} {own pool : List Str} {ps qs bs : List Tr} {H1 : Hp} {v0 v5 v6 v7 v8 v9 v10 v11 v12 v13 v14 : Option V} {v2 : Option V}, LawR own ps → DdI K C H1 a n s d s2 d2 oa pl L B own pool ps ps qs bs →
      (∀ H2, Same H1 H2 → D.nx [v0, some (.ref oa), v2, some (.ref L), some (.ref s), v5, v6, v7, v8, v9, v10, v11, v12, v13, v14] H2) →
      t D [v0, some (.ref oa), v2, some (.ref L), some (.ref s), v5, v6, v7, v8, v9, v10, v11, v12, v13, v14] H1 := by
  have gd' : (A.deeper (envOfC "_law_deeds_right" (defScope sDd) s0.heap.objs.size f cdv)).guards = some [] := gd
  refine ⟨_, ps_if (pt_not (pt_val (pe_callG GW gd' hr rfl gW kW bW (pa_cons (pv 4) (pa_cons (pv 1) (pa_cons (pv 3) pa_nil)))))) (pss_one ps_dead) pss_nil, ?_⟩
  intro D a n s d s2 d2 oa pl L B own pool ps qs bs H1 v0 v5 v6 v7 v8 v9 v10 v11 v12 v13 v14 v2 hR hI k
  refine ⟨_, rfl, _, rfl, _, rfl, ?_⟩
  refine ⟨s, d, oa, L, own, ps, rfl, hR, hI.sh, hI.ow, hI.ro, fun H2 e2 => ?_⟩
  exact ⟨_, rfl, iteF (k H2 e2)⟩
end
end BK

set_option Elab.async false
set_option maxRecDepth 100000
set_option maxHeartbeats 4000000
set_option linter.unusedVariables false
/-! _law_deeds_right: one deed: what is drawn, kept -/
namespace BK
open PySem PySem.Spec PyProof.Rows L2 SW RZ ET
def bodyOf : Stmt → List Stmt
  | .For _ _ b _ _ => b
  | .If _ b _ _ => b
  | _ => []
def inFor (s : Stmt) (j : Nat) : Stmt := (bodyOf s).getD j (.Pass ⟨0, 0, 0, 0⟩)
abbrev sLp (j : Nat) : Stmt := inFor (stAt sDd 3) j
section
variable {P : Program} {w : World} {K : PySem.W.Frag} {mg : Str → Option Value} {base : Heap} {f : Addr} {cdv : Value} {A : Around} {outer : List Env} {s0 : Shared} {H : Hp} {E : XK}
variable {C fI fG fS fC fL fE fF fN fB : Addr} {fdI fdG fdS fdC fdL fdE fdF fdN fdB : FuncData} {fO fD : Addr} {fdO fdD : FuncData}
theorem lb0 (Z : ShZ P w K mg base C fI fG fS fC fL fE fF fN fB fdI fdG fdS fdC fdL fdE fdF fdN fdB) (hr : Room 20 (A.deeper (envOfC "_law_deeds_right" (defScope sDd) s0.heap.objs.size f cdv)))
    (GO : FnOk P w K mg base CX0 3 fO fdO ["state", "some"] (spOfL K)) (bO : Binds K fdO ["state", "some"] []) (gO : mg "_law_of" = some (.ref fO)) (kO : PySem.W.keepIn K (.ref fO) = true)
    (GD : FnOk P w K mg base CX0 2 fD fdD ["state", "many"] spDraw) (bD : Binds K fdD ["state", "many"] []) (gD : mg "_law_draw" = some (.ref fD)) (kD : PySem.W.keepIn K (.ref fD) = true) :
    ∃ t, PS (XDd P w K mg base f cdv A outer s0 H E) (sLp 0) t ∧
    ∀ {D} {a : RA} {n : Nat} {s d s2 d2 oa pl L B : Addr} {own pool : List Str} {ps qs bs : List Tr} {H1 : Hp} {v7 v8 v9 v10 v11 v12 v13 v14 : Option V}, PoolG pool → n + 1000 ≤ 1000000 → DdI K C H1 a n s d s2 d2 oa pl L B own pool ps ps qs bs →
      (∀ (wy : Int) (z : Str) (ev : V) (H2 : Hp), z ∈ pool → DdI K C H2 a (n + 2) s d s2 d2 oa pl L B own pool ps ps qs bs → TrAt K H2 ev (bookT (own.map Tr.str) ps) → D.nx [some (.ref a.s), some (.ref oa), some (.ref pl), some (.ref L), some (.ref s), some (.ref s2), some (.ref B), v7, some (.int wy), some (.str z), some ev, v11, v12, v13, v14] H2) →
      t D [some (.ref a.s), some (.ref oa), some (.ref pl), some (.ref L), some (.ref s), some (.ref s2), some (.ref B), v7, v8, v9, v10, v11, v12, v13, v14] H1 := by
  have hr1 : Room 1 _ := hr.mono (by decide)
  have hr2 : Room 2 _ := hr.mono (by decide)
  have hr3 : Room 3 _ := hr.mono (by decide)
  refine ⟨_, ps_asg (pe_tup (pa_cons (pe_call GD hr2 rfl gD kD bD .nil pass0 (pa_cons (pv 0) (pa_cons pe_int pa_nil)))
    (pa_cons (pe_call GO hr3 rfl gO kO bO .nil pass0 (pa_cons (pv 0) (pa_cons (pv 2) pa_nil)))
    (pa_cons (pe_meth0 (pv 4) Z.X.cl Z.mB Z.GB hr1 Z.bB .nil pass0) pa_nil))))
    (pg_tup rfl (pgs_cons (pg_name (i := 8) scDd.nd rfl (Or.inl rfl)) (pgs_cons (pg_name (i := 9) scDd.nd rfl (Or.inr rfl)) (pgs_cons (pg_name (i := 10) scDd.nd rfl (Or.inl rfl)) pgs_nil)))), ?_⟩
  intro D a n s d s2 d2 oa pl L B own pool ps qs bs H1 v7 v8 v9 v10 v11 v12 v13 v14 hp hn hI k
  have pll := hp.len
  refine ⟨_, rfl, a, n, 6, rfl, hI.rnd, by omega, by decide, by decide, fun wy H2 w0 wl R2 b2 => ?_⟩
  have hI2 := hI.draw R2 b2
  refine ⟨_, rfl, _, rfl, a, n + 1, pl, _, rfl, R2, by omega, hI2.op, hI2.po, by rw [List.length_map]; omega, by rw [List.length_map]; omega, fun v i H3 hv R3 b3 => ?_⟩
  have hI3 := hI2.draw R3 b3
  obtain ⟨z, hz, rfl⟩ : ∃ z, z ∈ pool ∧ V.str z = v := List.mem_map.mp (List.mem_of_getElem? hv)
  obtain ⟨dx, bv, ob, tv⟩ := id hI3.sh.ob
  refine ⟨_, rfl, s, dx, _, rfl, ob, shf_no bv d (by decide +kernel) (by decide +kernel) (by decide +kernel), s, d, _, rfl, hI3.sh, fun ev te => ?_⟩
  refine ⟨(show 3 ≤ sizeLine by decide), fun r nr => ⟨r, _, rfl, SqT.of upd_same, rfl, _, _, rfl, _, _, rfl, _, _, rfl, rfl, ?_⟩⟩
  have sr := same_new (o := .tup [.int wy, .str z, ev]) nr
  exact k wy z ev _ hz (hI3.same sr) (te.same sr)
theorem lb1 : ∃ t, PS (XDd P w K mg base f cdv A outer s0 H E) (sLp 1) t ∧
    ∀ {D} {H1 : Hp} {L : Addr} {ps : List Tr} {z : Str} {v0 v1 v2 v4 v5 v6 v7 v8 v10 v11 v12 v13 v14 : Option V}, LstAt K H1 L ps → (∀ p ∈ ps, tripleT p = true) → ps.length ≤ 6 →
      (∀ H2, Same H1 H2 → D.nx [v0, v1, v2, some (.ref L), v4, v5, v6, v7, v8, some (.str z), v10, some (.bl (decide (z ∈ ps.map wordS))), v12, v13, v14] H2) →
      t D [v0, v1, v2, some (.ref L), v4, v5, v6, v7, v8, some (.str z), v10, v11, v12, v13, v14] H1 := by
  refine ⟨_, ps_set (i := 11) scDd.nd rfl (Or.inl rfl) (pe_cmpR op_in_seq (pv 9)
          (pe_lc (own := [("row", 14)]) (g := gName 14) (tt := tYes) rfl scDd.nd (pi_list (pv 3)) (blkOk_by (N := nDd) (sc := defScope sDd) (by decide +kernel))
            (fun _ _ _ _ _ => pg_name (i := 14) scDd.nd rfl (Or.inl rfl)) (fun _ _ _ _ _ => pts_nil) (fun _ _ _ _ _ => pe_ix (r := rIxT K) (by exact ix_tup) (pv 14) pe_int (fun _ _ => rfl))) rfl), ?_⟩
  intro D H1 L ps z v0 v1 v2 v4 v5 v6 v7 v8 v10 v11 v12 v13 v14 ⟨vs, eL, tL⟩ ht hl k
  have vl := tL.len
  refine ⟨_, rfl, _, rfl, L, rfl, ⟨_, SqL.of eL⟩, fun N nN => ?_⟩
  refine lc_it (walk_list (K := K) (a := L) (xs := vs)) (fun i H2 => Same H1 H2 ∧ H2 N = some (.lst (((ps.take i).map wordS).map V.str))) ⟨same_new nN, upd_same⟩ (fun i H2 _ ⟨s2, _⟩ => SqL.of (s2 _ _ eL)) ?_ ?_
  · rintro i y Hx H2 hi ⟨s2, e2⟩ ⟨rfl, hy⟩
    obtain ⟨t, ht', ty⟩ := (tL.same s2).get hy
    have il : i < ps.length := (List.getElem?_eq_some_iff.mp ht').1
    have et : ps.take (i + 1) = ps.take i ++ [t] := by rw [List.take_add_one, ht']; rfl
    obtain ⟨m, prm2, bts2, c2, z2, z3, rfl, rfl, hc2, hm, _, _⟩ := first_of ty (ht t (List.mem_of_getElem? ht'))
    refine ⟨rfl, ?_⟩
    refine tyes ?_
    refine ⟨_, rfl, c2, _, 0, _, rfl, rfl, hc2, rfl, _, e2, small1000 (by rw [List.length_map, List.length_map, List.length_take]; omega), fun o u e => ?_, ?_⟩
    · rw [upd_ne (ne_of_none e nN)]
      exact s2 _ _ e
    · rw [upd_same, et, List.map_append, List.map_append]
      rfl
  · rintro H2 ⟨s2, e2⟩
    rw [tL.len, List.take_length] at e2
    refine ⟨N, _, rfl, .inl (SqL.of e2), rfl, all_flat _, ?_⟩
    show D.nx _ H2
    have ei : inV (.str z) ((ps.map wordS).map V.str) = decide (z ∈ ps.map wordS) := inV_str
    have := k H2 s2
    rw [← ei] at this
    exact this
theorem lb2 (gd : A.guards = some []) (hr : Room 20 (A.deeper (envOfC "_law_deeds_right" (defScope sDd) s0.heap.objs.size f cdv))) (mR : mg "repr" = none) :
    ∃ t, PS (XDd P w K mg base f cdv A outer s0 H E) (sLp 2) t ∧
    ∀ {D} {H1 : Hp} {ev : V} {us ps : List Tr} {v0 v1 v2 v3 v4 v5 v6 v7 v8 v9 v11 v12 v13 v14 : Option V}, TrAt K H1 ev (bookT us ps) → BkR us ps →
      D.nx [v0, v1, v2, v3, v4, v5, v6, v7, v8, v9, some ev, v11, some (.str (pdT (bookT us ps)).shown), v13, v14] H1 →
      t D [v0, v1, v2, v3, v4, v5, v6, v7, v8, v9, some ev, v11, v12, v13, v14] H1 := by
  have gd' : (A.deeper (envOfC "_law_deeds_right" (defScope sDd) s0.heap.objs.size f cdv)).guards = some [] := gd
  have hr0 : Room 0 _ := hr.mono (by decide)
  refine ⟨_, ps_set (i := 12) scDd.nd rfl (Or.inl rfl) (pe_callB (call_reprD gd' hr0) (by rfl) mR boot_repr (pa_cons (pv 10) pa_nil)), ?_⟩
  intro D H1 ev us ps v0 v1 v2 v3 v4 v5 v6 v7 v8 v9 v11 v12 v13 v14 te hB k
  have hT := book_sh hB
  obtain ⟨r1, r2, r3, r4⟩ := repr_tree hT (by omega) (by omega)
  obtain ⟨c, rfl⟩ : ∃ c, ev = .ref c := by
    unfold bookT at te
    cases te with
    | tup h k => exact ⟨_, rfl⟩
  exact ⟨_, rfl, c, _, rfl, te.dp hT.da, r1, r2, r3, r4, k⟩
end
end BK

set_option Elab.async false
set_option maxRecDepth 100000
set_option maxHeartbeats 4000000
set_option linter.unusedVariables false
/-! _law_deeds_right: a piece is put, forgotten, put again -/
namespace BK
open PySem PySem.Spec PyProof.Rows L2 SW RZ ET
def elseOf : Stmt → List Stmt
  | .If _ _ e _ => e
  | _ => []
abbrev bA : List Stmt := bodyOf (sLp 3)
abbrev bE : Stmt := (elseOf (sLp 3)).getD 0 (.Pass ⟨0, 0, 0, 0⟩)
abbrev bB : List Stmt := bodyOf bE
abbrev bE2 : Stmt := (elseOf bE).getD 0 (.Pass ⟨0, 0, 0, 0⟩)
abbrev bC : List Stmt := bodyOf bE2
section
variable {P : Program} {w : World} {K : PySem.W.Frag} {mg : Str → Option Value} {base : Heap} {f : Addr} {cdv : Value} {A : Around} {outer : List Env} {s0 : Shared} {H : Hp} {E : XK}
variable {C fI fG fS fC fL fE fF fN fB : Addr} {fdI fdG fdS fdC fdL fdE fdF fdN fdB : FuncData} {fP fU : Addr} {fdP fdU : FuncData}
/-- what is the case behind a deed -/
def AftD (K : PySem.W.Frag) (C : Addr) (a : RA) (n : Nat) (s s2 d2 oa pl B : Addr) (own pool : List Str) (bk : Tr) (qs bs : List Tr) (v7 v8 v9 : Option V) (ev : V) (v11 v12 v14 : Option V) (σ : L2.St) (H2 : Hp) : Prop :=
  ∃ (L' d' : Addr) (ps' : List Tr) (n' : Nat) (v13 : Option V), σ = [some (.ref a.s), some (.ref oa), some (.ref pl), some (.ref L'), some (.ref s), some (.ref s2), some (.ref B), v7, v8, v9, some ev, v11, v12, v13, v14] ∧ LawR own ps' ∧ DdI K C H2 a n' s d' s2 d2 oa pl L' B own pool ps' ps' qs bs ∧ n' ≤ n + 10 ∧ TrAt K H2 ev bk
theorem lbA (Z : ShZ P w K mg base C fI fG fS fC fL fE fF fN fB fdI fdG fdS fdC fdL fdE fdF fdN fdB) (hr : Room 20 (A.deeper (envOfC "_law_deeds_right" (defScope sDd) s0.heap.objs.size f cdv)))
    (GP : FnOk P w K mg base CX0 4 fP fdP ["state", "own", "name"] (spPc K)) (bP : Binds K fdP ["state", "own", "name"] []) (gP : mg "_law_piece" = some (.ref fP)) (kP : PySem.W.keepIn K (.ref fP) = true)
    (GU : FnOk P w K mg base CX0 1 fU fdU ["rows", "piece"] (spPt K)) (bU : Binds K fdU ["rows", "piece"] []) (gU : mg "_law_put" = some (.ref fU)) (kU : PySem.W.keepIn K (.ref fU) = true) :
    ∃ t, PSs (XDd P w K mg base f cdv A outer s0 H E) bA t ∧
    ∀ {D} {a : RA} {n : Nat} {s d s2 d2 oa pl L B : Addr} {own pool : List Str} {ps qs bs : List Tr} {bk : Tr} {z : Str} {ev : V} {H1 : Hp} {v7 v8 v11 v12 v13 v14 : Option V}, LawR own ps → PoolG pool → z ∈ pool → (z ∈ ps.map wordS ∨ ps.length < 6) → n + 1000 ≤ 1000000 → DdI K C H1 a n s d s2 d2 oa pl L B own pool ps ps qs bs → TrAt K H1 ev bk →
      (∀ σ H2, AftD K C a n s s2 d2 oa pl B own pool bk qs bs v7 v8 (some (.str z)) ev v11 v12 v14 σ H2 → D.nx σ H2) →
      t D [some (.ref a.s), some (.ref oa), some (.ref pl), some (.ref L), some (.ref s), some (.ref s2), some (.ref B), v7, v8, some (.str z), some ev, v11, v12, v13, v14] H1 := by
  have hr1 : Room 1 _ := hr.mono (by decide)
  have hr4 : Room 4 _ := hr.mono (by decide)
  have hr18 : Room 18 _ := hr.mono (by decide)
  refine ⟨_, pss_cons (ps_set (i := 13) scDd.nd rfl (Or.inl rfl) (pe_call GP hr4 rfl gP kP bP .nil pass0 (pa_cons (pv 0) (pa_cons (pv 1) (pa_cons (pv 9) pa_nil)))))
    (pss_cons (ps_asg (pv 13) (pg_sub (pv 4) (pv 9) (set_own Z.nS Z.hS Z.iS Z.GS hr18 Z.bS pass0)))
    (pss_one (ps_set (i := 3) scDd.nd rfl (Or.inl rfl) (pe_call GU hr1 rfl gU kU bU .nil pass0 (pa_cons (pv 3) (pa_cons (pv 13) pa_nil)))))), ?_⟩
  intro D a n s d s2 d2 oa pl L B own pool ps qs bs bk z ev H1 v7 v8 v11 v12 v13 v14 hR hp hz hl hn hI te k
  have hzm := hp.mem z hz
  refine ⟨_, rfl, _, rfl, _, rfl, a, n, oa, own, z, rfl, hI.rnd, by omega, hI.ow, hR.ow, pool_name z hzm, fun v p n2 H2 hL hn2 R2 b2 tv => ?_⟩
  have hI2 := hI.draw R2 b2
  have te2 := te.rnd hI.rnd R2 b2
  have hR2 := hR.put hzm hL hl
  obtain ⟨dx, bv, ob, tb⟩ := id hI2.sh.ob
  refine ⟨_, rfl, _, rfl, _, rfl, s, dx, _, rfl, ob, s, d, v, _, ps, p, by rw [hL.word], hI2.sh, hR.bk, tv, hR2.bk, fun d' H3 hd hS b3 => ?_⟩
  have hI3 := hI2.butS b3 hd hS
  have te3 := te2.ins ob b3
  have tv3 := tv.ins ob b3
  refine ⟨_, rfl, _, rfl, L, v, ps, p, rfl, hI3.ro, tv3, hR2.tri p put_mem, hR.tri, hR.le, fun L' H4 nL s4 eL => ?_⟩
  exact k _ _ ⟨L', d', _, n2, _, rfl, hR2, (hI3.same s4).rows eL (hI3.rnd.off nL), hn2, te3.same s4⟩
theorem lbB (Z : ShZ P w K mg base C fI fG fS fC fL fE fF fN fB fdI fdG fdS fdC fdL fdE fdF fdN fdB) (hr : Room 20 (A.deeper (envOfC "_law_deeds_right" (defScope sDd) s0.heap.objs.size f cdv))) :
    ∃ t, PSs (XDd P w K mg base f cdv A outer s0 H E) bB t ∧
    ∀ {D} {a : RA} {n : Nat} {s d s2 d2 oa pl L B : Addr} {own pool : List Str} {ps qs bs : List Tr} {bk : Tr} {z : Str} {ev : V} {H1 : Hp} {v7 v8 v11 v12 v13 v14 : Option V}, LawR own ps → PoolG pool → z ∈ pool → z ∈ ps.map wordS → DdI K C H1 a n s d s2 d2 oa pl L B own pool ps ps qs bs → TrAt K H1 ev bk →
      (∀ σ H2, AftD K C a n s s2 d2 oa pl B own pool bk qs bs v7 v8 (some (.str z)) ev v11 v12 v14 σ H2 → D.nx σ H2) →
      t D [some (.ref a.s), some (.ref oa), some (.ref pl), some (.ref L), some (.ref s), some (.ref s2), some (.ref B), v7, v8, some (.str z), some ev, v11, v12, v13, v14] H1 := by
  have hr5 : Room 5 _ := hr.mono (by decide)
  refine ⟨_, pss_cons (ps_if (pt_cmp (pc_notN (pe_meth (pv 4) Z.X.cl Z.mF Z.GF hr5 Z.bF .nil pass0 (pa_cons (pv 9) pa_nil)))) (pss_one ps_dead) pss_nil)
    (pss_one (ps_setLc (i := 3) (own := [("row", 14)]) (g := gName 14) (te := tVar 14) rfl scDd.nd rfl rfl (sw_true rfl rfl rfl rfl) (pi_list (pv 3)) (blkOk_by (N := nDd) (sc := defScope sDd) (by decide +kernel))
      (fun _ _ _ _ _ => pg_name (i := 14) scDd.nd rfl (Or.inl rfl))
      (fun _ _ _ _ _ => pts_one (pt_cmpR op_ne (pe_ix (r := rIxT K) (by exact ix_tup) (pv 14) pe_int (fun _ _ => rfl)) (pv 9) (nomark _))) (fun _ _ _ _ _ => pv 14))), ?_⟩
  intro D a n s d s2 d2 oa pl L B own pool ps qs bs bk z ev H1 v7 v8 v11 v12 v13 v14 hR hp hz hin hI te k
  have hzm := hp.mem z hz
  obtain ⟨dx, bv, ob, tb⟩ := id hI.sh.ob
  refine ⟨_, rfl, s, dx, _, rfl, ob, shf_no bv d (by decide +kernel) (by decide +kernel) (by decide +kernel), _, rfl, s, d, z, _, ps, rfl, name_line (pool_name z hzm), hI.sh, hR.bk, hin, fun d' H2 nd hS b2 => ?_⟩
  have hI2 := hI.butS b2 (.inr (show H1 d' = none from nd)) hS
  have te2 := te.ins ob b2
  have hR2 : LawR own (ps.filter fun p => !decide (wordS p = z)) := hR.sub List.filter_sublist
  refine ⟨_, rfl, ?_⟩
  refine ite2 (fun h => absurd h (by decide)) (fun _ => ?_)
  obtain ⟨vs, eL, tL⟩ := id hI2.ro
  refine ⟨_, rfl, L, rfl, ⟨_, SqL.of eL⟩, fun N nN => ?_⟩
  have oN := hI2.rnd.off nN
  refine lc_it (walk_list (K := K) (a := L) (xs := vs)) (fun i H3 => Same H2 H3 ∧ ∃ zs, H3 N = some (.lst zs) ∧ TrAll K H3 zs ((ps.take i).filter fun p => !decide (wordS p = z))) ⟨same_new nN, [], upd_same, .nil⟩ (fun i H3 _ ⟨s2, _⟩ => SqL.of (s2 _ _ eL)) ?_ ?_
  · rintro i y Hx H3 hi ⟨s2, zs, e2, t2⟩ ⟨rfl, hy⟩
    obtain ⟨t, ht, ty⟩ := (tL.same s2).get hy
    have il : i < ps.length := (List.getElem?_eq_some_iff.mp ht).1
    have pl := hR.le
    have et : ps.take (i + 1) = ps.take i ++ [t] := by rw [List.take_add_one, ht]; rfl
    obtain ⟨m, prm2, bts2, c2, z2, z3, et', ey, hc2, hm, _, _⟩ := first_of ty (hR.tri t (List.mem_of_getElem? ht))
    have ew : wordS t = m := by rw [et']; rfl
    have zl := t2.len
    subst ey
    refine ⟨rfl, ?_⟩
    refine ⟨_, rfl, c2, _, 0, _, rfl, rfl, hc2, rfl, _, rfl, rfl, _, rfl, ?_⟩
    refine ite2 (fun h => ?_) (fun h => ?_)
    · have hne : ¬ m = z := by
        intro e
        subst e
        simp at h
      refine ⟨_, rfl, _, e2, small1000 (by rw [zl]; refine Nat.le_trans (List.length_filter_le _ _) ?_; rw [List.length_take]; omega), fun o u e => ?_, _, upd_same, ?_⟩
      · rw [upd_ne (ne_of_none e nN)]
        exact s2 _ _ e
      · have pe : (!decide (wordS t = z)) = true := by
          rw [ew, decide_eq_false hne]; rfl
        rw [et, List.filter_append, List.filter_cons_of_pos (by exact pe)]
        exact (t2.updL e2).app (.cons (ty.updL e2) .nil)
    · have heq : m = z := by
        by_cases e : m = z
        · exact e
        · refine absurd ?_ h
          simp [e]
      refine ⟨s2, zs, e2, ?_⟩
      have pe : ¬ (!decide (wordS t = z)) = true := by
        rw [ew, decide_eq_true heq]; decide
      rw [et, List.filter_append, List.filter_cons_of_neg (by exact pe), List.filter_nil, List.append_nil]
      exact t2
  · rintro H3 ⟨s3, zs, e3, t3⟩
    rw [tL.len, List.take_length] at t3
    exact k _ _ ⟨N, d', _, n, _, rfl, hR2, (hI2.same s3).rows ⟨zs, e3, t3⟩ oN, by omega, te2.same s3⟩
theorem lbC (Z : ShZ P w K mg base C fI fG fS fC fL fE fF fN fB fdI fdG fdS fdC fdL fdE fdF fdN fdB) (hr : Room 20 (A.deeper (envOfC "_law_deeds_right" (defScope sDd) s0.heap.objs.size f cdv))) :
    ∃ t, PSs (XDd P w K mg base f cdv A outer s0 H E) bC t ∧
    ∀ {D} {a : RA} {n : Nat} {s d s2 d2 oa pl L B : Addr} {own pool : List Str} {ps qs bs : List Tr} {bk : Tr} {z : Str} {ev : V} {H1 : Hp} {v7 v8 v11 v12 v13 v14 : Option V}, LawR own ps → z ∈ ps.map wordS → DdI K C H1 a n s d s2 d2 oa pl L B own pool ps ps qs bs → TrAt K H1 ev bk →
      (∀ σ H2, AftD K C a n s s2 d2 oa pl B own pool bk qs bs v7 v8 (some (.str z)) ev v11 v12 v14 σ H2 → D.nx σ H2) →
      t D [some (.ref a.s), some (.ref oa), some (.ref pl), some (.ref L), some (.ref s), some (.ref s2), some (.ref B), v7, v8, some (.str z), some ev, v11, v12, v13, v14] H1 := by
  have hr3 : Room 3 _ := hr.mono (by decide)
  have hr18 : Room 18 _ := hr.mono (by decide)
  refine ⟨_, pss_one (ps_asg (pe_own Z.hG Z.iG Z.nG Z.GG hr3 Z.bG pass0 (pv 4) (pv 9) (fun _ _ => rfl)) (pg_sub (pv 4) (pv 9) (set_own Z.nS Z.hS Z.iS Z.GS hr18 Z.bS pass0))), ?_⟩
  intro D a n s d s2 d2 oa pl L B own pool ps qs bs bk z ev H1 v7 v8 v11 v12 v13 v14 hR hin hI te k
  obtain ⟨p, hp, rfl⟩ := List.mem_map.mp hin
  obtain ⟨_, ef⟩ := filter_one hR.nd hp
  have hzl : (wordS p).length ≤ sizeLine := name_line (pool_name _ (hR.pc p hp).1)
  have eP := put_same hR.nd hp
  obtain ⟨dx, bv, ob, tb⟩ := id hI.sh.ob
  refine ⟨_, rfl, _, rfl, s, dx, _, rfl, ob, s, d, .str (wordS p), _, ps, .str (wordS p), rfl, hI.sh, hR.bk, .str _ hzl, by rw [ef]; intro e; have := hR.tri p hp; rw [e] at this; exact Bool.noConfusion (show false = true from this), fun v tv => ?_⟩
  rw [ef] at tv
  refine ⟨_, rfl, _, rfl, s, dx, _, rfl, ob, s, d, v, _, ps, p, rfl, hI.sh, hR.bk, tv, by rw [eP]; exact hR.bk, fun d' H3 hd hS b3 => ?_⟩
  rw [eP] at hS
  exact k _ _ ⟨L, d', ps, n, _, rfl, hR, hI.butS b3 hd hS, by omega, te.ins ob b3⟩
end
end BK

set_option Elab.async false
set_option maxRecDepth 100000
set_option maxHeartbeats 4000000
set_option linter.unusedVariables false
/-! _law_deeds_right: one deed whole -/
namespace BK
open PySem PySem.Spec PyProof.Rows L2 SW RZ ET
section
variable {P : Program} {w : World} {K : PySem.W.Frag} {mg : Str → Option Value} {base : Heap} {f : Addr} {cdv : Value} {A : Around} {outer : List Env} {s0 : Shared} {H : Hp} {E : XK}
variable {C fI fG fS fC fL fE fF fN fB : Addr} {fdI fdG fdS fdC fdL fdE fdF fdN fdB : FuncData} {fP fU fW : Addr} {fdP fdU fdW : FuncData}
theorem lb3 (Z : ShZ P w K mg base C fI fG fS fC fL fE fF fN fB fdI fdG fdS fdC fdL fdE fdF fdN fdB) (hr : Room 20 (A.deeper (envOfC "_law_deeds_right" (defScope sDd) s0.heap.objs.size f cdv))) (mL : mg "len" = none)
    (GP : FnOk P w K mg base CX0 4 fP fdP ["state", "own", "name"] (spPc K)) (bP : Binds K fdP ["state", "own", "name"] []) (gP : mg "_law_piece" = some (.ref fP)) (kP : PySem.W.keepIn K (.ref fP) = true)
    (GU : FnOk P w K mg base CX0 1 fU fdU ["rows", "piece"] (spPt K)) (bU : Binds K fdU ["rows", "piece"] []) (gU : mg "_law_put" = some (.ref fU)) (kU : PySem.W.keepIn K (.ref fU) = true) :
    ∃ t, PS (XDd P w K mg base f cdv A outer s0 H E) (sLp 3) t ∧
    ∀ {D} {a : RA} {n : Nat} {s d s2 d2 oa pl L B : Addr} {own pool : List Str} {ps qs bs : List Tr} {bk : Tr} {z : Str} {ev : V} {wy : Int} {H1 : Hp} {v7 v12 v13 v14 : Option V}, LawR own ps → PoolG pool → z ∈ pool → n + 1000 ≤ 1000000 → DdI K C H1 a n s d s2 d2 oa pl L B own pool ps ps qs bs → TrAt K H1 ev bk →
      (∀ σ H2, AftD K C a n s s2 d2 oa pl B own pool bk qs bs v7 (some (.int wy)) (some (.str z)) ev (some (.bl (decide (z ∈ ps.map wordS)))) v12 v14 σ H2 → D.nx σ H2) →
      t D [some (.ref a.s), some (.ref oa), some (.ref pl), some (.ref L), some (.ref s), some (.ref s2), some (.ref B), v7, some (.int wy), some (.str z), some ev, some (.bl (decide (z ∈ ps.map wordS))), v12, v13, v14] H1 := by
  obtain ⟨tA, pA, rA⟩ := lbA (outer := outer) (H := H) (E := E) Z hr GP bP gP kP GU bU gU kU
  obtain ⟨tB, pB, rB⟩ := lbB (outer := outer) (H := H) (E := E) Z hr
  obtain ⟨tC', pC, rC⟩ := lbC (outer := outer) (H := H) (E := E) Z hr
  refine ⟨_, ps_if (PW.pt (pw_and (pt_cmpR op_lt (pv 8) pe_int (nomark _)) (pw_and1 (PW.pt (pw_or (pt_val (pv 11)) (pw_or1 (pt_cmpR op_lt (pe_callB call_len_seq (by rfl) mL boot_len (pa_cons (pv 3) pa_nil)) pe_int (nomark _)))))))) pA
    (pss_one (ps_if (PW.pt (pw_and (pt_cmpR op_eq (pv 8) pe_int (nomark _)) (pw_and1 (pt_val (pv 11))))) pB
      (pss_one (ps_if (pt_val (pv 11)) pC pss_nil)))), ?_⟩
  intro D a n s d s2 d2 oa pl L B own pool ps qs bs bk z ev wy H1 v7 v12 v13 v14 hR hp hz hn hI te k
  obtain ⟨vs, eL, tL⟩ := id hI.ro
  have vl := tL.len
  have stay : ∀ {th : Bool}, decide (z ∈ ps.map wordS) = th → D.nx [some (.ref a.s), some (.ref oa), some (.ref pl), some (.ref L), some (.ref s), some (.ref s2), some (.ref B), v7, some (.int wy), some (.str z), some ev, some (.bl th), v12, v13, v14] H1 := fun e => by
    subst e
    exact k _ _ ⟨L, d, ps, n, v13, rfl, hR, hI, by omega, te⟩
  by_cases hin : z ∈ ps.map wordS
  · have eth : decide (z ∈ ps.map wordS) = true := decide_eq_true hin
    rw [eth] at k stay ⊢
    by_cases w4 : wy < 4
    · refine ⟨_, rfl, _, _, rfl, rfl, _, rfl, ?_⟩
      refine ite2 (fun h => ?_) (fun h => absurd (decide_eq_true w4) h)
      exact ⟨_, rfl, _, rfl, iteT (iteT (rA hR hp hz (.inl hin) hn hI te k))⟩
    · refine ⟨_, rfl, _, _, rfl, rfl, _, rfl, ?_⟩
      refine ite2 (fun h => absurd (of_decide_eq_true h) w4) (fun _ => iteF ?_)
      by_cases e4 : wy = 4
      · subst e4
        refine ⟨_, rfl, rfl, _, rfl, ?_⟩
        refine iteT ⟨_, rfl, _, rfl, iteT (rB hR hp hz hin hI te k)⟩
      · refine ⟨_, rfl, rfl, _, rfl, ?_⟩
        refine ite2 (fun h => absurd ?_ e4) (fun _ => iteF ?_)
        · simpa using h
        exact ⟨_, rfl, _, rfl, iteT (rC hR hin hI te k)⟩
  · have eth : decide (z ∈ ps.map wordS) = false := decide_eq_false hin
    rw [eth] at k stay ⊢
    have st := stay rfl
    by_cases w4 : wy < 4
    · have e4 : ¬ wy = 4 := by omega
      refine ⟨_, rfl, _, _, rfl, rfl, _, rfl, ?_⟩
      refine ite2 (fun h => ?_) (fun h => absurd (decide_eq_true w4) h)
      refine ⟨_, rfl, _, rfl, iteF ?_⟩
      refine ⟨_, rfl, L, vs, rfl, .inl (SqL.of eL), _, _, rfl, rfl, _, rfl, ?_⟩
      refine ite2 (fun h => ?_) (fun _ => ?_)
      · have h : ((vs.length : Int) < 6) := of_decide_eq_true h
        exact rA hR hp hz (.inr (by omega)) hn hI te k
      · refine ⟨_, rfl, rfl, _, rfl, ?_⟩
        refine ite2 (fun h => absurd ?_ e4) (fun _ => iteF ?_)
        · simpa using h
        exact ⟨_, rfl, _, rfl, iteF st⟩
    · refine ⟨_, rfl, _, _, rfl, rfl, _, rfl, ?_⟩
      refine ite2 (fun h => absurd (of_decide_eq_true h) w4) (fun _ => iteF ?_)
      refine ⟨_, rfl, rfl, _, rfl, ?_⟩
      refine ite2 (fun h => ⟨_, rfl, _, rfl, iteF ?_⟩) (fun _ => iteF ?_)
      · exact ⟨_, rfl, _, rfl, iteF st⟩
      · exact ⟨_, rfl, _, rfl, iteF st⟩
end
end BK

set_option Elab.async false
set_option maxRecDepth 100000
set_option maxHeartbeats 4000000
set_option linter.unusedVariables false
/-! _law_deeds_right: what is shown behind a deed, what is put beside -/
namespace BK
open PySem PySem.Spec PyProof.Rows L2 SW RZ ET
abbrev bD : List Stmt := bodyOf (sLp 5)
theorem rows_shs {own : List Str} {ps : List Tr} (h : LawR own ps) : Shs ps 12 (ps.length * 2201) := Shs.all fun p hp => piece_sh (h.bk.sm p hp)
theorem list_shaped {ts : List Tr} {de si : Nat} (h : Shs ts de si) (hd : de ≤ 40) : SeqAt.shaped (.list (pdTs ts)) = true := by
  have e1 : (PyData.list (pdTs ts)).canLay0 = true := by
    simp only [PyData.canLay0]
    exact lays_data h.da
  have e2 : (PyData.list (pdTs ts)).depth ≤ 41 := by
    have := h.de
    have e := pd_depth (.tup ts)
    simp only [pdT, PyData.depth, depT] at e ⊢
    omega
  unfold SeqAt.shaped
  rw [e1, Bool.true_and]
  exact decide_eq_true (by omega)
section
variable {P : Program} {w : World} {K : PySem.W.Frag} {mg : Str → Option Value} {base : Heap} {f : Addr} {cdv : Value} {A : Around} {outer : List Env} {s0 : Shared} {H : Hp} {E : XK}
variable {C fI fG fS fC fL fE fF fN fB : Addr} {fdI fdG fdS fdC fdL fdE fdF fdN fdB : FuncData} {fW : Addr} {fdW : FuncData}
theorem lb4 (gd : A.guards = some []) (hr : Room 20 (A.deeper (envOfC "_law_deeds_right" (defScope sDd) s0.heap.objs.size f cdv))) (mR : mg "repr" = none)
    (GW : FnG P w K mg base 20 fW fdW ["shelf", "own", "rows"] (spSw K C)) (bW : Binds K fdW ["shelf", "own", "rows"] []) (gW : mg "_law_shown" = some (.ref fW)) (kW : PySem.W.keepIn K (.ref fW) = true) :
    ∃ t, PS (XDd P w K mg base f cdv A outer s0 H E) (sLp 4) t ∧
    ∀ {D} {a : RA} {n : Nat} {s d s2 d2 oa pl L B : Addr} {own pool : List Str} {ps qs bs us ts : List Tr} {ev : V} {H1 : Hp} {v0 v2 v5 v6 v7 v8 v9 v11 v13 v14 : Option V}, LawR own ps → BkR us ts → DdI K C H1 a n s d s2 d2 oa pl L B own pool ps ps qs bs → TrAt K H1 ev (bookT us ts) →
      (∀ H2, Same H1 H2 → D.nx [v0, some (.ref oa), v2, some (.ref L), some (.ref s), v5, v6, v7, v8, v9, some ev, v11, some (.str (pdT (bookT us ts)).shown), v13, v14] H2) →
      t D [v0, some (.ref oa), v2, some (.ref L), some (.ref s), v5, v6, v7, v8, v9, some ev, v11, some (.str (pdT (bookT us ts)).shown), v13, v14] H1 := by
  have gd' : (A.deeper (envOfC "_law_deeds_right" (defScope sDd) s0.heap.objs.size f cdv)).guards = some [] := gd
  have hr0 : Room 0 _ := hr.mono (by decide)
  refine ⟨_, ps_if (PW.pt (pw_or (pt_not (pt_val (pe_callG GW gd' hr rfl gW kW bW (pa_cons (pv 4) (pa_cons (pv 1) (pa_cons (pv 3) pa_nil))))))
    (pw_or1 (pt_cmpR op_ne (pe_callB (call_reprD gd' hr0) (by rfl) mR boot_repr (pa_cons (pv 10) pa_nil)) (pv 12) (nomark _))))) (pss_one ps_dead) pss_nil, ?_⟩
  intro D a n s d s2 d2 oa pl L B own pool ps qs bs us ts ev H1 v0 v2 v5 v6 v7 v8 v9 v11 v13 v14 hR hB hI te k
  have hT := book_sh hB
  obtain ⟨r1, r2, r3, r4⟩ := repr_tree hT (by omega) (by omega)
  refine ⟨_, rfl, _, rfl, _, rfl, ?_⟩
  refine ⟨s, d, oa, L, own, ps, rfl, hR, hI.sh, hI.ow, hI.ro, fun H2 e2 => ?_⟩
  have te2 := te.same e2
  obtain ⟨c, rfl⟩ : ∃ c, ev = .ref c := by
    unfold bookT at te
    cases te with
    | tup h k => exact ⟨_, rfl⟩
  refine ⟨_, rfl, iteF ?_⟩
  refine ⟨_, rfl, c, _, rfl, te2.dp hT.da, r1, r2, r3, r4, ?_⟩
  refine ⟨_, rfl, rfl, _, rfl, ?_⟩
  refine ite2 (fun h => ?_) (fun _ => k _ e2)
  simp at h
theorem lbD (Z : ShZ P w K mg base C fI fG fS fC fL fE fF fN fB fdI fdG fdS fdC fdL fdE fdF fdN fdB) (hr : Room 20 (A.deeper (envOfC "_law_deeds_right" (defScope sDd) s0.heap.objs.size f cdv))) :
    ∃ t, PSs (XDd P w K mg base f cdv A outer s0 H E) bD t ∧
    ∀ {D} {a : RA} {n : Nat} {s d s2 d2 oa pl L B : Addr} {own pool : List Str} {p : Tr} {ps : List Tr} {H1 : Hp} {v7 v8 v9 v10 v11 v12 v13 v14 : Option V}, LawR own (p :: ps) → DdI K C H1 a n s d s2 d2 oa pl L B own pool (p :: ps) (p :: ps) [] [] →
      (∀ B' d2' H2, DdI K C H2 a n s d s2 d2' oa pl L B' own pool (p :: ps) (p :: ps) [p] [p] → D.nx [some (.ref a.s), some (.ref oa), some (.ref pl), some (.ref L), some (.ref s), some (.ref s2), some (.ref B'), v7, v8, v9, v10, v11, v12, v13, v14] H2) →
      t D [some (.ref a.s), some (.ref oa), some (.ref pl), some (.ref L), some (.ref s), some (.ref s2), some (.ref B), v7, v8, v9, v10, v11, v12, v13, v14] H1 := by
  have hr18 : Room 18 _ := hr.mono (by decide)
  refine ⟨_, pss_cons (ps_set (i := 6) scDd.nd rfl (Or.inl rfl) (pe_slice sl_list (pv 3) po_none (po_some pe_int)))
    (pss_one (ps_asg (pe_ix ix_list (pv 3) pe_int (fun _ _ => rfl)) (pg_sub (pv 5) (pe_ix ix_tup (pe_ix ix_list (pv 3) pe_int (fun _ _ => rfl)) pe_int (fun _ _ => rfl)) (set_own Z.nS Z.hS Z.iS Z.GS hr18 Z.bS pass0)))), ?_⟩
  intro D a n s d s2 d2 oa pl L B own pool p ps H1 v7 v8 v9 v10 v11 v12 v13 v14 hR hI k
  obtain ⟨vs, eL, tL⟩ := id hI.ro
  cases tL with
  | @cons v rs _ _ tp tr =>
  have hRp : LawR own [p] := hR.one List.mem_cons_self
  refine ⟨_, rfl, 1, rfl, L, _, rfl, SqL.of eL, fun q nq => ?_⟩
  have ec : cutV (v :: rs) none (some 1) = [v] := cut_take (xs := v :: rs) (i := 1) (by simp)
  rw [ec]
  have sq := same_new (o := .lst [v]) nq
  have hI2 := (hI.same sq).besides (B' := q) (bs' := [p]) ⟨[v], upd_same, .cons (tp.same sq) .nil⟩ (hI.rnd.off nq)
  have eL2 := sq _ _ eL
  have tp2 := tp.same sq
  generalize upd H1 q (.lst [v]) = H2 at sq hI2 eL2 tp2 ⊢
  obtain ⟨m, prm, bts, c, y2, y3, ep, ev, hc, hm, _, _⟩ := first_of tp2 (hR.tri p List.mem_cons_self)
  have ew : wordS p = m := by rw [ep]; rfl
  subst ev
  obtain ⟨dx, bv, ob, tb⟩ := id hI2.ot.ob
  have a0 : atI (V.ref c :: rs) (0 : Int) = some (V.ref c) := at_any (j := 0) rfl rfl
  refine ⟨_, rfl, L, _, 0, .ref c, rfl, rfl, SqL.of eL2, a0, ?_⟩
  refine ⟨_, rfl, _, rfl, L, _, 0, .ref c, rfl, rfl, SqL.of eL2, a0, c, _, 0, _, rfl, rfl, hc, rfl, s2, dx, _, rfl, ob, s2, d2, .ref c, _, [], p, by rw [ew], hI2.ot, (LawR.nil hR.ow hR.zq).bk, tp2, hRp.bk, fun d' H3 hd hS b3 => ?_⟩
  exact k q d' H3 (hI2.swap.butS b3 hd hS).swap
end
end BK

set_option Elab.async false
set_option maxRecDepth 100000
set_option maxHeartbeats 4000000
set_option linter.unusedVariables false
/-! _law_deeds_right -/
namespace BK
open PySem PySem.Spec PyProof.Rows L2 SW RZ ET
def spDd (K : PySem.W.Frag) : Sp := fun vs H Q _ => ∃ (a : RA) (n : Nat) (oa pl : Addr) (own pool : List Str), vs = [.ref a.s, .ref oa, .ref pl] ∧ Rnd H a n ∧ n + 3000 ≤ 1000000 ∧ SW.Off a pl ∧ H pl = some (.lst (pool.map V.str)) ∧ SqT K H oa (own.map V.str) ∧ OwnG own ∧ ("zq" : Str) ∉ own ∧ PoolG pool ∧
  ∀ (n' : Nat) (H' : Hp), n' ≤ n + 500 → Rnd H' a n' → Q (.bl true) H'
section
variable {P : Program} {w : World} {K : PySem.W.Frag} {mg : Str → Option Value} {base : Heap} {C fI fG fS fC fL fE fF fN fB : Addr} {fdI fdG fdS fdC fdL fdE fdF fdN fdB : FuncData}
theorem lb5 {f : Addr} {cdv : Value} {A : Around} {outer : List Env} {s0 : Shared} {H : Hp} {E : XK} (Z : ShZ P w K mg base C fI fG fS fC fL fE fF fN fB fdI fdG fdS fdC fdL fdE fdF fdN fdB) (hr : Room 20 (A.deeper (envOfC "_law_deeds_right" (defScope sDd) s0.heap.objs.size f cdv))) :
    ∃ t, PS (XDd P w K mg base f cdv A outer s0 H E) (sLp 5) t ∧
    ∀ {D} {a : RA} {n : Nat} {s d s2 d2 oa pl L B : Addr} {own pool : List Str} {ps qs : List Tr} {j : Int} {i : Nat} {H1 : Hp} {v8 v9 v10 v11 v12 v13 v14 : Option V}, j = (i : Int) → LawR own ps → LawR own qs → (i ≤ 6 → qs = []) → DdI K C H1 a n s d s2 d2 oa pl L B own pool ps ps qs qs →
      (∀ B' d2' qs' H2, LawR own qs' → (i + 1 ≤ 6 → qs' = []) → DdI K C H2 a n s d s2 d2' oa pl L B' own pool ps ps qs' qs' → D.nx [some (.ref a.s), some (.ref oa), some (.ref pl), some (.ref L), some (.ref s), some (.ref s2), some (.ref B'), some (.int j), v8, v9, v10, v11, v12, v13, v14] H2) →
      t D [some (.ref a.s), some (.ref oa), some (.ref pl), some (.ref L), some (.ref s), some (.ref s2), some (.ref B), some (.int j), v8, v9, v10, v11, v12, v13, v14] H1 := by
  obtain ⟨tD, pD, rD⟩ := lbD (outer := outer) (H := H) (E := E) Z hr
  refine ⟨_, ps_if (PW.pt (pw_and (pt_cmpR op_eq (pv 7) pe_int (nomark _)) (pw_and1 (pt_cmpR (op_neD hr.units) (pv 3) (pe_lst pa_nil) (nomark _))))) pD pss_nil, ?_⟩
  intro D a n s d s2 d2 oa pl L B own pool ps qs j i H1 v8 v9 v10 v11 v12 v13 v14 ej hR hQ h6 hI k
  obtain ⟨vs, eL, tL⟩ := id hI.ro
  by_cases e6 : i = 6
  · subst e6
    subst ej
    have q0 := h6 (Nat.le_refl _)
    subst q0
    refine ⟨_, rfl, rfl, _, rfl, ?_⟩
    refine iteT ?_
    refine ⟨_, rfl, Nat.zero_le _, fun q nq => ?_⟩
    have sq := same_new (o := .lst []) nq
    have hs := rows_shs hR
    have hI2 := hI.same sq
    have dpL : Dp K (upd H1 q (.lst [])) (.ref L) (.list (pdTs ps)) := .lst (SqL.of (sq _ _ eL)) ((tL.same sq).dp hs.da)
    refine ⟨_, _, dpL, dp_nil upd_same, list_shaped hs (by omega), by decide +kernel, _, rfl, ?_⟩
    refine ite2 (fun h => ?_) (fun _ => ?_)
    · cases ps with
      | nil => exact absurd h (by decide +kernel)
      | cons p ps => exact rD hR hI2 fun B' d2' H2 hI3 => k B' d2' [p] H2 (hR.one List.mem_cons_self) (fun h => absurd h (by omega)) hI3
    · exact k B d2 [] _ hQ (fun _ => rfl) hI2
  · refine ⟨_, rfl, rfl, _, rfl, ?_⟩
    refine ite2 (fun h => absurd ?_ e6) (fun _ => iteF ?_)
    · have : j = 6 := by simpa using h
      omega
    · exact k B d2 qs H1 hQ (fun h => h6 (by omega)) hI
theorem ok_deeds {f fP fU fW fO fD : Addr} {fdP fdU fdW fdO fdD : FuncData} {oc kV doc pm ct cdv : Value} {od an : Option Addr} {osl : Array (Option Value)} (lk : K.lookup f = some ⟨oc, od, .func (PySem.W.fnOf "_law_deeds_right" "_law_deeds_right" (defArgs sDd) (defBody sDd) (defScope sDd) .none kV doc pm an cdv ct), osl⟩)
    (hcd : PySem.W.codeIn K cdv "_law_deeds_right" = true) (Z : ShZ P w K mg base C fI fG fS fC fL fE fF fN fB fdI fdG fdS fdC fdL fdE fdF fdN fdB)
    (mT : mg "tuple" = none) (mR : mg "repr" = none) (mL : mg "len" = none) (mG : mg "range" = none)
    (GP : FnOk P w K mg base CX0 4 fP fdP ["state", "own", "name"] (spPc K)) (bP : Binds K fdP ["state", "own", "name"] []) (gP : mg "_law_piece" = some (.ref fP)) (kP : PySem.W.keepIn K (.ref fP) = true)
    (GU : FnOk P w K mg base CX0 1 fU fdU ["rows", "piece"] (spPt K)) (bU : Binds K fdU ["rows", "piece"] []) (gU : mg "_law_put" = some (.ref fU)) (kU : PySem.W.keepIn K (.ref fU) = true)
    (GW : FnG P w K mg base 20 fW fdW ["shelf", "own", "rows"] (spSw K C)) (bW : Binds K fdW ["shelf", "own", "rows"] []) (gW : mg "_law_shown" = some (.ref fW)) (kW : PySem.W.keepIn K (.ref fW) = true)
    (GO : FnOk P w K mg base CX0 3 fO fdO ["state", "some"] (spOfL K)) (bO : Binds K fdO ["state", "some"] []) (gO : mg "_law_of" = some (.ref fO)) (kO : PySem.W.keepIn K (.ref fO) = true)
    (GD : FnOk P w K mg base CX0 2 fD fdD ["state", "many"] spDraw) (bD : Binds K fdD ["state", "many"] []) (gD : mg "_law_draw" = some (.ref fD)) (kD : PySem.W.keepIn K (.ref fD) = true) :
    FnG P w K mg base 21 f (PySem.W.fnOf "_law_deeds_right" "_law_deeds_right" (defArgs sDd) (defBody sDd) (defScope sDd) .none kV doc pm an cdv ct) ["state", "own", "pool"] (spDd K) := by
  refine fng_of lk hcd scDd (fun vs H Q E h => ?_) (fun A outer s0 H vs Q E gd hr h => ?_)
  · obtain ⟨a, n, oa, pl, own, pool, rfl, _⟩ := h
    rfl
  · obtain ⟨a, n, oa, pl, own, pool, rfl, R, hn, op, po, hO, ow, zq, hp, k⟩ := h
    have gd' : (A.deeper (envOfC "_law_deeds_right" (defScope sDd) s0.heap.objs.size f cdv)).guards = some [] := gd
    obtain ⟨t0, p0, r0⟩ := dd0 (outer := outer) (H := H) (E := E) hr GP bP gP kP GD bD gD kD
    obtain ⟨t1, p1, r1⟩ := dd1 (outer := outer) (H := H) (E := E) Z hr mT
    obtain ⟨t2, p2, r2⟩ := dd2 (outer := outer) (H := H) (E := E) gd hr GW bW gW kW
    obtain ⟨u0, l0, q0⟩ := lb0 (outer := outer) (H := H) (E := E) Z hr GO bO gO kO GD bD gD kD
    obtain ⟨u1, l1, q1⟩ := lb1 (P := P) (w := w) (K := K) (mg := mg) (base := base) (f := f) (cdv := cdv) (A := A) (outer := outer) (s0 := s0) (H := H) (E := E)
    obtain ⟨u2, l2, q2⟩ := lb2 (P := P) (w := w) (K := K) (mg := mg) (base := base) (outer := outer) (H := H) (E := E) gd hr mR
    obtain ⟨u3, l3, q3⟩ := lb3 (outer := outer) (H := H) (E := E) Z hr mL GP bP gP kP GU bU gU kU
    obtain ⟨u4, l4, q4⟩ := lb4 (outer := outer) (H := H) (E := E) gd hr mR GW bW gW kW
    obtain ⟨u5, l5, q5⟩ := lb5 (outer := outer) (H := H) (E := E) Z hr
    refine ⟨_, C8.pss_cut p0 (C8.pss_cut p1 (C8.pss_cut p2 (C8.pss_cut (ps_for PassesOwn.never rfl (pi_range1 rfl mG (pa_cons pe_int pa_nil)) (pg_name (i := 7) scDd.nd rfl (Or.inl rfl))
        (C8.pss_cut l0 (C8.pss_cut l1 (C8.pss_cut l2 (C8.pss_cut l3 (C8.pss_cut l4 (pss_one l5)))))))
      (pss_one (ps_ret (pe_callG GW gd' hr rfl gW kW bW (pa_cons (pv 5) (pa_cons (pv 1) (pa_cons (pv 6) pa_nil))))))))), ?_⟩
    refine ⟨fun σ H1 => ∃ (L : Addr) (ps : List Tr) (n1 : Nat), σ = [some (.ref a.s), some (.ref oa), some (.ref pl), some (.ref L), none, none, none, none, none, none, none, none, none, none, none] ∧ LawR own ps ∧ LstAt K H1 L ps ∧ SW.Off a L ∧ Rnd H1 a n1 ∧ n1 ≤ n + 100 ∧ But a H H1, ?_, ?_⟩
    · exact r0 R (by omega) op po hO ow zq hp fun L ps n1 H1 hR hL oL R1 hn1 b1 => ⟨L, ps, n1, rfl, hR, hL, oL, R1, hn1, b1⟩
    rintro σ H1 ⟨L, ps, n1, rfl, hR, hL, oL, R1, hn1, b1⟩
    refine ⟨fun σ H2 => ∃ (s d s2 d2 B : Addr), σ = [some (.ref a.s), some (.ref oa), some (.ref pl), some (.ref L), some (.ref s), some (.ref s2), some (.ref B), none, none, none, none, none, none, none, none] ∧ DdI K C H2 a n1 s d s2 d2 oa pl L B own pool ps ps [] [], ?_, ?_⟩
    · exact r1 R1 op (b1.at op po) (sqt_but R b1 hO) zq hR hL oL fun s d s2 d2 B H2 hI => ⟨s, d, s2, d2, B, rfl, hI⟩
    clear b1 R1 hL
    rintro σ H2 ⟨s, d, s2, d2, B, rfl, hI⟩
    refine ⟨fun σ H3 => σ = [some (.ref a.s), some (.ref oa), some (.ref pl), some (.ref L), some (.ref s), some (.ref s2), some (.ref B), none, none, none, none, none, none, none, none] ∧ DdI K C H3 a n1 s d s2 d2 oa pl L B own pool ps ps [] [], ?_, ?_⟩
    · exact r2 hR hI fun H3 s3 => ⟨rfl, hI.same s3⟩
    clear hI
    rintro σ H3 ⟨rfl, hI⟩
    refine ⟨fun σ H4 => ∃ (L d d2 B : Addr) (ps qs : List Tr) (n4 : Nat) (v7 v8 v9 v10 v11 v12 v13 v14 : Option V), σ = [some (.ref a.s), some (.ref oa), some (.ref pl), some (.ref L), some (.ref s), some (.ref s2), some (.ref B), v7, v8, v9, v10, v11, v12, v13, v14] ∧ LawR own ps ∧ LawR own qs ∧ DdI K C H4 a n4 s d s2 d2 oa pl L B own pool ps ps qs qs ∧ n4 ≤ n + 400, ?_, ?_⟩
    · refine ⟨_, rfl, by decide, by decide, for_range (lo := 0) (n := (14 : Int).toNat) (fun i σ H4 => ∃ (L d d2 B : Addr) (ps qs : List Tr) (n4 : Nat) (v7 v8 v9 v10 v11 v12 v13 v14 : Option V), σ = [some (.ref a.s), some (.ref oa), some (.ref pl), some (.ref L), some (.ref s), some (.ref s2), some (.ref B), v7, v8, v9, v10, v11, v12, v13, v14] ∧ LawR own ps ∧ LawR own qs ∧ (i ≤ 6 → qs = []) ∧ DdI K C H4 a n4 s d s2 d2 oa pl L B own pool ps ps qs qs ∧ n4 ≤ n + 100 + 12 * i)
        ⟨L, d, d2, B, ps, [], n1, none, none, none, none, none, none, none, none, rfl, hR, LawR.nil ow zq, (fun _ => rfl), hI, by omega⟩ ?_ ?_⟩
      · clear hR hI hn1
        rintro i σ H4 hi ⟨L, d, d2, B, ps, qs, n4, v7, v8, v9, v10, v11, v12, v13, v14, rfl, hR, hQ, h6, hI, hn4⟩
        have hi : i < 14 := hi
        refine ⟨fun σ H5 => ∃ (wy : Int) (z : Str) (ev : V), σ = [some (.ref a.s), some (.ref oa), some (.ref pl), some (.ref L), some (.ref s), some (.ref s2), some (.ref B), some (.int (0 + (i : Int))), some (.int wy), some (.str z), some ev, v11, v12, v13, v14] ∧ z ∈ pool ∧ DdI K C H5 a (n4 + 2) s d s2 d2 oa pl L B own pool ps ps qs qs ∧ TrAt K H5 ev (bookT (own.map Tr.str) ps), ?_, ?_⟩
        · exact q0 hp (by omega) hI fun wy z ev H5 hz hI5 te => ⟨wy, z, ev, rfl, hz, hI5, te⟩
        clear hI
        rintro σ H5 ⟨wy, z, ev, rfl, hz, hI, te⟩
        refine ⟨fun σ H6 => σ = [some (.ref a.s), some (.ref oa), some (.ref pl), some (.ref L), some (.ref s), some (.ref s2), some (.ref B), some (.int (0 + (i : Int))), some (.int wy), some (.str z), some ev, some (.bl (decide (z ∈ ps.map wordS))), v12, v13, v14] ∧ Same H5 H6, ?_, ?_⟩
        · exact q1 hI.ro hR.tri hR.le fun H6 s6 => ⟨rfl, s6⟩
        rintro σ H6 ⟨rfl, s6⟩
        have hI6 := hI.same s6
        have te6 := te.same s6
        refine ⟨fun σ H7 => σ = [some (.ref a.s), some (.ref oa), some (.ref pl), some (.ref L), some (.ref s), some (.ref s2), some (.ref B), some (.int (0 + (i : Int))), some (.int wy), some (.str z), some ev, some (.bl (decide (z ∈ ps.map wordS))), some (.str (pdT (bookT (own.map Tr.str) ps)).shown), v13, v14] ∧ H7 = H6, ?_, ?_⟩
        · exact q2 te6 hR.bk ⟨rfl, rfl⟩
        clear hI te
        rintro σ H7 ⟨rfl, rfl⟩
        refine ⟨fun σ H8 => AftD K C a (n4 + 2) s s2 d2 oa pl B own pool (bookT (own.map Tr.str) ps) qs qs (some (.int (0 + (i : Int)))) (some (.int wy)) (some (.str z)) ev (some (.bl (decide (z ∈ ps.map wordS)))) (some (.str (pdT (bookT (own.map Tr.str) ps)).shown)) v14 σ H8, ?_, ?_⟩
        · exact q3 hR hp hz (by omega) hI6 te6 fun σ H8 h => h
        clear hI6 te6 s6
        rintro σ H8 ⟨L', d', ps', n8, v13', rfl, hR', hI, hn8, te⟩
        refine ⟨fun σ H9 => σ = [some (.ref a.s), some (.ref oa), some (.ref pl), some (.ref L'), some (.ref s), some (.ref s2), some (.ref B), some (.int (0 + (i : Int))), some (.int wy), some (.str z), some ev, some (.bl (decide (z ∈ ps.map wordS))), some (.str (pdT (bookT (own.map Tr.str) ps)).shown), v13', v14] ∧ Same H8 H9, ?_, ?_⟩
        · exact q4 hR' hR.bk hI te fun H9 s9 => ⟨rfl, s9⟩
        rintro σ H9 ⟨rfl, s9⟩
        exact q5 (i := i) (by omega) hR' hQ h6 (hI.same s9) fun B' d2' qs' H10 hQ' h6' hI' => ⟨L', d', d2', B', ps', qs', n8, _, _, _, _, _, _, _, _, rfl, hR', hQ', h6', hI', by omega⟩
      · rintro σ H4 ⟨L, d, d2, B, ps, qs, n4, v7, v8, v9, v10, v11, v12, v13, v14, rfl, hR, hQ, _, hI, hn4⟩
        have e14 : (14 : Int).toNat = 14 := rfl
        rw [e14] at hn4
        exact ⟨L, d, d2, B, ps, qs, n4, v7, v8, v9, v10, v11, v12, v13, v14, rfl, hR, hQ, hI, by omega⟩
    rintro σ H4 ⟨L, d, d2, B, ps, qs, n4, v7, v8, v9, v10, v11, v12, v13, v14, rfl, hR, hQ, hI, hn4⟩
    refine ⟨_, rfl, _, rfl, _, rfl, ?_⟩
    refine ⟨s2, d2, oa, B, own, qs, rfl, hQ, hI.ot, hI.ow, hI.be, fun H5 s5 => ?_⟩
    exact k n4 H5 (by omega) (hI.rnd.same s5)
end
end BK

set_option Elab.async false
set_option maxRecDepth 100000
set_option maxHeartbeats 4000000
set_option linter.unusedVariables false
/-! the law -/
namespace BK
open PySem PySem.Spec PyProof.Rows L2 SW RZ ET
abbrev sLaw : Stmt := top 62
abbrev nLaw : List Str := ["script", "state", "turn", "own", "some", "first"]
theorem scLaw : FnScope nLaw ["script"] (defScope sLaw) := ⟨rfl, rfl, rfl, by decide +kernel, rfl, by decide +kernel, by decide +kernel⟩
def spLaw (K : PySem.W.Frag) : Sp := fun vs H Q _ => ∃ (x : Addr) (ns : List Int), vs = [.ref x] ∧ SqL K H x (ns.map V.int) ∧ ns.length ≤ 63 ∧ ∀ H', Q (.bl true) H'
abbrev XLw (P : Program) (w : World) (K : PySem.W.Frag) (mg : Str → Option Value) (base : Heap) (f : Addr) (cdv : Value) (A : Around) (outer : List Env) (s : Shared) (H : Hp) (E : XK) : Cx := (cxOf CX0 P w K mg base nLaw "law" (defScope sLaw) f cdv A outer s H E).nox
theorem sql_same' {K : PySem.W.Frag} {H H' : Hp} {q : Addr} {xs : List V} (e : Same H H') (h : SqL K H q xs) : SqL K H' q xs := by
  rcases h with (h | ⟨u, h⟩) | h
  · exact .inl (.inl (e _ _ h))
  · exact .inl (.inr ⟨u, e _ _ h⟩)
  · exact .inr h
theorem cut_from {xs : List V} {i : Nat} (h : i ≤ xs.length) : cutV xs (some (i : Int)) none = xs.drop i := by
  unfold cutV
  have e1 : HT.sIx xs.length 0 (some (i : Int)) = i := by
    unfold HT.sIx
    show (if (i : Int) < 0 then _ else min (i : Int).toNat xs.length) = i
    rw [if_neg (by omega)]
    omega
  have e2 : HT.sIx xs.length xs.length none = xs.length := rfl
  rw [e1, e2]
  rw [List.take_of_length_le (by rw [List.length_drop]; omega)]
theorem pool_rot : ∀ j : Fin 8, (poolS.drop j.1 ++ poolS.take j.1).Nodup ∧ (∀ z ∈ poolS.drop j.1 ++ poolS.take j.1, z ∈ poolS) ∧ (poolS.drop j.1 ++ poolS.take j.1).length = 8 := by decide +kernel
theorem pool_at {j : Nat} (h : j < 8) : PoolG (poolS.drop j ++ poolS.take j) := by
  obtain ⟨h1, h2, h3⟩ := pool_rot ⟨j, h⟩
  exact ⟨h1, h2, h3⟩
theorem x_own : OwnG ["x"] := ⟨by decide +kernel, by decide +kernel, by decide, by decide⟩
section
variable {P : Program} {w : World} {K : PySem.W.Frag} {mg : Str → Option Value} {base : Heap} {C fI fG fS fC fL fE fF fN fB : Addr} {fdI fdG fdS fdC fdL fdE fdF fdN fdB : FuncData}
/-- one turn -/
theorem turn_ok {f fM fD fX : Addr} {fdM fdD fdX : FuncData} {cdv : Value} {A : Around} {outer : List Env} {s0 : Shared} {H : Hp} {E : XK} (gd : A.guards = some []) (hr : Room 21 (A.deeper (envOfC "law" (defScope sLaw) s0.heap.objs.size f cdv))) (mT : mg "tuple" = none)
    (GM : FnOk P w K mg base CX0 3 fM fdM ["state", "many"] spNms) (bM : Binds K fdM ["state", "many"] []) (gM : mg "_law_names" = some (.ref fM)) (kM : PySem.W.keepIn K (.ref fM) = true)
    (GD : FnOk P w K mg base CX0 2 fD fdD ["state", "many"] spDraw) (bD : Binds K fdD ["state", "many"] []) (gD : mg "_law_draw" = some (.ref fD)) (kD : PySem.W.keepIn K (.ref fD) = true)
    (GX : FnG P w K mg base 21 fX fdX ["state", "own", "pool"] (spDd K)) (bX : Binds K fdX ["state", "own", "pool"] []) (gX : mg "_law_deeds_right" = some (.ref fX)) (kX : PySem.W.keepIn K (.ref fX) = true) :
    ∃ t, PSs (XLw P w K mg base f cdv A outer s0 H E) (bodyOf (stAt sLaw 1)) t ∧
    ∀ {D} {a : RA} {n : Nat} {H1 : Hp} {v0 v2 v3 v4 v5 : Option V}, Rnd H1 a n → n ≤ 10000 →
      (∀ n' v3 v4 v5 H2, Rnd H2 a n' → n' ≤ n + 1000 → D.nx [v0, some (.ref a.s), v2, v3, v4, v5] H2) →
      t D [v0, some (.ref a.s), v2, v3, v4, v5] H1 := by
  have gd' : (A.deeper (envOfC "law" (defScope sLaw) s0.heap.objs.size f cdv)).guards = some [] := gd
  have hr2 : Room 2 _ := hr.mono (by decide)
  have hr3 : Room 3 _ := hr.mono (by decide)
  refine ⟨_, C8.pss_cut (ps_set (i := 3) scLaw.nd rfl (Or.inl rfl) (pe_callTy call_tup (by rfl) mT boot_tuple (pa_cons (pe_call GM hr3 rfl gM kM bM .nil pass0 (pa_cons (pv 1) (pa_cons (pe_op op_add pe_int (pe_call GD hr2 rfl gD kD bD .nil pass0 (pa_cons (pv 1) (pa_cons pe_int pa_nil)))) pa_nil))) pa_nil)))
    (C8.pss_cut (ps_set (i := 4) scLaw.nd rfl (Or.inl rfl) (pe_lst (pa_cons pe_str (pa_cons pe_str (pa_cons pe_str (pa_cons pe_str (pa_cons pe_str (pa_cons pe_str (pa_cons pe_str (pa_cons pe_str pa_nil))))))))))
    (C8.pss_cut (ps_set (i := 5) scLaw.nd rfl (Or.inl rfl) (pe_call GD hr2 rfl gD kD bD .nil pass0 (pa_cons (pv 1) (pa_cons pe_int pa_nil))))
    (pss_one (ps_if (pt_not (pt_val (pe_callG GX gd' hr rfl gX kX bX (pa_cons (pv 1) (pa_cons (pv 3) (pa_cons (pe_op op_cat (pe_slice sl_list (pv 4) (po_some (pv 5)) po_none) (pe_slice sl_list (pv 4) po_none (po_some (pv 5)))) pa_nil)))))) (pss_one ps_dead) pss_nil)))), ?_⟩
  intro D a n H1 v0 v2 v3 v4 v5 R hn k
  -- own
  refine ⟨fun σ H2 => ∃ (oa : Addr) (own : List Str) (n2 : Nat), σ = [v0, some (.ref a.s), v2, some (.ref oa), v4, v5] ∧ SqT K H2 oa (own.map V.str) ∧ OwnG own ∧ ("zq" : Str) ∉ own ∧ Rnd H2 a n2 ∧ n2 ≤ n + 11, ?_, ?_⟩
  · refine ⟨_, rfl, _, rfl, a, n, 2, rfl, R, by omega, by decide, by decide, fun r H2 r0 rl R2 b2 => ?_⟩
    obtain ⟨m, rfl⟩ : ∃ m : Nat, r = (m : Int) := ⟨r.toNat, by omega⟩
    have em : (1 : Int) + (m : Int) = ((1 + m : Nat) : Int) := by omega
    refine ⟨_, _, rfl, rfl, a, n + 1, 1 + m, by rw [← em]; rfl, R2, by omega, by omega, by omega, fun p zs n' H3 np op ep lz dz hz hn' R3 b3 => ?_⟩
    refine ⟨p, _, rfl, SqL.of ep, fun l nl => ?_⟩
    have sl := same_new (o := .tup (zs.map V.str)) nl
    exact ⟨l, zs, n', rfl, SqT.of upd_same, ⟨fun z h => (hz z h).1, dz, by omega, by omega⟩, fun h => (hz _ h).2 rfl, R3.same sl, by omega⟩
  rintro σ H2 ⟨oa, own, n2, rfl, hO, ow, zq, R2, hn2⟩
  refine ⟨fun σ H3 => ∃ q : Addr, σ = [v0, some (.ref a.s), v2, some (.ref oa), some (.ref q), v5] ∧ H3 q = some (.lst (poolS.map V.str)) ∧ SqT K H3 oa (own.map V.str) ∧ SW.Off a q ∧ Rnd H3 a n2, ?_, ?_⟩
  · refine ⟨(show 8 ≤ sizeLine by decide), fun q nq => ?_⟩
    have sq := same_new (o := .lst (poolS.map V.str)) nq
    exact ⟨q, rfl, upd_same, sqt_same sq hO, R2.off nq, R2.same sq⟩
  clear R2 hO
  rintro σ H3 ⟨q, rfl, eq, hO, oq, R3⟩
  refine ⟨fun σ H4 => ∃ j : Nat, σ = [v0, some (.ref a.s), v2, some (.ref oa), some (.ref q), some (.int (j : Int))] ∧ j < 8 ∧ H4 q = some (.lst (poolS.map V.str)) ∧ SqT K H4 oa (own.map V.str) ∧ Rnd H4 a (n2 + 1), ?_, ?_⟩
  · refine ⟨_, rfl, a, n2, 8, rfl, R3, by omega, by decide, by decide, fun r H4 r0 rl R4 b4 => ?_⟩
    obtain ⟨m, rfl⟩ : ∃ m : Nat, r = (m : Int) := ⟨r.toNat, by omega⟩
    exact ⟨m, rfl, by omega, b4.at oq eq, sqt_but R3 b4 hO, R4⟩
  clear R3 hO eq
  rintro σ H4 ⟨j, rfl, hj, eq, hO, R4⟩
  have pl8 : (poolS.map V.str).length = 8 := by rw [List.length_map]; rfl
  refine ⟨_, rfl, _, rfl, _, rfl, _, rfl, j, rfl, q, _, rfl, SqL.of eq, fun q1 n1 => ?_⟩
  rw [cut_from (by omega)]
  have a1 := same_new (o := .lst ((poolS.map V.str).drop j)) n1
  have b1 : (upd H4 q1 (.lst ((poolS.map V.str).drop j))) q1 = some (.lst ((poolS.map V.str).drop j)) := upd_same
  generalize upd H4 q1 (.lst ((poolS.map V.str).drop j)) = F1 at a1 b1 ⊢
  refine ⟨_, rfl, _, rfl, j, rfl, q, _, rfl, SqL.of (a1 _ _ eq), fun q2 n2' => ?_⟩
  rw [cut_take (by omega)]
  have a2 := same_new (o := .lst ((poolS.map V.str).take j)) n2'
  have b2 : (upd F1 q2 (.lst ((poolS.map V.str).take j))) q2 = some (.lst ((poolS.map V.str).take j)) := upd_same
  have b1 := a2 _ _ b1
  generalize upd F1 q2 (.lst ((poolS.map V.str).take j)) = F2 at a2 b1 b2 ⊢
  have a12 := a1.trans a2
  refine ⟨q1, q2, _, _, rfl, rfl, b1, b2, Nat.le_of_lt (small1000 (by rw [List.length_drop, List.length_take]; omega)), fun q3 n3 => ?_⟩
  have ep : (poolS.map V.str).drop j ++ (poolS.map V.str).take j = (poolS.drop j ++ poolS.take j).map V.str := by rw [List.map_append, List.map_drop, List.map_take]
  rw [ep]
  have a3 := same_new (o := .lst ((poolS.drop j ++ poolS.take j).map V.str)) n3
  have b3 : (upd F2 q3 (.lst ((poolS.drop j ++ poolS.take j).map V.str))) q3 = some (.lst ((poolS.drop j ++ poolS.take j).map V.str)) := upd_same
  have o3 := (R4.same a12).off n3
  generalize upd F2 q3 (.lst ((poolS.drop j ++ poolS.take j).map V.str)) = F3 at a3 b3 ⊢
  have a13 := a12.trans a3
  refine ⟨a, n2 + 1, oa, q3, own, _, rfl, R4.same a13, by omega, o3, b3, sqt_same a13 hO, ow, zq, pool_at hj, fun n' H5 hn' R5 => ?_⟩
  exact ⟨_, rfl, iteF (k n' _ _ _ H5 R5 (by omega))⟩
theorem ok_law {f fA fM fD fX : Addr} {fdA fdM fdD fdX : FuncData} {oc kV doc pm ct cdv : Value} {od an : Option Addr} {osl : Array (Option Value)} (lk : K.lookup f = some ⟨oc, od, .func (PySem.W.fnOf "law" "law" (defArgs sLaw) (defBody sLaw) (defScope sLaw) .none kV doc pm an cdv ct), osl⟩)
    (hcd : PySem.W.codeIn K cdv "law" = true) (Z : ShZ P w K mg base C fI fG fS fC fL fE fF fN fB fdI fdG fdS fdC fdL fdE fdF fdN fdB) (mT : mg "tuple" = none) (mL : mg "len" = none) (mG : mg "range" = none) (mM : mg "min" = none)
    (GA : FnOk P w K mg base CX0 1 fA fdA ["script"] (spBegin K)) (bA : Binds K fdA ["script"] []) (gA : mg "_law_begin" = some (.ref fA)) (kA : PySem.W.keepIn K (.ref fA) = true)
    (GM : FnOk P w K mg base CX0 3 fM fdM ["state", "many"] spNms) (bM : Binds K fdM ["state", "many"] []) (gM : mg "_law_names" = some (.ref fM)) (kM : PySem.W.keepIn K (.ref fM) = true)
    (GD : FnOk P w K mg base CX0 2 fD fdD ["state", "many"] spDraw) (bD : Binds K fdD ["state", "many"] []) (gD : mg "_law_draw" = some (.ref fD)) (kD : PySem.W.keepIn K (.ref fD) = true)
    (GX : FnG P w K mg base 21 fX fdX ["state", "own", "pool"] (spDd K)) (bX : Binds K fdX ["state", "own", "pool"] []) (gX : mg "_law_deeds_right" = some (.ref fX)) (kX : PySem.W.keepIn K (.ref fX) = true) :
    FnG P w K mg base 22 f (PySem.W.fnOf "law" "law" (defArgs sLaw) (defBody sLaw) (defScope sLaw) .none kV doc pm an cdv ct) ["script"] (spLaw K) := by
  refine fng_of lk hcd scLaw (fun vs H Q E h => ?_) (fun A outer s0 H vs Q E gd hr h => ?_)
  · obtain ⟨x, ns, rfl, _⟩ := h
    rfl
  · obtain ⟨xs, ns, rfl, hS, hl, k⟩ := h
    have hr1 : Room 1 _ := hr.mono (by decide)
    have hr2 : Room 2 _ := hr.mono (by decide)
    have hr19 : Room 19 _ := hr.mono (by decide)
    obtain ⟨tt, pt, rt⟩ := turn_ok (P := P) (w := w) (K := K) (mg := mg) (base := base) (outer := outer) (H := H) (E := E) gd hr mT GM bM gM kM GD bD gD kD GX bX gX kX
    refine ⟨_, C8.pss_cut (ps_set (i := 1) scLaw.nd rfl (Or.inl rfl) (pe_call GA hr1 rfl gA kA bA .nil pass0 (pa_cons (pv 0) pa_nil)))
      (C8.pss_cut (ps_for PassesOwn.never rfl (pi_range1 rfl mG (pa_cons (pe_op op_add pe_int (pe_callB (call_min2 rfl) (by rfl) mM boot_min (pa_cons pe_int (pa_cons (pe_callB call_len_seq (by rfl) mL boot_len (pa_cons (pv 0) pa_nil)) pa_nil)))) pa_nil)) (pg_name (i := 2) scLaw.nd rfl (Or.inl rfl)) pt)
      (pss_one (ps_ret (pe_and (pe_cmpR op_eq (pe_callB (call_len_own Z.hL Z.iL Z.GL hr2 Z.bL pass0) (by rfl) mL boot_len (pa_cons (pe_make Z.kM Z.GI hr19 rfl Z.X.mgC Z.bI .nil pass0 (pa_cons (pe_tup (pa_cons (pe_tup (pa_cons pe_str pa_nil)) (pa_cons (pe_tup pa_nil) pa_nil))) pa_nil)) pa_nil)) pe_int (nomark _))
        (pe_one (pe_cmpR (op_eqD hr.units) (pe_meth0 (pe_make Z.kM Z.GI hr19 rfl Z.X.mgC Z.bI .nil pass0 (pa_cons (pe_tup (pa_cons (pe_tup (pa_cons pe_str pa_nil)) (pa_cons (pe_tup pa_nil) pa_nil))) pa_nil)) Z.X.cl Z.mN Z.GN hr1 Z.bN .nil pass0) (pe_tup pa_nil) (nomark _))))))), ?_⟩
    refine ⟨fun σ H1 => ∃ a : RA, σ = [some (.ref xs), some (.ref a.s), none, none, none, none] ∧ Rnd H1 a 0 ∧ SqL K H1 xs (ns.map V.int), ?_, ?_⟩
    · exact ⟨_, rfl, xs, ns, rfl, hS, hl, fun a H1 s1 _ _ R1 => ⟨a, rfl, R1, sql_same' s1 hS⟩⟩
    rintro σ H1 ⟨a, rfl, R1, hS1⟩
    refine ⟨fun σ H2 => ∃ (v2 v3 v4 v5 : Option V), σ = [some (.ref xs), some (.ref a.s), v2, v3, v4, v5], ?_, ?_⟩
    · refine ⟨_, rfl, xs, _, rfl, .inl hS1, 1, _, rfl, _, _, rfl, rfl, ?_⟩
      rw [List.length_map]
      have hc : ∃ c : Nat, c ≤ 2 ∧ (1 : Int) + (if ((ns.length : Nat) : Int) < 1 then ((ns.length : Nat) : Int) else 1) = (c : Int) := by
        by_cases h : ((ns.length : Nat) : Int) < 1
        · exact ⟨1 + ns.length, by omega, by rw [if_pos h]; omega⟩
        · exact ⟨2, by omega, by rw [if_neg h]; rfl⟩
      obtain ⟨c, c2, ec⟩ := hc
      refine ⟨(c : Int), by rw [← ec], by omega, by omega, for_range (lo := 0) (n := (c : Int).toNat) (fun i σ H2 => ∃ (v2 v3 v4 v5 : Option V) (n : Nat), σ = [some (.ref xs), some (.ref a.s), v2, v3, v4, v5] ∧ Rnd H2 a n ∧ n ≤ 1000 * i)
        ⟨none, none, none, none, 0, rfl, R1, by omega⟩ ?_ ?_⟩
      · rintro i σ H2 hi ⟨v2, v3, v4, v5, n, rfl, R2, hn⟩
        refine rt R2 (by omega) fun n' v3 v4 v5 H3 R3 hn3 => ⟨_, v3, v4, v5, n', rfl, R3, by omega⟩
      · rintro σ H2 ⟨v2, v3, v4, v5, n, rfl, R2, hn⟩
        exact ⟨v2, v3, v4, v5, rfl⟩
    rintro σ H2 ⟨v2, v3, v4, v5, rfl⟩
    have two' : 2 ≤ sizeLine := by decide
    have one' : 1 ≤ sizeLine := by decide
    have hB0 : BkR ((["x"] : List Str).map Tr.str) [] := (LawR.nil x_own (by decide +kernel)).bk
    have mkb : ∀ {F : Hp} {q1 q2 q3 : Addr}, F q1 = none → (upd F q1 (.tup [.str "x"])) q2 = none → (upd (upd F q1 (.tup [.str "x"])) q2 (.tup [])) q3 = none →
        Same F (upd (upd (upd F q1 (.tup [.str "x"])) q2 (.tup [])) q3 (.tup [.ref q1, .ref q2])) ∧ TrAt K (upd (upd (upd F q1 (.tup [.str "x"])) q2 (.tup [])) q3 (.tup [.ref q1, .ref q2])) (.ref q3) (.tup [.tup ((["x"] : List Str).map Tr.str), .tup []]) := fun {F q1 q2 q3} n1 n2 n3 => by
      obtain ⟨a1, b1⟩ := new_tr (K := K) n1 (.cons (.str "x" (by decide)) .nil)
      obtain ⟨a2, b2⟩ := new_tr (K := K) n2 .nil
      obtain ⟨a3, b3⟩ := new_tr n3 (.cons (b1.same a2) (.cons b2 .nil))
      exact ⟨(a1.trans a2).trans a3, b3⟩
    refine ⟨one', fun q1 n1 => ⟨Nat.zero_le _, fun q2 n2 => ⟨two', fun q3 n3 => ?_⟩⟩⟩
    obtain ⟨s3, t3⟩ := mkb n1 n2 n3
    generalize upd (upd (upd H2 q1 (.tup [.str "x"])) q2 (.tup [])) q3 (.tup [.ref q1, .ref q2]) = F3 at s3 t3 ⊢
    intro x dx hx hdx ne
    refine make_sh hx hdx ne t3 hB0 fun d F4 s4 hS4 => ⟨rfl, ?_⟩
    obtain ⟨dx4, v4', ob4, tv4⟩ := id hS4.ob
    refine ⟨x, dx4, _, rfl, ob4, x, d, _, [], rfl, hS4, 0, rfl, by decide, ?_⟩
    refine ⟨rfl, _, rfl, iteT ?_⟩
    refine ⟨one', fun q4 n4 => ⟨Nat.zero_le _, fun q5 n5 => ⟨two', fun q6 n6 => ?_⟩⟩⟩
    obtain ⟨s5, t5⟩ := mkb n4 n5 n6
    generalize upd (upd (upd F4 q4 (.tup [.str "x"])) q5 (.tup [])) q6 (.tup [.ref q4, .ref q5]) = F5 at s5 t5 ⊢
    intro x2 dx2 hx2 hdx2 ne2
    refine make_sh hx2 hdx2 ne2 t5 hB0 fun d2 F6 s6 hS6 => ⟨rfl, ?_⟩
    obtain ⟨dx6, v6, ob6, tv6⟩ := id hS6.ob
    refine ⟨x2, dx6, _, rfl, ob6, shf_no v6 d2 (by decide +kernel) (by decide +kernel) (by decide +kernel), x2, d2, _, [], rfl, hS6, hB0, fun nv F7 s7 t7 => ?_⟩
    refine ⟨Nat.zero_le _, fun q7 n7 => ?_⟩
    obtain ⟨s8, t8⟩ := new_tr (K := K) n7 .nil
    exact ⟨_, _, (t7.same s8).dp rfl, t8.dp rfl, by decide +kernel, by decide +kernel, k _⟩
end
end BK

set_option Elab.async false
set_option maxRecDepth 100000
set_option maxHeartbeats 2000000
/-! The law is called where nothing runs: the script alone is told. -/
namespace BK
open PySem PySem.Spec PyProof.Rows L2
abbrev listOf (us : List Value) : Obj := { cls := .type "list", data := .seq us.toArray }
section
variable {P : Program} {w : World} {K : PySem.W.Frag} {mg mb : Str → Option Value} {s : Shared} {us : List Value} {ns : List Int} {sc : Addr}
theorem first_hp (hs : s.heap.get? sc = some (listOf us)) (KX : K.In s.heap) (inz : IntsAre us ns) (few : ns.length ≤ sizeLine) :
    ∃ H : Hp, SqL K H sc (ns.map V.int) ∧ HOk P w H s.heap ∧ ∀ b u, H b = some u → (b = sc ∧ K.lookup sc = none ∧ ∃ o xs, u = .frz o (.lst xs)) := by
  have vi := vals_ints inz
  have li := inz.length
  cases kl : K.lookup sc with
  | some o =>
    have eo : o = listOf us := Option.some.inj ((KX sc o kl).symm.trans hs)
    refine ⟨fun _ => none, .inr ⟨o, us.toArray, 0, kl, by rw [eo], by rw [eo], by rw [eo], by rw [List.size_toArray, li]; exact few, by simpa using vi⟩, fun b u e => ?_, fun b u e => ?_⟩
    · cases e
    · cases e
  | none =>
    refine ⟨upd (fun _ => none) sc (.frz (listOf us) (.lst (ns.map V.int))), .inl (.inr ⟨listOf us, upd_same⟩), fun b u e => ?_, fun b u e => ?_⟩
    · by_cases hb : b = sc
      · rw [hb, upd_same] at e
        cases e
        rw [hb]
        exact ⟨hs, by rw [List.length_map]; exact few, us, 0, vi, hs⟩
      · rw [upd_ne hb] at e
        cases e
    · by_cases hb : b = sc
      · rw [hb, upd_same] at e
        cases e
        exact ⟨hb, rfl, _, _, rfl⟩
      · rw [upd_ne hb] at e
        cases e
theorem call_law {k : Nat} {fa : Addr} {fd : FuncData} {x : Str} {sp : Sp} (KX : K.In s.heap) (gl : s.heap.Ns mainGlobals mg) (bl : s.heap.Ns builtinsNs mb) (bb : ∀ x : Str, x ≠ "__name__" → mb x = bootBuiltins x) (nl : s.heap.NoLimit) (ge : s.gens = #[])
    (hs : s.heap.get? sc = some (listOf us)) (inz : IntsAre us ns) (few : ns.length ≤ sizeLine) (hr : Room k callerA)
    (F : ∀ base : Heap, K.In base → base.Ns mainGlobals mg → FnG P w K mg base k fa fd [x] sp) (bd : ∀ (s : Shared) (u : Value), BindsTo s fd ⟨[u], []⟩ [(x, u)])
    (pr : ∀ H : Hp, SqL K H sc (ns.map V.int) → sp [.ref sc] H (fun v _ => v = .bl true) fun _ _ _ => False) :
    codeAny (model P w) callerA (.call (.ref fa) ⟨[.ref sc], []⟩) (fun r s' => r = .ok (.ret (.bool true)) ∧ OldK s.heap s'.heap ∧ s'.os = s.os ∧ AllBare s'.gens) s := by
  obtain ⟨H, hS, ok, only⟩ := first_hp (P := P) (w := w) hs KX inz few
  have stays : ∀ {b : Addr} {o : Obj}, s.heap.get? b = some o → (b = sc → K.lookup sc = none → False) → (hidT s.heap H).get? b = some o := fun {b o} e h2 => hidT_get e (by
    cases q : H b with
    | none => rfl
    | some u =>
      obtain ⟨z, z2, _⟩ := only b u q
      exact (h2 z z2).elim)
  have other : ∀ {b : Addr} {o : Obj}, s.heap.get? b = some o → o ≠ listOf us → (hidT s.heap H).get? b = some o := fun {b o} e h2 =>
    stays e (fun z _ => h2 (Option.some.inj ((by rw [← e, z]; exact hs))))
  have kb : K.In (hidT s.heap H) := fun b o e => stays (KX b o e) fun z z2 => by rw [z, z2] at e; cases e
  have dict_ : ∀ {b : Addr} {m : Str → Option Value}, s.heap.Ns b m → (hidT s.heap H).Ns b m := fun {b m} h => by
    obtain ⟨o, es, ep, e, d, r⟩ := h
    exact ⟨o, es, ep, other e (fun z => by rw [z] at d; cases d), d, r⟩
  have md : L2.Mod K mg (hidT s.heap H) := by
    obtain ⟨mc, q1, q2⟩ := nl
    exact ⟨kb, dict_ gl, ⟨mb, dict_ bl, bb⟩, mc, dict_ q1, q2⟩
  have e0 : Env0 P w K mg (hidT s.heap H) callerA [] s H := ⟨rfl, md, fun b o e => of_hidT e, Nat.le_of_eq (hidT_size _ _), trivial, (fun b hb => by cases hb), ok, .of_eq ge⟩
  refine codeAny_mono ((F _ kb (dict_ gl)).run callerA [] s H [.ref sc] [.ref sc] _ _ rfl hr e0 (bd s (.ref sc)) (.cons rfl .nil) (pr H hS)) fun r s' h => ?_
  match r, h with
  | .ok (.ret u), ⟨v, H', os, bare, un, ok', rv, q⟩ =>
    have ev : v = .bl true := q
    rw [ev] at rv
    have eu : u = Value.bool true := rv
    have old : ∀ b o, s.heap.get? b = some o → s'.heap.get? b = some o := fun b o e => by
      cases q : H b with
      | none => exact un.keep b o e q (by intro z; cases z) (by simp)
      | some u =>
        obtain ⟨_, _, o2, xs, z⟩ := only b u q
        rw [z] at q
        have a1 := (ok b _ q).1
        have a2 := (ok' b _ (un.frzs b o2 _ q)).1
        rw [e] at a1
        cases a1
        exact a2
    exact ⟨by rw [eu], ⟨fun b o e => .inl (old b o e), fun b o e => ⟨o, old b o e⟩⟩, os, bare⟩
end
/-! the dict of the forms -/
def litKeys (es : List DictEntry) : Bool := es.all fun e => match e.key with
  | .str k _ => (kindsOf k).isSome
  | _ => false
theorem no_of {K : PySem.W.Frag} {p : Addr} {es : Array DictEntry} {n : Nat} (hl : K.lookup p = some ⟨.type "dict", none, .dict es n, #[]⟩) (hk : litKeys es.toList = true) (x : Str) (hx : kindsOf x = none) : PySem.W.nsIn K p x = some none := by
  have e1 : es.toList.find? (·.key.isStr x) = none := by
    rw [List.find?_eq_none]
    intro e he
    have q := List.all_eq_true.mp hk e he
    cases ek : e.key with
    | str k t =>
      rw [ek] at q
      intro z
      have z2 : Value.isStrOf x (.str k t) = true := by rw [← PySem.W.isStr_of]; exact z
      have e2 : k = x := by
        unfold Value.isStrOf at z2
        simpa using z2
      have q2 : (kindsOf k).isSome = true := q
      rw [e2, hx] at q2
      cases q2
    | _ => rw [ek] at q; cases q
  have e2 : es.toList.any (·.refKey) = false := by
    rw [List.any_eq_false]
    intro e he
    have q := List.all_eq_true.mp hk e he
    cases ek : e.key with
    | str k t =>
      unfold DictEntry.refKey
      rw [ek]
      simp
    | _ => rw [ek] at q; cases q
  unfold PySem.W.nsIn
  rw [hl]
  show (match es.toList.find? (·.key.isStr x) with
      | some e => some (some e.val)
      | none => if es.toList.any (·.refKey) then none else some none) = some none
  rw [e1, e2]
  rfl
theorem kinds_mem {x : Str} {ks : List Str} (h : kindsOf x = some ks) : (x, ks) ∈ kindTab := by
  unfold kindsOf at h
  cases e : kindTab.find? fun e => decide (e.1 = x) with
  | none => rw [e] at h; cases h
  | some p =>
    rw [e] at h
    have q : p.2 = ks := Option.some.inj h
    have q0 : (fun e : Str × List Str => decide (e.1 = x)) p = true := List.find?_some (p := fun e : Str × List Str => decide (e.1 = x)) e
    have q1 : p.1 = x := of_decide_eq_true q0
    have m := List.mem_of_find?_eq_some e
    rw [← q, ← q1]
    exact m
end BK


set_option Elab.async false
set_option maxRecDepth 100000
set_option maxHeartbeats 4000000
/-! What the top has written, and the claim. -/
namespace BK
open PySem PySem.Spec PyProof.Rows L2 SW
theorem exm_own {K : PySem.W.Frag} {S : Addr} (h1 : PySem.W.subIn K (.ref S) (.type "BaseException") = some true) (h2 : PySem.W.isClsIn K S = true) (h3 : PySem.W.typeIn K (.ref S) = some (.type "type")) (h4 : PySem.W.subIn K (.ref S) (.ref S) = some true) : PySem.W.exmOne K (.ref S) (.ref S) = some true := by
  have a : (PySem.W.subIn K (.ref S) (.type "BaseException") == some true) = true := by rw [h1] <;> rfl
  have b : ((PySem.W.clsIn K S).isSome && PySem.W.typeIn K (.ref S) == some (.type "type")) = true := by
    have c : (PySem.W.clsIn K S).isSome = true := h2
    rw [c, h3] <;> rfl
  unfold PySem.W.exmOne
  rw [if_pos a]
  unfold PySem.W.kitCls
  exact (if_pos b).trans h4
theorem sz4 {n : Nat} (h : n ≤ 4) : n ≤ sizeLine := by
  rw [sizeLine_eq]
  omega
theorem walkG {l : PySem.W.OpenLaw} {q : Program} {loose : List Str} {XP : (Str → Option Value) → Heap → Prop} {YP : World → Heap → Prop} {d : DefRec} {K : Params → PySem.W.Frag} (hn : l.most = some 63) (hdf : d.params.defaults = [])
    (hY : ∀ (w : World) (h : Heap), YP w h → (K w.params).In h)
    (F : ∀ (w : World) (mg : Str → Option Value) (fa : Addr) (h : Heap), (K w.params).In h → h.Ns mainGlobals mg → mg d.name = some (.ref fa) →
      ∃ (fd : FuncData), (∀ (s : Shared) (u : Value), BindsTo s fd ⟨[u], []⟩ [("script", u)]) ∧ ∀ base : Heap, (K w.params).In base → base.Ns mainGlobals mg → FnG l.prog w (K w.params) mg base 22 fa fd ["script"] (spLaw (K w.params))) :
    PySem.W.WalkO q loose XP YP l.row.toRowW d [] (fun f vs => PySem.call f vs) := by
  refine Att.attach_callB hn hdf fun w s0 s mg mb fa o pm cd doc a vs ns G Y _ _ _ hmg obj inz few _ ge => ?_
  have KX := hY w _ Y
  obtain ⟨fd, bd, GF⟩ := F w mg fa _ KX G.T.g hmg
  exact call_law KX G.T.g G.T.b G.T.builtins G.T.nolimit ge obj inz (Nat.le_trans few (by decide)) ⟨rfl, by decide, by decide⟩ GF bd
    fun H h2 => ⟨a, ns, rfl, h2, few, fun _ => rfl⟩
theorem all_mk {P : Program} {w : World} {K : PySem.W.Frag} {h : Heap} {mg : Str → Option Value} {fa C CB S : Addr} (X : K.In h) (G : h.Ns mainGlobals mg) (hfa : mg "law" = some (.ref fa))
    {fcin : Addr} {odcin ancin : Option Addr} {slcin : Array (Option Value)} {occin kVcin dccin pmcin cdcin ctcin : Value}
    {ftak : Addr} {odtak antak : Option Addr} {sltak : Array (Option Value)} {octak kVtak dctak pmtak cdtak cttak : Value}
    {fknw : Addr} {odknw anknw : Option Addr} {slknw : Array (Option Value)} {ocknw kVknw dcknw pmknw cdknw ctknw : Value}
    {ffin : Addr} {odfin anfin : Option Addr} {slfin : Array (Option Value)} {ocfin kVfin dcfin pmfin cdfin ctfin : Value}
    {fbin : Addr} {odbin anbin : Option Addr} {slbin : Array (Option Value)} {ocbin kVbin dcbin pmbin cdbin ctbin : Value}
    {fsin : Addr} {odsin ansin : Option Addr} {slsin : Array (Option Value)} {ocsin kVsin dcsin pmsin cdsin ctsin : Value}
    {fsgt : Addr} {odsgt ansgt : Option Addr} {slsgt : Array (Option Value)} {ocsgt kVsgt dcsgt pmsgt cdsgt ctsgt : Value}
    {fsst : Addr} {odsst ansst : Option Addr} {slsst : Array (Option Value)} {ocsst kVsst dcsst pmsst cdsst ctsst : Value}
    {fsco : Addr} {odsco ansco : Option Addr} {slsco : Array (Option Value)} {ocsco kVsco dcsco pmsco cdsco ctsco : Value}
    {fsln : Addr} {odsln ansln : Option Addr} {slsln : Array (Option Value)} {ocsln kVsln dcsln pmsln cdsln ctsln : Value}
    {fseq : Addr} {odseq anseq : Option Addr} {slseq : Array (Option Value)} {ocseq kVseq dcseq pmseq cdseq ctseq : Value}
    {fsfo : Addr} {odsfo ansfo : Option Addr} {slsfo : Array (Option Value)} {ocsfo kVsfo dcsfo pmsfo cdsfo ctsfo : Value}
    {fsnm : Addr} {odsnm ansnm : Option Addr} {slsnm : Array (Option Value)} {ocsnm kVsnm dcsnm pmsnm cdsnm ctsnm : Value}
    {fsbk : Addr} {odsbk ansbk : Option Addr} {slsbk : Array (Option Value)} {ocsbk kVsbk dcsbk pmsbk cdsbk ctsbk : Value}
    {fspc : Addr} {odspc anspc : Option Addr} {slspc : Array (Option Value)} {ocspc kVspc dcspc pmspc cdspc ctspc : Value}
    {fsch : Addr} {odsch ansch : Option Addr} {slsch : Array (Option Value)} {ocsch kVsch dcsch pmsch cdsch ctsch : Value}
    {fisn : Addr} {odisn anisn : Option Addr} {slisn : Array (Option Value)} {ocisn kVisn dcisn pmisn cdisn ctisn : Value}
    {farn : Addr} {odarn anarn : Option Addr} {slarn : Array (Option Value)} {ocarn kVarn dcarn pmarn cdarn ctarn : Value}
    {fitg : Addr} {oditg anitg : Option Addr} {slitg : Array (Option Value)} {ocitg kVitg dcitg pmitg cditg ctitg : Value}
    {fnum : Addr} {odnum annum : Option Addr} {slnum : Array (Option Value)} {ocnum kVnum dcnum pmnum cdnum ctnum : Value}
    {ftup : Addr} {odtup antup : Option Addr} {sltup : Array (Option Value)} {octup kVtup dctup pmtup cdtup cttup : Value}
    {fdif : Addr} {oddif andif : Option Addr} {sldif : Array (Option Value)} {ocdif kVdif dcdif pmdif cddif ctdif : Value}
    {fprt : Addr} {odprt anprt : Option Addr} {slprt : Array (Option Value)} {ocprt kVprt dcprt pmprt cdprt ctprt : Value}
    {fwrd : Addr} {odwrd anwrd : Option Addr} {slwrd : Array (Option Value)} {ocwrd kVwrd dcwrd pmwrd cdwrd ctwrd : Value}
    {ffit : Addr} {odfit anfit : Option Addr} {slfit : Array (Option Value)} {ocfit kVfit dcfit pmfit cdfit ctfit : Value}
    {ffrm : Addr} {odfrm anfrm : Option Addr} {slfrm : Array (Option Value)} {ocfrm kVfrm dcfrm pmfrm cdfrm ctfrm : Value}
    {fpts : Addr} {odpts anpts : Option Addr} {slpts : Array (Option Value)} {ocpts kVpts dcpts pmpts cdpts ctpts : Value}
    {fblk : Addr} {odblk anblk : Option Addr} {slblk : Array (Option Value)} {ocblk kVblk dcblk pmblk cdblk ctblk : Value}
    {fcan : Addr} {odcan ancan : Option Addr} {slcan : Array (Option Value)} {occan kVcan dccan pmcan cdcan ctcan : Value}
    {fhyi : Addr} {odhyi anhyi : Option Addr} {slhyi : Array (Option Value)} {ochyi kVhyi dchyi pmhyi cdhyi cthyi : Value}
    {fknd : Addr} {odknd anknd : Option Addr} {slknd : Array (Option Value)} {ocknd kVknd dcknd pmknd cdknd ctknd : Value}
    {fprm : Addr} {odprm anprm : Option Addr} {slprm : Array (Option Value)} {ocprm kVprm dcprm pmprm cdprm ctprm : Value}
    {ftrp : Addr} {odtrp antrp : Option Addr} {sltrp : Array (Option Value)} {octrp kVtrp dctrp pmtrp cdtrp cttrp : Value}
    {ffpc : Addr} {odfpc anfpc : Option Addr} {slfpc : Array (Option Value)} {ocfpc kVfpc dcfpc pmfpc cdfpc ctfpc : Value}
    {fflt : Addr} {odflt anflt : Option Addr} {slflt : Array (Option Value)} {ocflt kVflt dcflt pmflt cdflt ctflt : Value}
    {fnee : Addr} {odnee annee : Option Addr} {slnee : Array (Option Value)} {ocnee kVnee dcnee pmnee cdnee ctnee : Value}
    {ffpi : Addr} {odfpi anfpi : Option Addr} {slfpi : Array (Option Value)} {ocfpi kVfpi dcfpi pmfpi cdfpi ctfpi : Value}
    {fstm : Addr} {odstm anstm : Option Addr} {slstm : Array (Option Value)} {ocstm kVstm dcstm pmstm cdstm ctstm : Value}
    {fbnd : Addr} {odbnd anbnd : Option Addr} {slbnd : Array (Option Value)} {ocbnd kVbnd dcbnd pmbnd cdbnd ctbnd : Value}
    {fown : Addr} {odown anown : Option Addr} {slown : Array (Option Value)} {ocown kVown dcown pmown cdown ctown : Value}
    {fwth : Addr} {odwth anwth : Option Addr} {slwth : Array (Option Value)} {ocwth kVwth dcwth pmwth cdwth ctwth : Value}
    {fmix : Addr} {odmix anmix : Option Addr} {slmix : Array (Option Value)} {ocmix kVmix dcmix pmmix cdmix ctmix : Value}
    {fbeg : Addr} {odbeg anbeg : Option Addr} {slbeg : Array (Option Value)} {ocbeg kVbeg dcbeg pmbeg cdbeg ctbeg : Value}
    {fdrw : Addr} {oddrw andrw : Option Addr} {sldrw : Array (Option Value)} {ocdrw kVdrw dcdrw pmdrw cddrw ctdrw : Value}
    {flof : Addr} {odlof anlof : Option Addr} {sllof : Array (Option Value)} {oclof kVlof dclof pmlof cdlof ctlof : Value}
    {fnms : Addr} {odnms annms : Option Addr} {slnms : Array (Option Value)} {ocnms kVnms dcnms pmnms cdnms ctnms : Value}
    {fbit : Addr} {odbit anbit : Option Addr} {slbit : Array (Option Value)} {ocbit kVbit dcbit pmbit cdbit ctbit : Value}
    {fpce : Addr} {odpce anpce : Option Addr} {slpce : Array (Option Value)} {ocpce kVpce dcpce pmpce cdpce ctpce : Value}
    {fput : Addr} {odput anput : Option Addr} {slput : Array (Option Value)} {ocput kVput dcput pmput cdput ctput : Value}
    {fshw : Addr} {odshw anshw : Option Addr} {slshw : Array (Option Value)} {ocshw kVshw dcshw pmshw cdshw ctshw : Value}
    {fdds : Addr} {oddds andds : Option Addr} {sldds : Array (Option Value)} {ocdds kVdds dcdds pmdds cddds ctdds : Value}
    {flaw : Addr} {odlaw anlaw : Option Addr} {sllaw : Array (Option Value)} {oclaw kVlaw dclaw pmlaw cdlaw ctlaw : Value}
    {t_LETTERS : Tok} {t_MOST_LETTERS : Tok} {t_MOST_NUMBER : Tok} {t_MOST_VALUE : Tok} {t_MOST_PIECES : Tok} {t_MOST_VARS : Tok} {t_MOST_PARAMS : Tok} {t_MOST_STATEMENTS : Tok} {t_MOST_AROUND : Tok} {t_MOST_VARS_ASKED : Tok} {t_MOST_ASKED : Tok}
    {aKD pP : Addr} {odKD : Option Addr} {nKD nP : Nat} {slKD : Array (Option Value)} {tKD1 tKD2 : Tok} {es : Array DictEntry}
    {p0 : Addr} {odp0 : Option Addr} {np0 : Nat} {slp0 : Array (Option Value)} {q0_0 q0_1 : Tok}
    {p1 : Addr} {odp1 : Option Addr} {np1 : Nat} {slp1 : Array (Option Value)} {q1_0 q1_1 q1_2 : Tok}
    {p2 : Addr} {odp2 : Option Addr} {np2 : Nat} {slp2 : Array (Option Value)} {q2_0 : Tok}
    {p3 : Addr} {odp3 : Option Addr} {np3 : Nat} {slp3 : Array (Option Value)} {q3_0 : Tok}
    {p4 : Addr} {odp4 : Option Addr} {np4 : Nat} {slp4 : Array (Option Value)} {q4_0 : Tok}
    {p5 : Addr} {odp5 : Option Addr} {np5 : Nat} {slp5 : Array (Option Value)} {q5_0 : Tok}
    {p6 : Addr} {odp6 : Option Addr} {np6 : Nat} {slp6 : Array (Option Value)} {q6_0 q6_1 : Tok}
    {p7 : Addr} {odp7 : Option Addr} {np7 : Nat} {slp7 : Array (Option Value)} {q7_0 q7_1 q7_2 q7_3 : Tok}
    {p8 : Addr} {odp8 : Option Addr} {np8 : Nat} {slp8 : Array (Option Value)} {q8_0 q8_1 q8_2 : Tok}
    {p9 : Addr} {odp9 : Option Addr} {np9 : Nat} {slp9 : Array (Option Value)} {q9_0 q9_1 : Tok}
    {p10 : Addr} {odp10 : Option Addr} {np10 : Nat} {slp10 : Array (Option Value)} {q10_0 : Tok}
    {p11 : Addr} {odp11 : Option Addr} {np11 : Nat} {slp11 : Array (Option Value)}
    {p12 : Addr} {odp12 : Option Addr} {np12 : Nat} {slp12 : Array (Option Value)}
    {p13 : Addr} {odp13 : Option Addr} {np13 : Nat} {slp13 : Array (Option Value)}
    {nm q : Str} {N : Addr} {bs bm : List Value} {sn : List Str} {sub : List Value} {abb : Bool} {col : Option Bool} {dd : Option Addr} {m0 m1 m2 m3 m5 : Option Value}
    (aC : PySem.W.nsIn K mainGlobals "Check" = some (some (.ref C)))
    (aCB : PySem.W.nsIn K mainGlobals "BadBook" = some (some (.ref CB)))
    (aS : PySem.W.nsIn K mainGlobals "Shelf" = some (some (.ref S)))
    (acin : PySem.W.findIn K (.ref C) "__init__" = some (some (.ref fcin)))
    (icin : PySem.W.isFn K (.ref fcin) = true)
    (lcin : K.lookup fcin = some ⟨occin, odcin, .func (PySem.W.fnOf "__init__" "Check.__init__" (defArgs sCInit) (defBody sCInit) (defScope sCInit) .none kVcin dccin pmcin ancin cdcin ctcin), slcin⟩)
    (ccin : PySem.W.codeIn K cdcin "Check.__init__" = true)
    (kcin : PySem.W.keepIn K (.ref fcin) = true)
    (atak : PySem.W.findIn K (.ref C) "takes" = some (some (.ref ftak)))
    (itak : PySem.W.isFn K (.ref ftak) = true)
    (ltak : K.lookup ftak = some ⟨octak, odtak, .func (PySem.W.fnOf "takes" "Check.takes" (defArgs sTakes) (defBody sTakes) (defScope sTakes) .none kVtak dctak pmtak antak cdtak cttak), sltak⟩)
    (ctak : PySem.W.codeIn K cdtak "Check.takes" = true)
    (ktak : PySem.W.keepIn K (.ref ftak) = true)
    (aknw : PySem.W.findIn K (.ref C) "knows" = some (some (.ref fknw)))
    (iknw : PySem.W.isFn K (.ref fknw) = true)
    (lknw : K.lookup fknw = some ⟨ocknw, odknw, .func (PySem.W.fnOf "knows" "Check.knows" (defArgs sKnows) (defBody sKnows) (defScope sKnows) .none kVknw dcknw pmknw anknw cdknw ctknw), slknw⟩)
    (cknw : PySem.W.codeIn K cdknw "Check.knows" = true)
    (kknw : PySem.W.keepIn K (.ref fknw) = true)
    (afin : PySem.W.findIn K (.ref C) "fault_in" = some (some (.ref ffin)))
    (ifin : PySem.W.isFn K (.ref ffin) = true)
    (lfin : K.lookup ffin = some ⟨ocfin, odfin, .func (PySem.W.fnOf "fault_in" "Check.fault_in" (defArgs sFault) (defBody sFault) (defScope sFault) .none kVfin dcfin pmfin anfin cdfin ctfin), slfin⟩)
    (cfin : PySem.W.codeIn K cdfin "Check.fault_in" = true)
    (kfin : PySem.W.keepIn K (.ref ffin) = true)
    (abin : PySem.W.findIn K (.ref CB) "__init__" = some (some (.ref fbin)))
    (ibin : PySem.W.isFn K (.ref fbin) = true)
    (lbin : K.lookup fbin = some ⟨ocbin, odbin, .func (PySem.W.fnOf "__init__" "BadBook.__init__" (defArgs sBadInit) (defBody sBadInit) (defScope sBadInit) .none kVbin dcbin pmbin anbin cdbin ctbin), slbin⟩)
    (cbin : PySem.W.codeIn K cdbin "BadBook.__init__" = true)
    (kbin : PySem.W.keepIn K (.ref fbin) = true)
    (asin : PySem.W.findIn K (.ref S) "__init__" = some (some (.ref fsin)))
    (isin : PySem.W.isFn K (.ref fsin) = true)
    (lsin : K.lookup fsin = some ⟨ocsin, odsin, .func (PySem.W.fnOf "__init__" "Shelf.__init__" (defArgs sSI) (defBody sSI) (defScope sSI) .none kVsin dcsin pmsin ansin cdsin ctsin), slsin⟩)
    (csin : PySem.W.codeIn K cdsin "Shelf.__init__" = true)
    (ksin : PySem.W.keepIn K (.ref fsin) = true)
    (asgt : PySem.W.findIn K (.ref S) "__getitem__" = some (some (.ref fsgt)))
    (isgt : PySem.W.isFn K (.ref fsgt) = true)
    (lsgt : K.lookup fsgt = some ⟨ocsgt, odsgt, .func (PySem.W.fnOf "__getitem__" "Shelf.__getitem__" (defArgs sSG) (defBody sSG) (defScope sSG) .none kVsgt dcsgt pmsgt ansgt cdsgt ctsgt), slsgt⟩)
    (csgt : PySem.W.codeIn K cdsgt "Shelf.__getitem__" = true)
    (ksgt : PySem.W.keepIn K (.ref fsgt) = true)
    (asst : PySem.W.findIn K (.ref S) "__setitem__" = some (some (.ref fsst)))
    (isst : PySem.W.isFn K (.ref fsst) = true)
    (lsst : K.lookup fsst = some ⟨ocsst, odsst, .func (PySem.W.fnOf "__setitem__" "Shelf.__setitem__" (defArgs sSS) (defBody sSS) (defScope sSS) .none kVsst dcsst pmsst ansst cdsst ctsst), slsst⟩)
    (csst : PySem.W.codeIn K cdsst "Shelf.__setitem__" = true)
    (ksst : PySem.W.keepIn K (.ref fsst) = true)
    (asco : PySem.W.findIn K (.ref S) "__contains__" = some (some (.ref fsco)))
    (isco : PySem.W.isFn K (.ref fsco) = true)
    (lsco : K.lookup fsco = some ⟨ocsco, odsco, .func (PySem.W.fnOf "__contains__" "Shelf.__contains__" (defArgs sSC) (defBody sSC) (defScope sSC) .none kVsco dcsco pmsco ansco cdsco ctsco), slsco⟩)
    (csco : PySem.W.codeIn K cdsco "Shelf.__contains__" = true)
    (ksco : PySem.W.keepIn K (.ref fsco) = true)
    (asln : PySem.W.findIn K (.ref S) "__len__" = some (some (.ref fsln)))
    (isln : PySem.W.isFn K (.ref fsln) = true)
    (lsln : K.lookup fsln = some ⟨ocsln, odsln, .func (PySem.W.fnOf "__len__" "Shelf.__len__" (defArgs sSL) (defBody sSL) (defScope sSL) .none kVsln dcsln pmsln ansln cdsln ctsln), slsln⟩)
    (csln : PySem.W.codeIn K cdsln "Shelf.__len__" = true)
    (ksln : PySem.W.keepIn K (.ref fsln) = true)
    (aseq : PySem.W.findIn K (.ref S) "__eq__" = some (some (.ref fseq)))
    (iseq : PySem.W.isFn K (.ref fseq) = true)
    (lseq : K.lookup fseq = some ⟨ocseq, odseq, .func (PySem.W.fnOf "__eq__" "Shelf.__eq__" (defArgs sSE) (defBody sSE) (defScope sSE) .none kVseq dcseq pmseq anseq cdseq ctseq), slseq⟩)
    (cseq : PySem.W.codeIn K cdseq "Shelf.__eq__" = true)
    (kseq : PySem.W.keepIn K (.ref fseq) = true)
    (asfo : PySem.W.findIn K (.ref S) "forget" = some (some (.ref fsfo)))
    (isfo : PySem.W.isFn K (.ref fsfo) = true)
    (lsfo : K.lookup fsfo = some ⟨ocsfo, odsfo, .func (PySem.W.fnOf "forget" "Shelf.forget" (defArgs sSF) (defBody sSF) (defScope sSF) .none kVsfo dcsfo pmsfo ansfo cdsfo ctsfo), slsfo⟩)
    (csfo : PySem.W.codeIn K cdsfo "Shelf.forget" = true)
    (ksfo : PySem.W.keepIn K (.ref fsfo) = true)
    (asnm : PySem.W.findIn K (.ref S) "names" = some (some (.ref fsnm)))
    (isnm : PySem.W.isFn K (.ref fsnm) = true)
    (lsnm : K.lookup fsnm = some ⟨ocsnm, odsnm, .func (PySem.W.fnOf "names" "Shelf.names" (defArgs sSN) (defBody sSN) (defScope sSN) .none kVsnm dcsnm pmsnm ansnm cdsnm ctsnm), slsnm⟩)
    (csnm : PySem.W.codeIn K cdsnm "Shelf.names" = true)
    (ksnm : PySem.W.keepIn K (.ref fsnm) = true)
    (asbk : PySem.W.findIn K (.ref S) "book" = some (some (.ref fsbk)))
    (isbk : PySem.W.isFn K (.ref fsbk) = true)
    (lsbk : K.lookup fsbk = some ⟨ocsbk, odsbk, .func (PySem.W.fnOf "book" "Shelf.book" (defArgs sSB) (defBody sSB) (defScope sSB) .none kVsbk dcsbk pmsbk ansbk cdsbk ctsbk), slsbk⟩)
    (csbk : PySem.W.codeIn K cdsbk "Shelf.book" = true)
    (ksbk : PySem.W.keepIn K (.ref fsbk) = true)
    (aspc : PySem.W.findIn K (.ref S) "_piece" = some (some (.ref fspc)))
    (ispc : PySem.W.isFn K (.ref fspc) = true)
    (lspc : K.lookup fspc = some ⟨ocspc, odspc, .func (PySem.W.fnOf "_piece" "Shelf._piece" (defArgs sSP) (defBody sSP) (defScope sSP) .none kVspc dcspc pmspc anspc cdspc ctspc), slspc⟩)
    (cspc : PySem.W.codeIn K cdspc "Shelf._piece" = true)
    (kspc : PySem.W.keepIn K (.ref fspc) = true)
    (asch : PySem.W.findIn K (.ref S) "_change" = some (some (.ref fsch)))
    (isch : PySem.W.isFn K (.ref fsch) = true)
    (lsch : K.lookup fsch = some ⟨ocsch, odsch, .func (PySem.W.fnOf "_change" "Shelf._change" (defArgs sSX) (defBody sSX) (defScope sSX) .none kVsch dcsch pmsch ansch cdsch ctsch), slsch⟩)
    (csch : PySem.W.codeIn K cdsch "Shelf._change" = true)
    (ksch : PySem.W.keepIn K (.ref fsch) = true)
    (aisn : PySem.W.nsIn K mainGlobals "is_name" = some (some (.ref fisn)))
    (lisn : K.lookup fisn = some ⟨ocisn, odisn, .func (PySem.W.fnOf "is_name" "is_name" (defArgs BK.sName) (defBody BK.sName) (defScope BK.sName) .none kVisn dcisn pmisn anisn cdisn ctisn), slisn⟩)
    (cisn : PySem.W.codeIn K cdisn "is_name" = true)
    (kisn : PySem.W.keepIn K (.ref fisn) = true)
    (aarn : PySem.W.nsIn K mainGlobals "are_names" = some (some (.ref farn)))
    (larn : K.lookup farn = some ⟨ocarn, odarn, .func (PySem.W.fnOf "are_names" "are_names" (defArgs sAreNames) (defBody sAreNames) (defScope sAreNames) .none kVarn dcarn pmarn anarn cdarn ctarn), slarn⟩)
    (carn : PySem.W.codeIn K cdarn "are_names" = true)
    (karn : PySem.W.keepIn K (.ref farn) = true)
    (aitg : PySem.W.nsIn K mainGlobals "is_integer" = some (some (.ref fitg)))
    (litg : K.lookup fitg = some ⟨ocitg, oditg, .func (PySem.W.fnOf "is_integer" "is_integer" (defArgs sInteger) (defBody sInteger) (defScope sInteger) .none kVitg dcitg pmitg anitg cditg ctitg), slitg⟩)
    (citg : PySem.W.codeIn K cditg "is_integer" = true)
    (kitg : PySem.W.keepIn K (.ref fitg) = true)
    (anum : PySem.W.nsIn K mainGlobals "is_number" = some (some (.ref fnum)))
    (lnum : K.lookup fnum = some ⟨ocnum, odnum, .func (PySem.W.fnOf "is_number" "is_number" (defArgs sNumber) (defBody sNumber) (defScope sNumber) .none kVnum dcnum pmnum annum cdnum ctnum), slnum⟩)
    (cnum : PySem.W.codeIn K cdnum "is_number" = true)
    (knum : PySem.W.keepIn K (.ref fnum) = true)
    (atup : PySem.W.nsIn K mainGlobals "is_tuple" = some (some (.ref ftup)))
    (ltup : K.lookup ftup = some ⟨octup, odtup, .func (PySem.W.fnOf "is_tuple" "is_tuple" (defArgs sTuple) (defBody sTuple) (defScope sTuple) .none kVtup dctup pmtup antup cdtup cttup), sltup⟩)
    (ctup : PySem.W.codeIn K cdtup "is_tuple" = true)
    (ktup : PySem.W.keepIn K (.ref ftup) = true)
    (adif : PySem.W.nsIn K mainGlobals "are_different_names" = some (some (.ref fdif)))
    (ldif : K.lookup fdif = some ⟨ocdif, oddif, .func (PySem.W.fnOf "are_different_names" "are_different_names" (defArgs sDiff) (defBody sDiff) (defScope sDiff) .none kVdif dcdif pmdif andif cddif ctdif), sldif⟩)
    (cdif : PySem.W.codeIn K cddif "are_different_names" = true)
    (kdif : PySem.W.keepIn K (.ref fdif) = true)
    (aprt : PySem.W.nsIn K mainGlobals "is_part" = some (some (.ref fprt)))
    (lprt : K.lookup fprt = some ⟨ocprt, odprt, .func (PySem.W.fnOf "is_part" "is_part" (defArgs sPart) (defBody sPart) (defScope sPart) .none kVprt dcprt pmprt anprt cdprt ctprt), slprt⟩)
    (cprt : PySem.W.codeIn K cdprt "is_part" = true)
    (kprt : PySem.W.keepIn K (.ref fprt) = true)
    (awrd : PySem.W.nsIn K mainGlobals "word_of" = some (some (.ref fwrd)))
    (lwrd : K.lookup fwrd = some ⟨ocwrd, odwrd, .func (PySem.W.fnOf "word_of" "word_of" (defArgs sWord) (defBody sWord) (defScope sWord) .none kVwrd dcwrd pmwrd anwrd cdwrd ctwrd), slwrd⟩)
    (cwrd : PySem.W.codeIn K cdwrd "word_of" = true)
    (kwrd : PySem.W.keepIn K (.ref fwrd) = true)
    (afit : PySem.W.nsIn K mainGlobals "fits" = some (some (.ref ffit)))
    (lfit : K.lookup ffit = some ⟨ocfit, odfit, .func (PySem.W.fnOf "fits" "fits" (defArgs sFits) (defBody sFits) (defScope sFits) .none kVfit dcfit pmfit anfit cdfit ctfit), slfit⟩)
    (cfit : PySem.W.codeIn K cdfit "fits" = true)
    (kfit : PySem.W.keepIn K (.ref ffit) = true)
    (afrm : PySem.W.nsIn K mainGlobals "has_form" = some (some (.ref ffrm)))
    (lfrm : K.lookup ffrm = some ⟨ocfrm, odfrm, .func (PySem.W.fnOf "has_form" "has_form" (defArgs sForm) (defBody sForm) (defScope sForm) .none kVfrm dcfrm pmfrm anfrm cdfrm ctfrm), slfrm⟩)
    (cfrm : PySem.W.codeIn K cdfrm "has_form" = true)
    (kfrm : PySem.W.keepIn K (.ref ffrm) = true)
    (apts : PySem.W.nsIn K mainGlobals "parts_of" = some (some (.ref fpts)))
    (lpts : K.lookup fpts = some ⟨ocpts, odpts, .func (PySem.W.fnOf "parts_of" "parts_of" (defArgs sParts) (defBody sParts) (defScope sParts) .none kVpts dcpts pmpts anpts cdpts ctpts), slpts⟩)
    (cpts : PySem.W.codeIn K cdpts "parts_of" = true)
    (kpts : PySem.W.keepIn K (.ref fpts) = true)
    (ablk : PySem.W.nsIn K mainGlobals "blocks_of" = some (some (.ref fblk)))
    (lblk : K.lookup fblk = some ⟨ocblk, odblk, .func (PySem.W.fnOf "blocks_of" "blocks_of" (defArgs sBlocks) (defBody sBlocks) (defScope sBlocks) .none kVblk dcblk pmblk anblk cdblk ctblk), slblk⟩)
    (cblk : PySem.W.codeIn K cdblk "blocks_of" = true)
    (kblk : PySem.W.keepIn K (.ref fblk) = true)
    (acan : PySem.W.nsIn K mainGlobals "can_stand" = some (some (.ref fcan)))
    (lcan : K.lookup fcan = some ⟨occan, odcan, .func (PySem.W.fnOf "can_stand" "can_stand" (defArgs sCan) (defBody sCan) (defScope sCan) .none kVcan dccan pmcan ancan cdcan ctcan), slcan⟩)
    (ccan : PySem.W.codeIn K cdcan "can_stand" = true)
    (kcan : PySem.W.keepIn K (.ref fcan) = true)
    (ahyi : PySem.W.nsIn K mainGlobals "has_yield" = some (some (.ref fhyi)))
    (lhyi : K.lookup fhyi = some ⟨ochyi, odhyi, .func (PySem.W.fnOf "has_yield" "has_yield" (defArgs sYield) (defBody sYield) (defScope sYield) .none kVhyi dchyi pmhyi anhyi cdhyi cthyi), slhyi⟩)
    (chyi : PySem.W.codeIn K cdhyi "has_yield" = true)
    (khyi : PySem.W.keepIn K (.ref fhyi) = true)
    (aknd : PySem.W.nsIn K mainGlobals "is_kind" = some (some (.ref fknd)))
    (lknd : K.lookup fknd = some ⟨ocknd, odknd, .func (PySem.W.fnOf "is_kind" "is_kind" (defArgs sKind) (defBody sKind) (defScope sKind) .none kVknd dcknd pmknd anknd cdknd ctknd), slknd⟩)
    (cknd : PySem.W.codeIn K cdknd "is_kind" = true)
    (kknd : PySem.W.keepIn K (.ref fknd) = true)
    (aprm : PySem.W.nsIn K mainGlobals "are_params" = some (some (.ref fprm)))
    (lprm : K.lookup fprm = some ⟨ocprm, odprm, .func (PySem.W.fnOf "are_params" "are_params" (defArgs sParams) (defBody sParams) (defScope sParams) .none kVprm dcprm pmprm anprm cdprm ctprm), slprm⟩)
    (cprm : PySem.W.codeIn K cdprm "are_params" = true)
    (kprm : PySem.W.keepIn K (.ref fprm) = true)
    (atrp : PySem.W.nsIn K mainGlobals "is_triple" = some (some (.ref ftrp)))
    (ltrp : K.lookup ftrp = some ⟨octrp, odtrp, .func (PySem.W.fnOf "is_triple" "is_triple" (defArgs sTriple) (defBody sTriple) (defScope sTriple) .none kVtrp dctrp pmtrp antrp cdtrp cttrp), sltrp⟩)
    (ctrp : PySem.W.codeIn K cdtrp "is_triple" = true)
    (ktrp : PySem.W.keepIn K (.ref ftrp) = true)
    (afpc : PySem.W.nsIn K mainGlobals "fault_of_pieces" = some (some (.ref ffpc)))
    (lfpc : K.lookup ffpc = some ⟨ocfpc, odfpc, .func (PySem.W.fnOf "fault_of_pieces" "fault_of_pieces" (defArgs sPieces) (defBody sPieces) (defScope sPieces) .none kVfpc dcfpc pmfpc anfpc cdfpc ctfpc), slfpc⟩)
    (cfpc : PySem.W.codeIn K cdfpc "fault_of_pieces" = true)
    (kfpc : PySem.W.keepIn K (.ref ffpc) = true)
    (aflt : PySem.W.nsIn K mainGlobals "fault_of" = some (some (.ref fflt)))
    (lflt : K.lookup fflt = some ⟨ocflt, odflt, .func (PySem.W.fnOf "fault_of" "fault_of" (defArgs sFaultOf) (defBody sFaultOf) (defScope sFaultOf) .none kVflt dcflt pmflt anflt cdflt ctflt), slflt⟩)
    (cflt : PySem.W.codeIn K cdflt "fault_of" = true)
    (kflt : PySem.W.keepIn K (.ref fflt) = true)
    (anee : PySem.W.nsIn K mainGlobals "need_book" = some (some (.ref fnee)))
    (lnee : K.lookup fnee = some ⟨ocnee, odnee, .func (PySem.W.fnOf "need_book" "need_book" (defArgs sNeed) (defBody sNeed) (defScope sNeed) .none kVnee dcnee pmnee annee cdnee ctnee), slnee⟩)
    (cnee : PySem.W.codeIn K cdnee "need_book" = true)
    (knee : PySem.W.keepIn K (.ref fnee) = true)
    (afpi : PySem.W.nsIn K mainGlobals "find_piece" = some (some (.ref ffpi)))
    (lfpi : K.lookup ffpi = some ⟨ocfpi, odfpi, .func (PySem.W.fnOf "find_piece" "find_piece" (defArgs sFindP) (defBody sFindP) (defScope sFindP) .none kVfpi dcfpi pmfpi anfpi cdfpi ctfpi), slfpi⟩)
    (cfpi : PySem.W.codeIn K cdfpi "find_piece" = true)
    (kfpi : PySem.W.keepIn K (.ref ffpi) = true)
    (astm : PySem.W.nsIn K mainGlobals "statements_in" = some (some (.ref fstm)))
    (lstm : K.lookup fstm = some ⟨ocstm, odstm, .func (PySem.W.fnOf "statements_in" "statements_in" (defArgs sStm) (defBody sStm) (defScope sStm) .none kVstm dcstm pmstm anstm cdstm ctstm), slstm⟩)
    (cstm : PySem.W.codeIn K cdstm "statements_in" = true)
    (kstm : PySem.W.keepIn K (.ref fstm) = true)
    (abnd : PySem.W.nsIn K mainGlobals "need_bounds" = some (some (.ref fbnd)))
    (lbnd : K.lookup fbnd = some ⟨ocbnd, odbnd, .func (PySem.W.fnOf "need_bounds" "need_bounds" (defArgs sBnd) (defBody sBnd) (defScope sBnd) .none kVbnd dcbnd pmbnd anbnd cdbnd ctbnd), slbnd⟩)
    (cbnd : PySem.W.codeIn K cdbnd "need_bounds" = true)
    (kbnd : PySem.W.keepIn K (.ref fbnd) = true)
    (aown : PySem.W.nsIn K mainGlobals "is_own_name" = some (some (.ref fown)))
    (lown : K.lookup fown = some ⟨ocown, odown, .func (PySem.W.fnOf "is_own_name" "is_own_name" (defArgs sOwn) (defBody sOwn) (defScope sOwn) .none kVown dcown pmown anown cdown ctown), slown⟩)
    (cown : PySem.W.codeIn K cdown "is_own_name" = true)
    (kown : PySem.W.keepIn K (.ref fown) = true)
    (awth : PySem.W.nsIn K mainGlobals "book_with" = some (some (.ref fwth)))
    (lwth : K.lookup fwth = some ⟨ocwth, odwth, .func (PySem.W.fnOf "book_with" "book_with" (defArgs sWth) (defBody sWth) (defScope sWth) .none kVwth dcwth pmwth anwth cdwth ctwth), slwth⟩)
    (cwth : PySem.W.codeIn K cdwth "book_with" = true)
    (kwth : PySem.W.keepIn K (.ref fwth) = true)
    (amix : PySem.W.nsIn K mainGlobals "_law_mixed" = some (some (.ref fmix)))
    (lmix : K.lookup fmix = some ⟨ocmix, odmix, .func (PySem.W.fnOf "_law_mixed" "_law_mixed" (defArgs SW.sMixed) (defBody SW.sMixed) (defScope SW.sMixed) .none kVmix dcmix pmmix anmix cdmix ctmix), slmix⟩)
    (cmix : PySem.W.codeIn K cdmix "_law_mixed" = true)
    (kmix : PySem.W.keepIn K (.ref fmix) = true)
    (abeg : PySem.W.nsIn K mainGlobals "_law_begin" = some (some (.ref fbeg)))
    (lbeg : K.lookup fbeg = some ⟨ocbeg, odbeg, .func (PySem.W.fnOf "_law_begin" "_law_begin" (defArgs SW.sBegin) (defBody SW.sBegin) (defScope SW.sBegin) .none kVbeg dcbeg pmbeg anbeg cdbeg ctbeg), slbeg⟩)
    (cbeg : PySem.W.codeIn K cdbeg "_law_begin" = true)
    (kbeg : PySem.W.keepIn K (.ref fbeg) = true)
    (adrw : PySem.W.nsIn K mainGlobals "_law_draw" = some (some (.ref fdrw)))
    (ldrw : K.lookup fdrw = some ⟨ocdrw, oddrw, .func (PySem.W.fnOf "_law_draw" "_law_draw" (defArgs SW.sDraw) (defBody SW.sDraw) (defScope SW.sDraw) .none kVdrw dcdrw pmdrw andrw cddrw ctdrw), sldrw⟩)
    (cdrw : PySem.W.codeIn K cddrw "_law_draw" = true)
    (kdrw : PySem.W.keepIn K (.ref fdrw) = true)
    (alof : PySem.W.nsIn K mainGlobals "_law_of" = some (some (.ref flof)))
    (llof : K.lookup flof = some ⟨oclof, odlof, .func (PySem.W.fnOf "_law_of" "_law_of" (defArgs SW.sOf) (defBody SW.sOf) (defScope SW.sOf) .none kVlof dclof pmlof anlof cdlof ctlof), sllof⟩)
    (clof : PySem.W.codeIn K cdlof "_law_of" = true)
    (klof : PySem.W.keepIn K (.ref flof) = true)
    (anms : PySem.W.nsIn K mainGlobals "_law_names" = some (some (.ref fnms)))
    (lnms : K.lookup fnms = some ⟨ocnms, odnms, .func (PySem.W.fnOf "_law_names" "_law_names" (defArgs SW.sNms) (defBody SW.sNms) (defScope SW.sNms) .none kVnms dcnms pmnms annms cdnms ctnms), slnms⟩)
    (cnms : PySem.W.codeIn K cdnms "_law_names" = true)
    (knms : PySem.W.keepIn K (.ref fnms) = true)
    (abit : PySem.W.nsIn K mainGlobals "_law_bits" = some (some (.ref fbit)))
    (lbit : K.lookup fbit = some ⟨ocbit, odbit, .func (PySem.W.fnOf "_law_bits" "_law_bits" (defArgs sBits) (defBody sBits) (defScope sBits) .none kVbit dcbit pmbit anbit cdbit ctbit), slbit⟩)
    (cbit : PySem.W.codeIn K cdbit "_law_bits" = true)
    (kbit : PySem.W.keepIn K (.ref fbit) = true)
    (apce : PySem.W.nsIn K mainGlobals "_law_piece" = some (some (.ref fpce)))
    (lpce : K.lookup fpce = some ⟨ocpce, odpce, .func (PySem.W.fnOf "_law_piece" "_law_piece" (defArgs sPc) (defBody sPc) (defScope sPc) .none kVpce dcpce pmpce anpce cdpce ctpce), slpce⟩)
    (cpce : PySem.W.codeIn K cdpce "_law_piece" = true)
    (kpce : PySem.W.keepIn K (.ref fpce) = true)
    (aput : PySem.W.nsIn K mainGlobals "_law_put" = some (some (.ref fput)))
    (lput : K.lookup fput = some ⟨ocput, odput, .func (PySem.W.fnOf "_law_put" "_law_put" (defArgs sPt) (defBody sPt) (defScope sPt) .none kVput dcput pmput anput cdput ctput), slput⟩)
    (cput : PySem.W.codeIn K cdput "_law_put" = true)
    (kput : PySem.W.keepIn K (.ref fput) = true)
    (ashw : PySem.W.nsIn K mainGlobals "_law_shown" = some (some (.ref fshw)))
    (lshw : K.lookup fshw = some ⟨ocshw, odshw, .func (PySem.W.fnOf "_law_shown" "_law_shown" (defArgs sSw) (defBody sSw) (defScope sSw) .none kVshw dcshw pmshw anshw cdshw ctshw), slshw⟩)
    (cshw : PySem.W.codeIn K cdshw "_law_shown" = true)
    (kshw : PySem.W.keepIn K (.ref fshw) = true)
    (adds : PySem.W.nsIn K mainGlobals "_law_deeds_right" = some (some (.ref fdds)))
    (ldds : K.lookup fdds = some ⟨ocdds, oddds, .func (PySem.W.fnOf "_law_deeds_right" "_law_deeds_right" (defArgs sDd) (defBody sDd) (defScope sDd) .none kVdds dcdds pmdds andds cddds ctdds), sldds⟩)
    (cdds : PySem.W.codeIn K cddds "_law_deeds_right" = true)
    (kdds : PySem.W.keepIn K (.ref fdds) = true)
    (alaw : PySem.W.nsIn K mainGlobals "law" = some (some (.ref flaw)))
    (llaw : K.lookup flaw = some ⟨oclaw, odlaw, .func (PySem.W.fnOf "law" "law" (defArgs sLaw) (defBody sLaw) (defScope sLaw) .none kVlaw dclaw pmlaw anlaw cdlaw ctlaw), sllaw⟩)
    (claw : PySem.W.codeIn K cdlaw "law" = true)
    (klaw : PySem.W.keepIn K (.ref flaw) = true)
    (v_LETTERS : PySem.W.nsIn K mainGlobals "LETTERS" = some (some (.str "abcdefghijklmnopqrstuvwxyz" t_LETTERS)))
    (v_MOST_LETTERS : PySem.W.nsIn K mainGlobals "MOST_LETTERS" = some (some (.int 8 t_MOST_LETTERS)))
    (v_MOST_NUMBER : PySem.W.nsIn K mainGlobals "MOST_NUMBER" = some (some (.int 99 t_MOST_NUMBER)))
    (v_MOST_VALUE : PySem.W.nsIn K mainGlobals "MOST_VALUE" = some (some (.int 9999 t_MOST_VALUE)))
    (v_MOST_PIECES : PySem.W.nsIn K mainGlobals "MOST_PIECES" = some (some (.int 6 t_MOST_PIECES)))
    (v_MOST_VARS : PySem.W.nsIn K mainGlobals "MOST_VARS" = some (some (.int 3 t_MOST_VARS)))
    (v_MOST_PARAMS : PySem.W.nsIn K mainGlobals "MOST_PARAMS" = some (some (.int 2 t_MOST_PARAMS)))
    (v_MOST_STATEMENTS : PySem.W.nsIn K mainGlobals "MOST_STATEMENTS" = some (some (.int 16 t_MOST_STATEMENTS)))
    (v_MOST_AROUND : PySem.W.nsIn K mainGlobals "MOST_AROUND" = some (some (.int 4 t_MOST_AROUND)))
    (v_MOST_VARS_ASKED : PySem.W.nsIn K mainGlobals "MOST_VARS_ASKED" = some (some (.int 2 t_MOST_VARS_ASKED)))
    (v_MOST_ASKED : PySem.W.nsIn K mainGlobals "MOST_ASKED" = some (some (.int 8 t_MOST_ASKED)))
    (vKD : PySem.W.nsIn K mainGlobals "KINDS" = some (some (.ref aKD)))
    (lKD : K.lookup aKD = some ⟨.type "tuple", odKD, .seq #[.str "context" tKD1, .str "token" tKD2] nKD, slKD⟩)
    (vPP : PySem.W.nsIn K mainGlobals "PARTS" = some (some (.ref pP)))
    (lPP : K.lookup pP = some ⟨.type "dict", none, .dict es nP, #[]⟩)
    (litP : PySem.W.KeysLit w.params es.toList)
    (keyP : litKeys es.toList = true)
    (lowP : (pP == sysModules) = false)
    (nP0 : PySem.W.nsIn K pP "set" = some (some (.ref p0)))
    (lP0 : K.lookup p0 = some ⟨.type "tuple", odp0, .seq #[.str "variable" q0_0, .str "source" q0_1] np0, slp0⟩)
    (nP1 : PySem.W.nsIn K pP "hold" = some (some (.ref p1)))
    (lP1 : K.lookup p1 = some ⟨.type "tuple", odp1, .seq #[.str "token" q1_0, .str "variable" q1_1, .str "source" q1_2] np1, slp1⟩)
    (nP2 : PySem.W.nsIn K pP "reset" = some (some (.ref p2)))
    (lP2 : K.lookup p2 = some ⟨.type "tuple", odp2, .seq #[.str "token" q2_0] np2, slp2⟩)
    (nP3 : PySem.W.nsIn K pP "drop" = some (some (.ref p3)))
    (lP3 : K.lookup p3 = some ⟨.type "tuple", odp3, .seq #[.str "variable" q3_0] np3, slp3⟩)
    (nP4 : PySem.W.nsIn K pP "show" = some (some (.ref p4)))
    (lP4 : K.lookup p4 = some ⟨.type "tuple", odp4, .seq #[.str "variable" q4_0] np4, slp4⟩)
    (nP5 : PySem.W.nsIn K pP "copy" = some (some (.ref p5)))
    (lP5 : K.lookup p5 = some ⟨.type "tuple", odp5, .seq #[.str "context" q5_0] np5, slp5⟩)
    (nP6 : PySem.W.nsIn K pP "within" = some (some (.ref p6)))
    (lP6 : K.lookup p6 = some ⟨.type "tuple", odp6, .seq #[.str "context" q6_0, .str "block" q6_1] np6, slp6⟩)
    (nP7 : PySem.W.nsIn K pP "if" = some (some (.ref p7)))
    (lP7 : K.lookup p7 = some ⟨.type "tuple", odp7, .seq #[.str "variable" q7_0, .str "integer" q7_1, .str "block" q7_2, .str "block" q7_3] np7, slp7⟩)
    (nP8 : PySem.W.nsIn K pP "with" = some (some (.ref p8)))
    (lP8 : K.lookup p8 = some ⟨.type "tuple", odp8, .seq #[.str "variable" q8_0, .str "source" q8_1, .str "block" q8_2] np8, slp8⟩)
    (nP9 : PySem.W.nsIn K pP "guard" = some (some (.ref p9)))
    (lP9 : K.lookup p9 = some ⟨.type "tuple", odp9, .seq #[.str "block" q9_0, .str "block" q9_1] np9, slp9⟩)
    (nP10 : PySem.W.nsIn K pP "loop" = some (some (.ref p10)))
    (lP10 : K.lookup p10 = some ⟨.type "tuple", odp10, .seq #[.str "block" q10_0] np10, slp10⟩)
    (nP11 : PySem.W.nsIn K pP "leave" = some (some (.ref p11)))
    (lP11 : K.lookup p11 = some ⟨.type "tuple", odp11, .seq #[] np11, slp11⟩)
    (nP12 : PySem.W.nsIn K pP "yield" = some (some (.ref p12)))
    (lP12 : K.lookup p12 = some ⟨.type "tuple", odp12, .seq #[] np12, slp12⟩)
    (nP13 : PySem.W.nsIn K pP "fail" = some (some (.ref p13)))
    (lP13 : K.lookup p13 = some ⟨.type "tuple", odp13, .seq #[] np13, slp13⟩)
    (pg : PySem.W.plainGet K C Str.empty = true)
    (hd : PySem.W.hasDictIn K C = true)
    (po : PySem.W.plainOver K C = true)
    (sa : PySem.W.findIn K (.ref C) "__setattr__" = some (some (.builtin "object.__setattr__")))
    (mk : PySem.W.makesIn K C = true)
    (kc : PySem.W.keepIn K (.ref C) = true)
    (nV : PySem.W.findIn K (.ref C) "variables" = some none)
    (nK : PySem.W.findIn K (.ref C) "kinds" = some none)
    (nM : PySem.W.findIn K (.ref C) "met" = some none)
    (pgS : PySem.W.plainGet K S Str.empty = true)
    (hdS : PySem.W.hasDictIn K S = true)
    (poS : PySem.W.plainOver K S = true)
    (saS : PySem.W.findIn K (.ref S) "__setattr__" = some (some (.builtin "object.__setattr__")))
    (mkS : PySem.W.makesIn K S = true)
    (kcS : PySem.W.keepIn K (.ref S) = true)
    (nBS : PySem.W.findIn K (.ref S) "_book" = some none)
    (nFS : PySem.W.findIn K (.ref S) "_found" = some none)
    (nWS : PySem.W.findIn K (.ref S) "_walks" = some none)
    (jG : PySem.W.fnIn K fsgt = true)
    (nq : PySem.W.noSeq K S = true)
    (nfS : PySem.W.notFirst K S (.ref S) = true)
    (kSS : PySem.W.kitOne K (.ref S) (.ref S) = some true)
    (hC : PySem.W.findIn K (.ref S) "__class__" = some (some (.builtin "object.__class__")))
    (hN : PySem.W.specialIn K (.builtin "object.__class__") "__get__" = some (some (.builtin "getset_descriptor.__get__")))
    (hT : PySem.W.takesIn K (.builtin "object.__class__") = some true)
    (hM : PySem.W.mroIn K S (.type "object") = some true)
    (sL : PySem.W.kitOne K (.type "list") (.type "str") = some false)
    (u_NoneType : PySem.W.notFirst K S (.type "NoneType") = true)
    (w_NoneType : PySem.W.kitOne K (.type "NoneType") (.ref S) = some false)
    (u_tuple : PySem.W.notFirst K S (.type "tuple") = true)
    (w_tuple : PySem.W.kitOne K (.type "tuple") (.ref S) = some false)
    (u_list : PySem.W.notFirst K S (.type "list") = true)
    (w_list : PySem.W.kitOne K (.type "list") (.ref S) = some false)
    (xL : K.lookup CB = some (excClassObj nm q CB N bs bm true sn sub abb col dd m0 m1 m2 m3 m5 "ValueError.__new__"))
    (xV : HandSPX.refsVE bm = true)
    (saB : PySem.W.findIn K (.ref CB) "__setattr__" = some (some (.builtin "object.__setattr__")))
    (nbB : PySem.W.findIn K (.ref CB) "place" = some none)
    (tyI : PySem.W.typeIn K (.ref fbin) = some (.type "function"))
    (kB : PySem.W.keepIn K (.ref CB) = true)
    (eB : PySem.W.subIn K (.ref CB) (.type "BaseException") = some true)
    (tB : PySem.W.typeIn K (.ref CB) = some (.type "type"))
    (z_isinstance : PySem.W.nsIn K mainGlobals "isinstance" = some none)
    (z_str : PySem.W.nsIn K mainGlobals "str" = some none)
    (z_int : PySem.W.nsIn K mainGlobals "int" = some none)
    (z_bool : PySem.W.nsIn K mainGlobals "bool" = some none)
    (z_tuple : PySem.W.nsIn K mainGlobals "tuple" = some none)
    (z_len : PySem.W.nsIn K mainGlobals "len" = some none)
    (z_all : PySem.W.nsIn K mainGlobals "all" = some none)
    (z_set : PySem.W.nsIn K mainGlobals "set" = some none)
    (z_zip : PySem.W.nsIn K mainGlobals "zip" = some none)
    (z_list : PySem.W.nsIn K mainGlobals "list" = some none)
    (z_enumerate : PySem.W.nsIn K mainGlobals "enumerate" = some none)
    (z_repr : PySem.W.nsIn K mainGlobals "repr" = some none)
    (z_range : PySem.W.nsIn K mainGlobals "range" = some none)
    (z_min : PySem.W.nsIn K mainGlobals "min" = some none) :
    ∃ (fd : FuncData), (∀ (s : Shared) (u : Value), BindsTo s fd ⟨[u], []⟩ [("script", u)]) ∧ ∀ base : Heap, K.In base → base.Ns mainGlobals mg → FnG P w K mg base 22 fa fd ["script"] (spLaw K) := by
  have e := hfa.symm.trans (PySem.W.mg_of X G alaw)
  cases e
  have m_isinstance := PySem.W.mg_none_of X G z_isinstance
  have m_str := PySem.W.mg_none_of X G z_str
  have m_int := PySem.W.mg_none_of X G z_int
  have m_bool := PySem.W.mg_none_of X G z_bool
  have m_tuple := PySem.W.mg_none_of X G z_tuple
  have m_len := PySem.W.mg_none_of X G z_len
  have m_all := PySem.W.mg_none_of X G z_all
  have m_set := PySem.W.mg_none_of X G z_set
  have m_zip := PySem.W.mg_none_of X G z_zip
  have m_list := PySem.W.mg_none_of X G z_list
  have m_enumerate := PySem.W.mg_none_of X G z_enumerate
  have m_repr := PySem.W.mg_none_of X G z_repr
  have m_range := PySem.W.mg_none_of X G z_range
  have m_min := PySem.W.mg_none_of X G z_min
  have gC := PySem.W.mg_of X G aC
  have gCB := PySem.W.mg_of X G aCB
  have gS := PySem.W.mg_of X G aS
  have gisn := PySem.W.mg_of X G aisn
  have Fisn := fun_mk (st := BK.sName) lisn cisn kisn
  have bisn := Fisn.binds (ps := ["thing"]) fun _ _ _ _ _ _ us hl => match us, hl with | [_], _ => rfl
  have garn := PySem.W.mg_of X G aarn
  have Farn := fun_mk (st := sAreNames) larn carn karn
  have barn := Farn.binds (ps := ["thing"]) fun _ _ _ _ _ _ us hl => match us, hl with | [_], _ => rfl
  have gitg := PySem.W.mg_of X G aitg
  have Fitg := fun_mk (st := sInteger) litg citg kitg
  have bitg := Fitg.binds (ps := ["thing"]) fun _ _ _ _ _ _ us hl => match us, hl with | [_], _ => rfl
  have gnum := PySem.W.mg_of X G anum
  have Fnum := fun_mk (st := sNumber) lnum cnum knum
  have bnum := Fnum.binds (ps := ["thing", "most"]) fun _ _ _ _ _ _ us hl => match us, hl with | [_, _], _ => rfl
  have gtup := PySem.W.mg_of X G atup
  have Ftup := fun_mk (st := sTuple) ltup ctup ktup
  have btup := Ftup.binds (ps := ["thing", "count"]) fun _ _ _ _ _ _ us hl => match us, hl with | [_, _], _ => rfl
  have gdif := PySem.W.mg_of X G adif
  have Fdif := fun_mk (st := sDiff) ldif cdif kdif
  have bdif := Fdif.binds (ps := ["things"]) fun _ _ _ _ _ _ us hl => match us, hl with | [_], _ => rfl
  have gprt := PySem.W.mg_of X G aprt
  have Fprt := fun_mk (st := sPart) lprt cprt kprt
  have bprt := Fprt.binds (ps := ["thing", "kind"]) fun _ _ _ _ _ _ us hl => match us, hl with | [_, _], _ => rfl
  have gwrd := PySem.W.mg_of X G awrd
  have Fwrd := fun_mk (st := sWord) lwrd cwrd kwrd
  have bwrd := Fwrd.binds (ps := ["thing"]) fun _ _ _ _ _ _ us hl => match us, hl with | [_], _ => rfl
  have gfit := PySem.W.mg_of X G afit
  have Ffit := fun_mk (st := sFits) lfit cfit kfit
  have bfit := Ffit.binds (ps := ["thing", "kinds"]) fun _ _ _ _ _ _ us hl => match us, hl with | [_, _], _ => rfl
  have gfrm := PySem.W.mg_of X G afrm
  have Ffrm := fun_mk (st := sForm) lfrm cfrm kfrm
  have bfrm := Ffrm.binds (ps := ["thing"]) fun _ _ _ _ _ _ us hl => match us, hl with | [_], _ => rfl
  have gpts := PySem.W.mg_of X G apts
  have Fpts := fun_mk (st := sParts) lpts cpts kpts
  have bpts := Fpts.binds (ps := ["statement"]) fun _ _ _ _ _ _ us hl => match us, hl with | [_], _ => rfl
  have gblk := PySem.W.mg_of X G ablk
  have Fblk := fun_mk (st := sBlocks) lblk cblk kblk
  have bblk := Fblk.binds (ps := ["statement"]) fun _ _ _ _ _ _ us hl => match us, hl with | [_], _ => rfl
  have gcan := PySem.W.mg_of X G acan
  have Fcan := fun_mk (st := sCan) lcan ccan kcan
  have bcan := Fcan.binds (ps := ["statement", "around"]) fun _ _ _ _ _ _ us hl => match us, hl with | [_, _], _ => rfl
  have ghyi := PySem.W.mg_of X G ahyi
  have Fhyi := fun_mk (st := sYield) lhyi chyi khyi
  have bhyi := Fhyi.binds (ps := ["block"]) fun _ _ _ _ _ _ us hl => match us, hl with | [_], _ => rfl
  have gknd := PySem.W.mg_of X G aknd
  have Fknd := fun_mk (st := sKind) lknd cknd kknd
  have bknd := Fknd.binds (ps := ["thing"]) fun _ _ _ _ _ _ us hl => match us, hl with | [_], _ => rfl
  have gprm := PySem.W.mg_of X G aprm
  have Fprm := fun_mk (st := sParams) lprm cprm kprm
  have bprm := Fprm.binds (ps := ["thing"]) fun _ _ _ _ _ _ us hl => match us, hl with | [_], _ => rfl
  have gtrp := PySem.W.mg_of X G atrp
  have Ftrp := fun_mk (st := sTriple) ltrp ctrp ktrp
  have btrp := Ftrp.binds (ps := ["thing"]) fun _ _ _ _ _ _ us hl => match us, hl with | [_], _ => rfl
  have gfpc := PySem.W.mg_of X G afpc
  have Ffpc := fun_mk (st := sPieces) lfpc cfpc kfpc
  have bfpc := Ffpc.binds (ps := ["variables", "pieces"]) fun _ _ _ _ _ _ us hl => match us, hl with | [_, _], _ => rfl
  have gflt := PySem.W.mg_of X G aflt
  have Fflt := fun_mk (st := sFaultOf) lflt cflt kflt
  have bflt := Fflt.binds (ps := ["thing"]) fun _ _ _ _ _ _ us hl => match us, hl with | [_], _ => rfl
  have gnee := PySem.W.mg_of X G anee
  have Fnee := fun_mk (st := sNeed) lnee cnee knee
  have bnee := Fnee.binds (ps := ["thing"]) fun _ _ _ _ _ _ us hl => match us, hl with | [_], _ => rfl
  have gfpi := PySem.W.mg_of X G afpi
  have Ffpi := fun_mk (st := sFindP) lfpi cfpi kfpi
  have bfpi := Ffpi.binds (ps := ["book", "name"]) fun _ _ _ _ _ _ us hl => match us, hl with | [_, _], _ => rfl
  have gstm := PySem.W.mg_of X G astm
  have Fstm := fun_mk (st := sStm) lstm cstm kstm
  have bstm := Fstm.binds (ps := ["block", "way"]) fun _ _ _ _ _ _ us hl => match us, hl with | [_, _], _ => rfl
  have gbnd := PySem.W.mg_of X G abnd
  have Fbnd := fun_mk (st := sBnd) lbnd cbnd kbnd
  have bbnd := Fbnd.binds (ps := ["book", "pieces"]) fun _ _ _ _ _ _ us hl => match us, hl with | [_, _], _ => rfl
  have gown := PySem.W.mg_of X G aown
  have Fown := fun_mk (st := sOwn) lown cown kown
  have bown := Fown.binds (ps := ["name", "thing"]) fun _ _ _ _ _ _ us hl => match us, hl with | [_, _], _ => rfl
  have gwth := PySem.W.mg_of X G awth
  have Fwth := fun_mk (st := sWth) lwth cwth kwth
  have bwth := Fwth.binds (ps := ["book", "piece"]) fun _ _ _ _ _ _ us hl => match us, hl with | [_, _], _ => rfl
  have gmix := PySem.W.mg_of X G amix
  have Fmix := fun_mk (st := SW.sMixed) lmix cmix kmix
  have bmix := Fmix.binds (ps := ["cell", "k"]) fun _ _ _ _ _ _ us hl => match us, hl with | [_, _], _ => rfl
  have gbeg := PySem.W.mg_of X G abeg
  have Fbeg := fun_mk (st := SW.sBegin) lbeg cbeg kbeg
  have bbeg := Fbeg.binds (ps := ["script"]) fun _ _ _ _ _ _ us hl => match us, hl with | [_], _ => rfl
  have gdrw := PySem.W.mg_of X G adrw
  have Fdrw := fun_mk (st := SW.sDraw) ldrw cdrw kdrw
  have bdrw := Fdrw.binds (ps := ["state", "many"]) fun _ _ _ _ _ _ us hl => match us, hl with | [_, _], _ => rfl
  have glof := PySem.W.mg_of X G alof
  have Flof := fun_mk (st := SW.sOf) llof clof klof
  have blof := Flof.binds (ps := ["state", "some"]) fun _ _ _ _ _ _ us hl => match us, hl with | [_, _], _ => rfl
  have gnms := PySem.W.mg_of X G anms
  have Fnms := fun_mk (st := SW.sNms) lnms cnms knms
  have bnms := Fnms.binds (ps := ["state", "many"]) fun _ _ _ _ _ _ us hl => match us, hl with | [_, _], _ => rfl
  have gbit := PySem.W.mg_of X G abit
  have Fbit := fun_mk (st := sBits) lbit cbit kbit
  have bbit := Fbit.binds (ps := ["x", "y", "n"]) fun _ _ _ _ _ _ us hl => match us, hl with | [_, _, _], _ => rfl
  have gpce := PySem.W.mg_of X G apce
  have Fpce := fun_mk (st := sPc) lpce cpce kpce
  have bpce := Fpce.binds (ps := ["state", "own", "name"]) fun _ _ _ _ _ _ us hl => match us, hl with | [_, _, _], _ => rfl
  have gput := PySem.W.mg_of X G aput
  have Fput := fun_mk (st := sPt) lput cput kput
  have bput := Fput.binds (ps := ["rows", "piece"]) fun _ _ _ _ _ _ us hl => match us, hl with | [_, _], _ => rfl
  have gshw := PySem.W.mg_of X G ashw
  have bshw : Binds K (PySem.W.fnOf "_law_shown" "_law_shown" (defArgs sSw) (defBody sSw) (defScope sSw) .none kVshw dcshw pmshw anshw cdshw ctshw) ["shelf", "own", "rows"] [] := .all fun us hl => match us, hl with | [_, _, _], _ => rfl
  have gdds := PySem.W.mg_of X G adds
  have bdds : Binds K (PySem.W.fnOf "_law_deeds_right" "_law_deeds_right" (defArgs sDd) (defBody sDd) (defScope sDd) .none kVdds dcdds pmdds andds cddds ctdds) ["state", "own", "pool"] [] := .all fun us hl => match us, hl with | [_, _, _], _ => rfl
  have glaw := PySem.W.mg_of X G alaw
  have blaw : Binds K (PySem.W.fnOf "law" "law" (defArgs sLaw) (defBody sLaw) (defScope sLaw) .none kVlaw dclaw pmlaw anlaw cdlaw ctlaw) ["script"] [] := .all fun us hl => match us, hl with | [_], _ => rfl
  have Fcin := fun_mk (st := sCInit) lcin ccin kcin
  have bcin := Fcin.binds (ps := ["self", "variables", "params"]) fun _ _ _ _ _ _ us hl => match us, hl with | [_, _, _], _ => rfl
  have Ftak := fun_mk (st := sTakes) ltak ctak ktak
  have btak := Ftak.binds (ps := ["self", "statement", "around"]) fun _ _ _ _ _ _ us hl => match us, hl with | [_, _, _], _ => rfl
  have Fknw := fun_mk (st := sKnows) lknw cknw kknw
  have bknw := Fknw.binds (ps := ["self", "statement"]) fun _ _ _ _ _ _ us hl => match us, hl with | [_, _], _ => rfl
  have Ffin := fun_mk (st := sFault) lfin cfin kfin
  have bfin := Ffin.binds (ps := ["self", "block", "way", "around"]) fun _ _ _ _ _ _ us hl => match us, hl with | [_, _, _, _], _ => rfl
  have Fbin := fun_mk (st := sBadInit) lbin cbin kbin
  have bbin := Fbin.binds (ps := ["self", "place"]) fun _ _ _ _ _ _ us hl => match us, hl with | [_, _], _ => rfl
  have Fsin := fun_mk (st := sSI) lsin csin ksin
  have bsin := Fsin.binds (ps := ["self", "book"]) fun _ _ _ _ _ _ us hl => match us, hl with | [_, _], _ => rfl
  have Fsgt := fun_mk (st := sSG) lsgt csgt ksgt
  have bsgt := Fsgt.binds (ps := ["self", "name"]) fun _ _ _ _ _ _ us hl => match us, hl with | [_, _], _ => rfl
  have Fsst := fun_mk (st := sSS) lsst csst ksst
  have bsst := Fsst.binds (ps := ["self", "name", "piece"]) fun _ _ _ _ _ _ us hl => match us, hl with | [_, _, _], _ => rfl
  have Fsco := fun_mk (st := sSC) lsco csco ksco
  have bsco := Fsco.binds (ps := ["self", "name"]) fun _ _ _ _ _ _ us hl => match us, hl with | [_, _], _ => rfl
  have Fsln := fun_mk (st := sSL) lsln csln ksln
  have bsln := Fsln.binds (ps := ["self"]) fun _ _ _ _ _ _ us hl => match us, hl with | [_], _ => rfl
  have Fseq := fun_mk (st := sSE) lseq cseq kseq
  have bseq := Fseq.binds (ps := ["self", "other"]) fun _ _ _ _ _ _ us hl => match us, hl with | [_, _], _ => rfl
  have Fsfo := fun_mk (st := sSF) lsfo csfo ksfo
  have bsfo := Fsfo.binds (ps := ["self", "name"]) fun _ _ _ _ _ _ us hl => match us, hl with | [_, _], _ => rfl
  have Fsnm := fun_mk (st := sSN) lsnm csnm ksnm
  have bsnm := Fsnm.binds (ps := ["self"]) fun _ _ _ _ _ _ us hl => match us, hl with | [_], _ => rfl
  have Fsbk := fun_mk (st := sSB) lsbk csbk ksbk
  have bsbk := Fsbk.binds (ps := ["self"]) fun _ _ _ _ _ _ us hl => match us, hl with | [_], _ => rfl
  have Fspc := fun_mk (st := sSP) lspc cspc kspc
  have bspc := Fspc.binds (ps := ["self", "name"]) fun _ _ _ _ _ _ us hl => match us, hl with | [_, _], _ => rfl
  have Fsch := fun_mk (st := sSX) lsch csch ksch
  have bsch := Fsch.binds (ps := ["self", "name", "book"]) fun _ _ _ _ _ _ us hl => match us, hl with | [_, _, _], _ => rfl
  have T : Forms mg := ⟨⟨_, PySem.W.mg_of X G v_LETTERS⟩, ⟨_, PySem.W.mg_of X G v_MOST_LETTERS⟩, ⟨_, PySem.W.mg_of X G v_MOST_NUMBER⟩, m_isinstance, m_str, m_int, m_bool, m_tuple, m_len, m_all⟩
  have Kd : BK.Kinds K mg := ⟨⟨aKD, PySem.W.mg_of X G vKD, fun H => .inr ⟨_, _, _, lKD, rfl, rfl, sz4 (Nat.le_of_ble_eq_true rfl), .cons ⟨_, rfl⟩ (.cons ⟨_, rfl⟩ .nil)⟩⟩, ⟨_, PySem.W.mg_of X G v_MOST_PARAMS⟩⟩
  have Mo : BK.Most mg := ⟨⟨_, PySem.W.mg_of X G v_MOST_STATEMENTS⟩, ⟨_, PySem.W.mg_of X G v_MOST_AROUND⟩⟩
  have Mb : MostB mg := ⟨⟨_, PySem.W.mg_of X G v_MOST_PIECES⟩, ⟨_, PySem.W.mg_of X G v_MOST_VARS⟩⟩
  have D : PartsD K mg w pP es nP :=
    { d := ⟨lPP, litP, lowP⟩, g := PySem.W.mg_of X G vPP, no := no_of lPP keyP,
      at_ := fun x ks e => by
        have m := kinds_mem e
        simp only [kindTab, List.mem_cons, List.not_mem_nil, or_false, Prod.mk.injEq] at m
        rcases m with ⟨rfl, rfl⟩ | ⟨rfl, rfl⟩ | ⟨rfl, rfl⟩ | ⟨rfl, rfl⟩ | ⟨rfl, rfl⟩ | ⟨rfl, rfl⟩ | ⟨rfl, rfl⟩ | ⟨rfl, rfl⟩ | ⟨rfl, rfl⟩ | ⟨rfl, rfl⟩ | ⟨rfl, rfl⟩ | ⟨rfl, rfl⟩ | ⟨rfl, rfl⟩ | ⟨rfl, rfl⟩
        · exact ⟨p0, nP0, fun H => .inr ⟨_, _, _, lP0, rfl, rfl, sz4 (Nat.le_of_ble_eq_true rfl), (.cons ⟨_, rfl⟩ (.cons ⟨_, rfl⟩ .nil))⟩⟩
        · exact ⟨p1, nP1, fun H => .inr ⟨_, _, _, lP1, rfl, rfl, sz4 (Nat.le_of_ble_eq_true rfl), (.cons ⟨_, rfl⟩ (.cons ⟨_, rfl⟩ (.cons ⟨_, rfl⟩ .nil)))⟩⟩
        · exact ⟨p2, nP2, fun H => .inr ⟨_, _, _, lP2, rfl, rfl, sz4 (Nat.le_of_ble_eq_true rfl), (.cons ⟨_, rfl⟩ .nil)⟩⟩
        · exact ⟨p3, nP3, fun H => .inr ⟨_, _, _, lP3, rfl, rfl, sz4 (Nat.le_of_ble_eq_true rfl), (.cons ⟨_, rfl⟩ .nil)⟩⟩
        · exact ⟨p4, nP4, fun H => .inr ⟨_, _, _, lP4, rfl, rfl, sz4 (Nat.le_of_ble_eq_true rfl), (.cons ⟨_, rfl⟩ .nil)⟩⟩
        · exact ⟨p5, nP5, fun H => .inr ⟨_, _, _, lP5, rfl, rfl, sz4 (Nat.le_of_ble_eq_true rfl), (.cons ⟨_, rfl⟩ .nil)⟩⟩
        · exact ⟨p6, nP6, fun H => .inr ⟨_, _, _, lP6, rfl, rfl, sz4 (Nat.le_of_ble_eq_true rfl), (.cons ⟨_, rfl⟩ (.cons ⟨_, rfl⟩ .nil))⟩⟩
        · exact ⟨p7, nP7, fun H => .inr ⟨_, _, _, lP7, rfl, rfl, sz4 (Nat.le_of_ble_eq_true rfl), (.cons ⟨_, rfl⟩ (.cons ⟨_, rfl⟩ (.cons ⟨_, rfl⟩ (.cons ⟨_, rfl⟩ .nil))))⟩⟩
        · exact ⟨p8, nP8, fun H => .inr ⟨_, _, _, lP8, rfl, rfl, sz4 (Nat.le_of_ble_eq_true rfl), (.cons ⟨_, rfl⟩ (.cons ⟨_, rfl⟩ (.cons ⟨_, rfl⟩ .nil)))⟩⟩
        · exact ⟨p9, nP9, fun H => .inr ⟨_, _, _, lP9, rfl, rfl, sz4 (Nat.le_of_ble_eq_true rfl), (.cons ⟨_, rfl⟩ (.cons ⟨_, rfl⟩ .nil))⟩⟩
        · exact ⟨p10, nP10, fun H => .inr ⟨_, _, _, lP10, rfl, rfl, sz4 (Nat.le_of_ble_eq_true rfl), (.cons ⟨_, rfl⟩ .nil)⟩⟩
        · exact ⟨p11, nP11, fun H => .inr ⟨_, _, _, lP11, rfl, rfl, sz4 (Nat.le_of_ble_eq_true rfl), .nil⟩⟩
        · exact ⟨p12, nP12, fun H => .inr ⟨_, _, _, lP12, rfl, rfl, sz4 (Nat.le_of_ble_eq_true rfl), .nil⟩⟩
        · exact ⟨p13, nP13, fun H => .inr ⟨_, _, _, lP13, rfl, rfl, sz4 (Nat.le_of_ble_eq_true rfl), .nil⟩⟩ }
  have Tx : TxK K mg C := ⟨⟨pg, hd, po, sa⟩, nV, nK, nM, gC⟩
  have M : Mk K C fcin := ⟨mk, acin, icin, kc⟩
  have Mt : Meth K C "takes" ftak := ⟨atak, itak, ktak⟩
  have Mn : Meth K C "knows" fknw := ⟨aknw, iknw, kknw⟩
  have Mf : Meth K C "fault_in" ffin := ⟨afin, ifin, kfin⟩
  have Ox : OexC K CB := ⟨⟨nm, q, N, bs, bm, sn, sub, abb, col, dd, m0, m1, m2, m3, m5, xL, xV⟩, saB, eB, tB, kB⟩
  have Ts : TxS K mg S := ⟨⟨pgS, hdS, poS, saS⟩, nBS, nFS, nWS, gS⟩
  have Ms : Mk K S fsin := ⟨mkS, asin, isin, kcS⟩
  have Mfo : Meth K S "forget" fsfo := ⟨asfo, isfo, ksfo⟩
  have Mnm : Meth K S "names" fsnm := ⟨asnm, isnm, ksnm⟩
  have Mbk : Meth K S "book" fsbk := ⟨asbk, isbk, ksbk⟩
  have Mpc : Meth K S "_piece" fspc := ⟨aspc, ispc, kspc⟩
  have Mch : Meth K S "_change" fsch := ⟨asch, isch, ksch⟩
  have tyC : ∀ (H : Hp) (a dx : Addr) (fs : List (Str × V)), H a = some (.ins S dx fs) → TyX K H (.ref a) (.ref S) := fun H a dx fs e => .base (.ins e Ts.cl hC hN hT hM)
  refine ⟨(PySem.W.fnOf "law" "law" (defArgs sLaw) (defBody sLaw) (defScope sLaw) .none kVlaw dclaw pmlaw anlaw cdlaw ctlaw), fun s u => .of_eq rfl, fun base _ _ => ?_⟩
  have Gisn := BK.ok_name (P := P) (w := w) (base := base) (mg := mg) Fisn T
  have Garn := ok_areNames (P := P) (w := w) (base := base) (mg := mg) Farn T Gisn bisn gisn kisn
  have Gitg := ok_integer (P := P) (w := w) (base := base) (mg := mg) Fitg T
  have Gnum := ok_number (P := P) (w := w) (base := base) (mg := mg) Fnum Gitg bitg gitg kitg
  have Gtup := ok_tuple (P := P) (w := w) (base := base) (mg := mg) Ftup T
  have Gdif := ok_diff (P := P) (w := w) (base := base) (mg := mg) Fdif T m_set Gisn bisn gisn kisn
  have Gprt := ok_part (P := P) (w := w) (base := base) (mg := mg) Fprt T ⟨_, PySem.W.mg_of X G v_MOST_VALUE⟩ Gisn bisn gisn kisn Gnum bnum gnum knum Garn barn garn karn
  have Gwrd := ok_word (P := P) (w := w) (base := base) (mg := mg) Fwrd T
  have Gfit := ok_fits (P := P) (w := w) (base := base) (mg := mg) Ffit T m_zip Gprt bprt gprt kprt
  have Gfrm := ok_form (P := P) (w := w) (base := base) (mg := mg) Ffrm D Gwrd bwrd gwrd kwrd Gfit bfit gfit kfit
  have Gpts := ok_parts (P := P) (w := w) (base := base) (mg := mg) Fpts D.parts m_list m_zip
  have Gblk := ok_blocks (P := P) (w := w) (base := base) (mg := mg) Fblk T
  have Ghyi := ok_yield (P := P) (w := w) (base := base) (mg := mg) Fhyi Gfrm bfrm gfrm kfrm
  have Gcan := ok_can (P := P) (w := w) (base := base) (mg := mg) Fcan Ghyi bhyi ghyi khyi
  have Gknd := ok_kind (P := P) (w := w) (base := base) (mg := mg) Fknd T Kd
  have Gprm := ok_params (P := P) (w := w) (base := base) (mg := mg) Fprm T Kd Gtup btup gtup ktup Gknd bknd gknd kknd Gdif bdif gdif kdif
  have Gtrp := ok_triple (P := P) (w := w) (base := base) (mg := mg) Ftrp T Gtup btup gtup ktup Gisn bisn gisn kisn Gprm bprm gprm kprm
  have Gcin := ok_cinit (P := P) (w := w) (base := base) (mg := mg) Fcin Tx
  have Gknw := ok_knows (P := P) (w := w) (base := base) (mg := mg) Fknw T Kd Tx Gpts bpts gpts kpts
  have Gtak := ok_takes (P := P) (w := w) (base := base) (mg := mg) Ftak T Mo Tx Gfrm bfrm gfrm kfrm Gknw bknw Mn Gcan bcan gcan kcan
  have Gfin := ok_fault (P := P) (w := w) (base := base) (mg := mg) Ffin Tx m_enumerate Gtak btak Mt Gblk bblk gblk kblk bfin Mf 5
  have Gfpc := ok_pieces (P := P) (w := w) (base := base) (mg := mg) Ffpc Tx m_enumerate Gtrp btrp gtrp ktrp M Gcin bcin Gfin bfin Mf
  have Gflt := ok_faultOf (P := P) (w := w) (base := base) (mg := mg) Fflt T Mb Gtup btup gtup ktup Gdif bdif gdif kdif Gfpc bfpc gfpc kfpc
  have Gbin := ok_badInit (P := P) (w := w) (base := base) (mg := mg) Fbin Ox nbB
  have Gnee := ok_need (P := P) (w := w) (base := base) (mg := mg) Fnee Gflt bflt gflt kflt Ox gCB abin tyI Gbin bbin
  have Gfpi := ok_findP (P := P) (w := w) (base := base) (mg := mg) Ffpi T
  have Gfpo := ok_findO (P := P) (w := w) (base := base) (mg := mg) Ffpi T
  have Gstm := ok_stm (P := P) (w := w) (base := base) (mg := mg) Fstm m_enumerate Gblk bblk gblk kblk bstm gstm kstm 5
  have Gbnd := ok_bnd (P := P) (w := w) (base := base) (mg := mg) Fbnd T ⟨_, PySem.W.mg_of X G v_MOST_VARS_ASKED⟩ ⟨_, PySem.W.mg_of X G v_MOST_ASKED⟩ Gstm bstm gstm kstm
  have Gown := ok_own (P := P) (w := w) (base := base) (mg := mg) Fown T
  have Gwth := ok_wth (P := P) (w := w) (base := base) (mg := mg) Fwth T Gfpi bfpi gfpi kfpi
  have Gsin := ok_SI (P := P) (w := w) (base := base) (mg := mg) Fsin Ts Gnee bnee gnee knee Gbnd bbnd gbnd kbnd
  have Gsgt := ok_SG (P := P) (w := w) (base := base) (mg := mg) Fsgt Ts Gfpi bfpi gfpi kfpi
  have Gsc1 := ok_SC (P := P) (w := w) (base := base) (mg := mg) Fsco Ts Gfpi bfpi gfpi kfpi
  have Gsc2 := ok_CO (P := P) (w := w) (base := base) (mg := mg) Fsco Ts Gfpo bfpi gfpi kfpi
  have Gsln := ok_SL (P := P) (w := w) (base := base) (mg := mg) Fsln Ts m_len
  have Gseq := ok_SE (P := P) (w := w) (base := base) (mg := mg) Fseq Ts m_isinstance tyC kSS
  have Gsnm := ok_SN (P := P) (w := w) (base := base) (mg := mg) Fsnm Ts m_tuple
  have Gsbk := ok_SB (P := P) (w := w) (base := base) (mg := mg) Fsbk Ts
  have Gsch := ok_SX (P := P) (w := w) (base := base) (mg := mg) Fsch Ts
  have Gspc := ok_SP (P := P) (w := w) (base := base) (mg := mg) Fspc Ts Gsgt bsgt asgt isgt jG
  have Gsfo := ok_SF (P := P) (w := w) (base := base) (mg := mg) Fsfo Ts m_tuple Gspc bspc Mpc Gsch bsch Mch
  have Gsst := ok_SS (P := P) (w := w) (base := base) (mg := mg) Fsst Ts Gtup btup gtup ktup Gown bown gown kown Gwth bwth gwth kwth Gnee bnee gnee knee Gbnd bbnd gbnd kbnd Gfpi bfpi gfpi kfpi Gsch bsch Mch
  have Z : ShZ P w K mg base S fsin fsgt fsst fsco fsln fseq fsfo fsnm fsbk _ _ _ _ _ _ _ _ _ :=
    { X := Ts, kM := Ms, GI := Gsin, bI := bsin, hG := asgt, iG := isgt, nG := jG, GG := Gsgt, bG := bsgt, nS := nq, hS := asst, iS := isst, GS := Gsst, bS := bsst, hC := asco, iC := isco, GC := fnok_or Gsc1 Gsc2, bC := bsco,
      hL := asln, iL := isln, GL := Gsln, bL := bsln, hE := aseq, iE := iseq, GE := Gseq, bE := bseq, mF := Mfo, GF := Gsfo, bF := bsfo, mN := Mnm, GN := Gsnm, bN := bsnm, mB := Mbk, GB := Gsbk, bB := bsbk, tyC := tyC,
      kN := w_NoneType, kT := w_tuple, kL := w_list, fC0 := nfS, fN0 := u_NoneType, fT0 := u_tuple, fL0 := u_list, sL := sL }
  have Gmix := ok_mixed (P := P) (w := w) (base := base) (mg := mg) Fmix m_int
  have Gbeg := ok_begin (P := P) (w := w) (base := base) (mg := mg) Fbeg m_list
  have Gdrw := ok_draw (P := P) (w := w) (base := base) (mg := mg) Fdrw Gmix bmix gmix kmix m_int m_len
  have Glof := ok_of (P := P) (w := w) (base := base) (mg := mg) (K := K) Flof m_len Gdrw bdrw gdrw kdrw
  have Gnms := ok_nms (P := P) (w := w) (base := base) (mg := mg) Fnms m_int m_range Gdrw bdrw gdrw kdrw
  have Gbit := ok_bits (P := P) (w := w) (base := base) (mg := mg) Fbit
  have Gpce := ok_pc (P := P) (w := w) (base := base) (mg := mg) Fpce Gbit bbit gbit kbit Glof blof glof klof Gdrw bdrw gdrw kdrw
  have Gput := ok_pt (P := P) (w := w) (base := base) (mg := mg) Fput
  have Gshw := ok_shown (base := base) lshw cshw Z m_tuple m_repr m_len m_range m_enumerate
  have Gdds := ok_deeds (base := base) ldds cdds Z m_tuple m_repr m_len m_range Gpce bpce gpce kpce Gput bput gput kput Gshw bshw gshw kshw Glof blof glof klof Gdrw bdrw gdrw kdrw
  exact ok_law (P := P) (w := w) (base := base) (mg := mg) llaw claw Z m_tuple m_len m_range m_min Gbeg bbeg gbeg kbeg Gnms bnms gnms knms Gdrw bdrw gdrw kdrw Gdds bdds gdds kdds
end BK

set_option Elab.async false
open PySem PySem.W PyProof.Rows
set_option maxRecDepth 100000 in
set_option maxHeartbeats 0 in
theorem PySem.Challenge.cw_stepwhere_k52_shelves_kept_holds : PySem.Challenge.rw_stepwhere_k52_shelves_kept.Holds := by
  w_on; o_law; k_head; (case hw => w_witness2)
  k_fill
  refine BK.walkG (l := PySem.Challenge.rw_stepwhere_k52_shelves_kept) rfl rfl (fun w h Y => PySem.W.kIn_of Y) ?F
  case F =>
    intro w mg fa h KX G hmg
    refine' BK.all_mk KX G hmg ?aC ?aCB ?aS ?acin ?icin ?lcin ?ccin ?kcin ?atak ?itak ?ltak ?ctak ?ktak ?aknw ?iknw ?lknw ?cknw ?kknw ?afin ?ifin ?lfin ?cfin ?kfin ?abin ?ibin ?lbin ?cbin ?kbin ?asin ?isin ?lsin ?csin ?ksin ?asgt ?isgt ?lsgt ?csgt ?ksgt ?asst ?isst ?lsst ?csst ?ksst ?asco ?isco ?lsco ?csco ?ksco ?asln ?isln ?lsln ?csln ?ksln ?aseq ?iseq ?lseq ?cseq ?kseq ?asfo ?isfo ?lsfo ?csfo ?ksfo ?asnm ?isnm ?lsnm ?csnm ?ksnm ?asbk ?isbk ?lsbk ?csbk ?ksbk ?aspc ?ispc ?lspc ?cspc ?kspc ?asch ?isch ?lsch ?csch ?ksch ?aisn ?lisn ?cisn ?kisn ?aarn ?larn ?carn ?karn ?aitg ?litg ?citg ?kitg ?anum ?lnum ?cnum ?knum ?atup ?ltup ?ctup ?ktup ?adif ?ldif ?cdif ?kdif ?aprt ?lprt ?cprt ?kprt ?awrd ?lwrd ?cwrd ?kwrd ?afit ?lfit ?cfit ?kfit ?afrm ?lfrm ?cfrm ?kfrm ?apts ?lpts ?cpts ?kpts ?ablk ?lblk ?cblk ?kblk ?acan ?lcan ?ccan ?kcan ?ahyi ?lhyi ?chyi ?khyi ?aknd ?lknd ?cknd ?kknd ?aprm ?lprm ?cprm ?kprm ?atrp ?ltrp ?ctrp ?ktrp ?afpc ?lfpc ?cfpc ?kfpc ?aflt ?lflt ?cflt ?kflt ?anee ?lnee ?cnee ?knee ?afpi ?lfpi ?cfpi ?kfpi ?astm ?lstm ?cstm ?kstm ?abnd ?lbnd ?cbnd ?kbnd ?aown ?lown ?cown ?kown ?awth ?lwth ?cwth ?kwth ?amix ?lmix ?cmix ?kmix ?abeg ?lbeg ?cbeg ?kbeg ?adrw ?ldrw ?cdrw ?kdrw ?alof ?llof ?clof ?klof ?anms ?lnms ?cnms ?knms ?abit ?lbit ?cbit ?kbit ?apce ?lpce ?cpce ?kpce ?aput ?lput ?cput ?kput ?ashw ?lshw ?cshw ?kshw ?adds ?ldds ?cdds ?kdds ?alaw ?llaw ?claw ?klaw ?v_LETTERS ?v_MOST_LETTERS ?v_MOST_NUMBER ?v_MOST_VALUE ?v_MOST_PIECES ?v_MOST_VARS ?v_MOST_PARAMS ?v_MOST_STATEMENTS ?v_MOST_AROUND ?v_MOST_VARS_ASKED ?v_MOST_ASKED ?vKD ?lKD ?vPP ?lPP ?litP ?keyP ?lowP ?nP0 ?lP0 ?nP1 ?lP1 ?nP2 ?lP2 ?nP3 ?lP3 ?nP4 ?lP4 ?nP5 ?lP5 ?nP6 ?lP6 ?nP7 ?lP7 ?nP8 ?lP8 ?nP9 ?lP9 ?nP10 ?lP10 ?nP11 ?lP11 ?nP12 ?lP12 ?nP13 ?lP13 ?pg ?hd ?po ?sa ?mk ?kc ?nV ?nK ?nM ?pgS ?hdS ?poS ?saS ?mkS ?kcS ?nBS ?nFS ?nWS ?jG ?nq ?nfS ?kSS ?hC ?hN ?hT ?hM ?sL ?u_NoneType ?w_NoneType ?u_tuple ?w_tuple ?u_list ?w_list ?xL ?xV ?saB ?nbB ?tyI ?kB ?eB ?tB ?z_isinstance ?z_str ?z_int ?z_bool ?z_tuple ?z_len ?z_all ?z_set ?z_zip ?z_list ?z_enumerate ?z_repr ?z_range ?z_min
    (case aC => k_is); (case aCB => k_is); (case aS => k_is); (case acin => k_is); (case icin => k_is); (case lcin => k_is)
    (case ccin => k_is); (case kcin => k_is); (case atak => k_is); (case itak => k_is); (case ltak => k_is); (case ctak => k_is)
    (case ktak => k_is); (case aknw => k_is); (case iknw => k_is); (case lknw => k_is); (case cknw => k_is); (case kknw => k_is)
    (case afin => k_is); (case ifin => k_is); (case lfin => k_is); (case cfin => k_is); (case kfin => k_is); (case abin => k_is)
    (case ibin => k_is); (case lbin => k_is); (case cbin => k_is); (case kbin => k_is); (case asin => k_is); (case isin => k_is)
    (case lsin => k_is); (case csin => k_is); (case ksin => k_is); (case asgt => k_is); (case isgt => k_is); (case lsgt => k_is)
    (case csgt => k_is); (case ksgt => k_is); (case asst => k_is); (case isst => k_is); (case lsst => k_is); (case csst => k_is)
    (case ksst => k_is); (case asco => k_is); (case isco => k_is); (case lsco => k_is); (case csco => k_is); (case ksco => k_is)
    (case asln => k_is); (case isln => k_is); (case lsln => k_is); (case csln => k_is); (case ksln => k_is); (case aseq => k_is)
    (case iseq => k_is); (case lseq => k_is); (case cseq => k_is); (case kseq => k_is); (case asfo => k_is); (case isfo => k_is)
    (case lsfo => k_is); (case csfo => k_is); (case ksfo => k_is); (case asnm => k_is); (case isnm => k_is); (case lsnm => k_is)
    (case csnm => k_is); (case ksnm => k_is); (case asbk => k_is); (case isbk => k_is); (case lsbk => k_is); (case csbk => k_is)
    (case ksbk => k_is); (case aspc => k_is); (case ispc => k_is); (case lspc => k_is); (case cspc => k_is); (case kspc => k_is)
    (case asch => k_is); (case isch => k_is); (case lsch => k_is); (case csch => k_is); (case ksch => k_is); (case aisn => k_is)
    (case lisn => k_is); (case cisn => k_is); (case kisn => k_is); (case aarn => k_is); (case larn => k_is); (case carn => k_is)
    (case karn => k_is); (case aitg => k_is); (case litg => k_is); (case citg => k_is); (case kitg => k_is); (case anum => k_is)
    (case lnum => k_is); (case cnum => k_is); (case knum => k_is); (case atup => k_is); (case ltup => k_is); (case ctup => k_is)
    (case ktup => k_is); (case adif => k_is); (case ldif => k_is); (case cdif => k_is); (case kdif => k_is); (case aprt => k_is)
    (case lprt => k_is); (case cprt => k_is); (case kprt => k_is); (case awrd => k_is); (case lwrd => k_is); (case cwrd => k_is)
    (case kwrd => k_is); (case afit => k_is); (case lfit => k_is); (case cfit => k_is); (case kfit => k_is); (case afrm => k_is)
    (case lfrm => k_is); (case cfrm => k_is); (case kfrm => k_is); (case apts => k_is); (case lpts => k_is); (case cpts => k_is)
    (case kpts => k_is); (case ablk => k_is); (case lblk => k_is); (case cblk => k_is); (case kblk => k_is); (case acan => k_is)
    (case lcan => k_is); (case ccan => k_is); (case kcan => k_is); (case ahyi => k_is); (case lhyi => k_is); (case chyi => k_is)
    (case khyi => k_is); (case aknd => k_is); (case lknd => k_is); (case cknd => k_is); (case kknd => k_is); (case aprm => k_is)
    (case lprm => k_is); (case cprm => k_is); (case kprm => k_is); (case atrp => k_is); (case ltrp => k_is); (case ctrp => k_is)
    (case ktrp => k_is); (case afpc => k_is); (case lfpc => k_is); (case cfpc => k_is); (case kfpc => k_is); (case aflt => k_is)
    (case lflt => k_is); (case cflt => k_is); (case kflt => k_is); (case anee => k_is); (case lnee => k_is); (case cnee => k_is)
    (case knee => k_is); (case afpi => k_is); (case lfpi => k_is); (case cfpi => k_is); (case kfpi => k_is); (case astm => k_is)
    (case lstm => k_is); (case cstm => k_is); (case kstm => k_is); (case abnd => k_is); (case lbnd => k_is); (case cbnd => k_is)
    (case kbnd => k_is); (case aown => k_is); (case lown => k_is); (case cown => k_is); (case kown => k_is); (case awth => k_is)
    (case lwth => k_is); (case cwth => k_is); (case kwth => k_is); (case amix => k_is); (case lmix => k_is); (case cmix => k_is)
    (case kmix => k_is); (case abeg => k_is); (case lbeg => k_is); (case cbeg => k_is); (case kbeg => k_is); (case adrw => k_is)
    (case ldrw => k_is); (case cdrw => k_is); (case kdrw => k_is); (case alof => k_is); (case llof => k_is); (case clof => k_is)
    (case klof => k_is); (case anms => k_is); (case lnms => k_is); (case cnms => k_is); (case knms => k_is); (case abit => k_is)
    (case lbit => k_is); (case cbit => k_is); (case kbit => k_is); (case apce => k_is); (case lpce => k_is); (case cpce => k_is)
    (case kpce => k_is); (case aput => k_is); (case lput => k_is); (case cput => k_is); (case kput => k_is); (case ashw => k_is)
    (case lshw => k_is); (case cshw => k_is); (case kshw => k_is); (case adds => k_is); (case ldds => k_is); (case cdds => k_is)
    (case kdds => k_is); (case alaw => k_is); (case llaw => k_is); (case claw => k_is); (case klaw => k_is); (case v_LETTERS => k_is)
    (case v_MOST_LETTERS => k_is); (case v_MOST_NUMBER => k_is); (case v_MOST_VALUE => k_is); (case v_MOST_PIECES => k_is); (case v_MOST_VARS => k_is); (case v_MOST_PARAMS => k_is)
    (case v_MOST_STATEMENTS => k_is); (case v_MOST_AROUND => k_is); (case v_MOST_VARS_ASKED => k_is); (case v_MOST_ASKED => k_is); (case vKD => k_is); (case lKD => k_is)
    (case vPP => k_is); (case lPP => k_is); (case litP => exact ⟨⟨_, _, rfl, rfl⟩, ⟨_, _, rfl, rfl⟩, ⟨_, _, rfl, rfl⟩, ⟨_, _, rfl, rfl⟩, ⟨_, _, rfl, rfl⟩, ⟨_, _, rfl, rfl⟩, ⟨_, _, rfl, rfl⟩, ⟨_, _, rfl, rfl⟩, ⟨_, _, rfl, rfl⟩, ⟨_, _, rfl, rfl⟩, ⟨_, _, rfl, rfl⟩, ⟨_, _, rfl, rfl⟩, ⟨_, _, rfl, rfl⟩, ⟨_, _, rfl, rfl⟩, trivial⟩); (case keyP => kernel_rfl); (case lowP => kernel_rfl); (case nP0 => k_is)
    (case lP0 => k_is); (case nP1 => k_is); (case lP1 => k_is); (case nP2 => k_is); (case lP2 => k_is); (case nP3 => k_is)
    (case lP3 => k_is); (case nP4 => k_is); (case lP4 => k_is); (case nP5 => k_is); (case lP5 => k_is); (case nP6 => k_is)
    (case lP6 => k_is); (case nP7 => k_is); (case lP7 => k_is); (case nP8 => k_is); (case lP8 => k_is); (case nP9 => k_is)
    (case lP9 => k_is); (case nP10 => k_is); (case lP10 => k_is); (case nP11 => k_is); (case lP11 => k_is); (case nP12 => k_is)
    (case lP12 => k_is); (case nP13 => k_is); (case lP13 => k_is); (case pg => k_is); (case hd => k_is); (case po => k_is)
    (case sa => k_is); (case mk => k_is); (case kc => k_is); (case nV => k_is); (case nK => k_is); (case nM => k_is)
    (case pgS => k_is); (case hdS => k_is); (case poS => k_is); (case saS => k_is); (case mkS => k_is); (case kcS => k_is)
    (case nBS => k_is); (case nFS => k_is); (case nWS => k_is); (case jG => k_is); (case nq => k_is); (case nfS => k_is)
    (case kSS => kernel_rfl); (case hC => k_is); (case hN => k_is); (case hT => k_is); (case hM => k_is); (case sL => kernel_rfl)
    (case u_NoneType => k_is); (case w_NoneType => kernel_rfl); (case u_tuple => k_is); (case w_tuple => kernel_rfl); (case u_list => k_is); (case w_list => kernel_rfl)
    (case xL => k_is); (case xV => kernel_rfl); (case saB => k_is); (case nbB => k_is); (case tyI => k_is); (case kB => k_is)
    (case eB => k_is); (case tB => k_is); (case z_isinstance => k_is); (case z_str => k_is); (case z_int => k_is); (case z_bool => k_is)
    (case z_tuple => k_is); (case z_len => k_is); (case z_all => k_is); (case z_set => k_is); (case z_zip => k_is); (case z_list => k_is)
    (case z_enumerate => k_is); (case z_repr => k_is); (case z_range => k_is); (case z_min => k_is)

