import PyProof.Rows.All
import Wide.All
import OpenK.AllK
import Wide.FinOn
import HandS.ForMost
import HandS.EndTab
import HandS.Wide
import HandS.More
import HandS.Conv
import HandS.IsInst
import HandS.Steps
import HandS.Walk
import HandS.Iter
import HandS.Style
import HandS.Strs
import HandS.Zip
import HandS.NoneIn
import KE.KDictZip
import KE.GoesEnum
import HandS.SetKeys
import HandS.TupAny
import HandS.DictComp
import HandS.CallRecv
import HandS.ExcInit
import HandS.ForExc
import KE.KTryMore
import KE.KExcIs
import HandS.RaiseMore
import HandS.Lambda
import HandS.Small
import HandS.TupMul
import KE.GoesMore
import PySem.Challenge.RW_stepwhere_k13_programs_looked_at
set_option Elab.async false
set_option maxRecDepth 100000
set_option maxHeartbeats 1000000
/-! Trees of data; names, numbers, tuples. -/
namespace BK
open PySem PySem.Spec PyProof.Rows L2
def top (i : Nat) : Stmt := PySem.Challenge.pw_stepwhere_k13_programs_looked_at.main.body.getD i (.Pass ⟨0, 0, 0, 0⟩)
theorem same_new {H : Hp} {p : Addr} {o : HO} (h : H p = none) : Same H (upd H p o) := fun b u e => by
  rw [upd_ne (ne_of_none e h)]
  exact e
theorem sqt_same {K : PySem.W.Frag} {H H' : Hp} {q : Addr} {xs : List V} (e : Same H H') (h : SqT K H q xs) : SqT K H' q xs := by
  rcases h with (h | ⟨o, h⟩) | h
  · exact .inl (.inl (e _ _ h))
  · exact .inl (.inr ⟨o, e _ _ h⟩)
  · exact .inr h
theorem sqt_ty {K : PySem.W.Frag} {H : Hp} {t : Addr} {xs : List V} (h : SqT K H t xs) : TyX K H (.ref t) (.type "tuple") := by
  rcases h with (h | ⟨o2, h⟩) | ⟨o2, its, n, h1, h2, _⟩
  · exact .base (.tup h)
  · exact .fTuple h
  · exact .kTuple h1 h2
theorem sql_ty {K : PySem.W.Frag} {H : Hp} {t : Addr} {xs : List V} (h : SqL K H t xs) : TyX K H (.ref t) (.type "list") := by
  rcases h with (h | ⟨o2, h⟩) | ⟨o2, its, n, h1, h2, _⟩
  · exact .base (.lst h)
  · exact .base (.frz h)
  · exact .kList h1 h2
theorem tyes {σ : L2.St} {H : Hp} {f g : Hp → Prop} (h : f H) : tYes σ H fun b H3 => if b = true then f H3 else g H3 := by
  show (if true = true then f H else g H)
  exact iteT h
/-- a tree of data; of lists and dicts only that they are such -/
inductive Tr where
  | non
  | bl (b : Bool)
  | int (i : Int)
  | str (s : Str)
  | lst
  | dct
  | tup (ts : List Tr)
mutual
inductive TrAt (K : PySem.W.Frag) (H : Hp) : V → Tr → Prop
  | non : TrAt K H .non .non
  | bl (b : Bool) : TrAt K H (.bl b) (.bl b)
  | int (i : Int) : TrAt K H (.int i) (.int i)
  | str (s : Str) (h : s.length ≤ sizeLine) : TrAt K H (.str s) (.str s)
  | lst {a : Addr} {xs : List V} (h : SqL K H a xs) : TrAt K H (.ref a) .lst
  | dct {a : Addr} {kvs : List (Key × V)} (h : H a = some (.dK kvs)) : TrAt K H (.ref a) .dct
  | tup {a : Addr} {xs : List V} {ts : List Tr} (h : SqT K H a xs) (k : TrAll K H xs ts) : TrAt K H (.ref a) (.tup ts)
inductive TrAll (K : PySem.W.Frag) (H : Hp) : List V → List Tr → Prop
  | nil : TrAll K H [] []
  | cons {v : V} {vs : List V} {t : Tr} {ts : List Tr} (h : TrAt K H v t) (k : TrAll K H vs ts) : TrAll K H (v :: vs) (t :: ts)
end
section
variable {K : PySem.W.Frag} {H H' : Hp}
mutual
theorem TrAt.same (e : Same H H') : ∀ {v : V} {t : Tr}, TrAt K H v t → TrAt K H' v t
  | _, _, .non => .non
  | _, _, .bl b => .bl b
  | _, _, .int i => .int i
  | _, _, .str s h => .str s h
  | _, _, .lst h => .lst (e.seq h)
  | _, _, .dct h => .dct (e _ _ h)
  | _, _, .tup h k => .tup (sqt_same e h) (TrAll.same e k)
theorem TrAll.same (e : Same H H') : ∀ {vs : List V} {ts : List Tr}, TrAll K H vs ts → TrAll K H' vs ts
  | _, _, .nil => .nil
  | _, _, .cons h k => .cons (h.same e) (k.same e)
end
theorem TrAll.len : ∀ {vs : List V} {ts : List Tr}, TrAll K H vs ts → vs.length = ts.length
  | _, _, .nil => rfl
  | _, _, .cons _ k => congrArg (· + 1) k.len
theorem TrAll.get : ∀ {vs : List V} {ts : List Tr} {i : Nat} {v : V}, TrAll K H vs ts → vs[i]? = some v → ∃ t, ts[i]? = some t ∧ TrAt K H v t
  | _, _, _, _, .nil, h => by simp at h
  | _, _, 0, _, .cons h k, e => by
    rw [List.getElem?_cons_zero] at e
    cases e
    exact ⟨_, rfl, h⟩
  | _, _, i + 1, _, .cons h k, e => by
    rw [List.getElem?_cons_succ] at e
    obtain ⟨t, h1, h2⟩ := k.get e
    exact ⟨t, by rw [List.getElem?_cons_succ]; exact h1, h2⟩
theorem TrAll.get' : ∀ {vs : List V} {ts : List Tr} {i : Nat} {t : Tr}, TrAll K H vs ts → ts[i]? = some t → ∃ v, vs[i]? = some v ∧ TrAt K H v t
  | _, _, _, _, .nil, h => by simp at h
  | _, _, 0, _, .cons h k, e => by
    rw [List.getElem?_cons_zero] at e
    cases e
    exact ⟨_, rfl, h⟩
  | _, _, i + 1, _, .cons h k, e => by
    rw [List.getElem?_cons_succ] at e
    obtain ⟨t, h1, h2⟩ := k.get' e
    exact ⟨t, by rw [List.getElem?_cons_succ]; exact h1, h2⟩
/-- a list is written -/
theorem sqt_updL {D : Addr} {ys ys' xs : List V} {a : Addr} (e : H D = some (.lst ys)) (h : SqT K H a xs) : SqT K (upd H D (.lst ys')) a xs := by
  rcases h with (h | ⟨o, h⟩) | h
  · exact .inl (.inl (by rw [upd_ne (ne_of h e (by intro z; cases z))]; exact h))
  · exact .inl (.inr ⟨o, by rw [upd_ne (ne_of h e (by intro z; cases z))]; exact h⟩)
  · exact .inr h
mutual
theorem TrAt.updL {D : Addr} {ys ys' : List V} (e : H D = some (.lst ys)) : ∀ {v : V} {t : Tr}, TrAt K H v t → TrAt K (upd H D (.lst ys')) v t
  | _, _, .non => .non
  | _, _, .bl b => .bl b
  | _, _, .int i => .int i
  | _, _, .str s h => .str s h
  | _, _, .lst (a := a) (xs := xs) h => by
    by_cases z : a = D
    · rw [z]
      exact .lst (SqL.of upd_same)
    · refine .lst (xs := xs) ?_
      rcases h with (h | ⟨o, h⟩) | h
      · exact .inl (.inl (by rw [upd_ne z]; exact h))
      · exact .inl (.inr ⟨o, by rw [upd_ne z]; exact h⟩)
      · exact .inr h
  | _, _, .dct h => .dct (by rw [upd_ne (ne_of h e (by intro z; cases z))]; exact h)
  | _, _, .tup h k => .tup (sqt_updL e h) (TrAll.updL e k)
theorem TrAll.updL {D : Addr} {ys ys' : List V} (e : H D = some (.lst ys)) : ∀ {vs : List V} {ts : List Tr}, TrAll K H vs ts → TrAll K (upd H D (.lst ys')) vs ts
  | _, _, .nil => .nil
  | _, _, .cons h k => .cons (h.updL e) (k.updL e)
end
def tyT : Tr → String
  | .non => "NoneType"
  | .bl _ => "bool"
  | .int _ => "int"
  | .str _ => "str"
  | .lst => "list"
  | .dct => "dict"
  | .tup _ => "tuple"
theorem TrAt.ty {v : V} {t : Tr} (h : TrAt K H v t) : TyX K H v (.type (tyT t)) := by
  cases h with
  | non => exact .base .non
  | bl b => exact .base (.bl b)
  | int i => exact .base (.int i)
  | str s h => exact .base (.str s)
  | lst h => exact sql_ty h
  | dct h => exact .base (.dK h)
  | tup h k => exact sqt_ty h
end
def isStr : Tr → Bool
  | .str _ => true
  | _ => false
def isInt : Tr → Bool
  | .int _ => true
  | .bl _ => true
  | _ => false
def isBl : Tr → Bool
  | .bl _ => true
  | _ => false
def isTup : Tr → Bool
  | .tup _ => true
  | _ => false
theorem k_str (K : PySem.W.Frag) (t : Tr) : PySem.W.kitOne K (.type (tyT t)) (.type "str") = some (isStr t) := by
  cases t <;> exact kit_ty (by simp only [tyT, isStr]; decide +kernel)
theorem k_int (K : PySem.W.Frag) (t : Tr) : PySem.W.kitOne K (.type (tyT t)) (.type "int") = some (isInt t) := by
  cases t <;> exact kit_ty (by simp only [tyT, isInt]; decide +kernel)
theorem k_bl (K : PySem.W.Frag) (t : Tr) : PySem.W.kitOne K (.type (tyT t)) (.type "bool") = some (isBl t) := by
  cases t <;> exact kit_ty (by simp only [tyT, isBl]; decide +kernel)
theorem k_tup (K : PySem.W.Frag) (t : Tr) : PySem.W.kitOne K (.type (tyT t)) (.type "tuple") = some (isTup t) := by
  cases t <;> exact kit_ty (by simp only [tyT, isTup]; decide +kernel)
def alpha : Str := "abcdefghijklmnopqrstuvwxyz"
/-- a word of 1 to 8 letters -/
def nameS (s : Str) : Bool := decide (1 ≤ s.length) && decide (s.length ≤ 8) && s.cps.toList.all fun c => decide (c ∈ alpha.cps.toList)
def nameT : Tr → Bool
  | .str s => nameS s
  | _ => false
def numT (most : Int) : Tr → Bool
  | .int i => decide (0 ≤ i) && decide (i ≤ most)
  | _ => false
def tupT (n : Nat) : Tr → Bool
  | .tup ts => ts.length == n
  | _ => false
/-- what the top has written of the forms -/
structure Forms (mg : Str → Option Value) : Prop where
  le : ∃ t, mg "LETTERS" = some (.str alpha t)
  ml : ∃ t, mg "MOST_LETTERS" = some (.int 8 t)
  mn : ∃ t, mg "MOST_NUMBER" = some (.int 99 t)
  isi : mg "isinstance" = none
  str : mg "str" = none
  int : mg "int" = none
  bool : mg "bool" = none
  tuple : mg "tuple" = none
  len : mg "len" = none
  all : mg "all" = none
def spOf (f : Tr → Bool) (K : PySem.W.Frag) : Sp := fun vs H Q _ => ∃ v t, vs = [v] ∧ TrAt K H v t ∧ ∀ H', Same H H' → Q (.bl (f t)) H'
section
variable {P : Program} {w : World} {K : PySem.W.Frag} {mg : Str → Option Value} {base : Heap}
abbrev sName : Stmt := top 14
abbrev sInteger : Stmt := top 16
abbrev sNumber : Stmt := top 17
abbrev sTuple : Stmt := top 18
theorem scName : FnScope ["thing", "letter"] ["thing"] (defScope sName) := ⟨rfl, rfl, rfl, by decide +kernel, rfl, by decide +kernel, by decide +kernel⟩
theorem ok_name {f : Addr} {fd : FuncData} (F : Fun K "is_name" "is_name" sName f fd) (T : Forms mg) : FnOk P w K mg base CX0 1 f fd ["thing"] (spOf nameT K) := by
  refine F.ok scName (fun vs H Q E h => ?_) (fun cdv A outer s H vs Q E hr h => ?_)
  · obtain ⟨v, t, rfl, _⟩ := h
    rfl
  · obtain ⟨v, t, rfl, ht, k⟩ := h
    obtain ⟨t1, gL⟩ := T.le
    obtain ⟨t2, gM⟩ := T.ml
    refine ⟨_, pss_cons (ps_if (PW.pt (pw_or (pt_not (pt_val (pe_callB call_isi (by rfl) T.isi boot_isinstance (pa_cons (pv 0) (pa_cons (pe_bltn (v := .ty "str") (u := .type "str") (by rfl) T.str (by decide +kernel) rfl) pa_nil)))))
        (pw_or1 (pt_not (pt_chain op_le op_le pe_int (pe_callB call_len_str (by rfl) T.len boot_len (pa_cons (pv 0) pa_nil)) (pe_glob (v := .int 8) rfl gM ⟨_, rfl⟩)))))) (pss_one (ps_ret pe_bl)) pss_nil)
      (pss_one (ps_ret (pe_callB (cr_all rfl) (by rfl) T.all (by decide +kernel) (pa_cons (pe_lc (own := [("letter", 1)]) (g := gName 1) (tt := tYes) rfl scName.nd (pi_str (pv 0))
          (blkOk_by (N := ["thing", "letter"]) (sc := defScope sName) (by decide +kernel)) (fun _ _ _ _ _ => pg_name (i := 1) scName.nd rfl (Or.inl rfl)) (fun _ _ _ _ _ => pts_nil)
          (fun _ _ _ _ _ => pe_cmpR op_inS (pv 1) (pe_glob (v := .str alpha) rfl gL ⟨_, rfl⟩) rfl)) pa_nil)))), ?_⟩
    refine ⟨_, rfl, v, .ty "str", .type (tyT t), .type "str", isStr t, rfl, .ty "str", ht.ty, k_str K t, _, rfl, ?_⟩
    cases ht with
    | str z hz =>
      refine iteF ?_
      have fin : ∀ b : Bool, b = nameS z → ∀ H', Same H H' → Q (.bl b) H' := fun b e H' s' => by
        rw [e]
        exact k H' s'
      refine ⟨_, rfl, z, rfl, hz, _, _, rfl, rfl, _, rfl, ?_⟩
      refine ite2 (fun h1 => ?_) (fun h1 => ?_)
      · refine ⟨_, _, rfl, rfl, _, rfl, ?_⟩
        refine ite2 (fun h2 => ?_) (fun h2 => ?_)
        · refine fin false ?_ H fun _ _ e => e
          have h : ¬ ((z.length : Int) ≤ 8) := by simpa using h2
          have h' : ¬ (z.length ≤ 8) := by omega
          unfold nameS
          rw [decide_eq_false h', Bool.and_false, Bool.false_and]
        · have h : (z.length : Int) ≤ 8 := by simpa using h2
          have hl : z.length ≤ 8 := by omega
          have hl1 : 1 ≤ z.length := by
            have q : (1 : Int) ≤ (z.length : Int) := of_decide_eq_true h1
            omega
          refine ⟨_, rfl, z, rfl, fun D nD => ?_⟩
          refine lc_it (walk_str (z := z)) (fun i H2 => Same H H2 ∧ H2 D = some (.lst (((z.cps.toList.take i).map fun c => decide (c ∈ alpha.cps.toList)).map V.bl))) ⟨same_new nD, upd_same⟩ (fun _ _ _ _ => True.intro) ?_ ?_
          · rintro i x H2 H3 hi ⟨s2, e2⟩ ⟨rfl, c, hc, rfl⟩
            refine ⟨rfl, ?_⟩
            refine tyes ?_
            refine ⟨_, rfl, c, alpha, rfl, rfl, _, e2, small1000 (by rw [List.length_map, List.length_map, List.length_take, Array.length_toList]; have : z.cps.size ≤ 8 := hl; omega), fun b o e => ?_, ?_⟩
            · rw [upd_ne (ne_of_none e nD)]
              exact s2 b o e
            · have hc' : z.cps.toList[i]? = some c := by rw [Array.getElem?_toList]; exact hc
              rw [upd_same, List.take_add_one, hc', List.map_append, List.map_append]
              rfl
          · rintro H2 ⟨s2, e2⟩
            refine ⟨D, _, rfl, SqL.of e2, fin _ ?_ H2 s2⟩
            have et : z.cps.toList.take z.cps.size = z.cps.toList := by rw [← Array.length_toList, List.take_length]
            unfold nameS
            rw [decide_eq_true hl, decide_eq_true hl1, et, List.all_map]
            simp [Function.comp]
      · refine ⟨_, rfl, iteT (fin false ?_ H fun _ _ e => e)⟩
        have h : ¬ ((1 : Int) ≤ (z.length : Int)) := fun q => h1 (decide_eq_true q)
        have h' : ¬ (1 ≤ z.length) := by omega
        unfold nameS
        rw [decide_eq_false h', Bool.false_and, Bool.false_and]
    | non => exact iteT (k H fun _ _ e => e)
    | bl b => exact iteT (k H fun _ _ e => e)
    | int i => exact iteT (k H fun _ _ e => e)
    | lst h => exact iteT (k H fun _ _ e => e)
    | dct h => exact iteT (k H fun _ _ e => e)
    | tup h q => exact iteT (k H fun _ _ e => e)
/-! numbers, tuples -/
def spNumber (K : PySem.W.Frag) : Sp := fun vs H Q _ => ∃ v t most, vs = [v, .int most] ∧ TrAt K H v t ∧ Q (.bl (numT most t)) H
def spTuple (K : PySem.W.Frag) : Sp := fun vs H Q _ => ∃ v t n, vs = [v, .int n] ∧ TrAt K H v t ∧ Q (.bl (match t with | .tup ts => decide ((ts.length : Int) = n) | _ => false)) H
def spInteger (K : PySem.W.Frag) : Sp := fun vs H Q _ => ∃ v t, vs = [v] ∧ TrAt K H v t ∧ Q (.bl (isInt t && !isBl t)) H
theorem scInteger : FnScope ["thing"] ["thing"] (defScope sInteger) := ⟨rfl, rfl, rfl, by decide +kernel, rfl, by decide +kernel, by decide +kernel⟩
theorem ok_integer {f : Addr} {fd : FuncData} (F : Fun K "is_integer" "is_integer" sInteger f fd) (T : Forms mg) : FnOk P w K mg base CX0 1 f fd ["thing"] (spInteger K) := by
  refine F.ok scInteger (fun vs H Q E h => ?_) (fun cdv A outer s H vs Q E hr h => ?_)
  · obtain ⟨v, t, rfl, _⟩ := h
    rfl
  · obtain ⟨v, t, rfl, ht, k⟩ := h
    refine ⟨_, pss_one (ps_ret (pe_and (pe_callB call_isi (by rfl) T.isi boot_isinstance (pa_cons (pv 0) (pa_cons (pe_bltn (v := .ty "int") (u := .type "int") (by rfl) T.int (by decide +kernel) rfl) pa_nil)))
      (pe_one (pe_not (pe_callB call_isi (by rfl) T.isi boot_isinstance (pa_cons (pv 0) (pa_cons (pe_bltn (v := .ty "bool") (u := .type "bool") (by rfl) T.bool (by decide +kernel) rfl) pa_nil))))))), ?_⟩
    refine ⟨_, rfl, v, .ty "int", .type (tyT t), .type "int", isInt t, rfl, .ty "int", ht.ty, k_int K t, _, rfl, ?_⟩
    have two := ht.ty
    cases ht with
    | int i => exact iteT ⟨_, rfl, _, .ty "bool", .type (tyT (.int i)), .type "bool", isBl (.int i), rfl, .ty "bool", two, k_bl K _, _, rfl, k⟩
    | bl b => exact iteT ⟨_, rfl, _, .ty "bool", .type (tyT (.bl b)), .type "bool", isBl (.bl b), rfl, .ty "bool", two, k_bl K _, _, rfl, k⟩
    | str z hz => exact iteF k
    | non => exact iteF k
    | lst h => exact iteF k
    | dct h => exact iteF k
    | tup h q => exact iteF k
theorem scNumber : FnScope ["thing", "most"] ["thing", "most"] (defScope sNumber) := ⟨rfl, rfl, rfl, by decide +kernel, rfl, by decide +kernel, by decide +kernel⟩
theorem ok_number {f fI : Addr} {fd fdI : FuncData} (F : Fun K "is_number" "is_number" sNumber f fd)
    (GI : FnOk P w K mg base CX0 1 fI fdI ["thing"] (spInteger K)) (bI : Binds K fdI ["thing"] []) (gI : mg "is_integer" = some (.ref fI)) (kI : PySem.W.keepIn K (.ref fI) = true) : FnOk P w K mg base CX0 2 f fd ["thing", "most"] (spNumber K) := by
  refine F.ok scNumber (fun vs H Q E h => ?_) (fun cdv A outer s H vs Q E hr h => ?_)
  · obtain ⟨v, t, most, rfl, _⟩ := h
    rfl
  · obtain ⟨v, t, most, rfl, ht, k⟩ := h
    refine ⟨_, pss_one (ps_ret (pe_and (pe_call GI hr rfl gI kI bI .nil pass0 (pa_cons (pv 0) pa_nil))
      (pe_one (pe_chain op_le op_le pe_int (pv 0) (pv 1))))), ?_⟩
    refine ⟨_, rfl, v, t, rfl, ht, _, rfl, ?_⟩
    cases ht with
    | int i =>
      refine iteT ⟨_, rfl, _, _, rfl, rfl, _, rfl, ?_⟩
      refine ite2 (fun h => ?_) (fun h => ?_)
      · have h' : decide ((0 : Int) ≤ i) = true := h
        have e : numT most (.int i) = decide (i ≤ most) := by
          show (decide (0 ≤ i) && decide (i ≤ most)) = _
          rw [h', Bool.true_and]
        rw [e] at k
        exact ⟨_, rfl, _, _, rfl, rfl, k⟩
      · have h' : decide ((0 : Int) ≤ i) = false := by simpa using h
        have e : numT most (.int i) = false := by
          show (decide (0 ≤ i) && decide (i ≤ most)) = _
          rw [h', Bool.false_and]
        rw [e] at k
        exact k
    | bl b => exact iteF k
    | str z hz => exact iteF k
    | non => exact iteF k
    | lst h => exact iteF k
    | dct h => exact iteF k
    | tup h q => exact iteF k
theorem scTuple : FnScope ["thing", "count"] ["thing", "count"] (defScope sTuple) := ⟨rfl, rfl, rfl, by decide +kernel, rfl, by decide +kernel, by decide +kernel⟩
theorem ok_tuple {f : Addr} {fd : FuncData} (F : Fun K "is_tuple" "is_tuple" sTuple f fd) (T : Forms mg) : FnOk P w K mg base CX0 1 f fd ["thing", "count"] (spTuple K) := by
  refine F.ok scTuple (fun vs H Q E h => ?_) (fun cdv A outer s H vs Q E hr h => ?_)
  · obtain ⟨v, t, n, rfl, _⟩ := h
    rfl
  · obtain ⟨v, t, n, rfl, ht, k⟩ := h
    refine ⟨_, pss_one (ps_ret (pe_and (pe_callB call_isi (by rfl) T.isi boot_isinstance (pa_cons (pv 0) (pa_cons (pe_bltn (v := .ty "tuple") (u := .type "tuple") (by rfl) T.tuple (by decide +kernel) rfl) pa_nil)))
      (pe_one (pe_cmpR op_eq (pe_callB call_len_seq (by rfl) T.len boot_len (pa_cons (pv 0) pa_nil)) (pv 1) (nomark _))))), ?_⟩
    refine ⟨_, rfl, v, .ty "tuple", .type (tyT t), .type "tuple", isTup t, rfl, .ty "tuple", ht.ty, k_tup K t, _, rfl, ?_⟩
    cases ht with
    | @tup a xs ts h q =>
      refine iteT ⟨_, rfl, a, xs, rfl, .inr h, _, rfl, rfl, ?_⟩
      have e : decide (V.int (xs.length : Int) = V.int n) = decide ((ts.length : Int) = n) := by
        rw [dec_int, q.len]
        by_cases z : (ts.length : Int) = n
        · rw [z]
          simp
        · rw [decide_eq_false z, beq_eq_false_iff_ne]
          exact z
      rw [e]
      exact k
    | int i => exact iteF k
    | bl b => exact iteF k
    | str z hz => exact iteF k
    | non => exact iteF k
    | lst h => exact iteF k
    | dct h => exact iteF k
/-! the parts of a statement that are blocks -/
abbrev sBlocks : Stmt := top 26
def spBlocks (K : PySem.W.Frag) : Sp := fun vs H Q _ => ∃ v ts, vs = [v] ∧ TrAt K H v (.tup ts) ∧ ts.length ≤ 1000 ∧ ∀ (D : Addr) (bs : List V) (H' : Hp), Same H H' → H D = none → H' D = some (.lst bs) → TrAll K H' bs (ts.filter isTup) → Q (.ref D) H'
theorem scBlocks : FnScope ["statement", "part"] ["statement"] (defScope sBlocks) := ⟨rfl, rfl, rfl, by decide +kernel, rfl, by decide +kernel, by decide +kernel⟩
theorem TrAll.snoc {H : Hp} : ∀ {vs : List V} {ts : List Tr} {v : V} {t : Tr}, TrAll K H vs ts → TrAt K H v t → TrAll K H (vs ++ [v]) (ts ++ [t])
  | _, _, _, _, .nil, h => .cons h .nil
  | _, _, _, _, .cons a k, h => .cons a (k.snoc h)
theorem ok_blocks {f : Addr} {fd : FuncData} (F : Fun K "blocks_of" "blocks_of" sBlocks f fd) (T : Forms mg) : FnOk P w K mg base CX0 1 f fd ["statement"] (spBlocks K) := by
  refine F.ok scBlocks (fun vs H Q E h => ?_) (fun cdv A outer s H vs Q E hr h => ?_)
  · obtain ⟨v, ts, rfl, _⟩ := h
    rfl
  · obtain ⟨v, ts, rfl, ht, hl, k⟩ := h
    cases ht with
    | @tup a xs ts h q =>
    refine ⟨_, pss_one (ps_ret (pe_lc (own := [("part", 1)]) (g := gName 1) (tt := tB (tCB (rIsi K) (tCons (tVar 1) (tCons (tC (.ty "tuple")) tNil)))) (te := tVar 1) rfl scBlocks.nd (pi_tup (pv 0))
        (blkOk_by (N := ["statement", "part"]) (sc := defScope sBlocks) (by decide +kernel)) (fun _ _ _ _ _ => pg_name (i := 1) scBlocks.nd rfl (Or.inl rfl))
        (fun _ _ _ _ _ => pts_one (pt_val (by exact pe_callB call_isi (by rfl) T.isi boot_isinstance (pa_cons (pv 1) (pa_cons (pe_bltn (v := .ty "tuple") (u := .type "tuple") (by rfl) T.tuple (by decide +kernel) rfl) pa_nil)))))
        (fun _ _ _ _ _ => pv 1))), ?_⟩
    refine ⟨_, rfl, a, rfl, ⟨_, h⟩, fun D nD => ?_⟩
    refine lc_it (walk_tup (K := K) (a := a) (xs := xs)) (fun i H2 => Same H H2 ∧ ∃ bs, H2 D = some (.lst bs) ∧ TrAll K H2 bs ((ts.take i).filter isTup)) ⟨same_new nD, [], upd_same, .nil⟩ (fun i H2 _ ⟨s2, _⟩ => sqt_same s2 h) ?_ ?_
    · rintro i x H2 H3 hi ⟨s2, bs, e2, b2⟩ ⟨rfl, hx⟩
      obtain ⟨t, ht, tx⟩ := (q.same s2).get hx
      have et : ts.take (i + 1) = ts.take i ++ [t] := by rw [List.take_add_one, ht]; rfl
      refine ⟨rfl, _, rfl, x, .ty "tuple", .type (tyT t), .type "tuple", isTup t, rfl, .ty "tuple", tx.ty, k_tup K t, _, rfl, ?_⟩
      have s3 : ∀ o, Same H (upd H3 D o) := fun o b u e => by
        rw [upd_ne (ne_of_none e nD)]
        exact s2 b u e
      cases e : isTup t with
      | true =>
        refine iteT ⟨_, rfl, bs, e2, small1000 ?_, s3 _, _, upd_same, ?_⟩
        · rw [b2.len]
          exact Nat.le_trans (List.length_filter_le _ _) (by rw [List.length_take]; omega)
        · rw [et, List.filter_append]
          have e' : [t].filter isTup = [t] := by simp [List.filter, e]
          rw [e']
          exact (b2.updL e2).snoc (tx.updL e2)
      | false =>
        refine iteF ⟨s2, bs, e2, ?_⟩
        rw [et, List.filter_append]
        have e' : [t].filter isTup = [] := by simp [List.filter, e]
        rw [e', List.append_nil]
        exact b2
    · rintro H2 ⟨s2, bs, e2, b2⟩
      have e : ts.take xs.length = ts := by rw [q.len, List.take_length]
      rw [e] at b2
      exact k D bs H2 s2 nD e2 b2
end
end BK


set_option Elab.async false
set_option linter.all false
set_option maxRecDepth 100000
set_option maxHeartbeats 4000000
/-! A set of texts, of any number below 4000; its length. -/
namespace BS
open PySem PySem.Spec PyProof.Rows
/-- how many different ones among the first i -/
def cnt (xs : List Str) : Nat → Nat
  | 0 => 0
  | i + 1 => if ((xs.take i).any (· == xs.getD i Str.empty)) = true then cnt xs i else cnt xs i + 1
theorem cnt_le (xs : List Str) : ∀ i, cnt xs i ≤ i
  | 0 => Nat.le_refl 0
  | i + 1 => by
    have := cnt_le xs i
    unfold cnt
    split <;> omega
theorem take_get {xs : List Str} {i : Nat} (h : i < xs.length) : xs.take (i + 1) = xs.take i ++ [xs.getD i Str.empty] := by
  rw [List.take_add_one, List.getElem?_eq_getElem h]
  simp [List.getD, List.getElem?_eq_getElem h]
abbrev freshSet (led : Bool) : Obj := { cls := .type "set", dict := none, data := .set #[] 0 (.fresh 0 0 led) }
/-- the texts among the first i -/
abbrev met (xs : List Str) (i : Nat) : Str → Bool := fun y => (xs.take i).any (· == y)
section
variable {prog : Program} {w : World} {A : Around} {R : Result → Shared → Prop} {it : Addr} {fs ws : List Addr} {G : Array GenState → Array GenState → Prop} {n : Nat} {P : Nat → Value → Prop} {St : Nat → Shared → Prop}
theorem turns (W : WalksS prog w A.in1 it fs ws G n P St) (a : Addr) (na : a ∉ fs) (xs : List Str) (len : xs.length = n) (few : n + 1 < scanBound) (val : ∀ i v, P i v → ∃ t, v = .str (xs.getD i Str.empty) t) (d : Nat) :
    ∀ (i : Nat) (s : Shared), i + d = n → St i s → s.heap.SetOf (PySem.strKind prog w) a (met xs i) (cnt xs i) →
      (∀ s', Moved (a :: ws) G s s' → s'.heap.SetOf (PySem.strKind prog w) a (met xs n) (cnt xs n) → R (.ok (.ret .none)) s') → codeAny (model prog w) A (.builtin "set.update.loop" ⟨[.ref a, .ref it], []⟩) R s := by
  have nw : a ∉ ws := fun z => na (W.sub _ z)
  have wider : ∀ b ∈ ws, b ∈ a :: ws := fun b z => List.mem_cons_of_mem _ z
  have moved : ∀ {s s' : Shared} {S : Str → Bool} {m : Nat}, Moved ws G s s' → s.heap.SetOf (PySem.strKind prog w) a S m → s'.heap.SetOf (PySem.strKind prog w) a S m := fun mv ⟨o, es, ep, t, q, rest⟩ => ⟨o, es, ep, t, mv.heap a _ nw q, rest⟩
  induction d with
  | zero =>
    intro i s e st here then_
    obtain rfl : i = n := e
    refine codeAny_builtin PyProof.Rows.F.entry_set_update_loop ?_
    rw [Around.under_plainId PyProof.Rows.F.plain_set_update_loop _]
    show wpAny _ A.in1 (pyNext (.ref it) >>= _) _ _ s
    refine wpAny_bind (W.done s _ _ st fun s' mv => ?_)
    exact wpAny_pure (then_ s' (mv.mono wider) (moved mv here))
  | succ d ih =>
    intro i s e st here then_
    have lt : i < n := by omega
    refine codeAny_builtin PyProof.Rows.F.entry_set_update_loop ?_
    rw [Around.under_plainId PyProof.Rows.F.plain_set_update_loop _]
    show wpAny _ A.in1 (pyNext (.ref it) >>= _) _ _ s
    refine wpAny_bind (W.item i s _ _ lt st fun v s' pv st' mv => ?_)
    obtain ⟨t, rfl⟩ := val i v pv
    have here' := moved mv here
    have room : cnt xs i + 1 < scanBound := by have := cnt_le xs i; omega
    show wpAny _ A.in1 (holding [Value.str (xs.getD i Str.empty) t] (setAdd a (.str (xs.getD i Str.empty) t)) >>= _) _ _ s'
    refine wpAny_bind (wpAny_holding ?_)
    unfold setAdd
    refine wpAny_holding (wpAny_bind ((PySem.strKind prog w).pyHash (k := xs.getD i Str.empty) (strKind_is _ _ _ _) ?_))
    refine wpAny_setAddHashed_of (knd := PySem.strKind prog w) (s := { s' with toks := s'.toks + 1 }) (strKind_is _ _ _ _) rfl here' room fun h' but there => ?_
    have next : h'.SetOf (PySem.strKind prog w) a (met xs (i + 1)) (cnt xs (i + 1)) := by
      refine SetOf_congr there (fun y => ?_) rfl
      show ((xs.take i).any (· == y) || decide (y = xs.getD i Str.empty)) = (xs.take (i + 1)).any (· == y)
      rw [take_get (by omega), List.any_append]
      have one : ∀ x : Str, decide (y = x) = [x].any (· == y) := fun x => by
        by_cases z : y = x
        · simp [z]
        · have z' : ¬ x = y := fun q => z q.symm
          simp [z, z']
      rw [one]
    have keep : ∀ b, b ≠ a → h'.get? b = s'.heap.get? b := fun b nb => but.2 b nb
    refine wpAny_pure ⟨plainId_quiet PyProof.Rows.F.plain_set_update_loop _, ih (i + 1) _ (by omega) (W.frame _ s' _ _ st' (Nat.le_succ _) fun b z o q => ?_) next fun s'' mv2 done => ?_⟩
    · rw [keep b fun q => na (by rw [← q]; exact z)]
      exact q
    · refine then_ s'' (Moved.trans W.gtrans ((mv.mono wider).then_heap (Nat.le_succ _) fun b o z q => ?_) mv2) done
      rw [keep b fun q => z (by rw [q]; exact List.mem_cons_self)]
      exact q
end
section
variable {prog : Program} {w : World} {A : Around} {E : Value → Shared → Prop} {s : Shared}
/-- set(xs) of a list of texts -/
theorem set_list {l : Addr} {its : Array Value} {xs : List Str} {Q : Value → Shared → Prop} (calm : A.handled = none) (ml : s.heap.IsList l its) (tx : StrsAre its.toList xs) (few : xs.length + 1 < scanBound)
    (q : ∀ (h' : Heap) (tk : Nat), h'.SetOf (PySem.strKind prog w) s.heap.objs.size (met xs xs.length) (cnt xs xs.length) → (∀ b o, b < s.heap.objs.size → s.heap.get? b = some o → h'.get? b = some o) → Q (.ref s.heap.objs.size) { s with heap := h', toks := tk }) :
    wpAny (model prog w) A (call (.type "set") [.ref l]) Q E s := by
  have len : xs.length = its.size := by rw [← StrsAre.len_eq tx, Array.length_toList]
  obtain ⟨c, tl, hmro⟩ := PySem.F.called_set.mro
  have f1 := PySem.F.called_set.made
  have f2 := PySem.F.called_set.sub
  refine wpAny_call (codeAny_of_tree ?_)
  show wpAny _ _ (callAny (.type "set") _) _ _ _
  refine wpAny_pure ⟨Code.quiet_builtin _ (by decide +kernel), codeAny_builtin PySem.F.entry_type_call ?_⟩
  rw [Around.under_plain (weight_type_call_type "set" [.ref l] []) rfl]
  have f3 := PySem.F.called_set.notType
  have f4 := PySem.F.called_set.canCreate
  have f5 := PySem.F.typeCall_set_1 (.ref l)
  repeat (any_goals (first | assumption | wp_step))
  refine codeAny_mono (code_set_new_1 (.ref l) (E := E) (Q₁ := fun obj s₁ => ∃ led : Bool, obj = .ref s.heap.objs.size ∧ s₁ = { s with heap := s.heap.push (freshSet led) }) fun led => ⟨led, rfl, rfl⟩) fun r s₁ hr => ?_
  match r, hr with
  | .error e, hr => exact hr
  | .ok (.ret obj), hr =>
    obtain ⟨led, rfl, rfl⟩ := hr
    have at0 : (s.heap.push (freshSet led)).get? s.heap.objs.size = some (freshSet led) := Heap.get?_push_size _ rfl
    have ty0 : Shared.TypeIs { s with heap := s.heap.push (freshSet led) } (.ref s.heap.objs.size) "set" := ⟨_, at0, rfl⟩
    have f6 := PySem.F.called_set.init.lookup
    have f7 := PySem.F.called_set.init.bind (.ref s.heap.objs.size)
    repeat (any_goals (first | assumption | wp_step))
    refine codeAny_mono (codeAny_call_builtin (R := wants (fun r s₂ => r = .none ∧ ∃ h' tk, s₂ = { s with heap := h', toks := tk } ∧ h'.SetOf (PySem.strKind prog w) s.heap.objs.size (met xs xs.length) (cnt xs xs.length) ∧
        ∀ b o, b < s.heap.objs.size → s.heap.get? b = some o → h'.get? b = some o) E) PySem.F.called_set.init.plain PySem.F.entry_set_init (check_set_init_1 ty0 ?_)) fun r₂ s₂ hr₂ => ?_
    · obtain ⟨⟨oc, od, odt, osl⟩, gl, e1, nl, e2⟩ := ml
      simp only at e1 e2
      subst e1
      subst e2
      have gl' : (s.heap.push (freshSet led)).get? l = some { cls := .type "list", dict := od, data := .seq its nl, slots := osl } := Heap.get?_push_of_some _ gl
      have g1 := PySem.F.sub_list_set
      have g2 := PySem.F.sub_list_frozenset
      have g3 : (Value.type "list" == Value.type "dict") = false := by decide
      have ml' : (s.heap.push (freshSet led)).IsList l its := ⟨_, gl', rfl, nl, rfl⟩
      unfold Builtin.«set.__init__» noKeywords Builtin.Frozenset.updateFrom
      generalize eP : pyIter = PI
      wp_walk
      subst eP
      refine wpAny_pyIter_list ml' (wpAny_bind (wpAny_runValue ?_))
      have ll : l < s.heap.objs.size := Heap.lt_size gl
      have sz : (s.heap.push (freshSet led)).objs.size = s.heap.objs.size + 1 := Heap.size_push ..
      have ni : l ≠ (s.heap.push (freshSet led)).objs.size := sz ▸ Nat.ne_of_lt (Nat.lt_succ_of_lt ll)
      have nm : s.heap.objs.size ∉ [(s.heap.push (freshSet led)).objs.size, l] := by
        simp only [List.mem_cons, List.not_mem_nil, or_false, not_or, sz]
        exact ⟨Nat.ne_of_lt (Nat.lt_succ_self _), Nat.ne_of_gt ll⟩
      refine turns ((Walks.list (show A.in1.in1.in1.handled = none by simp [calm]) _ l ni its).toS) s.heap.objs.size nm xs len (by rw [← len]; exact few) (fun i v e => SS.strs_at tx i v (by rw [Array.getElem?_toList]; exact e)) its.size 0 _ (by omega)
        ⟨⟨_, Heap.get?_push_size _ rfl, rfl, rfl⟩, ml'.push _⟩ ?z0 ?z1
      case z0 =>
        refine SetOf_congr ((setObjOf_fresh (knd := PySem.strKind prog w) led).setOf (Heap.get?_push_of_some _ at0) (by unfold scanBound; omega)) (fun _ => rfl) rfl
      case z1 =>
        rintro ⟨h', g', d', tk', os'⟩ mv done
        obtain rfl : g' = s.gens := mv.gens
        obtain rfl : d' = s.drawn := mv.drawn
        obtain rfl : os' = s.os := mv.os
        rw [← len] at done
        show wpAny _ _ _ _ _ _
        refine wpAny_pure ?_
        show wpAny _ _ (ret Value.none) _ _ _
        refine wpAny_pure ⟨rfl, h', tk', rfl, done, fun b o z e => ?_⟩
        refine mv.heap b o ?_ (Heap.get?_push_of_some _ (Heap.get?_push_of_some _ e))
        simp only [List.mem_cons, List.not_mem_nil, or_false, not_or, sz]
        exact ⟨Nat.ne_of_lt z, Nat.ne_of_lt (Nat.lt_succ_of_lt z)⟩
    · match r₂, hr₂ with
      | .error e, hr₂ => exact hr₂
      | .ok (.ret r), hr₂ =>
        obtain ⟨rfl, h', tk, rfl, done, kp⟩ := hr₂
        repeat (any_goals (first | assumption | wp_step))
        exact q _ _ done kp
/-- set(xs) of a tuple of texts -/
theorem set_tuple {l : Addr} {its : Array Value} {xs : List Str} {Q : Value → Shared → Prop} (calm : A.handled = none) (ml : s.heap.IsTuple l its) (tx : StrsAre its.toList xs) (few : xs.length + 1 < scanBound)
    (q : ∀ (h' : Heap) (tk : Nat), h'.SetOf (PySem.strKind prog w) s.heap.objs.size (met xs xs.length) (cnt xs xs.length) → (∀ b o, b < s.heap.objs.size → s.heap.get? b = some o → h'.get? b = some o) → Q (.ref s.heap.objs.size) { s with heap := h', toks := tk }) :
    wpAny (model prog w) A (call (.type "set") [.ref l]) Q E s := by
  have len : xs.length = its.size := by rw [← StrsAre.len_eq tx, Array.length_toList]
  obtain ⟨c, tl, hmro⟩ := PySem.F.called_set.mro
  have f1 := PySem.F.called_set.made
  have f2 := PySem.F.called_set.sub
  refine wpAny_call (codeAny_of_tree ?_)
  show wpAny _ _ (callAny (.type "set") _) _ _ _
  refine wpAny_pure ⟨Code.quiet_builtin _ (by decide +kernel), codeAny_builtin PySem.F.entry_type_call ?_⟩
  rw [Around.under_plain (weight_type_call_type "set" [.ref l] []) rfl]
  have f3 := PySem.F.called_set.notType
  have f4 := PySem.F.called_set.canCreate
  have f5 := PySem.F.typeCall_set_1 (.ref l)
  repeat (any_goals (first | assumption | wp_step))
  refine codeAny_mono (code_set_new_1 (.ref l) (E := E) (Q₁ := fun obj s₁ => ∃ led : Bool, obj = .ref s.heap.objs.size ∧ s₁ = { s with heap := s.heap.push (freshSet led) }) fun led => ⟨led, rfl, rfl⟩) fun r s₁ hr => ?_
  match r, hr with
  | .error e, hr => exact hr
  | .ok (.ret obj), hr =>
    obtain ⟨led, rfl, rfl⟩ := hr
    have at0 : (s.heap.push (freshSet led)).get? s.heap.objs.size = some (freshSet led) := Heap.get?_push_size _ rfl
    have ty0 : Shared.TypeIs { s with heap := s.heap.push (freshSet led) } (.ref s.heap.objs.size) "set" := ⟨_, at0, rfl⟩
    have f6 := PySem.F.called_set.init.lookup
    have f7 := PySem.F.called_set.init.bind (.ref s.heap.objs.size)
    repeat (any_goals (first | assumption | wp_step))
    refine codeAny_mono (codeAny_call_builtin (R := wants (fun r s₂ => r = .none ∧ ∃ h' tk, s₂ = { s with heap := h', toks := tk } ∧ h'.SetOf (PySem.strKind prog w) s.heap.objs.size (met xs xs.length) (cnt xs xs.length) ∧
        ∀ b o, b < s.heap.objs.size → s.heap.get? b = some o → h'.get? b = some o) E) PySem.F.called_set.init.plain PySem.F.entry_set_init (check_set_init_1 ty0 ?_)) fun r₂ s₂ hr₂ => ?_
    · obtain ⟨⟨oc, od, odt, osl⟩, gl, e1, nl, e2⟩ := ml
      simp only at e1 e2
      subst e1
      subst e2
      have gl' : (s.heap.push (freshSet led)).get? l = some { cls := .type "tuple", dict := od, data := .seq its nl, slots := osl } := Heap.get?_push_of_some _ gl
      have g1 := PySem.F.sub_tuple_set
      have g2 := PySem.F.sub_tuple_frozenset
      have g3 : (Value.type "tuple" == Value.type "dict") = false := by decide
      have ml' : (s.heap.push (freshSet led)).IsTuple l its := ⟨_, gl', rfl, nl, rfl⟩
      unfold Builtin.«set.__init__» noKeywords Builtin.Frozenset.updateFrom
      generalize eP : pyIter = PI
      wp_walk
      subst eP
      refine wpAny_pyIter_tuple ml' (wpAny_bind (wpAny_runValue ?_))
      have ll : l < s.heap.objs.size := Heap.lt_size gl
      have sz : (s.heap.push (freshSet led)).objs.size = s.heap.objs.size + 1 := Heap.size_push ..
      have ni : l ≠ (s.heap.push (freshSet led)).objs.size := sz ▸ Nat.ne_of_lt (Nat.lt_succ_of_lt ll)
      have nm : s.heap.objs.size ∉ [(s.heap.push (freshSet led)).objs.size, l] := by
        simp only [List.mem_cons, List.not_mem_nil, or_false, not_or, sz]
        exact ⟨Nat.ne_of_lt (Nat.lt_succ_self _), Nat.ne_of_gt ll⟩
      refine turns ((Walks.tuple (show A.in1.in1.in1.handled = none by simp [calm]) _ l ni its).toS) s.heap.objs.size nm xs len (by rw [← len]; exact few) (fun i v e => SS.strs_at tx i v (by rw [Array.getElem?_toList]; exact e)) its.size 0 _ (by omega)
        ⟨⟨_, Heap.get?_push_size _ rfl, rfl, rfl⟩, ml'.push _⟩ ?z0 ?z1
      case z0 =>
        refine SetOf_congr ((setObjOf_fresh (knd := PySem.strKind prog w) led).setOf (Heap.get?_push_of_some _ at0) (by unfold scanBound; omega)) (fun _ => rfl) rfl
      case z1 =>
        rintro ⟨h', g', d', tk', os'⟩ mv done
        obtain rfl : g' = s.gens := mv.gens
        obtain rfl : d' = s.drawn := mv.drawn
        obtain rfl : os' = s.os := mv.os
        rw [← len] at done
        show wpAny _ _ _ _ _ _
        refine wpAny_pure ?_
        show wpAny _ _ (ret Value.none) _ _ _
        refine wpAny_pure ⟨rfl, h', tk', rfl, done, fun b o z e => ?_⟩
        refine mv.heap b o ?_ (Heap.get?_push_of_some _ (Heap.get?_push_of_some _ e))
        simp only [List.mem_cons, List.not_mem_nil, or_false, not_or, sz]
        exact ⟨Nat.ne_of_lt z, Nat.ne_of_lt (Nat.lt_succ_of_lt z)⟩
    · match r₂, hr₂ with
      | .error e, hr₂ => exact hr₂
      | .ok (.ret r), hr₂ =>
        obtain ⟨rfl, h', tk, rfl, done, kp⟩ := hr₂
        repeat (any_goals (first | assumption | wp_step))
        exact q _ _ done kp
end
end BS


set_option Elab.async false
set_option linter.all false
set_option maxRecDepth 100000
set_option maxHeartbeats 2000000
/-! len(set(texts)); different names. -/
namespace BK
open PySem PySem.Spec PyProof.Rows L2 BS
def tLenTexts (K : PySem.W.Frag) (ta : TE) : TE := fun σ H Q => ta σ H fun x H1 => ∃ l, ∃ xs : List Str, x = .ref l ∧ (SqL K H1 l (xs.map V.str) ∨ SqT K H1 l (xs.map V.str)) ∧ xs.length ≤ 4000 ∧ Q (.int (cnt xs xs.length)) H1
section
variable {X : Cx}
theorem pe_lenTexts {a : Expr} {ta : TE} {p p2 q pos : Pos} (hc : X.calm = true) (g1 : Gl X "len") (m1 : X.mg "len" = none) (g2 : Gl X "set") (m2 : X.mg "set" = none) (ha : PE X a ta)
    (na : starEach [a] X.env = (false, eval a X.env) :: starEach [] X.env := by rfl) : PE X (.Call (.Name "len" p) [.Call (.Name "set" p2) [a] [] q] [] pos) (tLenTexts X.K ta) := by
  refine ⟨fun pins s σ H Q I h => Call_ (ld_blt I g1 m1 boot_len (PyProof.Rows.callWith_builtin1 (PyProof.Rows.args_cons ?_ rfl) rfl rfl))⟩
  refine Call_ (ld_blt I g2 m2 boot_set (PyProof.Rows.callWith_type1 (PyProof.Rows.args_cons (thn (ha.run pins s σ H _ I h) fun v s1 z => PyProof.Rows.args_nil ?_) na) na rfl))
  obtain ⟨x, H1, I1, rx, l, xs, rfl, sq, few, k⟩ := z
  obtain rfl : v = Value.ref l := rx
  have room : xs.length + 1 < scanBound := by unfold scanBound; omega
  have after : ∀ (h' : Heap) (tk : Nat), h'.SetOf (PySem.strKind X.prog X.w) s1.heap.objs.size (met xs xs.length) (cnt xs xs.length) → (∀ b o, b < s1.heap.objs.size → s1.heap.get? b = some o → h'.get? b = some o) →
      wpAny (model X.prog X.w) X.A (spliced (backTo pos (starEach [] X.env))) (fun vs s₂ => wpAny (model X.prog X.w) X.A (call (.builtin "len") (Value.ref s1.heap.objs.size :: vs)) (EP X pins σ Q) X.xe s₂) X.xe { s1 with heap := h', toks := tk } := fun h' tk so kp => by
    have I2 : Inv X pins σ H1 { s1 with heap := h', toks := tk } := I1.kept fun b o e => kp b o (Heap.lt_size e) e
    obtain ⟨o, es, ep, t, e1, e2, e3, _, _, _, e4, e5⟩ := so
    have le := cnt_le xs xs.length
    exact PyProof.Rows.args_nil (call_len_set e1 e2 e3 e4 (by rw [e5]; omega) ⟨.int (cnt xs xs.length), H1, I2.tok _, ⟨_, by rw [e5]⟩, k⟩)
  rcases sq with sq | sq
  · obtain ⟨its, r, pl, _⟩ := I1.list sq
    exact set_list (I1.ok.hd hc) pl.isList (by simpa using strsAre_of r) room after
  · obtain ⟨its, r, pl, _⟩ := I1.tuple sq
    exact set_tuple (I1.ok.hd hc) pl (by simpa using strsAre_of r) room after
end
/-- all different: as many as there are -/
theorem cnt_all {xs : List Str} (h : xs.Nodup) : ∀ i, i ≤ xs.length → cnt xs i = i
  | 0, _ => rfl
  | i + 1, hi => by
    have ih := cnt_all h i (by omega)
    unfold BS.cnt
    rw [ih, if_neg]
    intro z
    rw [List.any_eq_true] at z
    obtain ⟨y, hy, e⟩ := z
    obtain ⟨j, hj⟩ := List.getElem?_of_mem hy
    have jl : j < i := by
      have := (List.getElem?_eq_some_iff.mp hj).1
      rw [List.length_take] at this
      omega
    rw [List.getElem?_take_of_lt jl] at hj
    have hi' : xs[i]? = some y := by
      have e' : y = xs.getD i Str.empty := by simpa using e
      rw [e']
      simp [List.getD, List.getElem?_eq_getElem (show i < xs.length by omega)]
    have := L2.nd_ix h hj hi'
    omega
theorem cnt_lt {xs : List Str} : ∀ i, i ≤ xs.length → cnt xs i = i → (xs.take i).Nodup
  | 0, _, _ => by simp
  | i + 1, hi, e => by
    have le := cnt_le xs i
    unfold BS.cnt at e
    by_cases z : ((xs.take i).any (· == xs.getD i Str.empty)) = true
    · rw [if_pos z] at e
      omega
    · rw [if_neg z] at e
      have ih := cnt_lt (xs := xs) i (by omega) (by omega)
      rw [take_get (xs := xs) (i := i) (by omega)]
      refine nd_snoc ih fun m => z ?_
      rw [List.any_eq_true]
      exact ⟨_, m, by simp⟩
theorem cnt_nodup (xs : List Str) : (cnt xs xs.length = xs.length) ↔ xs.Nodup :=
  ⟨fun h => by have := cnt_lt xs.length (Nat.le_refl _) h; rwa [List.take_length] at this, fun h => cnt_all h _ (Nat.le_refl _)⟩
end BK


set_option Elab.async false
set_option maxRecDepth 100000
set_option maxHeartbeats 1000000
/-! are_different_names. -/
namespace BK
open PySem PySem.Spec PyProof.Rows L2
theorem pi_two {X : Cx} {tg e : Expr} {u t : TI} (h1 : PI X tg e u) (h2 : PI X tg e t) : PI X tg e (fun σ H R => u σ H R ∨ t σ H R) := by
  refine ⟨fun pins s σ H R I h => ?_⟩
  rcases h with h | h
  · exact h1.run pins s σ H R I h
  · exact h2.run pins s σ H R I h
/-- a list or a tuple -/
def SqA (K : PySem.W.Frag) (H : Hp) (a : Addr) (xs : List V) : Prop := SqL K H a xs ∨ SqT K H a xs
theorem SqA.same {K : PySem.W.Frag} {H H' : Hp} {a : Addr} {xs : List V} (e : Same H H') (h : SqA K H a xs) : SqA K H' a xs := h.elim (fun h => .inl (e.seq h)) fun h => .inr (sqt_same e h)
def texts : List Tr → List Str
  | [] => []
  | .str s :: r => s :: texts r
  | _ :: r => texts r
def diffT (ts : List Tr) : Bool := ts.all nameT && decide (texts ts).Nodup
def spDiff (K : PySem.W.Frag) : Sp := fun vs H Q _ => ∃ a xs ts, vs = [.ref a] ∧ SqA K H a xs ∧ TrAll K H xs ts ∧ ts.length ≤ 1000 ∧ ∀ H', Same H H' → Q (.bl (diffT ts)) H'
theorem names_texts {K : PySem.W.Frag} {H : Hp} : ∀ {xs : List V} {ts : List Tr}, TrAll K H xs ts → ts.all nameT = true → xs = (texts ts).map V.str
  | _, _, .nil, _ => rfl
  | _, _, .cons (t := t) h k, e => by
    rw [List.all_cons, Bool.and_eq_true] at e
    cases h with
    | str s hs => exact congrArg (V.str s :: ·) (names_texts k e.2)
    | non => exact absurd e.1 (by simp [nameT])
    | bl b => exact absurd e.1 (by simp [nameT])
    | int i => exact absurd e.1 (by simp [nameT])
    | lst h => exact absurd e.1 (by simp [nameT])
    | dct h => exact absurd e.1 (by simp [nameT])
    | tup h q => exact absurd e.1 (by simp [nameT])
section
variable {P : Program} {w : World} {K : PySem.W.Frag} {mg : Str → Option Value} {base : Heap}
abbrev sDiff : Stmt := top 19
theorem scDiff : FnScope ["things", "thing"] ["things"] (defScope sDiff) := ⟨rfl, rfl, rfl, by decide +kernel, rfl, by decide +kernel, by decide +kernel⟩
theorem ok_diff {f fN : Addr} {fd fdN : FuncData} (F : Fun K "are_different_names" "are_different_names" sDiff f fd) (T : Forms mg) (mS : mg "set" = none) (GN : FnOk P w K mg base CX0 1 fN fdN ["thing"] (spOf nameT K)) (bN : Binds K fdN ["thing"] []) (gN : mg "is_name" = some (.ref fN))
    (kN : PySem.W.keepIn K (.ref fN) = true) : FnOk P w K mg base CX0 2 f fd ["things"] (spDiff K) := by
  refine F.ok scDiff (fun vs H Q E h => ?_) (fun cdv A outer s H vs Q E hr h => ?_)
  · obtain ⟨a, xs, ts, rfl, _⟩ := h
    rfl
  · obtain ⟨a, xs, ts, rfl, sq, tr, tl, k⟩ := h
    refine ⟨_, pss_one (ps_ret (pe_and (pe_callB (cr_all rfl) (by rfl) T.all (by decide +kernel) (pa_cons (pe_lc (own := [("thing", 1)]) (g := gName 1) (tt := tYes) (te := tCall (spOf nameT K) [] E0 (tCons (tVar 1) tNil)) rfl scDiff.nd (pi_two (pi_list (pv 0)) (pi_tup (pv 0)))
          (blkOk_by (N := ["things", "thing"]) (sc := defScope sDiff) (by decide +kernel)) (fun _ _ _ _ _ => pg_name (i := 1) scDiff.nd rfl (Or.inl rfl)) (fun _ _ _ _ _ => pts_nil)
          (fun _ _ _ _ _ => by exact pe_call GN hr rfl gN kN bN .nil pass0 (pa_cons (pv 1) pa_nil))) pa_nil))
        (pe_one (pe_cmpR op_eq (pe_lenTexts rfl rfl T.len rfl mS (pv 0)) (pe_callB call_len_seq (by rfl) T.len boot_len (pa_cons (pv 0) pa_nil)) rfl)))), ?_⟩
    -- the walk, by either road
    have step : ∀ (D : Addr) (i : Nat) (x : V) (H2 : Hp), H D = none → xs[i]? = some x → Same H H2 → H2 D = some (.lst (((ts.take i).map nameT).map V.bl)) → ∀ vs : List V, vs = [x] ++ [] → ∃ v t, vs = [v] ∧ TrAt K H2 v t ∧ ∀ H', Same H2 H' → 
        ∃ acc, H' D = some (.lst acc) ∧ acc.length < sizeLine ∧ (Same H (upd H' D (.lst (acc ++ [.bl (nameT t)]))) ∧ (upd H' D (.lst (acc ++ [.bl (nameT t)]))) D = some (.lst (((ts.take (i + 1)).map nameT).map V.bl))) := by
      intro D i x H2 nD hx s2 e2 vs ev
      obtain ⟨t, ht, tx⟩ := (tr.same s2).get hx
      have il : i < ts.length := (List.getElem?_eq_some_iff.mp ht).1
      refine ⟨x, t, by rw [ev]; rfl, tx, fun H' s' => ⟨_, s' _ _ e2, small1000 (by rw [List.length_map, List.length_map, List.length_take]; omega), fun b o e => ?_, ?_⟩⟩
      · rw [upd_ne (ne_of_none e nD)]
        exact s' _ _ (s2 b o e)
      · rw [upd_same, List.take_add_one, ht, List.map_append, List.map_append]
        rfl
    rcases sq with sq | sq
    · refine Or.inl ⟨_, rfl, a, rfl, ⟨xs, sq⟩, fun D nD => ?_⟩
      refine lc_it (walk_list (K := K) (a := a) (xs := xs)) (fun i H2 => Same H H2 ∧ H2 D = some (.lst (((ts.take i).map nameT).map V.bl))) ⟨same_new nD, upd_same⟩ (fun i H2 _ ⟨s2, _⟩ => s2.seq sq) ?_ ?_
      · rintro i x H2 H3 hi ⟨s2, e2⟩ ⟨rfl, hx⟩
        obtain ⟨v, t, ev, tv, more⟩ := step D i x H3 nD hx s2 e2 _ rfl
        refine ⟨rfl, ?_⟩
        refine tyes ?_
        exact ⟨_, rfl, v, t, ev, tv, more⟩
      · rintro H2 ⟨s2, e2⟩
        have et : ts.take xs.length = ts := by rw [tr.len, List.take_length]
        rw [et] at e2
        refine ⟨D, _, rfl, SqL.of e2, _, rfl, ?_⟩
        have ea : (ts.map nameT).all id = ts.all nameT := by rw [List.all_map]; rfl
        rw [ea]
        refine ite2 (fun h => ?_) (fun h => ?_)
        · have ex := names_texts tr h
          have el : (texts ts).length = ts.length := by rw [← tr.len, ex, List.length_map]
          refine ⟨_, rfl, a, texts ts, rfl, (by rw [← ex]; exact (.inl (s2.seq sq))), by omega, _, rfl, a, xs, rfl, (.inl (s2.seq sq)), rfl, ?_⟩
          have e : decide (V.int (BS.cnt (texts ts) (texts ts).length : Nat) = V.int (xs.length : Nat)) = decide (texts ts).Nodup := by
            rw [dec_int, tr.len, ← el]
            by_cases z : (texts ts).Nodup
            · rw [(cnt_nodup _).mpr z, decide_eq_true z]
              simp
            · rw [decide_eq_false z, beq_eq_false_iff_ne]
              intro q
              exact z ((cnt_nodup _).mp (by omega))
          rw [e]
          have q := k H2 s2
          unfold diffT at q
          rw [h, Bool.true_and] at q
          exact q
        · have q := k H2 s2
          unfold diffT at q
          rw [show ts.all nameT = false by simpa using h, Bool.false_and] at q
          exact q
    · refine Or.inr ⟨_, rfl, a, rfl, ⟨xs, sq⟩, fun D nD => ?_⟩
      refine lc_it (walk_tup (K := K) (a := a) (xs := xs)) (fun i H2 => Same H H2 ∧ H2 D = some (.lst (((ts.take i).map nameT).map V.bl))) ⟨same_new nD, upd_same⟩ (fun i H2 _ ⟨s2, _⟩ => sqt_same s2 sq) ?_ ?_
      · rintro i x H2 H3 hi ⟨s2, e2⟩ ⟨rfl, hx⟩
        obtain ⟨v, t, ev, tv, more⟩ := step D i x H3 nD hx s2 e2 _ rfl
        refine ⟨rfl, ?_⟩
        refine tyes ?_
        exact ⟨_, rfl, v, t, ev, tv, more⟩
      · rintro H2 ⟨s2, e2⟩
        have et : ts.take xs.length = ts := by rw [tr.len, List.take_length]
        rw [et] at e2
        refine ⟨D, _, rfl, SqL.of e2, _, rfl, ?_⟩
        have ea : (ts.map nameT).all id = ts.all nameT := by rw [List.all_map]; rfl
        rw [ea]
        refine ite2 (fun h => ?_) (fun h => ?_)
        · have ex := names_texts tr h
          have el : (texts ts).length = ts.length := by rw [← tr.len, ex, List.length_map]
          refine ⟨_, rfl, a, texts ts, rfl, (by rw [← ex]; exact (.inr (sqt_same s2 sq))), by omega, _, rfl, a, xs, rfl, (.inr (sqt_same s2 sq)), rfl, ?_⟩
          have e : decide (V.int (BS.cnt (texts ts) (texts ts).length : Nat) = V.int (xs.length : Nat)) = decide (texts ts).Nodup := by
            rw [dec_int, tr.len, ← el]
            by_cases z : (texts ts).Nodup
            · rw [(cnt_nodup _).mpr z, decide_eq_true z]
              simp
            · rw [decide_eq_false z, beq_eq_false_iff_ne]
              intro q
              exact z ((cnt_nodup _).mp (by omega))
          rw [e]
          have q := k H2 s2
          unfold diffT at q
          rw [h, Bool.true_and] at q
          exact q
        · have q := k H2 s2
          unfold diffT at q
          rw [show ts.all nameT = false by simpa using h, Bool.false_and] at q
          exact q
end
end BK


set_option Elab.async false
set_option maxRecDepth 100000
set_option maxHeartbeats 1000000
/-! are_names, is_part; None in a written dict. -/
namespace BK
open PySem PySem.Spec PyProof.Rows L2
def argsT : Tr → Bool
  | .tup ts => ts.all nameT
  | _ => false
def partT (t : Tr) (k : Str) : Bool := if k = "block" then isTup t else if k = "args" then argsT t else if k = "integer" then numT 99 t else if k = "value" then numT 9999 t else if k = "source" ∧ numT 99 t = true then true else nameT t
def spPart (K : PySem.W.Frag) : Sp := fun vs H Q _ => ∃ v t k, vs = [v, .str k] ∧ TrAt K H v t ∧ (k = "args" → ∀ ts, t = .tup ts → ts.length ≤ 4000000) ∧ ∀ H', Same H H' → Q (.bl (partT t k)) H'
abbrev sAreNames : Stmt := top 15
abbrev sPart : Stmt := top 20
theorem scAreNames : FnScope ["thing", "part"] ["thing"] (defScope sAreNames) := ⟨rfl, rfl, rfl, by decide +kernel, rfl, by decide +kernel, by decide +kernel⟩
theorem scPart : FnScope ["thing", "kind"] ["thing", "kind"] (defScope sPart) := ⟨rfl, rfl, rfl, by decide +kernel, rfl, by decide +kernel, by decide +kernel⟩
theorem eq_txt (a b : Str) : decide (V.str a = V.str b) = decide (a = b) := by
  by_cases h : a = b
  · simp [h]
  · rw [decide_eq_false h, decide_eq_false fun e => h (V.str.inj e)]
def spArgs (K : PySem.W.Frag) : Sp := fun vs H Q _ => ∃ v t, vs = [v] ∧ TrAt K H v t ∧ (∀ ts, t = .tup ts → ts.length ≤ 4000000) ∧ ∀ H', Same H H' → Q (.bl (argsT t)) H'
section
variable {P : Program} {w : World} {K : PySem.W.Frag} {mg : Str → Option Value} {base : Heap}
theorem ok_areNames {f fN : Addr} {fd fdN : FuncData} (F : Fun K "are_names" "are_names" sAreNames f fd) (T : Forms mg) (GN : FnOk P w K mg base CX0 1 fN fdN ["thing"] (spOf nameT K)) (bN : Binds K fdN ["thing"] []) (gN : mg "is_name" = some (.ref fN)) (kN : PySem.W.keepIn K (.ref fN) = true) :
    FnOk P w K mg base CX0 2 f fd ["thing"] (spArgs K) := by
  refine F.ok scAreNames (fun vs H Q E h => ?_) (fun cdv A outer s H vs Q E hr h => ?_)
  · obtain ⟨v, t, rfl, _⟩ := h
    rfl
  · obtain ⟨v, t, rfl, ht, hl, k⟩ := h
    refine ⟨_, pss_one (ps_ret (pe_and (pe_callB call_isi (by rfl) T.isi boot_isinstance (pa_cons (pv 0) (pa_cons (pe_bltn (v := .ty "tuple") (u := .type "tuple") (by rfl) T.tuple (by decide +kernel) rfl) pa_nil)))
      (pe_one (pe_callB (cr_all rfl) (by rfl) T.all (by decide +kernel) (pa_cons (pe_lc (own := [("part", 1)]) (g := gName 1) (tt := tYes) (te := tCall (spOf nameT K) [] E0 (tCons (tVar 1) tNil)) rfl scAreNames.nd (pi_tup (pv 0))
          (blkOk_by (N := ["thing", "part"]) (sc := defScope sAreNames) (by decide +kernel)) (fun _ _ _ _ _ => pg_name (i := 1) scAreNames.nd rfl (Or.inl rfl)) (fun _ _ _ _ _ => pts_nil)
          (fun _ _ _ _ _ => by exact pe_call GN hr rfl gN kN bN .nil pass0 (pa_cons (pv 1) pa_nil))) pa_nil))))), ?_⟩
    refine ⟨_, rfl, v, .ty "tuple", .type (tyT t), .type "tuple", isTup t, rfl, .ty "tuple", ht.ty, k_tup K t, _, rfl, ?_⟩
    have q0 := k H fun _ _ e => e
    cases ht with
    | int i => exact iteF q0
    | bl b => exact iteF q0
    | str z hz => exact iteF q0
    | non => exact iteF q0
    | lst h => exact iteF q0
    | dct h => exact iteF q0
    | @tup a xs ts h tr =>
    have el := tr.len
    have few : ts.length ≤ 4000000 := hl ts rfl
    refine iteT ⟨_, rfl, a, rfl, ⟨xs, h⟩, fun D nD => ?_⟩
    refine lc_it (walk_tup (K := K) (a := a) (xs := xs)) (fun i H2 => Same H H2 ∧ H2 D = some (.lst (((ts.take i).map nameT).map V.bl))) ⟨same_new nD, upd_same⟩ (fun i H2 _ ⟨s2, _⟩ => sqt_same s2 h) ?_ ?_
    · rintro i x H2 H3 hi ⟨s2, e2⟩ ⟨rfl, hx⟩
      obtain ⟨t, ht, tx⟩ := (tr.same s2).get hx
      have il : i < ts.length := (List.getElem?_eq_some_iff.mp ht).1
      refine ⟨rfl, ?_⟩
      refine tyes ?_
      refine ⟨_, rfl, x, t, rfl, tx, fun H' s' => ⟨_, s' _ _ e2, ?_, fun b o e => ?_, ?_⟩⟩
      · have : sizeLine = 16777216 := sizeLine_eq
        rw [List.length_map, List.length_map, List.length_take]; omega
      · rw [upd_ne (ne_of_none e nD)]
        exact s' _ _ (s2 b o e)
      · rw [upd_same, List.take_add_one, ht, List.map_append, List.map_append]
        rfl
    · rintro H2 ⟨s2, e2⟩
      have et : ts.take xs.length = ts := by rw [el, List.take_length]
      rw [et] at e2
      refine ⟨D, _, rfl, SqL.of e2, ?_⟩
      have ea : (ts.map nameT).all id = ts.all nameT := by rw [List.all_map]; rfl
      rw [ea]
      exact k H2 s2
theorem ok_part {f fN fM fA : Addr} {fd fdN fdM fdA : FuncData} (F : Fun K "is_part" "is_part" sPart f fd) (T : Forms mg) (mV : ∃ t, mg "MOST_VALUE" = some (.int 9999 t)) (GN : FnOk P w K mg base CX0 1 fN fdN ["thing"] (spOf nameT K)) (bN : Binds K fdN ["thing"] []) (gN : mg "is_name" = some (.ref fN)) (kN : PySem.W.keepIn K (.ref fN) = true)
    (GM : FnOk P w K mg base CX0 2 fM fdM ["thing", "most"] (spNumber K)) (bM : Binds K fdM ["thing", "most"] []) (gM : mg "is_number" = some (.ref fM)) (kM : PySem.W.keepIn K (.ref fM) = true)
    (GA : FnOk P w K mg base CX0 2 fA fdA ["thing"] (spArgs K)) (bA : Binds K fdA ["thing"] []) (gA : mg "are_names" = some (.ref fA)) (kA : PySem.W.keepIn K (.ref fA) = true) : FnOk P w K mg base CX0 3 f fd ["thing", "kind"] (spPart K) := by
  refine F.ok scPart (fun vs H Q E h => ?_) (fun cdv A outer s H vs Q E hr h => ?_)
  · obtain ⟨v, t, k, rfl, _⟩ := h
    rfl
  · obtain ⟨v, t, kd, rfl, tv, hl, k⟩ := h
    obtain ⟨t2, gX⟩ := T.mn
    obtain ⟨t3, gY⟩ := mV
    have hr1 : Room 1 _ := hr.mono (by decide)
    refine ⟨_, pss_cons (ps_if (pt_cmpR op_eq (pv 1) pe_str (nomark _)) (pss_one (ps_ret (pe_callB call_isi (by rfl) T.isi boot_isinstance (pa_cons (pv 0) (pa_cons (pe_bltn (v := .ty "tuple") (u := .type "tuple") (by rfl) T.tuple (by decide +kernel) rfl) pa_nil))))) pss_nil)
      (pss_cons (ps_if (pt_cmpR op_eq (pv 1) pe_str (nomark _)) (pss_one (ps_ret (pe_call GA hr rfl gA kA bA .nil pass0 (pa_cons (pv 0) pa_nil)))) pss_nil)
      (pss_cons (ps_if (pt_cmpR op_eq (pv 1) pe_str (nomark _)) (pss_one (ps_ret (pe_call GM hr rfl gM kM bM .nil pass0 (pa_cons (pv 0) (pa_cons (pe_glob (v := .int 99) rfl gX ⟨_, rfl⟩) pa_nil))))) pss_nil)
      (pss_cons (ps_if (pt_cmpR op_eq (pv 1) pe_str (nomark _)) (pss_one (ps_ret (pe_call GM hr rfl gM kM bM .nil pass0 (pa_cons (pv 0) (pa_cons (pe_glob (v := .int 9999) rfl gY ⟨_, rfl⟩) pa_nil))))) pss_nil)
      (pss_cons (ps_if (PW.pt (pw_and (pt_cmpR op_eq (pv 1) pe_str (nomark _)) (pw_and1 (pt_val (pe_call GM hr rfl gM kM bM .nil pass0 (pa_cons (pv 0) (pa_cons (pe_glob (v := .int 99) rfl gX ⟨_, rfl⟩) pa_nil))))))) (pss_one (ps_ret pe_bl)) pss_nil)
      (pss_one (ps_ret (pe_call GN hr1 rfl gN kN bN .nil pass0 (pa_cons (pv 0) pa_nil)))))))), ?_⟩
    refine ⟨_, rfl, rfl, _, rfl, ?_⟩
    rw [eq_txt]
    refine ite2 (fun h => ?_) (fun h => ?_)
    · have h1 : kd = "block" := of_decide_eq_true h
      refine ⟨_, rfl, v, .ty "tuple", .type (tyT t), .type "tuple", isTup t, rfl, .ty "tuple", tv.ty, k_tup K t, ?_⟩
      have q := k H fun _ _ e => e
      unfold partT at q
      rw [if_pos h1] at q
      exact q
    have h1 : ¬ kd = "block" := fun e => h (decide_eq_true e)
    refine ⟨_, rfl, rfl, _, rfl, ?_⟩
    rw [eq_txt]
    refine ite2 (fun h => ?_) (fun h => ?_)
    · have h2 : kd = "args" := of_decide_eq_true h
      refine ⟨_, rfl, v, t, rfl, tv, hl h2, fun H' s' => ?_⟩
      have q := k H' s'
      unfold partT at q
      rw [if_neg h1, if_pos h2] at q
      exact q
    have h2 : ¬ kd = "args" := fun e => h (decide_eq_true e)
    refine ⟨_, rfl, rfl, _, rfl, ?_⟩
    rw [eq_txt]
    refine ite2 (fun h => ?_) (fun h => ?_)
    · have h3 : kd = "integer" := of_decide_eq_true h
      refine ⟨_, rfl, v, t, 99, rfl, tv, ?_⟩
      have q := k H fun _ _ e => e
      unfold partT at q
      rw [if_neg h1, if_neg h2, if_pos h3] at q
      exact q
    have h3 : ¬ kd = "integer" := fun e => h (decide_eq_true e)
    refine ⟨_, rfl, rfl, _, rfl, ?_⟩
    rw [eq_txt]
    refine ite2 (fun h => ?_) (fun h => ?_)
    · have h4 : kd = "value" := of_decide_eq_true h
      refine ⟨_, rfl, v, t, 9999, rfl, tv, ?_⟩
      have q := k H fun _ _ e => e
      unfold partT at q
      rw [if_neg h1, if_neg h2, if_neg h3, if_pos h4] at q
      exact q
    have h4 : ¬ kd = "value" := fun e => h (decide_eq_true e)
    have last : ¬ (kd = "source" ∧ numT 99 t = true) → spOf nameT K [v] H Q E0 := fun h5 => ⟨v, t, rfl, tv, fun H' s' => by
      have q := k H' s'
      unfold partT at q
      rw [if_neg h1, if_neg h2, if_neg h3, if_neg h4, if_neg h5] at q
      exact q⟩
    refine ⟨_, rfl, rfl, _, rfl, ?_⟩
    rw [eq_txt]
    refine ite2 (fun h => ?_) (fun h => ?_)
    · have h5 : kd = "source" := of_decide_eq_true h
      refine ⟨_, rfl, v, t, 99, rfl, tv, _, rfl, ?_⟩
      cases e : numT 99 t with
      | true =>
        have q := k H fun _ _ e => e
        unfold partT at q
        rw [if_neg h1, if_neg h2, if_neg h3, if_neg h4, if_pos ⟨h5, e⟩] at q
        exact iteT q
      | false => exact iteF ⟨_, rfl, last fun z => by rw [e] at z; exact Bool.noConfusion z.2⟩
    · exact iteF ⟨_, rfl, last fun z => h (decide_eq_true z.1)⟩
end
/-! None in a dict of the module -/
section
variable {X : Cx} {d : Addr} {es : Array DictEntry} {n : Nat}
theorem kd_none {P : Program} {w : World} {h : Heap} {f : Str → Option Value} (m : h.MapOf (PySem.strKind P w) d f) : ∃ g, h.MapOf (noneKind P w) d g ∧ g none = none := by
  obtain ⟨o, es, ep, ho, hx, hdt, hk, hf⟩ := m
  refine ⟨fun k => findBy (noneKind P w).is es k, ⟨o, es, ep, ho, hx, hdt, fun e he => ?_, fun k => rfl⟩, ?_⟩
  · obtain ⟨k, h1, h2⟩ := hk e he
    exact ⟨some (.inr k), h1, h2⟩
  · have q : (es.find? fun e => nkIs none e.key) = none := by
      rw [Array.find?_eq_none]
      intro e he hq
      obtain ⟨k, h1, _⟩ := hk e he
      have e1 : keyIs (.inr k) e.key = true := h1
      rw [nk_none hq] at e1
      exact keyIs_none (.inr k) e1
    show (es.find? fun e => nkIs none e.key).map (·.val) = none
    rw [q] <;> rfl
/-- None or a text in a dict of the module -/
theorem op_in_kdN (D : KDict X.K X.w d es n) : OpR X (compareOp .In) (fun x y H Q => y = .ref d ∧ ((x = .non ∧ Q (.bl false) H) ∨ ∃ (z : Str) (r : Option Value), x = .str z ∧ PySem.W.nsIn X.K d z = some r ∧ Q (.bl r.isSome) H)) := by
  intro pins s σ H x y v u Q I rx ry h
  obtain ⟨rfl, ⟨rfl, q⟩ | ⟨z, r, rfl, e, q⟩⟩ := h
  · cases ry
    obtain rfl : v = Value.none := rx
    obtain ⟨g, m, e⟩ := kd_none (PySem.W.mapOf_K (prog := X.prog) I.kIn D.at_ D.lit)
    refine wpAny_in_of (show (noneKind X.prog X.w).is none .none = true from rfl) D.low m ?_
    rw [e]
    exact ⟨.bl false, H, I.tok _, rfl, q⟩
  · exact op_in_kd D pins s σ H _ _ _ _ Q I rx ry ⟨z, r, rfl, rfl, e, q⟩
end
end BK


set_option Elab.async false
set_option maxRecDepth 100000
set_option maxHeartbeats 1000000
/-! is_kind, are_params, is_triple. -/
namespace BK
open PySem PySem.Spec PyProof.Rows L2
def kindT : Tr → Bool
  | .str s => decide (s = "context") || decide (s = "token")
  | _ => false
def paramT : Tr → Bool
  | .tup [_, k] => kindT k
  | _ => false
def firstT : Tr → Tr
  | .tup (s :: _) => s
  | t => t
def paramsT : Tr → Bool
  | .tup ts => decide (ts.length ≤ 2) && ts.all paramT && diffT (ts.map firstT)
  | _ => false
def tripleT : Tr → Bool
  | .tup [n, p, b] => nameT n && paramsT p && isTup b
  | _ => false
/-- the kinds, the greatest number of params -/
structure Kinds (K : PySem.W.Frag) (mg : Str → Option Value) : Prop where
  kd : ∃ a, mg "KINDS" = some (.ref a) ∧ ∀ H, SqT K H a [.str "context", .str "token"]
  mp : ∃ t, mg "MOST_PARAMS" = some (.int 2 t)
section
variable {P : Program} {w : World} {K : PySem.W.Frag} {mg : Str → Option Value} {base : Heap}
abbrev sKind : Stmt := top 39
abbrev sParams : Stmt := top 40
abbrev sTriple : Stmt := top 41
theorem scKind : FnScope ["thing"] ["thing"] (defScope sKind) := ⟨rfl, rfl, rfl, by decide +kernel, rfl, by decide +kernel, by decide +kernel⟩
theorem ok_kind {f : Addr} {fd : FuncData} (F : Fun K "is_kind" "is_kind" sKind f fd) (T : Forms mg) (U : Kinds K mg) : FnOk P w K mg base CX0 1 f fd ["thing"] (spOf kindT K) := by
  refine F.ok scKind (fun vs H Q E h => ?_) (fun cdv A outer s H vs Q E hr h => ?_)
  · obtain ⟨v, t, rfl, _⟩ := h
    rfl
  · obtain ⟨v, t, rfl, ht, k⟩ := h
    obtain ⟨a, gK, sK⟩ := U.kd
    refine ⟨_, pss_one (ps_ret (pe_and (pe_callB call_isi (by rfl) T.isi boot_isinstance (pa_cons (pv 0) (pa_cons (pe_bltn (v := .ty "str") (u := .type "str") (by rfl) T.str (by decide +kernel) rfl) pa_nil)))
      (pe_one (pe_cmpR op_in_seq (pv 0) (pe_glob (v := .ref a) rfl gK rfl) rfl)))), ?_⟩
    refine ⟨_, rfl, v, .ty "str", .type (tyT t), .type "str", isStr t, rfl, .ty "str", ht.ty, k_str K t, _, rfl, ?_⟩
    have q := k H fun _ _ e => e
    cases ht with
    | str z hz =>
      refine iteT ⟨_, rfl, a, _, rfl, .inr (sK _), rfl, rfl, ?_⟩
      have e : inV (.str z) [.str "context", .str "token"] = kindT (.str z) := by
        show (eqV (.str "context") (.str z) || (eqV (.str "token") (.str z) || false)) = (decide (z = "context") || decide (z = "token"))
        rw [Bool.or_false]
        congr 1
        · show (("context" : Str) == z) = _
          by_cases e : z = "context"
          · simp [e]
          · have e' : ¬ ("context" : Str) = z := fun w => e w.symm
            simp [e, e']
        · show (("token" : Str) == z) = _
          by_cases e : z = "token"
          · simp [e]
          · have e' : ¬ ("token" : Str) = z := fun w => e w.symm
            simp [e, e']
      rw [e]
      exact q
    | int i => exact iteF q
    | bl b => exact iteF q
    | non => exact iteF q
    | lst h => exact iteF q
    | dct h => exact iteF q
    | tup h r => exact iteF q
theorem scParams : FnScope ["thing", "param", "slot", "kind"] ["thing"] (defScope sParams) := ⟨rfl, rfl, rfl, by decide +kernel, rfl, by decide +kernel, by decide +kernel⟩
theorem params_tup (ts : List Tr) : paramsT (.tup ts) = (decide (ts.length ≤ 2) && ts.all paramT && diffT (ts.map firstT)) := rfl
theorem param_not {ts : List Tr} (h : ¬ ts.length = 2) : paramT (.tup ts) = false := by
  match ts, h with
  | [], _ => rfl
  | [_], _ => rfl
  | [_, _], h => exact absurd rfl h
  | _ :: _ :: _ :: _, _ => rfl
theorem param_two : ∀ {t : Tr}, paramT t = true → ∃ s k, t = .tup [s, k]
  | .tup [s, k], _ => ⟨s, k, rfl⟩
theorem ok_params {f fT fK fD : Addr} {fd fdT fdK fdD : FuncData} (F : Fun K "are_params" "are_params" sParams f fd) (T : Forms mg) (U : Kinds K mg)
    (GT : FnOk P w K mg base CX0 1 fT fdT ["thing", "count"] (spTuple K)) (bT : Binds K fdT ["thing", "count"] []) (gT : mg "is_tuple" = some (.ref fT)) (kT : PySem.W.keepIn K (.ref fT) = true)
    (GK : FnOk P w K mg base CX0 1 fK fdK ["thing"] (spOf kindT K)) (bK : Binds K fdK ["thing"] []) (gK : mg "is_kind" = some (.ref fK)) (kK : PySem.W.keepIn K (.ref fK) = true)
    (GD : FnOk P w K mg base CX0 2 fD fdD ["things"] (spDiff K)) (bD : Binds K fdD ["things"] []) (gD : mg "are_different_names" = some (.ref fD)) (kD : PySem.W.keepIn K (.ref fD) = true) : FnOk P w K mg base CX0 3 f fd ["thing"] (spOf paramsT K) := by
  refine F.ok scParams (fun vs H Q E h => ?_) (fun cdv A outer s H vs Q E hr h => ?_)
  · obtain ⟨v, t, rfl, _⟩ := h
    rfl
  · obtain ⟨v, t, rfl, ht, k⟩ := h
    obtain ⟨t2, gM⟩ := U.mp
    have hr1 : Room 1 _ := hr.mono (by decide)
    refine ⟨_, pss_cons (ps_if (PW.pt (pw_or (pt_not (pt_val (pe_callB call_isi (by rfl) T.isi boot_isinstance (pa_cons (pv 0) (pa_cons (pe_bltn (v := .ty "tuple") (u := .type "tuple") (by rfl) T.tuple (by decide +kernel) rfl) pa_nil)))))
        (pw_or1 (pt_cmpR op_gt (pe_callB call_len_seq (by rfl) T.len boot_len (pa_cons (pv 0) pa_nil)) (pe_glob (v := .int 2) rfl gM ⟨_, rfl⟩) rfl)))) (pss_one (ps_ret pe_bl)) pss_nil)
      (pss_cons (ps_if (pt_not (pt_val (pe_callB (cr_all rfl) (by rfl) T.all (by decide +kernel) (pa_cons (pe_lc (own := [("param", 1)]) (g := gName 1) (tt := tYes)
          (te := tAndV (tCall (spTuple K) [] E0 (tCons (tVar 1) (tCons (tC (.int 2)) tNil))) (tCall (spOf kindT K) [] E0 (tCons (tOp (rIxT K) (tVar 1) (tC (.int 1))) tNil))) rfl scParams.nd (pi_tup (pv 0))
          (blkOk_by (N := ["thing", "param", "slot", "kind"]) (sc := defScope sParams) (by decide +kernel)) (fun _ _ _ _ _ => pg_name (i := 1) scParams.nd rfl (Or.inl rfl)) (fun _ _ _ _ _ => pts_nil)
          (fun _ _ _ _ _ => pe_and (by exact pe_call GT hr1 rfl gT kT bT .nil pass0 (pa_cons (pv 1) (pa_cons pe_int pa_nil))) (pe_one (by exact pe_call GK hr1 rfl gK kK bK .nil pass0 (pa_cons (pe_ix ix_tup (pv 1) pe_int (fun _ _ => rfl)) pa_nil))))) pa_nil)))) (pss_one (ps_ret pe_bl)) pss_nil)
      (pss_one (ps_ret (pe_call GD hr rfl gD kD bD .nil pass0 (pa_cons (pe_lc (own := [("slot", 2), ("kind", 3)]) (g := gTup K 2 (gCons (gName 2) (gCons (gName 3) gNil))) (tt := tYes) (te := tVar 2) rfl scParams.nd (pi_tup (pv 0))
          (blkOk_by (N := ["thing", "param", "slot", "kind"]) (sc := defScope sParams) (by decide +kernel))
          (fun _ _ _ _ _ => by exact pg_tup rfl (pgs_cons (pg_name (i := 2) scParams.nd rfl (Or.inl rfl)) (pgs_cons (pg_name (i := 3) scParams.nd rfl (Or.inl rfl)) pgs_nil))) (fun _ _ _ _ _ => pts_nil)
          (fun _ _ _ _ _ => pv 2)) pa_nil))))), ?_⟩
    refine ⟨_, rfl, v, .ty "tuple", .type (tyT t), .type "tuple", isTup t, rfl, .ty "tuple", ht.ty, k_tup K t, _, rfl, ?_⟩
    have q0 := k H fun _ _ e => e
    cases ht with
    | int i => exact iteT (iteT q0)
    | bl b => exact iteT (iteT q0)
    | str z hz => exact iteT (iteT q0)
    | non => exact iteT (iteT q0)
    | lst h => exact iteT (iteT q0)
    | dct h => exact iteT (iteT q0)
    | @tup a xs ts h tr =>
    refine iteF ⟨_, rfl, a, xs, rfl, .inr h, _, _, rfl, rfl, _, rfl, ?_⟩
    have el := tr.len
    refine ite2 (fun hgt => ?_) (fun hgt => ?_)
    · have hl : ¬ ts.length ≤ 2 := by
        have := of_decide_eq_true hgt
        omega
      have e : paramsT (.tup ts) = false := by
        rw [params_tup, decide_eq_false hl, Bool.false_and, Bool.false_and]
      rw [e] at q0
      exact q0
    have hl : ts.length ≤ 2 := by
      have : ¬ ((xs.length : Int) > 2) := fun z => hgt (decide_eq_true z)
      omega
    -- all([..])
    refine ⟨_, rfl, a, rfl, ⟨xs, h⟩, fun D nD => ?_⟩
    refine lc_it (walk_tup (K := K) (a := a) (xs := xs)) (fun i H2 => Same H H2 ∧ H2 D = some (.lst (((ts.take i).map paramT).map V.bl))) ⟨same_new nD, upd_same⟩ (fun i H2 _ ⟨s2, _⟩ => sqt_same s2 h) ?_ ?_
    · rintro i x H2 H3 hi ⟨s2, e2⟩ ⟨rfl, hx⟩
      obtain ⟨t, ht, tx⟩ := (tr.same s2).get hx
      have put : ∀ (b : Bool) (H' : Hp), b = paramT t → Same H3 H' → ∃ acc, H' D = some (.lst acc) ∧ acc.length < sizeLine ∧ Same H (upd H' D (.lst (acc ++ [.bl b]))) ∧ (upd H' D (.lst (acc ++ [.bl b]))) D = some (.lst (((ts.take (i + 1)).map paramT).map V.bl)) := by
        intro b H' eb s'
        refine ⟨_, s' _ _ e2, small1000 (by rw [List.length_map, List.length_map, List.length_take]; omega), fun b o e => ?_, ?_⟩
        · rw [upd_ne (ne_of_none e nD)]
          exact s' _ _ (s2 b o e)
        · rw [upd_same, List.take_add_one, ht, List.map_append, List.map_append, eb]
          rfl
      refine ⟨rfl, ?_⟩
      refine tyes ?_
      refine ⟨_, rfl, x, t, 2, rfl, tx, ?_⟩
      cases tx with
      | int i => exact ⟨_, rfl, iteF (put false _ rfl fun _ _ e => e)⟩
      | bl b => exact ⟨_, rfl, iteF (put false _ rfl fun _ _ e => e)⟩
      | str z hz => exact ⟨_, rfl, iteF (put false _ rfl fun _ _ e => e)⟩
      | non => exact ⟨_, rfl, iteF (put false _ rfl fun _ _ e => e)⟩
      | lst h => exact ⟨_, rfl, iteF (put false _ rfl fun _ _ e => e)⟩
      | dct h => exact ⟨_, rfl, iteF (put false _ rfl fun _ _ e => e)⟩
      | @tup b ys us hu tu =>
        refine ⟨_, rfl, ?_⟩
        refine ite2 (fun h2 => ?_) (fun h2 => ?_)
        · have l2 : us.length = 2 := by
            have := of_decide_eq_true h2
            omega
          obtain ⟨s0, k0, rfl⟩ : ∃ s0 k0, us = [s0, k0] := by
            match us, l2 with
            | [s0, k0], _ => exact ⟨s0, k0, rfl⟩
          obtain ⟨w, hw, tw⟩ := tu.get' (i := 1) (t := k0) rfl
          exact ⟨_, rfl, b, ys, 1, w, rfl, rfl, hu, at_of (j := 1) rfl hw, w, k0, rfl, tw, fun H' s' => put (kindT k0) H' rfl s'⟩
        · have l2 : ¬ us.length = 2 := fun z => h2 (decide_eq_true (by omega))
          exact put false _ (param_not l2).symm fun _ _ e => e
    rintro H2 ⟨s2, e2⟩
    have et : ts.take xs.length = ts := by rw [el, List.take_length]
    rw [et] at e2
    refine ⟨D, _, rfl, SqL.of e2, _, rfl, ?_⟩
    have ea : (ts.map paramT).all id = ts.all paramT := by rw [List.all_map]; rfl
    rw [ea]
    cases hp : ts.all paramT with
    | false =>
      have e : paramsT (.tup ts) = false := by rw [params_tup, hp, Bool.and_false, Bool.false_and]
      have q2 := k H2 s2
      rw [e] at q2
      exact iteT q2
    | true =>
    refine iteF ?_
    have e : paramsT (.tup ts) = diffT (ts.map firstT) := by rw [params_tup, hp, decide_eq_true hl, Bool.true_and, Bool.true_and]
    refine ⟨_, rfl, a, rfl, ⟨xs, sqt_same s2 h⟩, fun D2 nD2 => ?_⟩
    refine lc_it (walk_tup (K := K) (a := a) (xs := xs)) (fun i H3 => Same H2 H3 ∧ ∃ bs, H3 D2 = some (.lst bs) ∧ TrAll K H3 bs ((ts.take i).map firstT)) ⟨same_new nD2, [], upd_same, .nil⟩ (fun i H3 _ ⟨s3, _⟩ => sqt_same (s2.trans s3) h) ?_ ?_
    · rintro i x H3 H4 hi ⟨s3, bs, e3, b3⟩ ⟨rfl, hx⟩
      obtain ⟨t, ht, tx⟩ := (tr.same (s2.trans s3)).get hx
      have pt : paramT t = true := List.all_eq_true.mp hp t (List.mem_of_getElem? ht)
      obtain ⟨s0, k0, rfl⟩ := param_two pt
      cases tx with
      | @tup b ys us hu tu =>
        have l2 := tu.len
        obtain ⟨y0, y1, rfl⟩ : ∃ y0 y1, ys = [y0, y1] := by
          match ys, l2 with
          | [y0, y1], _ => exact ⟨y0, y1, rfl⟩
        obtain ⟨w, hw, tw⟩ := tu.get' (i := 0) (t := s0) rfl
        obtain rfl : y0 = w := Option.some.inj hw
        refine ⟨b, _, rfl, hu, rfl, _, _, rfl, _, _, rfl, rfl, rfl, ?_⟩
        refine tyes ?_
        refine ⟨_, rfl, bs, e3, small1000 (by rw [b3.len, List.length_map, List.length_take]; omega), fun b o e => ?_, _, upd_same, ?_⟩
        · rw [upd_ne (ne_of_none e nD2)]
          exact s3 b o e
        · rw [List.take_add_one, ht, List.map_append]
          exact (b3.updL e3).snoc (tw.updL e3)
    · rintro H3 ⟨s3, bs, e3, b3⟩
      rw [et] at b3
      refine ⟨D2, bs, ts.map firstT, rfl, .inl (SqL.of e3), b3, by rw [List.length_map]; omega, fun H4 s4 => ?_⟩
      have q2 := k H4 ((s2.trans s3).trans s4)
      rw [e] at q2
      exact q2
end
end BK


set_option Elab.async false
set_option maxRecDepth 100000
set_option maxHeartbeats 1000000
/-! is_triple. -/
namespace BK
open PySem PySem.Spec PyProof.Rows L2
section
variable {P : Program} {w : World} {K : PySem.W.Frag} {mg : Str → Option Value} {base : Heap}
theorem scTriple : FnScope ["thing"] ["thing"] (defScope sTriple) := ⟨rfl, rfl, rfl, by decide +kernel, rfl, by decide +kernel, by decide +kernel⟩
theorem triple_not {ts : List Tr} (h : ¬ ts.length = 3) : tripleT (.tup ts) = false := by
  match ts, h with
  | [], _ => rfl
  | [_], _ => rfl
  | [_, _], _ => rfl
  | [_, _, _], h => exact absurd rfl h
  | _ :: _ :: _ :: _ :: _, _ => rfl
theorem ok_triple {f fT fN fP : Addr} {fd fdT fdN fdP : FuncData} (F : Fun K "is_triple" "is_triple" sTriple f fd) (T : Forms mg)
    (GT : FnOk P w K mg base CX0 1 fT fdT ["thing", "count"] (spTuple K)) (bT : Binds K fdT ["thing", "count"] []) (gT : mg "is_tuple" = some (.ref fT)) (kT : PySem.W.keepIn K (.ref fT) = true)
    (GN : FnOk P w K mg base CX0 1 fN fdN ["thing"] (spOf nameT K)) (bN : Binds K fdN ["thing"] []) (gN : mg "is_name" = some (.ref fN)) (kN : PySem.W.keepIn K (.ref fN) = true)
    (GP : FnOk P w K mg base CX0 3 fP fdP ["thing"] (spOf paramsT K)) (bP : Binds K fdP ["thing"] []) (gP : mg "are_params" = some (.ref fP)) (kP : PySem.W.keepIn K (.ref fP) = true) : FnOk P w K mg base CX0 4 f fd ["thing"] (spOf tripleT K) := by
  refine F.ok scTriple (fun vs H Q E h => ?_) (fun cdv A outer s H vs Q E hr h => ?_)
  · obtain ⟨v, t, rfl, _⟩ := h
    rfl
  · obtain ⟨v, t, rfl, ht, k⟩ := h
    have hr1 : Room 1 _ := hr.mono (by decide)
    refine ⟨_, pss_one (ps_ret (pe_and (pe_call GT hr1 rfl gT kT bT .nil pass0 (pa_cons (pv 0) (pa_cons pe_int pa_nil)))
      (pe_and (pe_call GN hr1 rfl gN kN bN .nil pass0 (pa_cons (pe_ix ix_tup (pv 0) pe_int (fun _ _ => rfl)) pa_nil))
      (pe_and (pe_call GP hr rfl gP kP bP .nil pass0 (pa_cons (pe_ix ix_tup (pv 0) pe_int (fun _ _ => rfl)) pa_nil))
      (pe_one (pe_callB call_isi (by rfl) T.isi boot_isinstance (pa_cons (pe_ix ix_tup (pv 0) pe_int (fun _ _ => rfl)) (pa_cons (pe_bltn (v := .ty "tuple") (u := .type "tuple") (by rfl) T.tuple (by decide +kernel) rfl) pa_nil)))))))), ?_⟩
    refine ⟨_, rfl, v, t, 3, rfl, ht, _, rfl, ?_⟩
    have q0 := k H fun _ _ e => e
    cases ht with
    | int i => exact iteF q0
    | bl b => exact iteF q0
    | str z hz => exact iteF q0
    | non => exact iteF q0
    | lst h => exact iteF q0
    | dct h => exact iteF q0
    | @tup a xs ts h tr =>
      refine ite2 (fun h3 => ?_) (fun h3 => ?_)
      · have l3 : ts.length = 3 := by
          have := of_decide_eq_true h3
          omega
        obtain ⟨n, p, b, rfl⟩ : ∃ n p b, ts = [n, p, b] := by
          match ts, l3 with
          | [n, p, b], _ => exact ⟨n, p, b, rfl⟩
        have e : tripleT (.tup [n, p, b]) = (nameT n && paramsT p && isTup b) := rfl
        rw [e] at k
        obtain ⟨v0, g0, t0⟩ := tr.get' (i := 0) (t := n) rfl
        obtain ⟨v1, g1, t1⟩ := tr.get' (i := 1) (t := p) rfl
        obtain ⟨v2, g2, t2⟩ := tr.get' (i := 2) (t := b) rfl
        refine ⟨_, rfl, a, xs, 0, v0, rfl, rfl, h, at_of (j := 0) rfl g0, v0, n, rfl, t0, fun H1 s1 => ⟨_, rfl, ?_⟩⟩
        cases en : nameT n with
        | false =>
          have q := k H1 s1
          rw [en, Bool.false_and, Bool.false_and] at q
          exact iteF q
        | true =>
        refine iteT ⟨_, rfl, a, xs, 1, v1, rfl, rfl, sqt_same s1 h, at_of (j := 1) rfl g1, v1, p, rfl, t1.same s1, fun H2 s2 => ⟨_, rfl, ?_⟩⟩
        have s12 := s1.trans s2
        cases ep : paramsT p with
        | false =>
          have q := k H2 s12
          rw [en, ep, Bool.and_false, Bool.false_and] at q
          exact iteF q
        | true =>
        refine iteT ⟨_, rfl, a, xs, 2, v2, rfl, rfl, sqt_same s12 h, at_of (j := 2) rfl g2, v2, .ty "tuple", .type (tyT b), .type "tuple", isTup b, rfl, .ty "tuple", (t2.same s12).ty, k_tup K b, ?_⟩
        have q := k H2 s12
        rw [en, ep, Bool.true_and, Bool.true_and] at q
        exact q
      · have l3 : ¬ ts.length = 3 := fun z => h3 (decide_eq_true (by omega))
        rw [triple_not l3] at q0
        exact q0
end
end BK


set_option Elab.async false
set_option linter.all false
set_option maxRecDepth 100000
set_option maxHeartbeats 4000000
/-! list(zip(t, u)) of two tuples: a list of new pairs. -/
namespace LZ
open PySem PySem.Spec PyProof.Rows
section
variable {prog : Program} {w : World} {A : Around} {E : Value → Shared → Prop} {s : Shared}
/-- the next pair, the one ahead of it kept by somebody -/
theorem next_kept {z TI TO T i1 i2 a b : Addr} {f : Bool} {oT : Obj} {k : Nat} {xs ys : Array Value} {x y : Value} {Q : Option Value → Shared → Prop} (D : ZipApart z TI TO i1 i2 a b) (hz : IsZipHeld s.heap z TI TO T f) (hT : s.heap.get? T = some oT)
    (hp : IsPair s.heap TI (.ref i1) (.ref i2)) (h1 : s.heap.IsTupleIter i1 a k) (h2 : s.heap.IsTupleIter i2 b k) (ta : s.heap.IsTuple a xs) (tb : s.heap.IsTuple b ys) (hx : xs[k]? = some x) (hy : ys[k]? = some y)
    (q : ∀ h', IsZipHeld h' z TI TO T true → h'.IsTupleIter i1 a (k + 1) → h'.IsTupleIter i2 b (k + 1) → IsPair h' s.heap.objs.size x y → (∀ c o, c ≠ z → c ≠ i1 → c ≠ i2 → s.heap.get? c = some o → h'.get? c = some o) → Q (some (.ref s.heap.objs.size)) { s with heap := h' }) :
    wpAny (model prog w) A (pyNext (.ref z)) Q E s := by
  have ty : s.TypeIs (.ref z) "zip" := ⟨_, hz, rfl⟩
  unfold pyNext
  refine wpAny_bind (wpAny_attempt (wpAny_callSpecial?_slot (name := Str.ofString "__next__") ty F.slot_zip_next (wpAny_call_entry F.slot_zip_next ty F.entry_zip_next ?_ (F.args_zip_next_1 _))))
  show wpAny _ _ (field (.ref z) 2 >>= _) _ _ _
  refine wpAny_bind (wpAny_field hz rfl (x := .bool false) rfl ?_)
  show wpAny _ _ (field (.ref z) 3 >>= _) _ _ _
  refine wpAny_bind (wpAny_field hz rfl (x := .ref TI) rfl (wpAny_bind (wpAny_seqItems hp rfl ?_)))
  show wpAny _ _ (Builtin.SmallTypes.ownedTupleIsFree (.ref z) >>= _) _ _ _
  refine wpAny_bind (wpAny_tupleHeld_zip hz hT fun g₁ z₁ s₁ => ?_)
  simp only [Bool.false_eq_true, if_false]
  refine wpAny_bind ?_
  rw [← Array.forIn_toList]
  simp only [List.forIn_cons, List.forIn_nil]
  refine wpAny_bind (wpAny_bind (wpAny_holding ?_))
  show wpAny _ _ (Builtin.SmallTypes.nextOf (.ref i1) >>= _) _ _ _
  refine wpAny_bind (RZ.nextOf_tuple_item (s := { s with heap := g₁ }) (h1.extBut s₁.extBut D.i1z) (ta.extBut s₁.extBut D.l1z) hx fun g₂ n₁ s₂ => wpAny_pure (wpAny_pure ?_))
  refine wpAny_bind (wpAny_bind (wpAny_holding ?_))
  show wpAny _ _ (Builtin.SmallTypes.nextOf (.ref i2) >>= _) _ _ _
  refine wpAny_bind (RZ.nextOf_tuple_item (s := { s with heap := g₂ }) ((h2.extBut s₁.extBut D.i2z).extBut s₂.extBut D.i12.symm) ((tb.extBut s₁.extBut D.l2z).extBut s₂.extBut D.l2i1) hy fun g₃ n₂ s₃ => wpAny_pure (wpAny_pure (wpAny_pure ?_)))
  show wpAny _ _ (newTuple [x, y] >>= _) _ _ _
  refine wpAny_bind (wpAny_newTuple (wpAny_pure ?_))
  have sz : g₃.objs.size = s.heap.objs.size := by rw [s₃.1, s₂.1, s₁.1]
  have z₃ : IsZipHeld g₃ z TI TO T true := s₃.extBut _ _ D.i2z.symm (s₂.extBut _ _ D.i1z.symm z₁)
  have kp : ∀ c o, c ≠ z → c ≠ i1 → c ≠ i2 → s.heap.get? c = some o → g₃.get? c = some o := fun c o c1 c2 c3 e => s₃.extBut _ _ c3 (s₂.extBut _ _ c2 (s₁.extBut _ _ c1 e))
  have n₃ : g₃.IsTupleIter i1 a (k + 1) := n₁.extBut s₃.extBut D.i12
  have np : IsPair (g₃.push { cls := .type "tuple", data := .seq #[x, y] }) g₃.objs.size x y := Heap.get?_push_size _ rfl
  refine ⟨_, rfl, ?_⟩
  show wpAny _ _ (pure _) _ _ _
  refine wpAny_pure ?_
  show Q (some (.ref g₃.objs.size)) _
  rw [sz] at np ⊢
  exact q _ (Heap.get?_push_of_some _ z₃) (n₃.at fun o e => Heap.get?_push_of_some _ e) (n₂.at fun o e => Heap.get?_push_of_some _ e) np fun c o c1 c2 c3 e => Heap.get?_push_of_some _ (kp c o c1 c2 c3 e)
/-- no more -/
theorem end_kept {z TI TO T i1 i2 a b : Addr} {f : Bool} {oT : Obj} {k : Nat} {xs : Array Value} {Q : Option Value → Shared → Prop} (calm : A.handled = none) (D : ZipApart z TI TO i1 i2 a b) (hz : IsZipHeld s.heap z TI TO T f) (hT : s.heap.get? T = some oT)
    (hp : IsPair s.heap TI (.ref i1) (.ref i2)) (h1 : s.heap.IsTupleIter i1 a k) (ta : s.heap.IsTuple a xs) (hx : xs[k]? = none) (q : ∀ h', (∀ c o, c ≠ z → c ≠ i1 → s.heap.get? c = some o → h'.get? c = some o) → Q none { s with heap := h' }) :
    wpAny (model prog w) A (pyNext (.ref z)) Q E s := by
  have ty : s.TypeIs (.ref z) "zip" := ⟨_, hz, rfl⟩
  unfold pyNext
  refine wpAny_bind (wpAny_attempt (wpAny_callSpecial?_slot (name := Str.ofString "__next__") ty F.slot_zip_next (wpAny_call_entry F.slot_zip_next ty F.entry_zip_next ?_ (F.args_zip_next_1 _))))
  show wpAny _ _ (field (.ref z) 2 >>= _) _ _ _
  refine wpAny_bind (wpAny_field hz rfl (x := .bool false) rfl ?_)
  show wpAny _ _ (field (.ref z) 3 >>= _) _ _ _
  refine wpAny_bind (wpAny_field hz rfl (x := .ref TI) rfl (wpAny_bind (wpAny_seqItems hp rfl ?_)))
  show wpAny _ _ (Builtin.SmallTypes.ownedTupleIsFree (.ref z) >>= _) _ _ _
  refine wpAny_bind (wpAny_tupleHeld_zip hz hT fun g₁ z₁ s₁ => ?_)
  simp only [Bool.false_eq_true, if_false]
  refine wpAny_bind ?_
  rw [← Array.forIn_toList]
  simp only [List.forIn_cons, List.forIn_nil]
  refine wpAny_bind (wpAny_bind (wpAny_holding ?_))
  show wpAny _ _ (Builtin.SmallTypes.nextOf (.ref i1) >>= _) _ _ _
  refine wpAny_bind (RZ.nextOf_tuple_end (s := { s with heap := g₁ }) calm (h1.extBut s₁.extBut D.i1z) (ta.extBut s₁.extBut D.l1z) hx fun g₂ e s₂ he => ?_)
  obtain ⟨o, ho, hc⟩ := he
  refine wpAny_bind (wpAny_isInstance (T := "StopIteration") (b := true) ⟨o, ho, hc⟩ isSubtype_stop ?_)
  exact wpAny_pure (q _ fun c o c1 c2 x => s₂ _ _ c2 (s₁.extBut _ _ c1 x))
end
end LZ


set_option Elab.async false
set_option linter.all false
set_option maxRecDepth 100000
set_option maxHeartbeats 4000000
namespace LZ
open PySem PySem.Spec PyProof.Rows
theorem cls_ne {h : Heap} {c : Addr} {o o' : Obj} (e : h.get? c = some o) (e' : h.get? c = some o') (n : o.cls ≠ o'.cls) : False := n (congrArg Obj.cls (Option.some.inj (e.symm.trans e')))
abbrev lstO (vs : List Value) (c : Nat) : Obj := { cls := .type "list", dict := none, data := .seq vs.toArray c, slots := #[] }
/-- the zip at its turn i -/
structure ZS (h : Heap) (z TI TO i1 i2 a b : Addr) (xs ys : Array Value) (i : Nat) : Prop where
  p : IsPair h TI (.ref i1) (.ref i2)
  o : ∃ x y, IsPair h TO x y
  n1 : h.IsTupleIter i1 a i
  n2 : h.IsTupleIter i2 b i
  ta : h.IsTuple a xs
  tb : h.IsTuple b ys
  zz : (i = 0 ∧ IsZip h z TI TO .none) ∨ ∃ T f x y, IsZipHeld h z TI TO T f ∧ IsPair h T x y
section
variable {prog : Program} {w : World} {A : Around} {E : Value → Shared → Prop} {s : Shared} {z TI TO i1 i2 a b S : Addr} {xs ys : Array Value} {h h' : Heap} {i : Nat}
/-- only the list at S is written -/
theorem ZS.keep (Z : ZS h z TI TO i1 i2 a b xs ys i) {vs : List Value} {c : Nat} (hS : h.get? S = some (lstO vs c)) (k : ∀ c o, c ≠ S → h.get? c = some o → h'.get? c = some o) : ZS h' z TI TO i1 i2 a b xs ys i := by
  have ne : ∀ {c : Addr} {o : Obj}, h.get? c = some o → o.cls ≠ .type "list" → c ≠ S := fun e ho q => by
    rw [q, hS] at e
    cases e
    exact ho rfl
  have pr : ∀ {T : Addr} {x y : Value}, IsPair h T x y → IsPair h' T x y := fun e => k _ _ (ne e (by simp)) e
  obtain ⟨x0, y0, o0⟩ := Z.o
  obtain ⟨o1, e1, c1, d1⟩ := Z.n1
  obtain ⟨o2, e2, c2, d2⟩ := Z.n2
  obtain ⟨o3, e3, c3, n3, d3⟩ := Z.ta
  obtain ⟨o4, e4, c4, n4, d4⟩ := Z.tb
  refine ⟨pr Z.p, ⟨x0, y0, pr o0⟩, ⟨o1, k _ _ (ne e1 (by rw [c1]; simp)) e1, c1, d1⟩, ⟨o2, k _ _ (ne e2 (by rw [c2]; simp)) e2, c2, d2⟩, ⟨o3, k _ _ (ne e3 (by rw [c3]; simp)) e3, c3, n3, d3⟩, ⟨o4, k _ _ (ne e4 (by rw [c4]; simp)) e4, c4, n4, d4⟩, ?_⟩
  rcases Z.zz with ⟨e, q⟩ | ⟨T, f, x, y, q, t⟩
  · exact .inl ⟨e, k _ _ (ne q (by simp)) q⟩
  · exact .inr ⟨T, f, x, y, k _ _ (ne q (by simp)) q, pr t⟩
theorem ZS.zip (Z : ZS h z TI TO i1 i2 a b xs ys i) : ∃ f0 f1 : Value, h.get? z = some { cls := .type "zip", dict := none, data := .fields #[f0, f1, .bool false, .ref TI, .ref TO], slots := #[] } := by
  rcases Z.zz with ⟨e, q⟩ | ⟨T, f, x, y, q, t⟩
  · exact ⟨_, _, q⟩
  · exact ⟨_, _, q⟩
/-- one turn -/
theorem ZS.next (Z : ZS s.heap z TI TO i1 i2 a b xs ys i) (D : ZipApart z TI TO i1 i2 a b) {x y : Value} (hx : xs[i]? = some x) (hy : ys[i]? = some y) {Q : Option Value → Shared → Prop}
    (q : ∀ h', ZS h' z TI TO i1 i2 a b xs ys (i + 1) → IsPair h' s.heap.objs.size x y → (∀ c o, c ≠ z → c ≠ TO → c ≠ i1 → c ≠ i2 → s.heap.get? c = some o → h'.get? c = some o) → Q (some (.ref s.heap.objs.size)) { s with heap := h' }) :
    wpAny (model prog w) A (pyNext (.ref z)) Q E s := by
  obtain ⟨x0, y0, o0⟩ := Z.o
  rcases Z.zz with ⟨e, g⟩ | ⟨T, f, xT, yT, g, t⟩
  · refine RZ.pyNext_zipT_item D g Z.p o0 Z.n1 Z.n2 Z.ta Z.tb hx hy fun h' a1 a2 a3 a4 a5 a6 a7 => ?_
    have lt : ∀ {c o}, s.heap.get? c = some o → s.heap.objs.size ≠ c := fun e => Nat.ne_of_gt (Heap.lt_size e)
    exact q h' ⟨a7 _ _ D.TIz D.TITO D.TIi1 D.TIi2 Z.p, ⟨_, _, a2⟩, a3, a4, Z.ta.at fun o e => a7 _ o D.l1z D.l1TO D.l1i1 D.l1i2 e, Z.tb.at fun o e => a7 _ o D.l2z D.l2TO D.l2i1 D.l2i2 e, .inr ⟨_, false, x, y, a1, a5⟩⟩ a5 a7
  · refine next_kept D g t Z.p Z.n1 Z.n2 Z.ta Z.tb hx hy fun h' a1 a3 a4 a5 a7 => ?_
    have kp : ∀ c o, c ≠ z → c ≠ TO → c ≠ i1 → c ≠ i2 → s.heap.get? c = some o → h'.get? c = some o := fun c o c1 _ c3 c4 e => a7 c o c1 c3 c4 e
    have nz : T ≠ z := fun e => by
      rw [e] at t
      exact cls_ne t g (by simp)
    have n1 : T ≠ i1 := fun e => by
      obtain ⟨o, e1, e2, _⟩ := Z.n1
      rw [e] at t
      exact cls_ne t e1 (by rw [e2]; simp)
    have n2 : T ≠ i2 := fun e => by
      obtain ⟨o, e1, e2, _⟩ := Z.n2
      rw [e] at t
      exact cls_ne t e1 (by rw [e2]; simp)
    exact q h' ⟨kp _ _ D.TIz D.TITO D.TIi1 D.TIi2 Z.p, ⟨_, _, a7 _ _ D.TOz D.TOi1 D.TOi2 o0⟩, a3, a4, Z.ta.at fun o e => kp _ o D.l1z D.l1TO D.l1i1 D.l1i2 e, Z.tb.at fun o e => kp _ o D.l2z D.l2TO D.l2i1 D.l2i2 e, .inr ⟨T, true, _, _, a1, a7 _ _ nz n1 n2 t⟩⟩ a5 kp
theorem ZS.fin (Z : ZS s.heap z TI TO i1 i2 a b xs ys i) (D : ZipApart z TI TO i1 i2 a b) (calm : A.handled = none) (hx : xs[i]? = none) {Q : Option Value → Shared → Prop}
    (q : ∀ h', (∀ c o, c ≠ z → c ≠ TO → c ≠ i1 → c ≠ i2 → s.heap.get? c = some o → h'.get? c = some o) → Q none { s with heap := h' }) : wpAny (model prog w) A (pyNext (.ref z)) Q E s := by
  obtain ⟨x0, y0, o0⟩ := Z.o
  rcases Z.zz with ⟨e, g⟩ | ⟨T, f, xT, yT, g, t⟩
  · exact RZ.pyNext_zipT_end calm D g Z.p o0 Z.n1 Z.n2 Z.ta Z.tb (.inl hx) q
  · exact end_kept calm D g t Z.p Z.n1 Z.ta hx fun h' k => q h' fun c o c1 _ c3 _ e => k c o c1 c3 e
/-- the pairs made so far -/
def Made (h : Heap) (xs ys : Array Value) (ts : List Addr) : Prop := ∀ (j : Nat) (T : Addr), ts[j]? = some T → ∃ x y, xs[j]? = some x ∧ ys[j]? = some y ∧ IsPair h T x y
theorem loop {n N : Nat} {res : Value} {R : Result → Shared → Prop} (D : ZipApart z TI TO i1 i2 a b) (calm : A.handled = none) (lx : xs.size = n) (ly : ys.size = n) (few : n ≤ 1000) (lz : z < N) (lO : TO < N) (l1 : i1 < N) (l2 : i2 < N) (lS : S < N) (d : Nat) :
    ∀ (i : Nat) (s : Shared) (ts : List Addr) (c : Nat), i + d = n → ts.length = i → ZS s.heap z TI TO i1 i2 a b xs ys i → s.heap.get? S = some (lstO (ts.map Value.ref) c) → Made s.heap xs ys ts → ts.Nodup → (∀ T ∈ ts, N ≤ T) → N ≤ s.heap.objs.size →
      (∀ h' ts' c', ts'.length = n → h'.get? S = some (lstO (ts'.map Value.ref) c') → Made h' xs ys ts' → ts'.Nodup → (∀ T ∈ ts', N ≤ T) → (∀ c o, c ≠ S → c ≠ z → c ≠ TO → c ≠ i1 → c ≠ i2 → s.heap.get? c = some o → h'.get? c = some o) → R (.ok (.ret res)) { s with heap := h' }) →
      codeAny (model prog w) A (.builtin "list.extend.loop" ⟨[.ref S, .ref z, res], []⟩) R s := by
  have sz : sizeLine = 16777216 := sizeLine_eq
  induction d with
  | zero =>
    intro i s ts c e el Z hS mk nd ge le then_
    obtain rfl : i = n := e
    refine codeAny_builtin F.entry_extend_loop ?_
    rw [Around.under_plainId F.plain_extend_loop _]
    show wpAny _ A.in1 (pyNext (.ref z) >>= _) _ _ s
    refine wpAny_bind (Z.fin D (show A.in1.handled = none by simp [calm]) (by rw [Array.getElem?_eq_none_iff]; omega) fun h' k => ?_)
    have big : ∀ {c T : Nat}, c < N → N ≤ T → T ≠ c := fun h1 h2 => by omega
    have nS : S ≠ z ∧ S ≠ TO ∧ S ≠ i1 ∧ S ≠ i2 := by
      obtain ⟨f0, f1, gz⟩ := Z.zip
      obtain ⟨x0, y0, o0⟩ := Z.o
      obtain ⟨o1, e1, c1, _⟩ := Z.n1
      obtain ⟨o2, e2, c2, _⟩ := Z.n2
      refine ⟨fun q => ?_, fun q => ?_, fun q => ?_, fun q => ?_⟩
      · rw [q] at hS; exact cls_ne hS gz (by simp)
      · rw [q] at hS; exact cls_ne hS o0 (by simp)
      · rw [q] at hS; exact cls_ne hS e1 (by rw [c1]; simp)
      · rw [q] at hS; exact cls_ne hS e2 (by rw [c2]; simp)
    refine wpAny_pure (then_ h' ts c el (k _ _ nS.1 nS.2.1 nS.2.2.1 nS.2.2.2 hS) (fun j T hj => ?_) nd ge fun c o _ c1 c2 c3 c4 e => k c o c1 c2 c3 c4 e)
    obtain ⟨x, y, p1, p2, p3⟩ := mk j T hj
    have gT := ge T (List.mem_of_getElem? hj)
    exact ⟨x, y, p1, p2, k _ _ (big lz gT) (big lO gT) (big l1 gT) (big l2 gT) p3⟩
  | succ d ih =>
    intro i s ts c e el Z hS mk nd ge le then_
    have lt : i < n := by omega
    obtain ⟨x, hx⟩ : ∃ x, xs[i]? = some x := ⟨_, Array.getElem?_eq_getElem (by omega)⟩
    obtain ⟨y, hy⟩ : ∃ y, ys[i]? = some y := ⟨_, Array.getElem?_eq_getElem (by omega)⟩
    refine codeAny_builtin F.entry_extend_loop ?_
    rw [Around.under_plainId F.plain_extend_loop _]
    show wpAny _ A.in1 (pyNext (.ref z) >>= _) _ _ s
    refine wpAny_bind (Z.next D hx hy fun h' Z' np k => ?_)
    have big : ∀ {c T : Nat}, c < N → N ≤ T → T ≠ c := fun h1 h2 => by omega
    have nS : S ≠ z ∧ S ≠ TO ∧ S ≠ i1 ∧ S ≠ i2 := by
      obtain ⟨f0, f1, gz⟩ := Z.zip
      obtain ⟨x0, y0, o0⟩ := Z.o
      obtain ⟨o1, e1, c1, _⟩ := Z.n1
      obtain ⟨o2, e2, c2, _⟩ := Z.n2
      refine ⟨fun q => ?_, fun q => ?_, fun q => ?_, fun q => ?_⟩
      · rw [q] at hS; exact cls_ne hS gz (by simp)
      · rw [q] at hS; exact cls_ne hS o0 (by simp)
      · rw [q] at hS; exact cls_ne hS e1 (by rw [c1]; simp)
      · rw [q] at hS; exact cls_ne hS e2 (by rw [c2]; simp)
    have hS' := k _ _ nS.1 nS.2.1 nS.2.2.1 nS.2.2.2 hS
    show wpAny _ A.in1 (updateSeq S (·.push (.ref s.heap.objs.size)) >>= _) _ _ _
    have sm : ((ts.map Value.ref).toArray).size ≤ sizeLine := by rw [List.size_toArray, List.length_map]; omega
    refine wpAny_bind (wpAny_updateSeq hS' rfl ?_ sm (by show (((ts.map Value.ref).toArray).push _).size ≤ sizeLine + 1; rw [Array.size_push]; omega))
    have hS2 := Heap.get?_update_self (Obj.mapSeq (·.push (.ref s.heap.objs.size))) hS' rfl
    have oth : ∀ c o, c ≠ S → h'.get? c = some o → (h'.update S (Obj.mapSeq (·.push (.ref s.heap.objs.size)))).get? c = some o := fun c o nc e => (Heap.get?_update_other _ _ (Ne.symm nc)).trans e
    obtain ⟨c2, eS⟩ : ∃ c2, Obj.mapSeq (·.push (.ref s.heap.objs.size)) (lstO (ts.map Value.ref) c) = lstO ((ts ++ [s.heap.objs.size]).map Value.ref) c2 := by
      simp [Obj.mapSeq]
    rw [eS] at hS2
    have Z2 := Z'.keep hS' oth
    have nTS : s.heap.objs.size ≠ S := Nat.ne_of_gt (Heap.lt_size hS)
    have mk2 : Made (h'.update S (Obj.mapSeq (·.push (.ref s.heap.objs.size)))) xs ys (ts ++ [s.heap.objs.size]) := fun j T hj => by
      by_cases hj2 : j < ts.length
      · rw [List.getElem?_append_left hj2] at hj
        obtain ⟨x', y', p1, p2, p3⟩ := mk j T hj
        have gT := ge T (List.mem_of_getElem? hj)
        exact ⟨x', y', p1, p2, oth _ _ (big lS gT) (k _ _ (big lz gT) (big lO gT) (big l1 gT) (big l2 gT) p3)⟩
      · rw [List.getElem?_append_right (by omega)] at hj
        have j0 : j = ts.length := by
          have := (List.getElem?_eq_some_iff.mp hj).1
          simp at this
          omega
        subst j0
        rw [Nat.sub_self, List.getElem?_cons_zero] at hj
        obtain rfl : s.heap.objs.size = T := Option.some.inj hj
        rw [el]
        exact ⟨x, y, hx, hy, oth _ _ nTS np⟩
    have fresh : s.heap.objs.size ∉ ts := fun m => by
      obtain ⟨j, hj⟩ := List.getElem?_of_mem m
      obtain ⟨x', y', _, _, p3⟩ := mk j _ hj
      exact Nat.lt_irrefl _ (Heap.lt_size p3)
    refine wpAny_pure ⟨plainId_quiet F.plain_extend_loop _, ih (i + 1) _ (ts ++ [s.heap.objs.size]) c2 (by omega) (by rw [List.length_append, el]; rfl) Z2 hS2 mk2 (L2.nd_snoc nd fresh) (fun T hT => ?_) ?_ fun h2 ts' c' a1 a2 a3 a4 a5 a6 => ?_⟩
    · rcases List.mem_append.mp hT with q | q
      · exact ge T q
      · rw [List.mem_singleton.mp q]
        exact le
    · exact Nat.le_trans le (Nat.le_of_lt (Heap.lt_size (oth _ _ nTS np)))
    · exact then_ h2 ts' c' a1 a2 a3 a4 a5 fun c o c0 c1 c2 c3 c4 e => a6 c o c0 c1 c2 c3 c4 (oth _ _ c0 (k _ _ c1 c2 c3 c4 e))
end
end LZ


set_option Elab.async false
set_option linter.all false
set_option maxRecDepth 100000
set_option maxHeartbeats 4000000
namespace LZ
open PySem PySem.Spec PyProof.Rows
theorem zip_len : typeLookup (.type "zip") "__len__" = pure none := am_miss_of_fast (by decide +kernel)
theorem zip_hint : typeLookup (.type "zip") "__length_hint__" = pure none := am_miss_of_fast (by decide +kernel)
section
variable {prog : Program} {w : World} {A : Around} {E : Value → Shared → Prop} {s : Shared} {z TI TO i1 i2 a b : Addr} {xs ys : Array Value}
theorem ZS.mono {h h' : Heap} {i : Nat} (Z : ZS h z TI TO i1 i2 a b xs ys i) (k : ∀ c o, h.get? c = some o → h'.get? c = some o) : ZS h' z TI TO i1 i2 a b xs ys i := by
  obtain ⟨x0, y0, o0⟩ := Z.o
  refine ⟨k _ _ Z.p, ⟨x0, y0, k _ _ o0⟩, Z.n1.at fun o e => k _ o e, Z.n2.at fun o e => k _ o e, Z.ta.at fun o e => k _ o e, Z.tb.at fun o e => k _ o e, ?_⟩
  rcases Z.zz with ⟨e, q⟩ | ⟨T, f, x, y, q, t⟩
  · exact .inl ⟨e, k _ _ q⟩
  · exact .inr ⟨T, f, x, y, k _ _ q, k _ _ t⟩
/-- list(z), z a zip of two tuples of one length that nobody has asked -/
theorem list_zip {n : Nat} {Q : Value → Shared → Prop} (D : ZipApart z TI TO i1 i2 a b) (calm : A.handled = none) (Z : ZS s.heap z TI TO i1 i2 a b xs ys 0) (gz0 : IsZip s.heap z TI TO .none) (lx : xs.size = n) (ly : ys.size = n) (few : n ≤ 1000)
    (q : ∀ h' ts c, ts.length = n → h'.get? s.heap.objs.size = some (lstO (ts.map Value.ref) c) → Made h' xs ys ts → ts.Nodup → (∀ T ∈ ts, s.heap.objs.size < T) → (∀ c o, c ≠ z → c ≠ TO → c ≠ i1 → c ≠ i2 → s.heap.get? c = some o → h'.get? c = some o) →
      Q (.ref s.heap.objs.size) { s with heap := h' }) : wpAny (model prog w) A (call (.type "list") [.ref z]) Q E s := by
  obtain ⟨f0, f1, gz⟩ := Z.zip
  obtain ⟨x0, y0, gO⟩ := Z.o
  obtain ⟨o1, g1, _⟩ := id Z.n1
  obtain ⟨o2, g2, _⟩ := id Z.n2
  have lz : z < s.heap.objs.size := Heap.lt_size gz
  refine callType_codes (Q₁ := fun obj s₁ => obj = .ref s.heap.objs.size ∧ s₁ = { s with heap := s.heap.push (lstO [] 0) }) F.called_list (F.typeCall_list_1 _) F.entry_list_init (code_list_new _ ⟨rfl, rfl⟩) fun obj s₁ e => ?_
  obtain ⟨rfl, rfl⟩ := e
  have gS : (s.heap.push (lstO [] 0)).get? s.heap.objs.size = some (lstO [] 0) := Heap.get?_push_size _ rfl
  refine ⟨⟨_, gS, rfl⟩, F.args_list_init_2 _ _, ?_⟩
  show wpAny _ A.in1.in1 (do let old ← Builtin.List.listItems (.ref s.heap.objs.size); Builtin.List.listUpdate (.ref s.heap.objs.size) (fun _ => #[]); letGo old.toList.reverse; Builtin.List.listExtendWith (.ref s.heap.objs.size) (.ref z) .none) _ _ _
  refine wpAny_bind ?_
  unfold Builtin.List.listItems
  refine wpAny_bind (wpAny_seqItems gS rfl (wpAny_pure ?_))
  show wpAny _ A.in1.in1 (updateSeq s.heap.objs.size (fun _ => #[]) >>= fun _ => letGo (#[] : Array Value).toList.reverse >>= fun _ => Builtin.List.listExtendWith (.ref s.heap.objs.size) (.ref z) .none) _ _ _
  refine wpAny_bind (wpAny_updateSeq gS rfl ?_)
  have gS2 := Heap.get?_update_self (Obj.mapSeq (fun _ => (#[] : Array Value))) gS rfl
  refine wpAny_bind (wpAny_letGo ?_)
  have oth2 : ∀ c o, c ≠ s.heap.objs.size → (s.heap.push (lstO [] 0)).get? c = some o → ((s.heap.push (lstO [] 0)).update s.heap.objs.size (Obj.mapSeq (fun _ => (#[] : Array Value)))).get? c = some o := fun c o nc e => (Heap.get?_update_other _ _ (Ne.symm nc)).trans e
  have nzS : z ≠ s.heap.objs.size := Nat.ne_of_lt lz
  have gz2 : IsZip ((s.heap.push (lstO [] 0)).update s.heap.objs.size (Obj.mapSeq (fun _ => (#[] : Array Value)))) z TI TO .none := oth2 _ _ nzS (Heap.get?_push_of_some _ gz0)
  have ty : ∀ {h : Heap} {g d t os}, IsZip h z TI TO .none → Shared.TypeIs ⟨h, g, d, t, os⟩ (.ref z) "zip" := fun e => ⟨_, e, rfl⟩
  unfold Builtin.List.listExtendWith
  refine wpAny_bind (wpAny_typeOf (ty gz2) ?_)
  have c1 : Builtin.List.listSameRef (.ref s.heap.objs.size) (.ref z) = false := by simp [Builtin.List.listSameRef, Ne.symm nzS]
  have c2 : (Value.type "zip" == Value.type "list") = false := by decide
  have c3 : (Value.type "zip" == Value.type "tuple") = false := by decide
  simp only [c1, c2, c3, Bool.or_false, Bool.false_eq_true, if_false]
  refine wpAny_bind (wpAny_pyIter_zip gz2 (wpAny_bind (wpAny_holding ?_)))
  unfold Builtin.List.listLengthHint
  refine wpAny_bind (wpAny_specialOf (ty gz2) zip_len ?_)
  show wpAny _ A.in1.in1 (specialOf (Value.ref z) (Str.ofString "__length_hint__") >>= _) _ _ _
  refine wpAny_bind (wpAny_specialOf (ty gz2) zip_hint (wpAny_pure ?_))
  show wpAny _ A.in1.in1 (rule "list.extend.makes-room" >>= fun _ => Builtin.List.listTouch (.ref s.heap.objs.size) >>= fun _ => again (.builtin "list.extend.loop" ⟨[.ref s.heap.objs.size, .ref z, .none], []⟩)) _ _ _
  refine wpAny_bind (wpAny_rule (wpAny_bind ?_))
  show wpAny _ A.in1.in1 (updateSeq s.heap.objs.size (·.push .none) >>= fun _ => updateSeq s.heap.objs.size (·.pop)) _ _ _
  refine wpAny_bind (wpAny_updateSeq gS2 rfl ?_)
  have gS3 := Heap.get?_update_self (Obj.mapSeq (·.push Value.none)) gS2 rfl
  refine wpAny_updateSeq (hz := by seq_fits) gS3 rfl ?_
  have gS4 := Heap.get?_update_self (Obj.mapSeq (·.pop)) gS3 rfl
  have oth4 : ∀ c o, c ≠ s.heap.objs.size → (s.heap.push (lstO [] 0)).get? c = some o → ((((s.heap.push (lstO [] 0)).update s.heap.objs.size (Obj.mapSeq (fun _ => (#[] : Array Value)))).update s.heap.objs.size (Obj.mapSeq (·.push Value.none))).update s.heap.objs.size (Obj.mapSeq (·.pop))).get? c = some o :=
    fun c o nc e => (Heap.get?_update_other _ _ (Ne.symm nc)).trans ((Heap.get?_update_other _ _ (Ne.symm nc)).trans (oth2 c o nc e))
  obtain ⟨c4, e4⟩ : ∃ c4, Obj.mapSeq (·.pop) (Obj.mapSeq (·.push Value.none) (Obj.mapSeq (fun _ => (#[] : Array Value)) (lstO [] 0))) = lstO (([] : List Addr).map Value.ref) c4 := ⟨_, rfl⟩
  rw [e4] at gS4
  have Z4 := (Z.mono fun c o e => Heap.get?_push_of_some _ e).keep gS oth4
  have big : s.heap.objs.size + 1 ≤ ((((s.heap.push (lstO [] 0)).update s.heap.objs.size (Obj.mapSeq (fun _ => (#[] : Array Value)))).update s.heap.objs.size (Obj.mapSeq (·.push Value.none))).update s.heap.objs.size (Obj.mapSeq (·.pop))).objs.size := Nat.succ_le_of_lt (Heap.lt_size gS4)
  refine wpAny_pure ⟨plainId_quiet F.plain_extend_loop _, loop (N := s.heap.objs.size + 1) D (show A.in1.handled = none by simp [calm]) lx ly few (Nat.lt_succ_of_lt lz) (Nat.lt_succ_of_lt (Heap.lt_size gO)) (Nat.lt_succ_of_lt (Heap.lt_size g1)) (Nat.lt_succ_of_lt (Heap.lt_size g2)) (Nat.lt_succ_self _) n 0 _ [] c4 (by omega) rfl Z4 gS4
    (fun j T hj => by simp at hj) List.nodup_nil (fun T hT => by simp at hT) big fun h' ts c a1 a2 a3 a4 a5 a6 => ?_⟩
  exact ⟨rfl, q h' ts c a1 a2 a3 a4 a5 fun c o k1 k2 k3 k4 e => a6 c o (Nat.ne_of_lt (Heap.lt_size e)) k1 k2 k3 k4 (oth4 _ _ (Nat.ne_of_lt (Heap.lt_size e)) (Heap.get?_push_of_some _ e))⟩
end
end LZ


set_option Elab.async false
set_option linter.all false
set_option maxRecDepth 100000
set_option maxHeartbeats 2000000
/-! list(zip(t, u)): the rule. -/
namespace BK
open PySem PySem.Spec PyProof.Rows L2
section
variable {X : Cx} {pins : List (Addr × Obj)} {σ : L2.St} {H : Hp} {s : Shared}
/-- nothing knows of the place a -/
structure Fr (X : Cx) (pins : List (Addr × Obj)) (a : Addr) : Prop where
  n0 : ∀ u, X.s_0.heap.get? a = some u → a ∈ X.ex ∨ X.H_0 a ≠ none
  nL : a ≠ X.env.locals
  nC : ∀ x c, X.env.cells.lookup x = some c → c ≠ a
  nP : ∀ p ∈ X.pn ++ pins, p.1 ≠ a
/-- a place above the heap -/
theorem Fr.of (I : Inv X pins σ H s) {a : Addr} (h : s.heap.objs.size ≤ a) : Fr X pins a := by
  have no : ∀ o, s.heap.get? a = some o → False := fun o e => Nat.lt_irrefl _ (Nat.lt_of_lt_of_le (Heap.lt_size e) h)
  refine ⟨fun u e => ?_, fun e => ?_, fun x c e z => ?_, fun p hp z => ?_⟩
  · by_cases hx : a ∈ X.ex
    · exact .inl hx
    · obtain ⟨o, q⟩ := I.base.there a u e hx
      exact (no o q).elim
  · obtain ⟨m, ⟨o, es, ep, q, _⟩, _⟩ := I.loc
    rw [e] at no
    exact no o q
  · obtain ⟨v, o, q, _⟩ := I.cell x c e
    rw [z] at q
    exact no o q
  · have q := (I.pin p hp).1
    rw [z] at q
    exact no _ q
theorem tell {a : Addr} {o : HO} (I : Inv X pins σ H s) (na : H a = none) (F : Fr X pins a) (ok : ObjOk X.prog X.w (upd H a o) s.heap a o) : Inv X pins σ (upd H a o) s := by
  have at_ : ∀ b u, H b = some u → upd H a o b = some u := same_new na
  refine ⟨I.ok, I.os, I.bare, ⟨I.base.keep, I.base.slot, fun b u e n hx => ?_, I.base.there, fun b xs e => at_ _ _ (I.base.tups b xs e), fun b u v e => at_ _ _ (I.base.frzs b u v e), fun b ps e => ?_⟩, I.loc, I.cell, ?_, fun x c e => ?_, fun p hp => ?_, fun b u e => ?_, I.len⟩
  · by_cases hb : b = a
    · subst hb
      exact ((F.n0 u e).elim (fun z => absurd z hx) fun z => absurd n z)
    · rw [upd_ne hb]
      exact I.base.free b u e n hx
  · obtain ⟨more, e'⟩ := I.base.tbls b ps e
    exact ⟨more, at_ _ _ e'⟩
  · rw [upd_ne F.nL.symm]
    exact I.free
  · rw [upd_ne (F.nC x c e)]
    exact I.freeC x c e
  · obtain ⟨h1, h2, h3⟩ := I.pin p hp
    exact ⟨h1, by rw [upd_ne (F.nP p hp)]; exact h2, h3⟩
  · by_cases hb : b = a
    · subst hb
      rw [upd_same] at e
      cases e
      exact ok
    · rw [upd_ne hb] at e
      exact (I.hok b u e).stay (fun _ _ _ q => q) (fun b q => at_ _ _ q) fun b xs q => at_ _ _ q
/-- new pairs are told of -/
theorem tell_pairs : ∀ (zs : List (Addr × V × V)) {H : Hp}, (zs.map (·.1)).Nodup → (∀ z ∈ zs, Fr X pins z.1 ∧ H z.1 = none ∧ ∃ u v, RelV z.2.1 u ∧ RelV z.2.2 v ∧ IsPair s.heap z.1 u v) → Inv X pins σ H s →
    ∃ H', Inv X pins σ H' s ∧ Same H H' ∧ (∀ z ∈ zs, H' z.1 = some (.tup [z.2.1, z.2.2])) ∧ ∀ a, H a = none → a ∉ zs.map (·.1) → H' a = none
  | [], H, _, _, I => ⟨H, I, fun _ _ e => e, fun _ h => by simp at h, fun _ e _ => e⟩
  | (a, x, y) :: r, H, nd, h, I => by
    rw [List.map_cons] at nd
    obtain ⟨n1, n2⟩ := List.nodup_cons.mp nd
    obtain ⟨F, na, u, v, ru, rv, hp⟩ := h _ List.mem_cons_self
    have I1 : Inv X pins σ (upd H a (.tup [x, y])) s := tell I na F ⟨(by show 2 ≤ sizeLine; decide), [u, v], .cons ru (.cons rv .nil), ⟨_, hp, rfl, _, rfl⟩⟩
    obtain ⟨H', I2, s2, at2, no2⟩ := tell_pairs r n2 (fun z hz => by
      obtain ⟨F', nz, q⟩ := h z (List.mem_cons_of_mem _ hz)
      refine ⟨F', ?_, q⟩
      have : z.1 ≠ a := fun e => n1 (by rw [← e]; exact List.mem_map.mpr ⟨z, hz, rfl⟩)
      rw [upd_ne this]
      exact nz) I1
    refine ⟨H', I2, (same_new na).trans s2, fun z hz => ?_, fun b e nb => ?_⟩
    · rcases List.mem_cons.mp hz with q | q
      · rw [q]
        exact s2 _ _ upd_same
      · exact at2 z q
    · rw [List.map_cons, List.mem_cons, not_or] at nb
      refine no2 b ?_ nb.2
      rw [upd_ne nb.1]
      exact e
end
theorem vals_refs : ∀ ts : List Addr, Vals (ts.map V.ref) (ts.map Value.ref)
  | [] => .nil
  | t :: r => .cons rfl (vals_refs r)
def tListZip (K : PySem.W.Frag) (ta : TA) : TE := fun σ H Q => ta σ H fun vs H1 => ∃ a b xs ys, vs = [.ref a, .ref b] ∧ SqT K H1 a xs ∧ SqT K H1 b ys ∧ xs.length = ys.length ∧ xs.length ≤ 1000 ∧
  ∀ (L : Addr) (ts : List Addr) (H' : Hp), Same H1 H' → H1 L = none → H' L = some (.lst (ts.map V.ref)) → ts.length = xs.length → (∀ (j : Nat) (T : Addr), ts[j]? = some T → ∃ x y, xs[j]? = some x ∧ ys[j]? = some y ∧ H' T = some (.tup [x, y])) → Q (.ref L) H'
section
variable {X : Cx}
theorem pe_listZip {e e2 : Expr} {ta : TA} {p p2 q pos : Pos} (hc : X.calm = true) (g1 : Gl X "list") (m1 : X.mg "list" = none) (g2 : Gl X "zip") (m2 : X.mg "zip" = none) (ha : PA X [e, e2] ta)
    (hs : starEach [e, e2] X.env = (false, eval e X.env) :: starEach [e2] X.env := by rfl) (hpl : (backTo q (starEach [e2] X.env)).any (·.1) = false := by rfl) : PE X (.Call (.Name "list" p) [.Call (.Name "zip" p2) [e, e2] [] q] [] pos) (tListZip X.K ta) := by
  refine ⟨fun pins s σ H Q I h => Call_ (ld_blt I g1 m1 boot_list (PyProof.Rows.callWith_type1 (PyProof.Rows.args_cons ?_ rfl) rfl rfl))⟩
  refine Call_ (ld_blt I g2 m2 PyProof.Rows.boot_zip (PyProof.Rows.callWith_type1 (thn (ha.run q pins s σ H _ I h) fun us s1 z => ?_) hs hpl))
  obtain ⟨vs, H1, I1, r1, a, b, xs, ys, rfl, sa, sb, el, few, k⟩ := z
  obtain ⟨u1, u2, rfl, ra, rb⟩ := vals2 r1
  obtain rfl : u1 = Value.ref a := ra
  obtain rfl : u2 = Value.ref b := rb
  obtain ⟨its, rx, ta, zx⟩ := I1.tuple sa
  obtain ⟨its2, ry, tb, zy⟩ := I1.tuple sb
  obtain ⟨oa, ga, _⟩ := id ta
  obtain ⟨ob, gb, _⟩ := id tb
  have lx : its.toArray.size = xs.length := by rw [List.size_toArray, rx.length]
  have ly : its2.toArray.size = xs.length := by rw [List.size_toArray, ← ry.length, el]
  refine RZ.call_zipT (show s1.heap.IsTuple a its.toArray from ta) (show s1.heap.IsTuple b its2.toArray from tb) fun h' hz hTI hTO h1 h2 hsz hk => PyProof.Rows.args_nil ?_
  have Z : LZ.ZS h' (s1.heap.objs.size + 4) (s1.heap.objs.size + 2) (s1.heap.objs.size + 3) s1.heap.objs.size (s1.heap.objs.size + 1) a b its.toArray its2.toArray 0 :=
    ⟨hTI, ⟨_, _, hTO⟩, h1, h2, (show s1.heap.IsTuple a its.toArray from ta).at fun o e => hk _ o e, (show s1.heap.IsTuple b its2.toArray from tb).at fun o e => hk _ o e, .inl ⟨rfl, hz⟩⟩
  refine LZ.list_zip (s := { s1 with heap := h' }) (PySem.W.ktu_apart s1.heap.objs.size a b (Heap.lt_size ga) (Heap.lt_size gb)) (I1.ok.hd hc) Z hz lx ly few fun h2 ts c a1 a2 a3 a4 a5 a6 => ?_
  have lt : ∀ {c : Addr} {o : Obj} (m : Nat), s1.heap.get? c = some o → c ≠ s1.heap.objs.size + m := fun m e => Nat.ne_of_lt (Nat.lt_of_lt_of_le (Heap.lt_size e) (Nat.le_add_right _ _))
  have kp : ∀ c o, s1.heap.get? c = some o → h2.get? c = some o := fun c o e => a6 c o (lt 4 e) (lt 3 e) (Nat.ne_of_lt (Heap.lt_size e)) (lt 1 e) (hk c o e)
  have I2 : Inv X pins σ H1 { s1 with heap := h2 } := I1.kept (t' := s1.toks) kp
  have up : s1.heap.objs.size ≤ h'.objs.size := by rw [hsz]; exact Nat.le_add_right _ _
  have ezs : (ts.zip (xs.zip ys)).map (·.1) = ts := by
    rw [List.map_fst_zip]
    rw [List.length_zip]
    omega
  have inz : ∀ z ∈ ts.zip (xs.zip ys), ∃ j, ts[j]? = some z.1 ∧ xs[j]? = some z.2.1 ∧ ys[j]? = some z.2.2 := fun z hz => by
    obtain ⟨j, hj⟩ := List.getElem?_of_mem hz
    obtain ⟨T, x, y⟩ := z
    obtain ⟨q1, q2⟩ := List.getElem?_zip_eq_some.mp hj
    obtain ⟨q3, q4⟩ := List.getElem?_zip_eq_some.mp q2
    exact ⟨j, q1, q3, q4⟩
  obtain ⟨H2, I3, s3, at3, no3⟩ := tell_pairs (ts.zip (xs.zip ys)) (by rw [ezs]; exact a4) (fun z hz => by
    obtain ⟨j, q1, q2, q3⟩ := inz z hz
    obtain ⟨u', v', w1, w2, w3⟩ := a3 j z.1 q1
    obtain ⟨u, w4, ru⟩ := rx.get q2
    obtain ⟨v, w5, rv⟩ := ry.get q3
    have e1 : u' = u := Option.some.inj (w1.symm.trans (by rw [List.getElem?_toArray]; exact w4))
    have e2 : v' = v := Option.some.inj (w2.symm.trans (by rw [List.getElem?_toArray]; exact w5))
    rw [e1, e2] at w3
    have le : s1.heap.objs.size ≤ z.1 := Nat.le_trans up (Nat.le_of_lt (a5 z.1 (List.mem_of_getElem? q1)))
    exact ⟨Fr.of I1 le, I1.hok.fresh le, u, v, ru, rv, w3⟩) I2
  have nL : H2 h'.objs.size = none := no3 _ (I1.hok.fresh up) (by
    rw [ezs]
    intro m
    exact Nat.lt_irrefl _ (a5 _ m))
  have I4 : Inv X pins σ (upd H2 h'.objs.size (.lst (ts.map V.ref))) { s1 with heap := h2 } := tell I3 nL (Fr.of I1 up) ⟨by rw [List.length_map, a1]; exact Nat.le_of_lt (small1000 few), ts.map Value.ref, c, vals_refs ts, a2⟩
  refine ⟨.ref h'.objs.size, _, I4, rfl, k h'.objs.size ts _ (s3.trans (same_new nL)) (I1.hok.fresh up) upd_same a1 fun j T hj => ?_⟩
  have jl : j < ts.length := (List.getElem?_eq_some_iff.mp hj).1
  have hx : xs[j]? = some xs[j] := List.getElem?_eq_getElem (by omega)
  have hy : ys[j]? = some ys[j] := List.getElem?_eq_getElem (by omega)
  have mem : (T, xs[j], ys[j]) ∈ ts.zip (xs.zip ys) := List.mem_of_getElem? (i := j) (List.getElem?_zip_eq_some.mpr ⟨hj, List.getElem?_zip_eq_some.mpr ⟨hx, hy⟩⟩)
  exact ⟨xs[j], ys[j], hx, hy, same_new nL _ _ (at3 _ mem)⟩
end
end BK


set_option Elab.async false
set_option maxRecDepth 100000
set_option maxHeartbeats 1000000
/-! parts_of. -/
namespace BK
open PySem PySem.Spec PyProof.Rows L2
/-- the words and the kinds of their parts -/
def kindTab : List (Str × List Str) := [("set", ["variable", "source"]), ("hold", ["token", "variable", "source"]), ("reset", ["token"]), ("drop", ["variable"]), ("show", ["variable"]), ("copy", ["context"]), ("within", ["context", "block"]),
  ("if", ["variable", "integer", "block", "block"]), ("with", ["variable", "source", "block"]), ("guard", ["block", "block"]), ("loop", ["block"]), ("leave", []), ("yield", []), ("fail", [])]
def kindsOf (w : Str) : Option (List Str) := (kindTab.find? fun e => decide (e.1 = w)).map (·.2)
theorem tab_few : (kindTab.all fun e => decide (e.2.length ≤ 4)) = true := by decide +kernel
theorem kinds_few {w : Str} {ks : List Str} (h : kindsOf w = some ks) : ks.length ≤ 4 := by
  unfold kindsOf at h
  cases e : kindTab.find? fun e => decide (e.1 = w) with
  | none => rw [e] at h; cases h
  | some x =>
    rw [e] at h
    have q : x.2 = ks := Option.some.inj h
    rw [← q]
    exact of_decide_eq_true (List.all_eq_true.mp tab_few x (List.mem_of_find?_eq_some e))
structure Parts (K : PySem.W.Frag) (mg : Str → Option Value) (w : World) : Prop where
  at_ : ∃ p, mg "PARTS" = some (.ref p) ∧ ∀ x ks, kindsOf x = some ks → ∃ t, KDct K w p x (.ref t) ∧ ∀ H, SqT K H t (ks.map V.str)
theorem cut1 (x : V) (r : List V) : cutV (x :: r) (some 1) none = r := by
  have e : HT.sIx (x :: r).length 0 (some 1) = 1 := by
    simp [HT.sIx]
  have e2 : HT.sIx (x :: r).length (x :: r).length none = r.length + 1 := by
    simp [HT.sIx]
  unfold cutV
  rw [e, e2]
  simp
def spParts (K : PySem.W.Frag) : Sp := fun vs H Q _ => ∃ v x rest ks, vs = [v] ∧ TrAt K H v (.tup (.str x :: rest)) ∧ kindsOf x = some ks ∧ rest.length = ks.length ∧
  ∀ (L : Addr) (ts : List Addr) (H' : Hp), Same H H' → H' L = some (.lst (ts.map V.ref)) → ts.length = ks.length → (∀ (j : Nat) (T : Addr), ts[j]? = some T → ∃ y t k, rest[j]? = some t ∧ ks[j]? = some k ∧ TrAt K H' y t ∧ H' T = some (.tup [y, .str k])) → Q (.ref L) H'
abbrev sParts : Stmt := top 25
theorem scParts : FnScope ["statement"] ["statement"] (defScope sParts) := ⟨rfl, rfl, rfl, by decide +kernel, rfl, by decide +kernel, by decide +kernel⟩
section
variable {P : Program} {w : World} {K : PySem.W.Frag} {mg : Str → Option Value} {base : Heap}
theorem ok_parts {f : Addr} {fd : FuncData} (F : Fun K "parts_of" "parts_of" sParts f fd) (U : Parts K mg w) (mL : mg "list" = none) (mZ : mg "zip" = none) : FnOk P w K mg base CX0 1 f fd ["statement"] (spParts K) := by
  refine F.ok scParts (fun vs H Q E h => ?_) (fun cdv A outer s H vs Q E hr h => ?_)
  · obtain ⟨v, x, rest, ks, rfl, _⟩ := h
    rfl
  · obtain ⟨v, x, rest, ks, rfl, tv, ek, el, k⟩ := h
    obtain ⟨p, gP, at_⟩ := U.at_
    obtain ⟨t, kd, st⟩ := at_ x ks ek
    refine ⟨_, pss_one (ps_ret (pe_listZip rfl (by rfl) mL (by rfl) mZ (pa_cons (pe_slice sl_tup (pv 0) (po_some pe_int) po_none) (pa_cons (pe_ix ix_kdict (pe_glob (v := .ref p) rfl gP rfl) (pe_ix ix_tup (pv 0) pe_int (fun _ _ => rfl)) (fun _ _ => rfl)) pa_nil)))), ?_⟩
    cases tv with
    | @tup a xs _ h tr =>
    cases tr with
    | @cons y ys _ _ hy rs =>
    cases hy with
    | str _ hx =>
    refine ⟨_, rfl, 1, rfl, a, _, rfl, h, (by rintro ⟨e, _⟩; simp [HT.sIx] at e), fun q nq => ?_⟩
    rw [cut1]
    have s1 := same_new (o := .tup ys) nq
    refine ⟨_, rfl, a, _, 0, _, rfl, rfl, sqt_same s1 h, at_of (j := 0) rfl rfl, p, x, .ref t, rfl, rfl, kd, ?_⟩
    refine ⟨q, t, ys, ks.map V.str, rfl, SqT.of upd_same, st _, by rw [rs.len, List.length_map]; exact el, by rw [rs.len, el]; have := kinds_few ek; omega, fun L ts H' s2 nL eL lt at2 => ?_⟩
    refine k L ts H' (s1.trans s2) eL (by rw [lt, rs.len]; exact el) fun j T hj => ?_
    obtain ⟨y', k', q1, q2, q3⟩ := at2 j T hj
    obtain ⟨t', q4, q5⟩ := (rs.same (s1.trans s2)).get q1
    rw [List.getElem?_map] at q2
    cases e : ks[j]? with
    | none => rw [e] at q2; cases q2
    | some kk =>
      rw [e] at q2
      obtain rfl : V.str kk = k' := Option.some.inj q2
      exact ⟨y', t', kk, q4, rfl, q5, q3⟩
end
end BK


set_option Elab.async false
set_option maxRecDepth 100000
set_option maxHeartbeats 1000000
/-! has_form. -/
namespace BK
open PySem PySem.Spec PyProof.Rows L2 RZ
def wordV : Tr → V
  | .tup (.str w :: _) => .str w
  | _ => .non
def fitsT (rest : List Tr) (ks : List Str) : Bool := decide (rest.length = ks.length) && (rest.zip ks).all fun e => partT e.1 e.2
def formT : Tr → Bool
  | .tup (.str w :: rest) => match kindsOf w with
    | some ks => fitsT rest ks
    | none => false
  | _ => false
theorem no_args {w : Str} {ks : List Str} (h : kindsOf w = some ks) : ("args" : Str) ∉ ks := by
  have all : (kindTab.all fun e => decide (("args" : Str) ∉ e.2)) = true := by decide +kernel
  unfold kindsOf at h
  cases e : kindTab.find? fun e => decide (e.1 = w) with
  | none => rw [e] at h; cases h
  | some x =>
    rw [e] at h
    have q : x.2 = ks := Option.some.inj h
    rw [← q]
    exact of_decide_eq_true (List.all_eq_true.mp all x (List.mem_of_find?_eq_some e))
theorem walk_zipT {K : PySem.W.Frag} {a b : Addr} {xs ys : List V} {n : Nat} (hn : n = min xs.length ys.length) : Walk (ItzT K a b) n (fun H => SqT K H a xs ∧ SqT K H b ys) (YPair (fun i => xs[i]?) (fun i => ys[i]?)) := by
  subst hn
  refine ⟨fun i _ hi q => ?_, fun _ q => ⟨xs, ys, q.1, q.2, by omega⟩, fun i H v H' _ q y => ?_⟩
  · have h1 : i < xs.length := by omega
    have h2 : i < ys.length := by omega
    exact ⟨xs, ys, xs[i], ys[i], q.1, q.2, by simp [h1], by simp [h2]⟩
  · obtain ⟨T, x, z, h1, h2, h3, h4, h5⟩ := y
    exact ⟨T, x, z, h1, h2, h3, h4 xs q.1, h5 ys q.2⟩
def spWord (K : PySem.W.Frag) : Sp := fun vs H Q _ => ∃ v t, vs = [v] ∧ TrAt K H v t ∧ Q (wordV t) H
def spFits (K : PySem.W.Frag) : Sp := fun vs H Q _ => ∃ v b t0 rest ks, vs = [v, .ref b] ∧ TrAt K H v (.tup (t0 :: rest)) ∧ SqT K H b (ks.map V.str) ∧ ks.length ≤ 1000 ∧ (("args" : Str) ∈ ks → ∀ t ∈ rest, ∀ ts, t = .tup ts → ts.length ≤ 4000000) ∧
  ∀ H', Same H H' → Q (.bl (fitsT rest ks)) H'
/-- the dict of the words as it is written -/
structure PartsD (K : PySem.W.Frag) (mg : Str → Option Value) (w : World) (p : Addr) (es : Array DictEntry) (n : Nat) : Prop where
  d : KDict K w p es n
  g : mg "PARTS" = some (.ref p)
  at_ : ∀ x ks, kindsOf x = some ks → ∃ t, PySem.W.nsIn K p x = some (some (.ref t)) ∧ ∀ H, SqT K H t (ks.map V.str)
  no : ∀ x, kindsOf x = none → PySem.W.nsIn K p x = some none
theorem PartsD.parts {K : PySem.W.Frag} {mg : Str → Option Value} {w : World} {p : Addr} {es : Array DictEntry} {n : Nat} (D : PartsD K mg w p es n) : Parts K mg w := ⟨p, D.g, fun x ks e => by
  obtain ⟨t, h1, h2⟩ := D.at_ x ks e
  exact ⟨t, ⟨es, n, _, D.d.at_, D.d.lit, h1, rfl⟩, h2⟩⟩
abbrev sWord : Stmt := top 21
abbrev sFits : Stmt := top 22
abbrev sForm : Stmt := top 23
theorem scWord : FnScope ["thing"] ["thing"] (defScope sWord) := ⟨rfl, rfl, rfl, by decide +kernel, rfl, by decide +kernel, by decide +kernel⟩
theorem scFits : FnScope ["thing", "kinds", "part", "kind"] ["thing", "kinds"] (defScope sFits) := ⟨rfl, rfl, rfl, by decide +kernel, rfl, by decide +kernel, by decide +kernel⟩
theorem scForm : FnScope ["thing", "word"] ["thing"] (defScope sForm) := ⟨rfl, rfl, rfl, by decide +kernel, rfl, by decide +kernel, by decide +kernel⟩
section
variable {P : Program} {w : World} {K : PySem.W.Frag} {mg : Str → Option Value} {base : Heap}
theorem ok_word {f : Addr} {fd : FuncData} (F : Fun K "word_of" "word_of" sWord f fd) (T : Forms mg) : FnOk P w K mg base CX0 1 f fd ["thing"] (spWord K) := by
  refine F.ok scWord (fun vs H Q E h => ?_) (fun cdv A outer s H vs Q E hr h => ?_)
  · obtain ⟨v, t, rfl, _⟩ := h
    rfl
  · obtain ⟨v, t, rfl, ht, k⟩ := h
    refine ⟨_, pss_cons (ps_if (PW.pt (pw_and (pt_val (pe_callB call_isi (by rfl) T.isi boot_isinstance (pa_cons (pv 0) (pa_cons (pe_bltn (v := .ty "tuple") (u := .type "tuple") (by rfl) T.tuple (by decide +kernel) rfl) pa_nil))))
        (pw_and (pt_cmpR op_gt (pe_callB call_len_seq (by rfl) T.len boot_len (pa_cons (pv 0) pa_nil)) pe_int (nomark _))
        (pw_and1 (pt_val (pe_callB call_isi (by rfl) T.isi boot_isinstance (pa_cons (pe_ix ix_tup (pv 0) pe_int (fun _ _ => rfl)) (pa_cons (pe_bltn (v := .ty "str") (u := .type "str") (by rfl) T.str (by decide +kernel) rfl) pa_nil)))))))) (pss_one (ps_ret (pe_ix ix_tup (pv 0) pe_int (fun _ _ => rfl)))) pss_nil)
      (pss_one (ps_ret pe_non)), ?_⟩
    refine ⟨_, rfl, v, .ty "tuple", .type (tyT t), .type "tuple", isTup t, rfl, .ty "tuple", ht.ty, k_tup K t, _, rfl, ?_⟩
    cases ht with
    | int i => exact iteF k
    | bl b => exact iteF k
    | str z hz => exact iteF k
    | non => exact iteF k
    | lst h => exact iteF k
    | dct h => exact iteF k
    | @tup a xs ts h tr =>
    refine iteT ⟨_, rfl, a, xs, rfl, .inr h, _, _, rfl, rfl, _, rfl, ?_⟩
    cases tr with
    | nil => exact iteF k
    | @cons y ys t0 rest hy rs =>
    refine ite2 (fun _ => ?_) (fun z => ?_)
    · refine ⟨_, rfl, a, _, 0, y, rfl, rfl, h, at_of (j := 0) rfl rfl, y, .ty "str", .type (tyT t0), .type "str", isStr t0, rfl, .ty "str", hy.ty, k_str K t0, _, rfl, ?_⟩
      cases hy with
      | int i => exact iteF k
      | bl b => exact iteF k
      | non => exact iteF k
      | lst h => exact iteF k
      | dct h => exact iteF k
      | tup h r => exact iteF k
      | str x hx => exact iteT ⟨_, rfl, a, _, 0, _, rfl, rfl, h, at_of (j := 0) rfl rfl, k⟩
    · have : ((y :: ys).length : Int) > 0 := by rw [List.length_cons]; omega
      exact absurd (decide_eq_true this) z
theorem ok_fits {f fP : Addr} {fd fdP : FuncData} (F : Fun K "fits" "fits" sFits f fd) (T : Forms mg) (mZ : mg "zip" = none)
    (GP : FnOk P w K mg base CX0 3 fP fdP ["thing", "kind"] (spPart K)) (bP : Binds K fdP ["thing", "kind"] []) (gP : mg "is_part" = some (.ref fP)) (kP : PySem.W.keepIn K (.ref fP) = true) : FnOk P w K mg base CX0 4 f fd ["thing", "kinds"] (spFits K) := by
  refine F.ok scFits (fun vs H Q E h => ?_) (fun cdv A outer s H vs Q E hr h => ?_)
  · obtain ⟨v, b, t0, rest, ks, rfl, _⟩ := h
    rfl
  · obtain ⟨v, b, t0, rest, ks, rfl, ht, sb, kl, na, k⟩ := h
    refine ⟨_, pss_cons (ps_if (pt_cmpR op_ne (pe_callB call_len_seq (by rfl) T.len boot_len (pa_cons (pv 0) pa_nil)) (pe_op op_add pe_int (pe_callB call_len_seq (by rfl) T.len boot_len (pa_cons (pv 1) pa_nil))) (nomark _)) (pss_one (ps_ret pe_bl)) pss_nil)
      (pss_one (ps_ret (pe_callB (cr_all rfl) (by rfl) T.all (by decide +kernel) (pa_cons (pe_lc (own := [("part", 2), ("kind", 3)]) (g := gTup K 2 (gCons (gName 2) (gCons (gName 3) gNil))) (tt := tYes) (te := tCall (spPart K) [] E0 (tCons (tVar 2) (tCons (tVar 3) tNil))) rfl scFits.nd
          (pi_zipA (by rfl) mZ (pa_cons (pe_slice sl_tup (pv 0) (po_some pe_int) po_none) (pa_cons (pv 1) pa_nil))) (blkOk_by (N := ["thing", "kinds", "part", "kind"]) (sc := defScope sFits) (by decide +kernel))
          (fun _ _ _ _ _ => by exact pg_tup rfl (pgs_cons (pg_name (i := 2) scFits.nd rfl (Or.inl rfl)) (pgs_cons (pg_name (i := 3) scFits.nd rfl (Or.inl rfl)) pgs_nil))) (fun _ _ _ _ _ => pts_nil)
          (fun _ _ _ _ _ => by exact pe_call GP hr rfl gP kP bP .nil pass0 (pa_cons (pv 2) (pa_cons (pv 3) pa_nil)))) pa_nil)))), ?_⟩
    have q0 := k H fun _ _ e => e
    cases ht with
    | @tup a xs _ h tr =>
    cases tr with
    | @cons y ys _ _ hy rs =>
    have rl := rs.len
    refine ⟨_, rfl, a, _, rfl, .inr h, _, rfl, b, _, rfl, .inr sb, _, _, rfl, rfl, rfl, _, rfl, ?_⟩
    have el : decide (V.int ((y :: ys).length : Nat) = V.int (1 + ((ks.map V.str).length : Nat))) = decide (rest.length = ks.length) := by
      rw [dec_int, List.length_cons, List.length_map, rl]
      by_cases z : rest.length = ks.length
      · rw [decide_eq_true z, beq_iff_eq]
        omega
      · rw [decide_eq_false z, beq_eq_false_iff_ne]
        omega
    rw [el]
    unfold fitsT at k q0
    by_cases hl : rest.length = ks.length
    · rw [decide_eq_true hl] at k ⊢
      rw [Bool.true_and] at k
      refine iteF ?_
      refine ⟨_, rfl, 1, rfl, a, _, rfl, h, (by rintro ⟨e, _⟩; simp [HT.sIx] at e), fun q nq => ?_⟩
      rw [cut1]
      have s1 := same_new (o := .tup ys) nq
      refine ⟨_, rfl, q, b, ys, ks.map V.str, rfl, .inr ⟨SqT.of upd_same, sqt_same s1 sb, fun G nG => ?_⟩⟩
      generalize eH1 : upd H q (.tup ys) = H1 at s1 nG ⊢
      have sq : SqT K H1 q ys := by rw [← eH1]; exact SqT.of upd_same
      refine lc_it (walk_zipT (K := K) (a := q) (b := b) (xs := ys) (ys := ks.map V.str) rfl) (fun i H2 => Same H1 H2 ∧ H2 G = some (.lst ((((rest.zip ks).take i).map fun e => partT e.1 e.2).map V.bl))) ⟨same_new nG, upd_same⟩ (fun i H2 _ ⟨s2, _⟩ => ⟨sqt_same s2 sq, sqt_same (s1.trans s2) sb⟩) ?_ ?_
      · rintro i z H2 H3 hi ⟨s2, e2⟩ ⟨U, y', k', rfl, nU, rfl, q1, q2⟩
        have sU := same_new (o := .tup [y', k']) nU
        obtain ⟨t', q3, ty'⟩ := (rs.same ((s1.trans s2).trans sU)).get q1
        have q2 : (ks.map V.str)[i]? = some k' := q2
        rw [List.getElem?_map] at q2
        cases eK : ks[i]? with
        | none => rw [eK] at q2; cases q2
        | some kk =>
        rw [eK] at q2
        obtain rfl : V.str kk = k' := Option.some.inj q2
        have ez : (rest.zip ks)[i]? = some (t', kk) := List.getElem?_zip_eq_some.mpr ⟨q3, eK⟩
        have il : i < ks.length := (List.getElem?_eq_some_iff.mp eK).1
        refine ⟨U, _, rfl, SqT.of upd_same, rfl, _, _, rfl, _, _, rfl, rfl, rfl, ?_⟩
        refine tyes ?_
        refine ⟨_, rfl, _, rfl, y', t', kk, rfl, ty', fun ea ts et => na (by rw [← ea]; exact List.mem_of_getElem? eK) t' (List.mem_of_getElem? q3) ts et, fun H3 s3 => ⟨_, s3 _ _ (sU _ _ e2), small1000 (by rw [List.length_map, List.length_map, List.length_take]; omega), fun b o e => ?_, ?_⟩⟩
        · rw [upd_ne (ne_of_none e nG)]
          exact s3 _ _ (sU _ _ (s2 b o e))
        · rw [upd_same, List.take_add_one, ez, List.map_append, List.map_append]
          rfl
      · rintro H2 ⟨s2, e2⟩
        have et : (rest.zip ks).take (min ys.length (ks.map V.str).length) = rest.zip ks := by
          rw [List.take_of_length_le]
          rw [List.length_zip, List.length_map]
          omega
        rw [et] at e2
        refine ⟨G, _, rfl, SqL.of e2, ?_⟩
        have ea : ((rest.zip ks).map fun e => partT e.1 e.2).all id = (rest.zip ks).all fun e => partT e.1 e.2 := by rw [List.all_map]; rfl
        rw [ea]
        exact k H2 (s1.trans s2)
    · rw [decide_eq_false hl] at q0 ⊢
      rw [Bool.false_and] at q0
      exact iteT q0
theorem ok_form {f fW fF p : Addr} {fd fdW fdF : FuncData} {es : Array DictEntry} {n : Nat} (F : Fun K "has_form" "has_form" sForm f fd) (D : PartsD K mg w p es n)
    (GW : FnOk P w K mg base CX0 1 fW fdW ["thing"] (spWord K)) (bW : Binds K fdW ["thing"] []) (gW : mg "word_of" = some (.ref fW)) (kW : PySem.W.keepIn K (.ref fW) = true)
    (GF : FnOk P w K mg base CX0 4 fF fdF ["thing", "kinds"] (spFits K)) (bF : Binds K fdF ["thing", "kinds"] []) (gF : mg "fits" = some (.ref fF)) (kF : PySem.W.keepIn K (.ref fF) = true) : FnOk P w K mg base CX0 5 f fd ["thing"] (spOf formT K) := by
  refine F.ok scForm (fun vs H Q E h => ?_) (fun cdv A outer s H vs Q E hr h => ?_)
  · obtain ⟨v, t, rfl, _⟩ := h
    rfl
  · obtain ⟨v, t, rfl, ht, k⟩ := h
    have hr1 : Room 1 _ := hr.mono (by decide)
    refine ⟨_, pss_cons (ps_set (i := 1) scForm.nd rfl (Or.inl rfl) (pe_call GW hr1 rfl gW kW bW .nil pass0 (pa_cons (pv 0) pa_nil)))
      (pss_one (ps_ret (pe_and (pe_cmpR (op_in_kdN D.d) (pv 1) (pe_glob (v := .ref p) rfl D.g rfl) rfl) (pe_one (pe_call GF hr rfl gF kF bF .nil pass0 (pa_cons (pv 0) (pa_cons (pe_ix ix_kdict (pe_glob (v := .ref p) rfl D.g rfl) (pv 1) (fun _ _ => rfl)) pa_nil))))))), ?_⟩
    refine ⟨_, rfl, v, t, rfl, ht, ?_⟩
    have q0 := k H fun _ _ e => e
    have no : wordV t = .non → formT t = false := fun e => by
      unfold wordV at e
      unfold formT
      split at e
      · cases e
      · rfl
    by_cases hw : ∃ x rest, t = .tup (.str x :: rest)
    · obtain ⟨x, rest, rfl⟩ := hw
      cases ek : kindsOf x with
      | none =>
        have e : formT (.tup (.str x :: rest)) = false := by
          show (match kindsOf x with
            | some ks => fitsT rest ks
            | none => false) = false
          rw [ek]
        rw [e] at q0
        exact ⟨_, rfl, rfl, .inr ⟨x, none, rfl, D.no x ek, _, rfl, iteF q0⟩⟩
      | some ks =>
        have e : formT (.tup (.str x :: rest)) = fitsT rest ks := by
          show (match kindsOf x with
            | some ks => fitsT rest ks
            | none => false) = fitsT rest ks
          rw [ek]
        rw [e] at k
        obtain ⟨t, nt, st⟩ := D.at_ x ks ek
        refine ⟨_, rfl, rfl, .inr ⟨x, some (.ref t), rfl, nt, _, rfl, iteT ?_⟩⟩
        refine ⟨_, rfl, _, rfl, p, x, .ref t, rfl, rfl, ⟨es, n, _, D.d.at_, D.d.lit, nt, rfl⟩, v, t, _, rest, ks, rfl, ht, st _, by have := kinds_few ek; omega, fun z => absurd z (no_args ek), k⟩
    · have e : wordV t = .non := by
        unfold wordV
        split
        · exact absurd ⟨_, _, rfl⟩ hw
        · rfl
      rw [no e] at q0
      rw [e]
      exact ⟨_, rfl, rfl, .inl ⟨rfl, _, rfl, iteF q0⟩⟩
end
end BK


set_option Elab.async false
set_option maxRecDepth 100000
set_option maxHeartbeats 1000000
/-! has_yield, can_stand. -/
namespace BK
open PySem PySem.Spec PyProof.Rows L2
def isYield : Tr → Bool
  | .tup (.str w :: rest) => formT (.tup (.str w :: rest)) && decide (w = "yield")
  | _ => false
def yieldT (ts : List Tr) : Bool := ts.any isYield
def spYield (K : PySem.W.Frag) : Sp := fun vs H Q _ => ∃ v ts, vs = [v] ∧ TrAt K H v (.tup ts) ∧ ∀ H', Same H H' → Q (.bl (yieldT ts)) H'
abbrev sYield : Stmt := top 38
theorem scYield : FnScope ["block", "thing"] ["block"] (defScope sYield) := ⟨rfl, rfl, rfl, by decide +kernel, rfl, by decide +kernel, by decide +kernel⟩
theorem form_shape : ∀ {t : Tr}, formT t = true → ∃ w r, t = .tup (.str w :: r)
  | .tup (.str w :: r), _ => ⟨w, r, rfl⟩
theorem yield_form {t : Tr} (h : formT t = false) : isYield t = false := by
  unfold isYield
  split
  · rw [h, Bool.false_and]
  · rfl
section
variable {P : Program} {w : World} {K : PySem.W.Frag} {mg : Str → Option Value} {base : Heap}
theorem ok_yield {f fF : Addr} {fd fdF : FuncData} (F : Fun K "has_yield" "has_yield" sYield f fd) (GF : FnOk P w K mg base CX0 5 fF fdF ["thing"] (spOf formT K)) (bF : Binds K fdF ["thing"] []) (gF : mg "has_form" = some (.ref fF)) (kF : PySem.W.keepIn K (.ref fF) = true) :
    FnOk P w K mg base CX0 6 f fd ["block"] (spYield K) := by
  refine F.ok scYield (fun vs H Q E h => ?_) (fun cdv A outer s H vs Q E hr h => ?_)
  · obtain ⟨v, ts, rfl, _⟩ := h
    rfl
  · obtain ⟨v, ts, rfl, ht, k⟩ := h
    cases ht with
    | @tup a xs _ h tr =>
    refine ⟨_, pss_cons (ps_for PassesOwn.never rfl (pi_tup (pv 0)) (pg_name (i := 1) scYield.nd rfl (Or.inl rfl))
        (pss_one (ps_if (PW.pt (pw_and (pt_val (pe_call GF hr rfl gF kF bF .nil pass0 (pa_cons (pv 1) pa_nil))) (pw_and1 (pt_cmpR op_eq (pe_ix ix_tup (pv 1) pe_int (fun _ _ => rfl)) pe_str (nomark _))))) (pss_one (ps_ret pe_bl)) pss_nil)))
      (pss_one (ps_ret pe_bl)), ?_⟩
    refine ⟨_, rfl, a, rfl, ⟨xs, h⟩, for_tup (K := K) (a := a) (xs := xs) (fun i σ H2 => (∃ v1, σ = [some (.ref a), v1]) ∧ Same H H2 ∧ yieldT (ts.take i) = false) ⟨⟨none, rfl⟩, fun _ _ e => e, rfl⟩ (fun i σ H2 _ ⟨_, s2, _⟩ => sqt_same s2 h) ?_ ?_⟩
    · rintro i y σ H2 hi ⟨⟨v1, rfl⟩, s2, n2⟩
      obtain ⟨t, ht, ty⟩ := (tr.same s2).get hi
      have et : ts.take (i + 1) = ts.take i ++ [t] := by rw [List.take_add_one, ht]; rfl
      have ey : yieldT (ts.take (i + 1)) = isYield t := by
        unfold yieldT at n2 ⊢
        rw [et, List.any_append, n2, Bool.false_or]
        simp
      have all : isYield t = true → yieldT ts = true := fun e => by
        unfold yieldT
        rw [List.any_eq_true]
        exact ⟨t, List.mem_of_getElem? ht, e⟩
      refine ⟨_, rfl, y, t, rfl, ty, fun H3 s3 => ⟨_, rfl, ?_⟩⟩
      cases ef : formT t with
      | false => exact iteF (iteF ⟨⟨_, rfl⟩, s2.trans s3, by rw [ey, yield_form ef]⟩)
      | true =>
        obtain ⟨wd, r, rfl⟩ := form_shape ef
        cases ty with
        | @tup b ys _ hb tb =>
        obtain ⟨w0, hw, tw⟩ := tb.get' (i := 0) (t := .str wd) rfl
        cases tw with
        | str _ hz =>
        refine iteT ⟨_, rfl, b, ys, 0, _, rfl, rfl, sqt_same s3 hb, at_of (j := 0) rfl hw, rfl, _, rfl, ?_⟩
        rw [eq_txt]
        have e : isYield (.tup (.str wd :: r)) = decide (wd = "yield") := by
          show (formT (.tup (.str wd :: r)) && decide (wd = "yield")) = _
          rw [ef, Bool.true_and]
        refine ite2 (fun z => ?_) (fun z => ?_)
        · have q := k H3 (s2.trans s3)
          rw [all (e.trans z)] at q
          exact q
        · exact ⟨⟨_, rfl⟩, s2.trans s3, by rw [ey, e]; simpa using z⟩
    · rintro σ H2 ⟨⟨v1, rfl⟩, s2, n2⟩
      have q := k H2 s2
      have et : ts.take xs.length = ts := by rw [tr.len, List.take_length]
      rw [et] at n2
      rw [n2] at q
      exact q
end
end BK


set_option Elab.async false
set_option maxRecDepth 100000
set_option maxHeartbeats 1000000
/-! can_stand. -/
namespace BK
open PySem PySem.Spec PyProof.Rows L2
theorem in_txts (z : Str) : ∀ zs : List Str, inV (.str z) (zs.map V.str) = decide (z ∈ zs)
  | [] => rfl
  | y :: r => by
    have ih := in_txts z r
    unfold inV at ih ⊢
    rw [List.map_cons, List.any_cons, ih]
    show (y == z || decide (z ∈ r)) = _
    by_cases e : y = z
    · simp [e]
    · have e' : ¬ z = y := fun q => e q.symm
      simp [e, e', List.mem_cons]
theorem flat_txts : ∀ zs : List Str, (zs.map V.str).all flatV = true
  | [] => rfl
  | y :: r => by
    rw [List.map_cons, List.all_cons, flat_txts r]
    rfl
/-- may a statement of the word x stand within the words as? -/
def canT (x : Str) (rest : List Tr) (as : List Str) : Bool :=
  if x = "yield" then !decide (("within" : Str) ∈ as) else if x = "leave" then decide (("loop" : Str) ∈ as) && !decide (("within" : Str) ∈ as) else if x = "loop" then (match rest with
    | .tup ts :: _ => yieldT ts
    | _ => false) else true
def spCan (K : PySem.W.Frag) : Sp := fun vs H Q _ => ∃ v b x rest as, vs = [v, .ref b] ∧ TrAt K H v (.tup (.str x :: rest)) ∧ SqT K H b (as.map V.str) ∧ (x = "loop" → ∃ ts r, rest = .tup ts :: r) ∧ ∀ H', Same H H' → Q (.bl (canT x rest as)) H'
abbrev sCan : Stmt := top 37
theorem scCan : FnScope ["statement", "around", "word"] ["statement", "around"] (defScope sCan) := ⟨rfl, rfl, rfl, by decide +kernel, rfl, by decide +kernel, by decide +kernel⟩
section
variable {P : Program} {w : World} {K : PySem.W.Frag} {mg : Str → Option Value} {base : Heap}
theorem ok_can {f fY : Addr} {fd fdY : FuncData} (F : Fun K "can_stand" "can_stand" sCan f fd) (GY : FnOk P w K mg base CX0 6 fY fdY ["block"] (spYield K)) (bY : Binds K fdY ["block"] []) (gY : mg "has_yield" = some (.ref fY)) (kY : PySem.W.keepIn K (.ref fY) = true) :
    FnOk P w K mg base CX0 7 f fd ["statement", "around"] (spCan K) := by
  refine F.ok scCan (fun vs H Q E h => ?_) (fun cdv A outer s H vs Q E hr h => ?_)
  · obtain ⟨v, b, x, rest, as, rfl, _⟩ := h
    rfl
  · obtain ⟨v, b, x, rest, as, rfl, tv, sb, lp, k⟩ := h
    refine ⟨_, pss_cons (ps_set (i := 2) scCan.nd rfl (Or.inl rfl) (pe_ix ix_tup (pv 0) pe_int (fun _ _ => rfl)))
      (pss_cons (ps_if (pt_cmpR op_eq (pv 2) pe_str (nomark _)) (pss_one (ps_ret (pe_cmpR op_notIn_seq pe_str (pv 1) rfl))) pss_nil)
      (pss_cons (ps_if (pt_cmpR op_eq (pv 2) pe_str (nomark _)) (pss_one (ps_ret (pe_and (pe_cmpR op_in_seq pe_str (pv 1) rfl) (pe_one (pe_cmpR op_notIn_seq pe_str (pv 1) rfl))))) pss_nil)
      (pss_cons (ps_if (pt_cmpR op_eq (pv 2) pe_str (nomark _)) (pss_one (ps_ret (pe_call GY hr rfl gY kY bY .nil pass0 (pa_cons (pe_ix ix_tup (pv 0) pe_int (fun _ _ => rfl)) pa_nil)))) pss_nil)
      (pss_one (ps_ret pe_bl))))), ?_⟩
    have q0 := k H fun _ _ e => e
    cases tv with
    | @tup a xs _ h tr =>
    cases tr with
    | @cons y ys _ _ hy rs =>
    cases hy with
    | str _ hx =>
    refine ⟨_, rfl, a, _, 0, _, rfl, rfl, h, at_of (j := 0) rfl rfl, ?_⟩
    refine ⟨_, rfl, rfl, _, rfl, ?_⟩
    rw [eq_txt]
    refine ite2 (fun z => ?_) (fun z => ?_)
    · have e1 : x = "yield" := of_decide_eq_true z
      refine ⟨_, rfl, b, _, rfl, .inr sb, rfl, flat_txts as, ?_⟩
      show Q (.bl (!inV (.str "within") (as.map V.str))) H
      rw [in_txts]
      unfold canT at q0
      rw [if_pos e1] at q0
      exact q0
    have e1 : ¬ x = "yield" := fun q => z (decide_eq_true q)
    refine ⟨_, rfl, rfl, _, rfl, ?_⟩
    rw [eq_txt]
    refine ite2 (fun z => ?_) (fun z => ?_)
    · have e2 : x = "leave" := of_decide_eq_true z
      unfold canT at q0
      rw [if_neg e1, if_pos e2] at q0
      refine ⟨_, rfl, b, _, rfl, .inr sb, rfl, flat_txts as, inV (.str "loop") (as.map V.str), rfl, ?_⟩
      rw [in_txts]
      cases e : decide (("loop" : Str) ∈ as) with
      | false =>
        rw [e, Bool.false_and] at q0
        exact iteF q0
      | true =>
        rw [e, Bool.true_and] at q0
        refine iteT ⟨_, rfl, b, _, rfl, .inr sb, rfl, flat_txts as, ?_⟩
        show Q (.bl (!inV (.str "within") (as.map V.str))) H
        rw [in_txts]
        exact q0
    have e2 : ¬ x = "leave" := fun q => z (decide_eq_true q)
    refine ⟨_, rfl, rfl, _, rfl, ?_⟩
    rw [eq_txt]
    refine ite2 (fun z => ?_) (fun z => ?_)
    · have e3 : x = "loop" := of_decide_eq_true z
      obtain ⟨ts, r, rfl⟩ := lp e3
      cases rs with
      | @cons y2 _ _ _ h2 _ =>
      refine ⟨_, rfl, a, _, 1, y2, rfl, rfl, h, at_of (j := 1) rfl rfl, y2, ts, rfl, h2, fun H' s' => ?_⟩
      have q := k H' s'
      unfold canT at q
      rw [if_neg e1, if_neg e2, if_pos e3] at q
      exact q
    · have e3 : ¬ x = "loop" := fun q => z (decide_eq_true q)
      unfold canT at q0
      rw [if_neg e1, if_neg e2, if_neg e3] at q0
      exact q0
end
end BK


set_option Elab.async false
set_option linter.all false
set_option maxRecDepth 100000
set_option maxHeartbeats 2000000
/-! enumerate(tuple). -/
namespace ET
open PySem PySem.Spec PyProof.Rows L2
theorem meets_enumT (l : Addr) (items : Array Value) :
    Meets (Builtin.«enumerate.__new__» ⟨[.type "enumerate", .ref l], []⟩) (fun _ R s => s.heap.IsTuple l items ∧
      R (.ok (.ret (.ref (s.heap.push { cls := .type "tuple_iterator", data := .fields #[.ref l, .int 0 0] }).objs.size)))
        { s with heap := (s.heap.push { cls := .type "tuple_iterator", data := .fields #[.ref l, .int 0 0] }).push { cls := .type "enumerate", data := .fields #[.none, .bool false, .ref s.heap.objs.size, rawInt 0, .none, .none] } }) :=
  .of_wp fun prog w A R s h => by
    obtain ⟨hp, g, d, tk, os⟩ := s; obtain ⟨h1, h⟩ := h
    have hsub := sub_enumerate
    have q1 : ∀ {A' : Around} {E : Value → Shared → Prop} {Q : Value → Shared → Prop}, Q (.ref hp.objs.size) ⟨hp.push { cls := .type "tuple_iterator", data := .fields #[.ref l, .int 0 0] }, g, d, tk, os⟩ → wpAny (model prog w) A' (pyIter (.ref l)) Q E ⟨hp, g, d, tk, os⟩ :=
      fun q => wpAny_pyIter_tuple h1 q
    wp_walk using q1
    refine wpAny_stack_any fun st => wpAny_pure ?_
    split
    · rename_i c _ _ _ _ _
      cases (c == Value.type "enumerate")
      · wp_walk using q1
        exact ⟨_, rfl, h⟩
      · wp_walk using q1
        exact ⟨_, rfl, h⟩
    · wp_walk using q1
      exact ⟨_, rfl, h⟩
section
variable {prog : Program} {w : World} {A : Around} {E : Value → Shared → Prop} {s : Shared}
theorem call_enumT {l : Addr} {items : Array Value} {Q : Value → Shared → Prop} (hL : s.heap.IsTuple l items)
    (h : ∀ h', IsEnum h' (s.heap.objs.size + 1) s.heap.objs.size 0 .none → h'.IsTupleIter s.heap.objs.size l 0 → h'.objs.size = s.heap.objs.size + 2 →
      (∀ b o, s.heap.get? b = some o → h'.get? b = some o) → Q (.ref (s.heap.objs.size + 1)) { s with heap := h' }) :
    wpAny (model prog w) A (call (.type "enumerate") [.ref l]) Q E s := by
  refine callType_new F.called_enumerate (by decide) (F.typeCall_enumerate_1 _) (F.newCall_enumerate_1 _) (fun obj => F.args_object_init_2 obj _) F.entry_enumerate_new
    (meets_enumT l items) ⟨hL, ?_⟩
  have hz : (s.heap.push { cls := .type "tuple_iterator", data := .fields #[.ref l, .int 0 0] }).objs.size = s.heap.objs.size + 1 := Heap.size_push ..
  show _ ∧ _
  rw [hz]
  have he : IsEnum ((s.heap.push { cls := .type "tuple_iterator", data := .fields #[.ref l, .int 0 0] }).push
      { cls := .type "enumerate", data := .fields #[.none, .bool false, .ref s.heap.objs.size, rawInt 0, .none, .none] }) (s.heap.objs.size + 1) s.heap.objs.size 0 .none := by
    have := Heap.get?_push_size (s.heap.push { cls := .type "tuple_iterator", data := .fields #[.ref l, .int 0 0] })
      (o := { cls := .type "enumerate", data := .fields #[.none, .bool false, .ref s.heap.objs.size, rawInt 0, .none, .none] }) rfl
    rw [hz] at this; exact this
  refine ⟨⟨_, he, rfl⟩, h _ he ⟨_, Heap.get?_push_of_some _ (Heap.get?_push_size _ rfl), rfl, rfl⟩ (by rw [Heap.size_push, hz]) fun b o x => Heap.get?_push_of_some _ (Heap.get?_push_of_some _ x)⟩
end
/-- the tuple at a, each item in a new pair -/
def IteT (K : PySem.W.Frag) (a : Addr) : It :=
  ⟨fun i H => ∃ (xs : List V) (x : V), SqT K H a xs ∧ xs[i]? = some x, fun i H v H' => ∃ T x, v = .ref T ∧ H T = none ∧ H' = upd H T (.tup [.int (i : Nat), x]) ∧ ∀ xs, SqT K H a xs → xs[i]? = some x, fun i H => ∃ xs : List V, SqT K H a xs ∧ xs.length ≤ i⟩
theorem turn_enumT {P : Program} {w : World} {K : PySem.W.Frag} {elts : List Expr} {kk : Nat} {tpos : Pos} (a e it : Addr) :
    Turn P w K (.Tuple elts kk tpos) (IteT K a) [e, it] e (fun i h => (∃ old, IsEnum h e it ((i : Nat) : Int) old) ∧ h.IsTupleIter it a i ∧ e ≠ it ∧ a ≠ it ∧ e ≠ a) where
  mem := by simp
  obj := fun i h st b hb => by
    obtain ⟨⟨old, he⟩, ⟨o, ho, hc, hd⟩, _⟩ := st
    have e' : b = e ∨ b = it := by simpa using hb
    rcases e' with z | z
    · rw [z]; exact ⟨_, he, fun v q => nomatch q⟩
    · rw [z]; exact ⟨o, ho, fun v q => by rw [hd] at q; cases q⟩
  keep := fun i h h' st k => let ⟨⟨old, he⟩, hi, hne⟩ := st; ⟨⟨old, k e (by simp) _ he⟩, hi.at fun o q => k it (by simp) o q, hne⟩
  item := by
    intro X hP hw hK hc i pins s σ H E I hf st hg
    subst hP hw hK
    obtain ⟨⟨old, he⟩, hit, hne, hai, hea⟩ := st
    obtain ⟨xs, x, hq, hx⟩ := hg
    obtain ⟨its, rv, p, hz⟩ := I.tuple hq
    obtain ⟨u, hu, ru⟩ := rv.get hx
    have hel : e < s.heap.objs.size := Heap.lt_size he
    have hil : it < s.heap.objs.size := by obtain ⟨_, q, _⟩ := hit; exact Heap.lt_size q
    have pt : s.heap.IsTuple a its.toArray := p
    have il : i < its.toArray.size := by
      have := (List.getElem?_eq_some_iff.mp hu).1
      simpa using this
    refine wpAny_pyNext_enum_itemD (Draws.tuple (I.ok.hd hc |> fun h => (show X.A.in1.handled = none by simpa using h)) it a hai its.toArray) he ⟨hit, pt⟩ il hne (by simp; exact ⟨hne, hea⟩) fun y h' tk hy ho hst' hT hsz hk => ?_
    have ey : y = u := Option.some.inj (hy.symm.trans (by simpa using hu))
    subst ey
    refine ⟨_, rfl, wpAny_letOwnedTupleGo_enum (s := { s with heap := h', toks := tk + 1 }) ho fun h'' he' sb => ?_⟩
    have hT2 : h''.get? s.heap.objs.size = some { cls := .type "tuple", data := .seq #[.int i tk, y] } := (sb.2 _ (Nat.ne_of_gt hel)).trans hT
    have new : ObjOk X.prog X.w (upd H s.heap.objs.size (.tup [.int (i : Nat), x])) h'' s.heap.objs.size (.tup [.int (i : Nat), x]) :=
      ⟨by show 2 ≤ sizeLine; decide, [.int i tk, y], .cons ⟨_, rfl⟩ (.cons ru .nil), ⟨_, hT2, rfl, _, rfl⟩⟩
    have I1 : Inv X pins σ (upd H s.heap.objs.size (.tup [.int (i : Nat), x])) { s with heap := h'', toks := tk + 1 } :=
      I.turnedNew (ch := [e, it]) (fun b ob hb q => (sb.2 b (fun z => hb (by simp [z]))).trans (hk b ob (fun z => hb (by simp [z])) (fun z => hb (by simp [z])) q)) hf (Nat.le_refl _) new
    refine ⟨.ref s.heap.objs.size, _, I1, rfl, ⟨_, x, rfl, I.hok.fresh (Nat.le_refl _), rfl, fun ys hy => by rw [I.tuple_inj hy hq]; exact hx⟩, ⟨⟨y, ?_⟩, hst'.1.at fun o q => (sb.2 it (Ne.symm hne)).trans q, hne, hai, hea⟩, fun b hb => ?_⟩
    · have e1 : ((i + 1 : Nat) : Int) = (i : Int) + 1 := by omega
      rw [e1]; exact he'
    · have hb' : b < s.heap.objs.size := by
        have e' : b = e ∨ b = it := by simpa using hb
        rcases e' with z | z
        · rw [z]; exact hel
        · rw [z]; exact hil
      rw [upd_ne (Nat.ne_of_lt hb')]
      exact (hf b hb).1
  done := by
    intro X hP hw hK hc i pins s σ H E I hf st hg
    subst hP hw hK
    obtain ⟨⟨old, he⟩, hit, hne, hai, hea⟩ := st
    obtain ⟨xs, hq, hx⟩ := hg
    obtain ⟨its, rv, p, hz⟩ := I.tuple hq
    obtain ⟨f0, f1, f2, f3, f4, f5⟩ := hf it (by simp)
    have hl := rv.length
    have pt : s.heap.IsTuple a its.toArray := p
    have hT : s.TypeIs (.ref e) "enumerate" := ⟨_, he, rfl⟩
    unfold pyNext
    refine wpAny_bind (wpAny_attempt (wpAny_callSpecial?_slot (name := Str.ofString "__next__") hT F.slot_enumerate_next
      (wpAny_call_entry F.slot_enumerate_next hT F.entry_enumerate_next ?_ (F.args_enumerate_next_1 _))))
    show wpAny _ _ (field (.ref e) 2 >>= _) _ _ _
    refine wpAny_bind (wpAny_field he rfl (x := .ref it) rfl ?_)
    refine wpAny_bind (RZ.nextOf_tuple_end (show X.A.in1.handled = none by simpa using I.ok.hd hc) hit pt (by simp; omega) fun h' x he' hx' => ?_)
    obtain ⟨o, ho, hc⟩ := hx'
    refine wpAny_bind (wpAny_isInstance (T := "StopIteration") (b := true) ⟨o, ho, hc⟩ isSubtype_stop ?_)
    exact wpAny_pure ⟨rfl, I.turned (t' := s.toks) (fun b o hb q => he' b o hb q) f0 f1 f3 f4 f5⟩
  self := fun A i s Q E st h => let ⟨⟨_, he⟩, _⟩ := st; wpAny_pyIter_enum he h
def iEnumT (K : PySem.W.Frag) (ta : TA) : TI := fun σ H R => ta σ H fun vs H1 => ∃ a xs, vs = [.ref a] ∧ SqT K H1 a xs ∧ R (IteT K a) H1
theorem pi_enumT {X : Cx} {e : Expr} {ta : TA} {p pos tpos : Pos} {elts : List Expr} {kk : Nat} (hg : Gl X "enumerate") (hm : X.mg "enumerate" = none) (ha : PA X [e] ta) (hs : starEach [e] X.env = [(false, eval e X.env)] := by rfl) :
    PI X (.Tuple elts kk tpos) (.Call (.Name "enumerate" p) [e] [] pos) (iEnumT X.K ta) := by
  refine ⟨fun pins s σ H R I h => ?_⟩
  refine Call_ (ld_blt I hg hm boot_enumerate (PyProof.Rows.callWith_type1 (thn (ha.run pos pins s σ H _ I h) fun us s1 ⟨vs, H1, I1, r1, q1⟩ => ?_) hs rfl))
  obtain ⟨a, xs, ex, hq, q⟩ := q1
  subst ex
  cases r1 with
  | cons r rr =>
    cases rr
    cases r
    obtain ⟨its, rv, p', hz⟩ := I1.tuple hq
    have pt : s1.heap.IsTuple a its.toArray := p'
    obtain ⟨oa, ga, _⟩ := id pt
    have la : a < s1.heap.objs.size := Heap.lt_size ga
    refine call_enumT pt fun h' he hit hsz hk => wpAny_pyIter_enum he ?_
    have I2 : Inv X pins σ H1 { s1 with heap := h' } := I1.kept (t' := s1.toks) hk
    refine ⟨s1.heap.objs.size + 1, [s1.heap.objs.size + 1, s1.heap.objs.size], _, _, H1, rfl, I2, turn_enumT a (s1.heap.objs.size + 1) s1.heap.objs.size, ⟨⟨.none, he⟩, hit, Nat.succ_ne_self _, Nat.ne_of_lt la, Nat.ne_of_gt (Nat.lt_succ_of_lt la)⟩, fun b hb => ?_, q⟩
    have e' : b = s1.heap.objs.size + 1 ∨ b = s1.heap.objs.size := by simpa using hb
    have hle : s1.heap.objs.size ≤ b := by
      rcases e' with z | z
      · rw [z]; exact Nat.le_add_right _ _
      · rw [z]; exact Nat.le_refl _
    exact I1.fpOk hle (I1.hok.fresh hle)
theorem walk_enumT {K : PySem.W.Frag} {a : Addr} {xs : List V} : Walk (IteT K a) xs.length (fun H => SqT K H a xs) (YPair (fun i => some (.int (i : Nat))) (fun i => xs[i]?)) := by
  refine ⟨fun i _ hi q => ⟨xs, xs[i], q, by simp [hi]⟩, fun _ q => ⟨xs, q, Nat.le_refl _⟩, fun i H v H' _ q y => ?_⟩
  obtain ⟨T, x, h1, h2, h3, h4⟩ := y
  exact ⟨T, .int (i : Nat), x, h1, h2, h3, rfl, h4 xs q⟩
end ET


set_option Elab.async false
set_option maxRecDepth 100000
set_option maxHeartbeats 1000000
/-! Check: what it keeps; knows. -/
namespace BK
open PySem PySem.Spec PyProof.Rows L2 RZ ET
abbrev Km := List (Str × Str)
def kk (m : Km) : List (Key × V) := m.map fun e => (.inr e.1, .str e.2)
def kget (m : Km) (s : Str) : Option Str := (m.find? fun e => decide (e.1 = s)).map (·.2)
def slotK (k : Str) : Bool := decide (k = "context") || decide (k = "token")
def varK (k : Str) : Bool := decide (k = "variable") || decide (k = "source")
/-- the parts of a statement by the kinds so far: the slots' kinds, the variables -/
def knowsT (vars : List Str) : List (Tr × Str) → Km → Bool × Km
  | [], m => (true, m)
  | (.str s, k) :: r, m => if slotK k = true then (match kget m s with
      | none => knowsT vars r (m ++ [(s, k)])
      | some k' => if k' = k then knowsT vars r m else (false, m))
    else if varK k = true then (if s ∈ vars then knowsT vars r m else (false, m)) else knowsT vars r m
  | (_, _) :: r, m => knowsT vars r m
theorem kk_len (m : Km) : (kk m).length = m.length := by unfold kk; rw [List.length_map]
theorem inrE (a b : Str) : ((Sum.inr a : Key) = Sum.inr b) = (a = b) := propext ⟨fun h => Sum.inr.inj h, fun h => congrArg _ h⟩
theorem valV_kk (k : Str) : ∀ m : Km, valV (kk m) (.inr k) = (kget m k).map V.str
  | [] => rfl
  | e :: r => by
    have ih := valV_kk k r
    unfold valV kk kget at ih ⊢
    rw [List.map_cons, List.find?_cons, List.find?_cons]
    by_cases h : e.1 = k
    · simp [h]
    · simp only [inrE, decide_eq_false h]
      exact ih
theorem putK_kk {m : Km} {s k : Str} (h : kget m s = none) : putK (kk m) (.inr s) (.str k) = kk (m ++ [(s, k)]) := by
  unfold putK
  have z : ((kk m).any fun e => decide (e.1 = (.inr s : Key))) = false := by
    unfold kk
    rw [List.any_map, List.any_eq_false]
    intro e he
    simp only [Function.comp, inrE, decide_eq_true_eq]
    intro q
    unfold kget at h
    have : m.find? (fun e => decide (e.1 = s)) = none := by
      cases e : m.find? (fun e => decide (e.1 = s)) with
      | none => rfl
      | some x => rw [e] at h; cases h
    rw [List.find?_eq_none] at this
    exact this e he (decide_eq_true q)
  rw [z, if_neg Bool.false_ne_true]
  unfold kk
  rw [List.map_append]
  rfl
theorem knows_len {vars : List Str} : ∀ (l : List (Tr × Str)) (m : Km), (knowsT vars l m).2.length ≤ m.length + l.length
  | [], m => by simp [knowsT]
  | (.str s, k) :: r, m => by
    unfold knowsT
    have h1 := knows_len (vars := vars) r m
    have h2 := knows_len (vars := vars) r (m ++ [(s, k)])
    rw [List.length_append] at h2
    simp only [List.length_cons, List.length_nil] at h2 ⊢
    split
    · split
      · omega
      · split
        · omega
        · simp only; omega
    · split
      · split
        · omega
        · simp only; omega
      · omega
  | (.non, _) :: r, m => by have h1 := knows_len (vars := vars) r m; unfold knowsT; simp only [List.length_cons]; omega
  | (.bl _, _) :: r, m => by have h1 := knows_len (vars := vars) r m; unfold knowsT; simp only [List.length_cons]; omega
  | (.int _, _) :: r, m => by have h1 := knows_len (vars := vars) r m; unfold knowsT; simp only [List.length_cons]; omega
  | (.lst, _) :: r, m => by have h1 := knows_len (vars := vars) r m; unfold knowsT; simp only [List.length_cons]; omega
  | (.dct, _) :: r, m => by have h1 := knows_len (vars := vars) r m; unfold knowsT; simp only [List.length_cons]; omega
  | (.tup _, _) :: r, m => by have h1 := knows_len (vars := vars) r m; unfold knowsT; simp only [List.length_cons]; omega
/-- where a check keeps its things -/
structure CA where
  p : Addr
  v : Addr
  d : Addr
def cfs (a : CA) (met : Nat) : List (Str × V) := [("variables", .ref a.v), ("kinds", .ref a.d), ("met", .int (met : Nat))]
structure CkAt (K : PySem.W.Frag) (C : Addr) (H : Hp) (a : CA) (vars : List Str) (m : Km) (met : Nat) : Prop where
  ob : ∃ dx, H a.p = some (.ins C dx (cfs a met))
  dc : H a.d = some (.dK (kk m))
  vs : SqT K H a.v (vars.map V.str)
/-- all stays but the check and its dict of kinds -/
def ButC (a : CA) (H H' : Hp) : Prop := ∀ b o, H b = some o → b ≠ a.p → b ≠ a.d → H' b = some o
theorem ButC.refl (a : CA) (H : Hp) : ButC a H H := fun _ _ e _ _ => e
theorem ButC.trans {a : CA} {H H1 H2 : Hp} (x : ButC a H H1) (y : ButC a H1 H2) : ButC a H H2 := fun c o e h1 h2 => y c o (x c o e h1 h2) h1 h2
theorem ButC.of {a : CA} {H H' : Hp} (e : Same H H') : ButC a H H' := fun c o h _ _ => e c o h
section
variable {K : PySem.W.Frag} {C : Addr} {H H' : Hp} {a : CA} {vars : List Str} {m m' : Km} {met met' : Nat}
theorem CkAt.same (c : CkAt K C H a vars m met) (e : Same H H') : CkAt K C H' a vars m met := by
  obtain ⟨⟨dx, ob⟩, dc, vs⟩ := c
  exact ⟨⟨dx, e _ _ ob⟩, e _ _ dc, sqt_same e vs⟩
/-- a tuple stays -/
theorem ButC.tup (b : ButC a H H') (c : CkAt K C H a vars m met) {t : Addr} {xs : List V} (h : SqT K H t xs) : SqT K H' t xs := by
  obtain ⟨⟨dx, ob⟩, dc, _⟩ := c
  rcases h with (h | ⟨o, h⟩) | h
  · exact .inl (.inl (b _ _ h (ne_of h ob (by intro z; cases z)) (ne_of h dc (by intro z; cases z))))
  · exact .inl (.inr ⟨o, b _ _ h (ne_of h ob (by intro z; cases z)) (ne_of h dc (by intro z; cases z))⟩)
  · exact .inr h
theorem ButC.lst (b : ButC a H H') (c : CkAt K C H a vars m met) {t : Addr} {xs : List V} (h : SqL K H t xs) : SqL K H' t xs := by
  obtain ⟨⟨dx, ob⟩, dc, _⟩ := c
  rcases h with (h | ⟨o, h⟩) | h
  · exact .inl (.inl (b _ _ h (ne_of h ob (by intro z; cases z)) (ne_of h dc (by intro z; cases z))))
  · exact .inl (.inr ⟨o, b _ _ h (ne_of h ob (by intro z; cases z)) (ne_of h dc (by intro z; cases z))⟩)
  · exact .inr h
mutual
theorem TrAt.but (b : ButC a H H') (c : CkAt K C H a vars m met) (c' : CkAt K C H' a vars m' met') : ∀ {v : V} {t : Tr}, TrAt K H v t → TrAt K H' v t
  | _, _, .non => .non
  | _, _, .bl b => .bl b
  | _, _, .int i => .int i
  | _, _, .str s h => .str s h
  | _, _, .lst h => .lst (b.lst c h)
  | _, _, .dct (a := x) (kvs := kvs) h => by
    by_cases z : x = a.d
    · rw [z]
      exact .dct c'.dc
    · obtain ⟨⟨dx, ob⟩, dc, _⟩ := c
      exact .dct (b _ _ h (ne_of h ob (by intro z; cases z)) z)
  | _, _, .tup h k => .tup (b.tup c h) (TrAll.but b c c' k)
theorem TrAll.but (b : ButC a H H') (c : CkAt K C H a vars m met) (c' : CkAt K C H' a vars m' met') : ∀ {vs : List V} {ts : List Tr}, TrAll K H vs ts → TrAll K H' vs ts
  | _, _, .nil => .nil
  | _, _, .cons h k => .cons (h.but b c c') (k.but b c c')
end
theorem CkAt.ne (c : CkAt K C H a vars m met) : a.p ≠ a.d := by
  obtain ⟨⟨dx, ob⟩, dc, _⟩ := c
  exact ne_of ob dc (by intro z; cases z)
end
structure TxK (K : PySem.W.Frag) (mg : Str → Option Value) (C : Addr) : Prop where
  cl : Cls K C
  nV : NoAttr K C "variables"
  nK : NoAttr K C "kinds"
  nM : NoAttr K C "met"
  mgC : mg "Check" = some (.ref C)
theorem cfs_v (a : CA) (n : Nat) : (cfs a n).lookup ("variables" : Str) = some (.ref a.v) := by rfl
theorem cfs_k (a : CA) (n : Nat) : (cfs a n).lookup ("kinds" : Str) = some (.ref a.d) := by rfl
theorem cfs_m (a : CA) (n : Nat) : (cfs a n).lookup ("met" : Str) = some (.int (n : Nat)) := by rfl
theorem put_met (a : CA) (n : Nat) : putF "met" (.int ((n : Int) + 1)) (cfs a n) = cfs a (n + 1) := by rfl
theorem cfs_no (a : CA) (n : Nat) {m : Str} (h1 : ¬ m = "variables") (h2 : ¬ m = "kinds") (h3 : ¬ m = "met") : (cfs a n).lookup m = none := by
  have e1 : (m == ("variables" : Str)) = false := beq_eq_false_iff_ne.mpr h1
  have e2 : (m == ("kinds" : Str)) = false := beq_eq_false_iff_ne.mpr h2
  have e3 : (m == ("met" : Str)) = false := beq_eq_false_iff_ne.mpr h3
  unfold cfs
  simp only [List.lookup, e1, e2, e3]
end BK


set_option Elab.async false
set_option maxRecDepth 100000
set_option maxHeartbeats 1000000
/-! knows. -/
namespace BK
open PySem PySem.Spec PyProof.Rows L2 RZ ET
abbrev cCheck : Stmt := top 36
abbrev sCInit : Stmt := inClass cCheck 0
abbrev sFault : Stmt := inClass cCheck 1
abbrev sTakes : Stmt := inClass cCheck 2
abbrev sKnows : Stmt := inClass cCheck 3
def spKnows (K : PySem.W.Frag) (C : Addr) : Sp := fun vs H Q _ => ∃ a v vars m met x rest ks, vs = [.ref a.p, v] ∧ CkAt K C H a vars m met ∧ m.length ≤ 900 ∧ TrAt K H v (.tup (.str x :: rest)) ∧ kindsOf x = some ks ∧ fitsT rest ks = true ∧
  ∀ H', CkAt K C H' a vars (knowsT vars (rest.zip ks) m).2 met → ButC a H H' → Q (.bl (knowsT vars (rest.zip ks) m).1) H'
theorem scKnows : FnScope ["self", "statement", "part", "kind", "is_variable"] ["self", "statement"] (defScope sKnows) := ⟨rfl, rfl, rfl, by decide +kernel, rfl, by decide +kernel, by decide +kernel⟩
theorem inV_two (a b z : Str) : inV (.str z) [.str a, .str b] = (decide (z = a) || decide (z = b)) := by
  have := in_txts z [a, b]
  rw [show [V.str a, V.str b] = [a, b].map V.str from rfl, this]
  simp
/-- a part of a slot's kind is a name -/
theorem slot_name {t : Tr} {k : Str} (h : partT t k = true) (s : slotK k = true) : ∃ z, t = .str z := by
  unfold slotK at s
  have e : nameT t = true := by
    rcases Bool.or_eq_true_iff.mp s with s | s
    · have e := of_decide_eq_true s
      subst e
      exact h
    · have e := of_decide_eq_true s
      subst e
      exact h
  cases t with
  | str z => exact ⟨z, rfl⟩
  | non => cases e
  | bl b => cases e
  | int i => cases e
  | lst => cases e
  | dct => cases e
  | tup ts => cases e
theorem slot_not_var {k : Str} (s : slotK k = true) : varK k = false := by
  unfold slotK at s
  rcases Bool.or_eq_true_iff.mp s with s | s
  · have e := of_decide_eq_true s
    subst e
    decide
  · have e := of_decide_eq_true s
    subst e
    decide
theorem knows_other {vars : List Str} {t : Tr} {k : Str} {r : List (Tr × Str)} {m : Km} (h : slotK k = false) (h2 : varK k = false ∨ isStr t = false) : knowsT vars ((t, k) :: r) m = knowsT vars r m := by
  cases t with
  | str s =>
    rcases h2 with h2 | h2
    · show (if slotK k = true then _ else (if varK k = true then _ else knowsT vars r m)) = knowsT vars r m
      rw [h, h2, if_neg Bool.false_ne_true, if_neg Bool.false_ne_true]
    · cases h2
  | _ => rfl
section
variable {P : Program} {w : World} {K : PySem.W.Frag} {mg : Str → Option Value} {base : Heap}
theorem ok_knows {C f fQ : Addr} {fd fdQ : FuncData} (F : Fun K "knows" "Check.knows" sKnows f fd) (T : Forms mg) (U : Kinds K mg) (X : TxK K mg C)
    (GQ : FnOk P w K mg base CX0 1 fQ fdQ ["statement"] (spParts K)) (bQ : Binds K fdQ ["statement"] []) (gQ : mg "parts_of" = some (.ref fQ)) (kQ : PySem.W.keepIn K (.ref fQ) = true) : FnOk P w K mg base CX0 2 f fd ["self", "statement"] (spKnows K C) := by
  refine F.ok scKnows (fun vs H Q E h => ?_) (fun cdv A outer s H vs Q E hr h => ?_)
  · obtain ⟨a, v, vars, m, met, x, rest, ks, rfl, _⟩ := h
    rfl
  · obtain ⟨a, v, vars, m, met, x, rest, ks, rfl, cA, ml, ht, ek, ef, k⟩ := h
    obtain ⟨aK, gK, sK⟩ := U.kd
    have hu := hu_of hr
    refine ⟨_, pss_cons (ps_for PassesOwn.never rfl (pi_list (pe_call GQ hr rfl gQ kQ bQ .nil pass0 (pa_cons (pv 1) pa_nil)))
        (pg_tup rfl (pgs_cons (pg_name (i := 2) scKnows.nd rfl (Or.inl rfl)) (pgs_cons (pg_name (i := 3) scKnows.nd rfl (Or.inl rfl)) pgs_nil)))
        (C8.pss_cut (ps_if (PW.pt (pw_and (pt_cmpR op_in_seq (pv 3) (pe_glob (v := .ref aK) rfl gK rfl) rfl)
            (pw_and1 (pt_cmpR op_ne (pe_dsetd (pe_fld (pv 0) rfl) (pv 2) (pv 3) ⟨rfl, rfl, rfl, rfl⟩) (pv 3) (nomark _))))) (pss_one (ps_ret pe_bl)) pss_nil)
        (pss_cons (ps_set (i := 4) scKnows.nd rfl (Or.inl rfl) (pe_and (pe_cmpR op_in_seq (pv 3) (pe_tup (pa_cons pe_str (pa_cons pe_str pa_nil))) rfl)
            (pe_one (pe_callB call_isi (by rfl) T.isi boot_isinstance (pa_cons (pv 2) (pa_cons (pe_bltn (v := .ty "str") (u := .type "str") (by rfl) T.str (by decide +kernel) rfl) pa_nil))))))
        (pss_one (ps_if (PW.pt (pw_and (pt_val (pv 4)) (pw_and1 (pt_cmpR op_notIn_seq (pv 2) (pe_fld (pv 0) rfl) rfl)))) (pss_one (ps_ret pe_bl)) pss_nil)))))
      (pss_one (ps_ret pe_bl)), ?_⟩
    have el : rest.length = ks.length := by
      unfold fitsT at ef
      exact of_decide_eq_true (Bool.and_eq_true_iff.mp ef).1
    have ep : ∀ p ∈ rest.zip ks, partT p.1 p.2 = true := by
      unfold fitsT at ef
      exact List.all_eq_true.mp (Bool.and_eq_true_iff.mp ef).2
    have kl := kinds_few ek
    refine ⟨_, rfl, v, x, rest, ks, rfl, ht, ek, el, fun L ts H1 s1 eL lt at1 => ?_⟩
    have c1 := cA.same s1
    have zl : (rest.zip ks).length = ts.length := by rw [List.length_zip]; omega
    refine ⟨L, rfl, ⟨_, SqL.of eL⟩, for_list (K := K) (a := L) (xs := ts.map V.ref) (fun i σ H2 => ∃ (v2 v3 v4 : Option V) (mi : Km), σ = [some (.ref a.p), some v, v2, v3, v4] ∧ CkAt K C H2 a vars mi met ∧ ButC a H1 H2 ∧ knowsT vars (rest.zip ks) m = knowsT vars ((rest.zip ks).drop i) mi ∧ mi.length ≤ m.length + i)
      ⟨none, none, none, m, rfl, c1, ButC.refl _ _, rfl, Nat.le_refl _⟩ (fun i σ H2 _ ⟨_, _, _, mi, _, c2, b2, _⟩ => b2.lst c1 (SqL.of eL)) ?_ ?_⟩
    · rintro i y σ H2 hi ⟨v2, v3, v4, mi, rfl, c2, b2, e2, l2⟩
      rw [List.getElem?_map] at hi
      cases eT : ts[i]? with
      | none => rw [eT] at hi; cases hi
      | some U =>
      rw [eT] at hi
      obtain rfl : V.ref U = y := Option.some.inj hi
      obtain ⟨y', t', k', q1, q2, q3, q4⟩ := at1 i U eT
      have ez : (rest.zip ks)[i]? = some (t', k') := List.getElem?_zip_eq_some.mpr ⟨q1, q2⟩
      have il : i < (rest.zip ks).length := (List.getElem?_eq_some_iff.mp ez).1
      have ed : (rest.zip ks).drop i = (t', k') :: (rest.zip ks).drop (i + 1) := by
        rw [List.drop_eq_getElem_cons il]
        congr 1
        exact Option.some.inj ((List.getElem?_eq_getElem il).symm.trans ez)
      rw [ed] at e2
      have pt := ep _ (List.mem_of_getElem? ez)
      have ty : TrAt K H2 y' t' := q3.but b2 c1 c2
      refine ⟨U, _, rfl, b2.tup c1 (SqT.of q4), rfl, _, _, rfl, _, _, rfl, rfl, ?_⟩
      obtain ⟨⟨dx, ob⟩, dc, vs⟩ := id c2
      -- the slots' kinds
      refine ⟨fun σ H3 => ∃ mj : Km, σ = [some (.ref a.p), some v, some y', some (.str k'), v4] ∧ CkAt K C H3 a vars mj met ∧ ButC a H1 H3 ∧ mj.length ≤ m.length + (i + 1) ∧ (slotK k' = true → knowsT vars (rest.zip ks) m = knowsT vars ((rest.zip ks).drop (i + 1)) mj) ∧ (slotK k' = false → mj = mi), ?_, ?_⟩
      · refine ⟨_, rfl, aK, _, rfl, .inr (sK _), rfl, rfl, _, rfl, ?_⟩
        rw [show inV (.str k') [.str "context", .str "token"] = slotK k' from inV_two _ _ _]
        refine ite2 (fun hs => ?_) (fun hs => ?_)
        · have hs : slotK k' = true := hs
          obtain ⟨z, rfl⟩ := slot_name pt hs
          cases ty with
          | str _ hz =>
          have eq : knowsT vars (rest.zip ks) m = (match kget mi z with
              | none => knowsT vars ((rest.zip ks).drop (i + 1)) (mi ++ [(z, k')])
              | some k2 => if k2 = k' then knowsT vars ((rest.zip ks).drop (i + 1)) mi else (false, mi)) := by
            rw [e2]
            show (if slotK k' = true then _ else _) = _
            rw [if_pos hs]
            all_goals (cases kget mi z <;> rfl)
          refine ⟨_, rfl, a.p, C, dx, _, _, rfl, ob, X.cl, X.nK, cfs_k a met, a.d, rfl, .inl ⟨_, .inl dc⟩, _, rfl, _, rfl, kk mi, .inr z, dc, rfl, small1000 (by rw [kk_len]; rw [zl, lt] at il; omega), fun w hw => ?_, fun hno => ?_⟩
          · rw [valV_kk] at hw
            cases eg : kget mi z with
            | none => rw [eg] at hw; cases hw
            | some k2 =>
              rw [eg] at hw eq
              obtain rfl : V.str k2 = w := Option.some.inj hw
              refine ⟨_, rfl, rfl, _, rfl, ?_⟩
              rw [show decide (V.str k2 = V.str k') = decide (k2 = k') from eq_txt _ _]
              by_cases h2 : k2 = k'
              · rw [decide_eq_true h2]
                have e4 : knowsT vars (rest.zip ks) m = knowsT vars ((rest.zip ks).drop (i + 1)) mi := by
                  rw [eq]
                  exact if_pos h2
                exact iteF ⟨mi, rfl, c2, b2, by omega, fun _ => e4, fun hn => Bool.noConfusion (hs.symm.trans hn)⟩
              · rw [decide_eq_false h2]
                refine iteT ?_
                have e4 : knowsT vars (rest.zip ks) m = (false, mi) := by
                  rw [eq]
                  exact if_neg h2
                have q := k H2 (by rw [e4]; exact c2) ((ButC.of s1).trans b2)
                rw [e4] at q
                exact q
          · rw [valV_kk] at hno
            cases eg : kget mi z with
            | some k2 => rw [eg] at hno; cases hno
            | none =>
              rw [eg] at eq
              rw [putK_kk eg]
              refine ⟨_, rfl, rfl, _, rfl, ?_⟩
              rw [show decide (V.str k' = V.str k') = true from decide_eq_true rfl]
              have ne := c2.ne
              refine iteF ⟨mi ++ [(z, k')], rfl, ⟨⟨dx, by rw [upd_ne ne]; exact ob⟩, upd_same, ?_⟩, fun b o e h1 h2 => ?_, by rw [List.length_append]; simp; omega, fun _ => eq, fun hn => ?_⟩
              · rcases vs with (h | ⟨o, h⟩) | h
                · exact .inl (.inl (by rw [upd_ne (ne_of h dc (by intro z; cases z))]; exact h))
                · exact .inl (.inr ⟨o, by rw [upd_ne (ne_of h dc (by intro z; cases z))]; exact h⟩)
                · exact .inr h
              · rw [upd_ne h2]
                exact b2 b o e h1 h2
              · rw [hs] at hn; cases hn
        · have hs' : slotK k' = false := by
            have : ¬ (slotK k' = true) := hs
            simpa using this
          exact ⟨mi, rfl, c2, b2, by omega, fun z => Bool.noConfusion (hs'.symm.trans z), fun _ => rfl⟩
      rintro σ H3 ⟨mj, rfl, c3, b3, l3, yes, no⟩
      have ty3 : TrAt K H3 y' t' := q3.but b3 c1 c3
      obtain ⟨⟨dx3, ob3⟩, dc3, vs3⟩ := id c3
      refine ⟨_, rfl, (by show 2 ≤ sizeLine; decide), fun tp ntp => ?_⟩
      have s4 := same_new (o := .tup [.str "variable", .str "source"]) ntp
      refine ⟨tp, _, rfl, .inr (SqT.of upd_same), rfl, rfl, _, rfl, ?_⟩
      rw [show inV (.str k') [.str "variable", .str "source"] = varK k' from inV_two _ _ _]
      have fin : ∀ (v4 : Option V), knowsT vars (rest.zip ks) m = knowsT vars ((rest.zip ks).drop (i + 1)) mj → ∃ (v2 v3 v4' : Option V) (mi : Km), [some (V.ref a.p), some v, some y', some (V.str k'), v4] = [some (.ref a.p), some v, v2, v3, v4'] ∧ CkAt K C (upd H3 tp (.tup [.str "variable", .str "source"])) a vars mi met ∧
          ButC a H1 (upd H3 tp (.tup [.str "variable", .str "source"])) ∧ knowsT vars (rest.zip ks) m = knowsT vars ((rest.zip ks).drop (i + 1)) mi ∧ mi.length ≤ m.length + (i + 1) := fun v4 e => ⟨_, _, _, mj, rfl, c3.same s4, b3.trans (ButC.of s4), e, l3⟩
      cases hs : slotK k' with
      | true =>
        rw [slot_not_var hs]
        exact iteF ⟨_, rfl, _, rfl, iteF (fin _ (yes hs))⟩
      | false =>
        have em := no hs
        subst em
        cases hv : varK k' with
        | false =>
          refine iteF ⟨_, rfl, _, rfl, iteF (fin _ ?_)⟩
          rw [e2]
          exact knows_other hs (.inl hv)
        | true =>
          refine iteT ⟨_, rfl, y', .ty "str", .type (tyT t'), .type "str", isStr t', rfl, .ty "str", (ty3.same s4).ty, k_str K t', ?_⟩
          refine ⟨_, rfl, _, rfl, ?_⟩
          cases ei : isStr t' with
          | false =>
            refine iteF (fin _ ?_)
            rw [e2]
            exact knows_other hs (.inr ei)
          | true =>
            obtain ⟨z, rfl⟩ : ∃ z, t' = .str z := by
              cases t' with
              | str z => exact ⟨z, rfl⟩
              | _ => cases ei
            cases ty3 with
            | str _ hz =>
            have e5 : knowsT vars (rest.zip ks) m = if z ∈ vars then knowsT vars ((rest.zip ks).drop (i + 1)) mj else (false, mj) := by
              rw [e2]
              show (if slotK k' = true then _ else (if varK k' = true then _ else _)) = _
              rw [hs, hv, if_neg Bool.false_ne_true, if_pos rfl]
            refine iteT ⟨_, rfl, _, rfl, a.p, C, dx3, _, _, rfl, s4 _ _ ob3, X.cl, X.nV, cfs_v a met, a.v, _, rfl, .inr (sqt_same s4 vs3), rfl, flat_txts vars, _, rfl, ?_⟩
            rw [in_txts]
            by_cases hm : z ∈ vars
            · rw [decide_eq_true hm]
              refine iteF (fin _ ?_)
              rw [e5, if_pos hm]
            · rw [decide_eq_false hm]
              refine iteT ?_
              rw [if_neg hm] at e5
              have q := k (upd H3 tp (.tup [.str "variable", .str "source"])) (by rw [e5]; exact c3.same s4) (((ButC.of s1).trans b3).trans (ButC.of s4))
              rw [e5] at q
              exact q
    · rintro σ H2 ⟨v2, v3, v4, mi, rfl, c2, b2, e2, _⟩
      have e3 : (rest.zip ks).drop (ts.map V.ref).length = [] := by
        rw [List.length_map, ← zl, List.drop_length]
      rw [e3] at e2
      have e4 : knowsT vars (rest.zip ks) m = (true, mi) := e2
      have q := k H2 (by rw [e4]; exact c2) ((ButC.of s1).trans b2)
      rw [e4] at q
      exact q
end
end BK


set_option Elab.async false
set_option maxRecDepth 100000
set_option maxHeartbeats 1000000
/-! takes; __init__. -/
namespace BK
open PySem PySem.Spec PyProof.Rows L2 RZ ET
def takesT (vars : List Str) (t : Tr) (as : List Str) (m : Km) (n : Nat) : Bool × Km :=
  if 16 < n ∨ 4 < as.length then (false, m) else match t with
    | .tup (.str x :: rest) => match kindsOf x with
      | some ks => if fitsT rest ks = true then ((knowsT vars (rest.zip ks) m).1 && canT x rest as, (knowsT vars (rest.zip ks) m).2) else (false, m)
      | none => (false, m)
    | _ => (false, m)
def spTakes (K : PySem.W.Frag) (C : Addr) : Sp := fun vs H Q _ => ∃ a v ar vars m met t as, vs = [.ref a.p, v, .ref ar] ∧ CkAt K C H a vars m met ∧ m.length ≤ 900 ∧ TrAt K H v t ∧ SqT K H ar (as.map V.str) ∧
  ∀ H', CkAt K C H' a vars (takesT vars t as m (met + 1)).2 (met + 1) → ButC a H H' → Q (.bl (takesT vars t as m (met + 1)).1) H'
theorem scTakes : FnScope ["self", "statement", "around"] ["self", "statement", "around"] (defScope sTakes) := ⟨rfl, rfl, rfl, by decide +kernel, rfl, by decide +kernel, by decide +kernel⟩
theorem loop_kinds : kindsOf ("loop" : Str) = some [("block" : Str)] := by decide +kernel
theorem form_parts {x : Str} {rest : List Tr} (h : formT (.tup (.str x :: rest)) = true) : ∃ ks, kindsOf x = some ks ∧ fitsT rest ks = true := by
  have h : (match kindsOf x with
    | some ks => fitsT rest ks
    | none => false) = true := h
  cases e : kindsOf x with
  | none => rw [e] at h; cases h
  | some ks => rw [e] at h; exact ⟨ks, rfl, h⟩
theorem loop_block {rest : List Tr} {ks : List Str} (e : kindsOf ("loop" : Str) = some ks) (h : fitsT rest ks = true) : ∃ ts r, rest = .tup ts :: r := by
  rw [loop_kinds] at e
  obtain rfl := Option.some.inj e
  unfold fitsT at h
  obtain ⟨h1, h2⟩ := Bool.and_eq_true_iff.mp h
  have h1 := of_decide_eq_true h1
  match rest, h1 with
  | [t], _ =>
    have h2 : (partT t "block" && true) = true := h2
    rw [Bool.and_true] at h2
    have h3 : isTup t = true := h2
    cases t with
    | tup ts => exact ⟨ts, [], rfl⟩
    | _ => cases h3
theorem gt_cast (n : Nat) (k : Nat) : decide ((n : Int) > (k : Int)) = decide (k < n) := by
  by_cases h : k < n
  · rw [decide_eq_true h]
    exact decide_eq_true (by omega)
  · rw [decide_eq_false h]
    exact decide_eq_false (by omega)
structure Most (mg : Str → Option Value) : Prop where
  ms : ∃ t, mg "MOST_STATEMENTS" = some (.int 16 t)
  ma : ∃ t, mg "MOST_AROUND" = some (.int 4 t)
section
variable {P : Program} {w : World} {K : PySem.W.Frag} {mg : Str → Option Value} {base : Heap}
theorem ok_takes {C f fF fK fC : Addr} {fd fdF fdK fdC : FuncData} (F : Fun K "takes" "Check.takes" sTakes f fd) (T : Forms mg) (M : Most mg) (X : TxK K mg C)
    (GF : FnOk P w K mg base CX0 5 fF fdF ["thing"] (spOf formT K)) (bF : Binds K fdF ["thing"] []) (gF : mg "has_form" = some (.ref fF)) (kF : PySem.W.keepIn K (.ref fF) = true)
    (GK : FnOk P w K mg base CX0 2 fK fdK ["self", "statement"] (spKnows K C)) (bK : Binds K fdK ["self", "statement"] []) (mK : Meth K C "knows" fK)
    (GC : FnOk P w K mg base CX0 7 fC fdC ["statement", "around"] (spCan K)) (bC : Binds K fdC ["statement", "around"] []) (gC : mg "can_stand" = some (.ref fC)) (kC : PySem.W.keepIn K (.ref fC) = true) :
    FnOk P w K mg base CX0 8 f fd ["self", "statement", "around"] (spTakes K C) := by
  refine F.ok scTakes (fun vs H Q E h => ?_) (fun cdv A outer s H vs Q E hr h => ?_)
  · obtain ⟨a, v, ar, vars, m, met, t, as, rfl, _⟩ := h
    rfl
  · obtain ⟨a, v, ar, vars, m, met, t, as, rfl, cA, ml, ht, sa, k⟩ := h
    obtain ⟨t1, gS⟩ := M.ms
    obtain ⟨t2, gA⟩ := M.ma
    have hr5 : Room 5 _ := hr.mono (by decide)
    have hr2 : Room 2 _ := hr.mono (by decide)
    refine ⟨_, C8.pss_cut (ps_fldaug (pv 0) pe_int in_add)
      (pss_cons (ps_if (PW.pt (pw_or (pt_cmpR op_gt (pe_fld (pv 0) rfl) (pe_glob (v := .int 16) rfl gS ⟨_, rfl⟩) rfl)
          (pw_or1 (pt_cmpR op_gt (pe_callB call_len_seq (by rfl) T.len boot_len (pa_cons (pv 2) pa_nil)) (pe_glob (v := .int 4) rfl gA ⟨_, rfl⟩) rfl)))) (pss_one (ps_ret pe_bl)) pss_nil)
      (pss_one (ps_ret (pe_and (pe_call GF hr5 rfl gF kF bF .nil pass0 (pa_cons (pv 1) pa_nil)) (pe_and (pe_meth (pv 0) X.cl mK GK hr2 bK .nil pass0 (pa_cons (pv 1) pa_nil))
        (pe_one (pe_call GC hr rfl gC kC bC .nil pass0 (pa_cons (pv 1) (pa_cons (pv 2) pa_nil))))))))), ?_⟩
    obtain ⟨⟨dx, ob⟩, dc, vs⟩ := id cA
    have ne := cA.ne
    refine ⟨fun σ H1 => σ = [some (.ref a.p), some v, some (.ref ar)] ∧ CkAt K C H1 a vars m (met + 1) ∧ ButC a H H1, ?_, ?_⟩
    · refine ⟨_, rfl, a.p, C, dx, _, _, rfl, ob, X.cl, X.nM, cfs_m a met, _, _, rfl, rfl, dx, _, ob, (by decide : 3 < 1000), rfl, ⟨⟨dx, upd_same⟩, ?_, ?_⟩, fun b o e h1 _ => ?_⟩
      · rw [upd_ne ne.symm]; exact dc
      · rcases vs with (h | ⟨o, h⟩) | h
        · exact .inl (.inl (by rw [upd_ne (ne_of h ob (by intro z; cases z))]; exact h))
        · exact .inl (.inr ⟨o, by rw [upd_ne (ne_of h ob (by intro z; cases z))]; exact h⟩)
        · exact .inr h
      · rw [upd_ne h1]; exact e
    rintro σ H1 ⟨rfl, c1, b1⟩
    have ht1 := ht.but b1 cA c1
    have sa1 := b1.tup cA sa
    obtain ⟨⟨dx1, ob1⟩, dc1, vs1⟩ := id c1
    have over : 16 < met + 1 ∨ 4 < as.length → Q (.bl false) H1 := fun z => by
      have e : takesT vars t as m (met + 1) = (false, m) := if_pos z
      have q := k H1 (by rw [e]; exact c1) b1
      rw [e] at q
      exact q
    refine ⟨_, rfl, a.p, C, dx1, _, _, rfl, ob1, X.cl, X.nM, cfs_m a (met + 1), _, _, rfl, rfl, _, rfl, ?_⟩
    rw [show decide (((met + 1 : Nat) : Int) > 16) = decide (16 < met + 1) from gt_cast (met + 1) 16]
    refine ite2 (fun z => ?_) (fun z => ?_)
    · exact over (.inl (of_decide_eq_true z))
    have n1 : ¬ 16 < met + 1 := fun q => z (decide_eq_true q)
    refine ⟨_, rfl, ar, _, rfl, .inr sa1, _, _, rfl, rfl, _, rfl, ?_⟩
    rw [show decide (((as.map V.str).length : Int) > 4) = decide (4 < as.length) by rw [List.length_map]; exact gt_cast as.length 4]
    refine ite2 (fun z => ?_) (fun z => ?_)
    · exact over (.inr (of_decide_eq_true z))
    have n2 : ¬ 4 < as.length := fun q => z (decide_eq_true q)
    have n3 : ¬ (16 < met + 1 ∨ 4 < as.length) := fun q => q.elim n1 n2
    refine ⟨_, rfl, v, t, rfl, ht1, fun H2 s2 => ⟨_, rfl, ?_⟩⟩
    have c2 := c1.same s2
    have b2 := b1.trans (ButC.of s2)
    cases ef : formT t with
    | false =>
      refine iteF ?_
      have e : takesT vars t as m (met + 1) = (false, m) := by
        unfold takesT
        rw [if_neg n3]
        split
        · rename_i x rest
          have ef : (match kindsOf x with
            | some ks => fitsT rest ks
            | none => false) = false := ef
          cases ek : kindsOf x with
          | none => rfl
          | some ks =>
            rw [ek] at ef
            have ef : fitsT rest ks = false := ef
            simp only
            rw [ef, if_neg Bool.false_ne_true]
        · rfl
      have q := k H2 (by rw [e]; exact c2) b2
      rw [e] at q
      exact q
    | true =>
      obtain ⟨x, rest, rfl⟩ := form_shape ef
      obtain ⟨ks, ek, e1⟩ := form_parts ef
      have e : takesT vars (.tup (.str x :: rest)) as m (met + 1) = ((knowsT vars (rest.zip ks) m).1 && canT x rest as, (knowsT vars (rest.zip ks) m).2) := by
        unfold takesT
        rw [if_neg n3]
        simp only
        rw [ek]
        simp only
        rw [if_pos e1]
      rw [e] at k
      refine iteT ⟨_, rfl, a.p, dx1, _, rfl, s2 _ _ ob1, cfs_no a _ (by decide +kernel) (by decide +kernel) (by decide +kernel), _, rfl, a, v, vars, m, met + 1, x, rest, ks, rfl, c2, ml, ht1.same s2, ek, e1, fun H3 c3 b3 => ⟨_, rfl, ?_⟩⟩
      have b4 := b2.trans b3
      cases e5 : (knowsT vars (rest.zip ks) m).1 with
      | false =>
        have q := k H3 c3 b4
        rw [e5, Bool.false_and] at q
        exact iteF q
      | true =>
        refine iteT ⟨_, rfl, _, rfl, v, ar, x, rest, as, rfl, (ht1.same s2).but b3 c2 c3, b3.tup c2 (sqt_same s2 sa1), fun q => ?_, fun H4 s4 => ?_⟩
        · subst q
          exact loop_block ek e1
        · have q := k H4 (c3.same s4) (b4.trans (ButC.of s4))
          rw [e5, Bool.true_and] at q
          exact q
end
end BK


set_option Elab.async false
set_option maxRecDepth 100000
set_option maxHeartbeats 1000000
/-! Check's __init__. -/
namespace BK
open PySem PySem.Spec PyProof.Rows L2 RZ ET
def pairKm : Tr → Option (Str × Str)
  | .tup [.str s, .str k] => some (s, k)
  | _ => none
def kindsP : Tr → Km
  | .tup ts => ts.filterMap pairKm
  | _ => []
theorem kget_none {m : Km} {s : Str} (h : s ∉ m.map (·.1)) : kget m s = none := by
  unfold kget
  have : m.find? (fun e => decide (e.1 = s)) = none := by
    rw [List.find?_eq_none]
    intro e he
    simp only [decide_eq_true_eq]
    intro q
    exact h (List.mem_map.mpr ⟨e, he, q⟩)
  rw [this]
  rfl
theorem kind_str {t : Tr} (h : kindT t = true) : ∃ k, t = .str k := by
  cases t with
  | str k => exact ⟨k, rfl⟩
  | _ => cases h
theorem name_str {t : Tr} (h : nameT t = true) : ∃ k, t = .str k := by
  cases t with
  | str k => exact ⟨k, rfl⟩
  | _ => cases h
theorem param_shape {t : Tr} (h : paramT t = true) (n : nameT (firstT t) = true) : ∃ s k, t = .tup [.str s, .str k] ∧ kindT (.str k) = true := by
  obtain ⟨s, k, rfl⟩ := param_two h
  have h : kindT k = true := h
  have n : nameT s = true := n
  obtain ⟨k', rfl⟩ := kind_str h
  obtain ⟨s', rfl⟩ := name_str n
  exact ⟨s', k', rfl, h⟩
theorem kinds_keys : ∀ {ts : List Tr}, ts.all paramT = true → (ts.map firstT).all nameT = true → (ts.filterMap pairKm).map (·.1) = texts (ts.map firstT)
  | [], _, _ => rfl
  | t :: r, h, n => by
    rw [List.all_cons, Bool.and_eq_true] at h
    rw [List.map_cons, List.all_cons, Bool.and_eq_true] at n
    obtain ⟨s, k, rfl, _⟩ := param_shape h.1 n.1
    have ih := kinds_keys h.2 n.2
    show s :: (r.filterMap pairKm).map (·.1) = s :: texts (r.map firstT)
    rw [ih]
theorem params_split {ts : List Tr} (h : paramsT (.tup ts) = true) : ts.length ≤ 2 ∧ ts.all paramT = true ∧ (ts.map firstT).all nameT = true ∧ (texts (ts.map firstT)).Nodup := by
  rw [params_tup, Bool.and_eq_true, Bool.and_eq_true] at h
  obtain ⟨⟨h1, h2⟩, h3⟩ := h
  unfold diffT at h3
  rw [Bool.and_eq_true] at h3
  exact ⟨of_decide_eq_true h1, h2, h3.1, of_decide_eq_true h3.2⟩
theorem kindsP_len {t : Tr} (h : paramsT t = true) : (kindsP t).length ≤ 2 := by
  cases t with
  | tup ts =>
    have := (params_split h).1
    exact Nat.le_trans (List.length_filterMap_le _ _) this
  | _ => cases h
def spCInit (K : PySem.W.Frag) (C : Addr) : Sp := fun vs H Q _ => ∃ (x dx va : Addr) (pv : V) (vars : List Str) (pt : Tr), vs = [.ref x, .ref va, pv] ∧ H x = some (.ins C dx []) ∧ SqT K H va (vars.map V.str) ∧ TrAt K H pv pt ∧ paramsT pt = true ∧
  ∀ (d : Addr) (H' : Hp), H d = none → CkAt K C H' ⟨x, va, d⟩ vars (kindsP pt) 0 → (∀ b o, H b = some o → b ≠ x → H' b = some o) → Q .non H'
theorem scCInit : FnScope ["self", "variables", "params", "slot", "kind"] ["self", "variables", "params"] (defScope sCInit) := ⟨rfl, rfl, rfl, by decide +kernel, rfl, by decide +kernel, by decide +kernel⟩
section
variable {P : Program} {w : World} {K : PySem.W.Frag} {mg : Str → Option Value} {base : Heap}
theorem ok_cinit {C f : Addr} {fd : FuncData} (F : Fun K "__init__" "Check.__init__" sCInit f fd) (X : TxK K mg C) : FnOk P w K mg base CX0 1 f fd ["self", "variables", "params"] (spCInit K C) := by
  refine F.ok scCInit (fun vs H Q E h => ?_) (fun cdv A outer s H vs Q E hr h => ?_)
  · obtain ⟨x, dx, va, pv, vars, pt, rfl, _⟩ := h
    rfl
  · obtain ⟨x, dx, va, pvv, vars, pt, rfl, ob, sv, tp, hp, k⟩ := h
    have hu := hu_of hr
    refine ⟨_, pss_cons (ps_fld (pv 0) (pv 1) rfl)
      (pss_cons (ps_fld (pv 0) (pe_dc (own := [("slot", 3), ("kind", 4)]) (g := gTup K 2 (gCons (gName 3) (gCons (gName 4) gNil))) (tt := tYes) rfl scCInit.nd (pi_tup (pv 2))
          (blkOk_by (N := ["self", "variables", "params", "slot", "kind"]) (sc := defScope sCInit) (by decide +kernel))
          (fun _ _ _ _ _ => by exact pg_tup rfl (pgs_cons (pg_name (i := 3) scCInit.nd rfl (Or.inl rfl)) (pgs_cons (pg_name (i := 4) scCInit.nd rfl (Or.inl rfl)) pgs_nil))) (fun _ _ _ _ _ => pts_nil)
          (fun _ _ _ _ _ => pv 3) (fun _ _ _ _ _ => pv 4)) rfl)
      (pss_one (ps_fld (pv 0) pe_int rfl))), ?_⟩
    have keepT : ∀ {H1 H2 : Hp} {t : Addr} {xs : List V} {fs : List (Str × V)}, H1 x = some (.ins C dx fs) → (∀ b o, H1 b = some o → b ≠ x → H2 b = some o) → SqT K H1 t xs → SqT K H2 t xs := fun {H1 H2 t xs fs} e1 kp h => by
      rcases h with (h | ⟨o, h⟩) | h
      · exact .inl (.inl (kp _ _ h (ne_of h e1 (by intro z; cases z))))
      · exact .inl (.inr ⟨o, kp _ _ h (ne_of h e1 (by intro z; cases z))⟩)
      · exact .inr h
    cases tp with
    | @tup pa xs ts hT tr =>
    obtain ⟨l2, hall, hnm, hnd⟩ := params_split hp
    refine ⟨_, rfl, _, rfl, x, C, dx, _, rfl, ob, X.cl, X.nV, by decide, ?_⟩
    have kp1 : ∀ o b u, H b = some u → b ≠ x → (upd H x o) b = some u := fun o b u e n => by rw [upd_ne n]; exact e
    have hT1 := keepT ob (kp1 (.ins C dx (putF "variables" (.ref va) []))) hT
    have ob1 : (upd H x (.ins C dx (putF "variables" (.ref va) []))) x = some (.ins C dx [("variables", .ref va)]) := upd_same
    have k1 := kp1 (.ins C dx (putF "variables" (.ref va) []))
    generalize upd H x (.ins C dx (putF "variables" (.ref va) [])) = H1 at hT1 ob1 k1 ⊢
    have tr1 : TrAll K H1 xs ts := by
      have sm : ∀ b o, H b = some o → b ≠ x → H1 b = some o := k1
      have one : ∀ {v : V} {t : Tr}, TrAt K H v t → paramT t = true → nameT (firstT t) = true → TrAt K H1 v t := fun {v t} h p n => by
        obtain ⟨s, kd, rfl, _⟩ := param_shape p n
        cases h with
        | @tup b ys _ hb tb =>
        cases tb with
        | cons h1 r1 =>
        cases r1 with
        | cons h2 r2 =>
        cases r2 with
        | nil =>
        cases h1 with
        | str _ z1 =>
        cases h2 with
        | str _ z2 => exact .tup (keepT ob sm hb) (.cons (.str _ z1) (.cons (.str _ z2) .nil))
      have all : ∀ {vs : List V} {us : List Tr}, TrAll K H vs us → us.all paramT = true → (us.map firstT).all nameT = true → TrAll K H1 vs us := fun {vs us} h => by
        induction vs generalizing us with
        | nil => cases h; exact fun _ _ => .nil
        | cons v r ih =>
          cases h with
          | cons h1 h2 =>
            intro p n
            rw [List.all_cons, Bool.and_eq_true] at p
            rw [List.map_cons, List.all_cons, Bool.and_eq_true] at n
            exact .cons (one h1 p.1 n.1) (ih h2 p.2 n.2)
      exact all tr hall hnm
    refine ⟨_, rfl, pa, rfl, ⟨_, hT1⟩, fun D nD => ?_⟩
    have sD := same_new (o := .dK []) nD
    have nxD : x ≠ D := ne_of_none ob1 nD
    refine dc_tup (K := K) (a := pa) (xs := xs) (fun i H2 => H2 D = some (.dK (kk ((ts.take i).filterMap pairKm))) ∧ ∀ b o, H1 b = some o → H2 b = some o)
      ⟨upd_same, sD⟩ (fun i H2 _ ⟨_, s2⟩ => sqt_same s2 hT1) ?_ ?_
    · rintro i y H2 hi ⟨e2, s2⟩
      obtain ⟨t, ht, ty⟩ := (tr1.same s2).get hi
      have pt : paramT t = true := List.all_eq_true.mp hall t (List.mem_of_getElem? ht)
      have nt : nameT (firstT t) = true := List.all_eq_true.mp hnm _ (List.mem_map.mpr ⟨t, List.mem_of_getElem? ht, rfl⟩)
      obtain ⟨s, kd, rfl, hkd⟩ := param_shape pt nt
      have il : i < ts.length := (List.getElem?_eq_some_iff.mp ht).1
      have et : ts.take (i + 1) = ts.take i ++ [.tup [.str s, .str kd]] := by rw [List.take_add_one, ht]; rfl
      cases ty with
      | @tup b ys _ hb tb =>
      have l2 := tb.len
      cases tb with
      | cons h1 r1 =>
      cases r1 with
      | cons h2 r2 =>
      cases r2 with
      | nil =>
      cases h1 with
      | str _ z1 =>
      cases h2 with
      | str _ z2 =>
      refine ⟨b, _, rfl, hb, rfl, _, _, rfl, _, _, rfl, rfl, rfl, ?_⟩
      refine tyes ?_
      refine ⟨_, rfl, _, rfl, _, .inr s, rfl, e2, small1000 ?_, ?_, fun b o e => ?_⟩
      · rw [kk_len]
        have := List.length_filterMap_le pairKm (ts.take i)
        rw [List.length_take] at this
        omega
      · rw [upd_same, et, List.filterMap_append]
        have hk : (ts.filterMap pairKm).map (·.1) = texts (ts.map firstT) := kinds_keys hall hnm
        have none_ : kget ((ts.take i).filterMap pairKm) s = none := by
          refine kget_none fun hm => ?_
          rw [← hk] at hnd
          have ed : ts = ts.take i ++ (.tup [.str s, .str kd]) :: ts.drop (i + 1) := by
            have e1 := (List.take_append_drop i ts).symm
            rw [List.drop_eq_getElem_cons il] at e1
            rw [(Option.some.inj ((List.getElem?_eq_getElem il).symm.trans ht))] at e1
            exact e1
          rw [ed, List.filterMap_append, List.map_append] at hnd
          have := (List.nodup_append.mp hnd).2.2 _ hm s List.mem_cons_self
          exact this rfl
        rw [putK_kk none_]
        rfl
      · rw [upd_ne (ne_of_none e nD)]
        exact s2 b o e
    · rintro H2 ⟨e2, s2⟩
      have et : ts.take xs.length = ts := by rw [tr.len, List.take_length]
      rw [et] at e2
      refine ⟨_, rfl, x, C, dx, _, rfl, s2 _ _ ob1, X.cl, X.nK, (show 1 < 1000 by decide), ?_⟩
      refine ⟨_, rfl, x, C, dx, _, rfl, upd_same, X.cl, X.nM, (show 2 < 1000 by decide), ?_⟩
      have hD0 : H D = none := by
        cases e : H D with
        | none => rfl
        | some o =>
          by_cases z : D = x
          · exact absurd z.symm nxD
          · rw [k1 _ _ e z] at nD; cases nD
      refine k D _ hD0 ⟨⟨dx, upd_same⟩, ?_, ?_⟩ fun b o e n => ?_
      · rw [upd_ne nxD.symm, upd_ne nxD.symm]
        exact e2
      · refine keepT (H1 := H2) (s2 _ _ ob1) (fun b o e n => ?_) (sqt_same s2 (keepT ob k1 sv))
        rw [upd_ne n, upd_ne n]
        exact e
      · rw [upd_ne n, upd_ne n]
        exact s2 _ _ (k1 _ _ e n)
    | _ => cases hp
end
end BK


set_option Elab.async false
set_option maxRecDepth 100000
set_option maxHeartbeats 2000000
/-! fault_in. -/
namespace BK
open PySem PySem.Spec PyProof.Rows L2 RZ ET
def tupTs : Tr → List Tr
  | .tup ts => ts
  | _ => []
def blocksT (t : Tr) : List (List Tr) := ((tupTs t).filter isTup).map tupTs
def wordS : Tr → Str
  | .tup (.str w :: _) => w
  | _ => Str.empty
abbrev Ck := Km × Nat
abbrev Fl := Option (List Nat) × Ck
def blocksIn (f : List Tr → Ck → Fl) : List (List Tr) → Nat → Ck → Fl
  | [], _, c => (none, c)
  | b :: r, j, c => match f b c with
    | (some w, c') => (some (j :: w), c')
    | (none, c') => blocksIn f r (j + 1) c'
def faultL (vars : List Str) (rec : List Tr → List Str → Ck → Fl) (as : List Str) : List Tr → Nat → Ck → Fl
  | [], _, c => (none, c)
  | t :: r, i, c => match takesT vars t as c.1 (c.2 + 1) with
    | (false, m) => (some [i], (m, c.2 + 1))
    | (true, m) => match blocksIn (fun b c => rec b (as ++ [wordS t]) c) (blocksT t) 0 (m, c.2 + 1) with
      | (some w, c') => (some (i :: w), c')
      | (none, c') => faultL vars rec as r (i + 1) c'
def faultD (vars : List Str) : Nat → List Tr → List Str → Ck → Fl
  | 0, b, as, c => faultL vars (fun _ _ c => (none, c)) as b 0 c
  | d + 1, b, as, c => faultL vars (faultD vars d) as b 0 c
def recF (vars : List Str) : Nat → List Tr → List Str → Ck → Fl
  | 0 => fun _ _ c => (none, c)
  | d + 1 => faultD vars d
theorem faultD_eq (vars : List Str) (d : Nat) (b : List Tr) (as : List Str) (c : Ck) : faultD vars d b as c = faultL vars (recF vars d) as b 0 c := by cases d <;> rfl
def wayV (l : List Nat) : List V := l.map fun n : Nat => V.int (n : Int)
/-- the bounds of what was met -/
def Few (c : Ck) : Prop := c.2 ≤ 16 ∧ c.1.length ≤ 10 + 4 * c.2
def spFault (K : PySem.W.Frag) (C : Addr) (d : Nat) : Sp := fun vs H Q _ => ∃ a v wy ar vars c ts w0 as, vs = [.ref a.p, v, .ref wy, .ref ar] ∧ CkAt K C H a vars c.1 c.2 ∧ Few c ∧ TrAt K H v (.tup ts) ∧ SqT K H wy (wayV w0) ∧ w0.length + 2 * d ≤ 100 ∧ SqT K H ar (as.map V.str) ∧ as.length + d = 5 ∧
  ∀ H', CkAt K C H' a vars (faultD vars d ts as c).2.1 (faultD vars d ts as c).2.2 → ButC a H H' → ((faultD vars d ts as c).1 = none → Few (faultD vars d ts as c).2 → Q .non H') ∧ ∀ w t, (faultD vars d ts as c).1 = some w → SqT K H' t (wayV (w0 ++ w)) → Q (.ref t) H'
def spRec (K : PySem.W.Frag) (C : Addr) : Nat → Sp
  | 0 => fun _ _ _ _ => False
  | d + 1 => spFault K C d
theorem takes_deep {vars : List Str} {t : Tr} {as : List Str} {m : Km} {n : Nat} (h : 4 < as.length) : takesT vars t as m n = (false, m) := if_pos (.inr h)
theorem takes_few {vars : List Str} {t : Tr} {as : List Str} {m m' : Km} {n : Nat} (h : takesT vars t as m n = (true, m')) (hm : m.length + 4 ≤ 10 + 4 * n) : n ≤ 16 ∧ as.length ≤ 4 ∧ m'.length ≤ 10 + 4 * n ∧ ∃ x rest ks, t = .tup (.str x :: rest) ∧ kindsOf x = some ks ∧ fitsT rest ks = true := by
  unfold takesT at h
  by_cases z : 16 < n ∨ 4 < as.length
  · rw [if_pos z] at h
    cases h
  · rw [if_neg z] at h
    have z1 : ¬ 16 < n := fun q => z (.inl q)
    have z2 : ¬ 4 < as.length := fun q => z (.inr q)
    split at h
    · rename_i x rest
      cases ek : kindsOf x with
      | none => rw [ek] at h; cases h
      | some ks =>
        rw [ek] at h
        simp only at h
        by_cases ef : fitsT rest ks = true
        · rw [if_pos ef] at h
          have e2 := congrArg Prod.snd h
          simp only at e2
          have := knows_len (vars := vars) (rest.zip ks) m
          have kf := kinds_few ek
          rw [List.length_zip] at this
          rw [e2] at this
          exact ⟨by omega, by omega, by omega, x, rest, ks, rfl, ek, ef⟩
        · rw [if_neg ef] at h
          cases h
    · cases h
theorem blocks_form {x : Str} {rest : List Tr} : blocksT (.tup (.str x :: rest)) = (rest.filter isTup).map tupTs := rfl
end BK


set_option Elab.async false
set_option maxRecDepth 100000
set_option maxHeartbeats 4000000
/-! fault_in: the step. -/
namespace BK
open PySem PySem.Spec PyProof.Rows L2 RZ ET
theorem way_snoc (w : List Nat) (i : Nat) : wayV (w ++ [i]) = wayV w ++ [.int (i : Nat)] := by unfold wayV; rw [List.map_append]; rfl
theorem way_ne (w : List Nat) (i : Nat) : wayV (w ++ [i]) ≠ [] := by
  rw [way_snoc]
  simp
theorem way_len (w : List Nat) : (wayV w).length = w.length := by unfold wayV; rw [List.length_map]
abbrev nFault : List Str := ["self", "block", "way", "around", "number", "statement", "here", "inside", "at", "inner", "fault"]
theorem scFault : FnScope nFault ["self", "block", "way", "around"] (defScope sFault) := ⟨rfl, rfl, rfl, by decide +kernel, rfl, by decide +kernel, by decide +kernel⟩
section
variable {P : Program} {w : World} {K : PySem.W.Frag} {mg : Str → Option Value} {base : Heap}
/-- t + (x,) -/
theorem cat_one {X : Cx} {H : Hp} {wy : Addr} {xs : List V} {x : V} {Q : VK} (hw : SqT X.K H wy xs) (hl : xs.length ≤ 1000) (k : ∀ (q : Addr) (H' : Hp), Same H H' → SqT X.K H' q (xs ++ [x]) → Q (.ref q) H') :
    (∀ p, H p = none → rCatA X.K (.ref wy) (.ref p) (upd H p (.tup [x])) Q) := fun p np => by
  have s1 := same_new (o := .tup [x]) np
  have big : sizeLine = 16777216 := sizeLine_eq
  refine ⟨wy, p, xs, [x], rfl, rfl, sqt_same s1 hw, SqT.of upd_same, by simp; omega, fun e => ?_, fun _ e => (by cases e), fun _ _ q nq => ?_⟩
  · subst e
    exact k p _ s1 (SqT.of upd_same)
  · exact k q _ (s1.trans (same_new nq)) (SqT.of upd_same)
theorem ok_fault_step {C f fT fB : Addr} {fd fdT fdB : FuncData} (F : Fun K "fault_in" "Check.fault_in" sFault f fd) (X : TxK K mg C) (mE : mg "enumerate" = none)
    (GT : FnOk P w K mg base CX0 8 fT fdT ["self", "statement", "around"] (spTakes K C)) (bT : Binds K fdT ["self", "statement", "around"] []) (mT : Meth K C "takes" fT)
    (GB : FnOk P w K mg base CX0 1 fB fdB ["statement"] (spBlocks K)) (bB : Binds K fdB ["statement"] []) (gB : mg "blocks_of" = some (.ref fB)) (kB : PySem.W.keepIn K (.ref fB) = true)
    (bF : Binds K fd ["self", "block", "way", "around"] []) (mF : Meth K C "fault_in" f) (d : Nat)
    (GR : FnOk P w K mg base CX0 (8 + d) f fd ["self", "block", "way", "around"] (spRec K C d)) : FnOk P w K mg base CX0 (8 + d + 1) f fd ["self", "block", "way", "around"] (spFault K C d) := by
  refine F.ok scFault (fun vs H Q E h => ?_) (fun cdv A outer s H vs Q E hr h => ?_)
  · obtain ⟨a, v, wy, ar, vars, c, ts, w0, as, rfl, _⟩ := h
    rfl
  · obtain ⟨a, v, wy, ar, vars, c, ts, w0, as, rfl, cA, fw, ht, sw, wl, sa, al, k⟩ := h
    have hr8 : Room 8 _ := hr.mono (by omega)
    have hr1 : Room 1 _ := hr.mono (by omega)
    refine ⟨_, pss_cons (ps_for PassesOwn.never rfl (pi_enumT (by rfl) mE (pa_cons (pv 1) pa_nil))
        (pg_tup rfl (pgs_cons (pg_name (i := 4) scFault.nd rfl (Or.inl rfl)) (pgs_cons (pg_name (i := 5) scFault.nd rfl (Or.inl rfl)) pgs_nil)))
        (C8.pss_cut (ps_set (i := 6) scFault.nd rfl (Or.inl rfl) (pe_op op_catA (pv 2) (pe_tup (pa_cons (pv 4) pa_nil))))
        (C8.pss_cut (ps_if (pt_not (pt_val (pe_meth (pv 0) X.cl mT GT hr8 bT .nil pass0 (pa_cons (pv 5) (pa_cons (pv 3) pa_nil))))) (pss_one (ps_ret (pv 6))) pss_nil)
        (C8.pss_cut (ps_set (i := 7) scFault.nd rfl (Or.inl rfl) (pe_op op_catA (pv 3) (pe_tup (pa_cons (pe_ix ix_tup (pv 5) pe_int (fun _ _ => rfl)) pa_nil))))
        (pss_one (ps_for PassesOwn.never rfl (pi_enum (by rfl) mE (pa_cons (pe_call GB hr1 rfl gB kB bB .nil pass0 (pa_cons (pv 5) pa_nil)) pa_nil))
          (pg_tup rfl (pgs_cons (pg_name (i := 8) scFault.nd rfl (Or.inl rfl)) (pgs_cons (pg_name (i := 9) scFault.nd rfl (Or.inl rfl)) pgs_nil)))
          (pss_cons (ps_set (i := 10) scFault.nd rfl (Or.inl rfl) (pe_meth (pv 0) X.cl mF GR hr bF .nil pass0 (pa_cons (pv 9) (pa_cons (pe_op op_catA (pv 6) (pe_tup (pa_cons (pv 8) pa_nil))) (pa_cons (pv 7) pa_nil)))))
          (pss_one (ps_if (pt_cmp (pc_notN (pv 10))) (pss_one (ps_ret (pv 10))) pss_nil)))))))))
      (pss_one (ps_ret pe_non)), ?_⟩
    rw [faultD_eq] at k
    cases ht with
    | @tup b xs _ h tr =>
    have xl := tr.len
    refine ⟨_, rfl, b, xs, rfl, h, for_it (walk_enumT (K := K) (a := b) (xs := xs)) (fun i σ H2 => ∃ (v4 v5 v6 v7 v8 v9 v10 : Option V) (c2 : Ck), σ = [some (.ref a.p), some (.ref b), some (.ref wy), some (.ref ar), v4, v5, v6, v7, v8, v9, v10] ∧ CkAt K C H2 a vars c2.1 c2.2 ∧ ButC a H H2 ∧ Few c2 ∧
        faultL vars (recF vars d) as ts 0 c = faultL vars (recF vars d) as (ts.drop i) i c2)
      ⟨none, none, none, none, none, none, none, c, rfl, cA, ButC.refl _ _, fw, rfl⟩ (fun i σ H2 _ ⟨_, _, _, _, _, _, _, c2, _, _, b2, _⟩ => b2.tup cA h) ?_ ?_⟩
    · rintro i y σ H2 H3 hi ⟨v4, v5, v6, v7, v8, v9, v10, c2, rfl, k2, b2, f2, e2⟩ ⟨T, xi, y', rfl, nT, rfl, q1, q2⟩
      obtain rfl : V.int (i : Nat) = xi := Option.some.inj q1
      have q2 : xs[i]? = some y' := q2
      have sT := same_new (o := .tup [.int (i : Nat), y']) nT
      obtain ⟨t, q3, _⟩ := tr.get q2
      have il : i < ts.length := (List.getElem?_eq_some_iff.mp q3).1
      have ed : ts.drop i = t :: ts.drop (i + 1) := by
        rw [List.drop_eq_getElem_cons il]
        congr 1
        exact Option.some.inj ((List.getElem?_eq_getElem il).symm.trans q3)
      rw [ed] at e2
      have k3 := k2.same sT
      have b3 := b2.trans (ButC.of sT)
      have getY : ∀ {H' : Hp} {c' : Ck}, CkAt K C H' a vars c'.1 c'.2 → ButC a H H' → TrAt K H' y' t := fun {H' c'} kc bc => by
        obtain ⟨t', q4, ty⟩ := TrAll.get (tr.but bc cA kc) q2
        obtain rfl : t = t' := Option.some.inj (q3.symm.trans q4)
        exact ty
      refine ⟨T, _, rfl, SqT.of upd_same, rfl, _, _, rfl, _, _, rfl, rfl, ?_⟩
      generalize upd H2 T (.tup [.int (i : Nat), y']) = H3 at k3 b3 sT ⊢
      -- here
      refine ⟨fun σ H4 => ∃ hw : Addr, σ = [some (.ref a.p), some (.ref b), some (.ref wy), some (.ref ar), some (.int (i : Nat)), some y', some (.ref hw), v7, v8, v9, v10] ∧ SqT K H4 hw (wayV (w0 ++ [i])) ∧ CkAt K C H4 a vars c2.1 c2.2 ∧ ButC a H H4, ?_, ?_⟩
      · refine ⟨_, rfl, _, rfl, (by show 1 ≤ sizeLine; decide), ?_⟩
        refine cat_one (X := (cxOf CX0 P w K mg base nFault "Check.fault_in" (defScope sFault) f cdv A outer s H E).nox) (b3.tup cA sw) (by rw [way_len]; omega) fun q H4 s4 hq => ?_
        rw [← way_snoc] at hq
        exact ⟨q, rfl, hq, k3.same s4, b3.trans (ButC.of s4)⟩
      rintro σ H4 ⟨hw, rfl, hs, k4, b4⟩
      clear k3 b3 sT
      obtain ⟨⟨dx, ob⟩, dc, _⟩ := id k4
      -- takes
      refine ⟨fun σ H5 => ∃ m : Km, σ = [some (.ref a.p), some (.ref b), some (.ref wy), some (.ref ar), some (.int (i : Nat)), some y', some (.ref hw), v7, v8, v9, v10] ∧ takesT vars t as c2.1 (c2.2 + 1) = (true, m) ∧ CkAt K C H5 a vars m (c2.2 + 1) ∧ ButC a H H5 ∧ SqT K H5 hw (wayV (w0 ++ [i])), ?_, ?_⟩
      · refine ⟨_, rfl, a.p, dx, _, rfl, ob, cfs_no a _ (by decide +kernel) (by decide +kernel) (by decide +kernel), _, rfl, _, rfl, a, y', ar, vars, c2.1, c2.2, t, as, rfl, k4, by have := f2.1; have := f2.2; omega, getY k4 b4, b4.tup cA sa, fun H5 k5 b5 => ⟨_, rfl, ?_⟩⟩
        have b45 := b4.trans b5
        have hs5 := b5.tup k4 hs
        cases e5 : takesT vars t as c2.1 (c2.2 + 1) with
        | mk bt m =>
        rw [e5] at k5
        cases bt with
        | true => exact iteF ⟨m, rfl, rfl, k5, b45, hs5⟩
        | false =>
          have e6 : faultL vars (recF vars d) as ts 0 c = (some [i], (m, c2.2 + 1)) := by
            rw [e2]
            show (match takesT vars t as c2.1 (c2.2 + 1) with
              | (false, m) => (some [i], (m, c2.2 + 1))
              | (true, m) => match blocksIn (fun b c => recF vars d b (as ++ [wordS t]) c) (blocksT t) 0 (m, c2.2 + 1) with
                | (some w, c') => (some (i :: w), c')
                | (none, c') => faultL vars (recF vars d) as (ts.drop (i + 1)) (i + 1) c') = _
            rw [e5]
          rw [e6] at k
          exact iteT ⟨_, rfl, (k H5 k5 b45).2 [i] hw rfl hs5⟩
      rintro σ H5 ⟨m, rfl, e5, k5, b5, hs5⟩
      obtain ⟨n16, a4, ml, x, rest, ks, rfl, ek, ef⟩ := takes_few e5 (by have := f2.2; omega)
      have rl : rest.length = ks.length := by
        unfold fitsT at ef
        exact of_decide_eq_true (Bool.and_eq_true_iff.mp ef).1
      have kf := kinds_few ek
      -- inside
      refine ⟨fun σ H6 => ∃ ins : Addr, σ = [some (.ref a.p), some (.ref b), some (.ref wy), some (.ref ar), some (.int (i : Nat)), some y', some (.ref hw), some (.ref ins), v8, v9, v10] ∧ CkAt K C H6 a vars m (c2.2 + 1) ∧ ButC a H H6 ∧ SqT K H6 hw (wayV (w0 ++ [i])) ∧ SqT K H6 ins ((as ++ [x]).map V.str), ?_, ?_⟩
      · have ty5 := getY (c' := (m, c2.2 + 1)) k5 b5
        cases ty5 with
        | @tup yb ys _ hy ty =>
        cases ty with
        | @cons y0 yr _ _ h0 r0 =>
        cases h0 with
        | str _ hx =>
        refine ⟨_, rfl, _, rfl, yb, _, 0, _, rfl, rfl, hy, at_of (j := 0) rfl rfl, (by show 1 ≤ sizeLine; decide), ?_⟩
        refine cat_one (X := (cxOf CX0 P w K mg base nFault "Check.fault_in" (defScope sFault) f cdv A outer s H E).nox) (b5.tup cA sa) (by rw [List.length_map]; omega) fun q H6 s6 hq => ?_
        refine ⟨q, rfl, k5.same s6, b5.trans (ButC.of s6), sqt_same s6 hs5, ?_⟩
        rw [List.map_append]
        exact hq
      rintro σ H6 ⟨ins, rfl, k6, b6, hs6, si6⟩
      -- the blocks
      cases d with
      | zero => omega
      | succ d =>
      have eL : faultL vars (recF vars (d + 1)) as ts 0 c = (match blocksIn (fun b c => faultD vars d b (as ++ [x]) c) ((rest.filter isTup).map tupTs) 0 (m, c2.2 + 1) with
          | (some w, c') => (some (i :: w), c')
          | (none, c') => faultL vars (recF vars (d + 1)) as (ts.drop (i + 1)) (i + 1) c') := by
        rw [e2]
        show (match takesT vars (.tup (.str x :: rest)) as c2.1 (c2.2 + 1) with
          | (false, m) => (some [i], (m, c2.2 + 1))
          | (true, m) => match blocksIn (fun b c => faultD vars d b (as ++ [x]) c) ((rest.filter isTup).map tupTs) 0 (m, c2.2 + 1) with
            | (some w, c') => (some (i :: w), c')
            | (none, c') => faultL vars (recF vars (d + 1)) as (ts.drop (i + 1)) (i + 1) c') = _
        rw [e5]
      refine ⟨_, rfl, y', (.str x :: rest), rfl, getY (c' := (m, c2.2 + 1)) k6 b6, by rw [List.length_cons]; omega, fun D bs H7 s7 nD eD tb => ?_⟩
      have tb : TrAll K H7 bs (rest.filter isTup) := tb
      have k7 := k6.same s7
      have b7 := b6.trans (ButC.of s7)
      have hs7 := sqt_same s7 hs6
      have si7 := sqt_same s7 si6
      refine ⟨D, bs, rfl, SqL.of eD, for_it (walk_enum (K := K) (a := D) (xs := bs)) (fun j σ H8 => ∃ (v8 v9 v10 : Option V) (c3 : Ck), σ = [some (.ref a.p), some (.ref b), some (.ref wy), some (.ref ar), some (.int (i : Nat)), some y', some (.ref hw), some (.ref ins), v8, v9, v10] ∧ CkAt K C H8 a vars c3.1 c3.2 ∧ ButC a H7 H8 ∧ Few c3 ∧
          blocksIn (fun b c => faultD vars d b (as ++ [x]) c) ((rest.filter isTup).map tupTs) 0 (m, c2.2 + 1) = blocksIn (fun b c => faultD vars d b (as ++ [x]) c) (((rest.filter isTup).map tupTs).drop j) j c3)
        ⟨v8, v9, v10, (m, c2.2 + 1), rfl, k7, ButC.refl _ _, ⟨n16, ml⟩, rfl⟩ (fun j σ H8 _ ⟨_, _, _, c3, _, _, b8, _⟩ => b8.lst k7 (SqL.of eD)) ?_ ?_⟩
      · rintro j z σ H8 H9 hj ⟨v8, v9, v10, c3, rfl, k8, b8, f3, e3⟩ ⟨U, xj, z', rfl, nU, rfl, q5, q6⟩
        obtain rfl : V.int (j : Nat) = xj := Option.some.inj q5
        have q6 : bs[j]? = some z' := q6
        have sU := same_new (o := .tup [.int (j : Nat), z']) nU
        have k9 := k8.same sU
        have b9 := b8.trans (ButC.of sU)
        obtain ⟨u, q7, tz⟩ := TrAll.get (tb.but b9 k7 k9) q6
        have iu : isTup u = true := (List.mem_filter.mp (List.mem_of_getElem? q7)).2
        obtain ⟨us, rfl⟩ : ∃ us, u = .tup us := by
          cases u with
          | tup us => exact ⟨us, rfl⟩
          | _ => cases iu
        have q8 : ((rest.filter isTup).map tupTs)[j]? = some us := by rw [List.getElem?_map, q7]; rfl
        have jl : j < ((rest.filter isTup).map tupTs).length := (List.getElem?_eq_some_iff.mp q8).1
        have ed3 : ((rest.filter isTup).map tupTs).drop j = us :: ((rest.filter isTup).map tupTs).drop (j + 1) := by
          rw [List.drop_eq_getElem_cons jl]
          congr 1
          exact Option.some.inj ((List.getElem?_eq_getElem jl).symm.trans q8)
        rw [ed3] at e3
        obtain ⟨⟨dx9, ob9⟩, dc9, _⟩ := id k9
        refine ⟨U, _, rfl, SqT.of upd_same, rfl, _, _, rfl, _, _, rfl, rfl, ?_⟩
        generalize upd H8 U (.tup [.int (j : Nat), z']) = H9 at k9 b9 tz ob9 dc9 ⊢
        refine ⟨_, rfl, a.p, dx9, _, rfl, ob9, cfs_no a _ (by decide +kernel) (by decide +kernel) (by decide +kernel), _, rfl, _, rfl, _, rfl, (by show 1 ≤ sizeLine; decide), ?_⟩
        refine cat_one (X := (cxOf CX0 P w K mg base nFault "Check.fault_in" (defScope sFault) f cdv A outer s H E).nox) (b9.tup k7 hs7) (by rw [way_len, List.length_append]; simp; omega) fun q H10 s10 hq => ?_
        rw [← way_snoc] at hq
        have k10 := k9.same s10
        have b10 := b9.trans (ButC.of s10)
        refine ⟨_, rfl, a, z', q, ins, vars, c3, us, w0 ++ [i] ++ [j], as ++ [x], rfl, k10, f3, tz.same s10, hq, by simp; omega, b10.tup k7 si7, by simp; omega, fun H11 k11 b11 => ?_⟩
        have b711 := b10.trans b11
        cases e11 : faultD vars d us (as ++ [x]) c3 with
        | mk r c4 =>
        rw [e11] at k11
        have e12 : blocksIn (fun b c => faultD vars d b (as ++ [x]) c) ((rest.filter isTup).map tupTs) 0 (m, c2.2 + 1) = (match (r, c4) with
            | (some w, c') => (some (j :: w), c')
            | (none, c') => blocksIn (fun b c => faultD vars d b (as ++ [x]) c) (((rest.filter isTup).map tupTs).drop (j + 1)) (j + 1) c') := by
          rw [e3, ← e11]
          rfl
        refine ⟨fun er fw4 => ?_, fun w4 t4 er ht4 => ?_⟩
        · have er : r = none := er
          subst er
          refine ⟨_, rfl, _, rfl, iteF ⟨_, _, _, c4, rfl, k11, b711, fw4, e12⟩⟩
        · have er : r = some w4 := er
          subst er
          have e12 : blocksIn (fun b c => faultD vars d b (as ++ [x]) c) ((rest.filter isTup).map tupTs) 0 (m, c2.2 + 1) = (some (j :: w4), c4) := e12
          rw [e12] at eL
          have eL : faultL vars (recF vars (d + 1)) as ts 0 c = (some (i :: j :: w4), c4) := eL
          rw [eL] at k
          refine ⟨_, rfl, _, rfl, iteT ⟨_, rfl, (k H11 k11 (b7.trans b711)).2 _ t4 rfl ?_⟩⟩
          have : w0 ++ [i] ++ [j] ++ w4 = w0 ++ (i :: j :: w4) := by simp
          rw [this] at ht4
          exact ht4
      · rintro σ H8 ⟨v8, v9, v10, c3, rfl, k8, b8, f3, e3⟩
        have e0 : ((rest.filter isTup).map tupTs).drop bs.length = [] := by
          rw [tb.len, ← List.length_map (f := tupTs), List.drop_length]
        rw [e0] at e3
        have e3 : blocksIn (fun b c => faultD vars d b (as ++ [x]) c) ((rest.filter isTup).map tupTs) 0 (m, c2.2 + 1) = (none, c3) := e3
        rw [e3] at eL
        exact ⟨_, _, _, _, _, _, _, c3, rfl, k8, b7.trans b8, f3, eL⟩
    · rintro σ H2 ⟨v4, v5, v6, v7, v8, v9, v10, c2, rfl, k2, b2, f2, e2⟩
      have e0 : ts.drop xs.length = [] := by rw [xl, List.drop_length]
      rw [e0] at e2
      have e2 : faultL vars (recF vars d) as ts 0 c = (none, c2) := e2
      rw [e2] at k
      exact (k H2 k2 b2).1 rfl f2
end
end BK


set_option Elab.async false
set_option maxRecDepth 100000
set_option maxHeartbeats 2000000
/-! fault_of_pieces. -/
namespace BK
open PySem PySem.Spec PyProof.Rows L2 RZ ET
inductive Place where
  | empty
  | vars
  | at_ (i : Nat)
  | way (i : Nat) (w : List Nat)
def intsT (w : List Nat) : List Tr := w.map fun n : Nat => Tr.int (n : Int)
def placeT : Place → Tr
  | .empty => .tup []
  | .vars => .tup [.str "vars"]
  | .at_ i => .tup [.int (i : Nat)]
  | .way i w => .tup [.int (i : Nat), .tup (intsT w)]
def resT : Option Place → Tr
  | none => .non
  | some p => placeT p
def paramsOf : Tr → Tr
  | .tup [_, p, _] => p
  | _ => .non
def blockOf : Tr → List Tr
  | .tup [_, _, .tup ts] => ts
  | _ => []
def piecesL (vars : List Str) : List Tr → Nat → List Str → Option Place
  | [], _, _ => none
  | t :: r, i, ns => if tripleT t = true ∧ wordS t ∉ ns then
      match (faultD vars 5 (blockOf t) [] (kindsP (paramsOf t), 0)).1 with
      | some w => some (.way i w)
      | none => piecesL vars r (i + 1) (ns ++ [wordS t])
    else some (.at_ i)
theorem triple_shape {t : Tr} (h : tripleT t = true) : ∃ n p bts, t = .tup [.str n, p, .tup bts] ∧ paramsT p = true := by
  unfold tripleT at h
  split at h
  · rename_i n p b
    rw [Bool.and_eq_true, Bool.and_eq_true] at h
    obtain ⟨⟨h1, h2⟩, h3⟩ := h
    obtain ⟨s, rfl⟩ := name_str h1
    cases b with
    | tup bts => exact ⟨s, p, bts, rfl, h2⟩
    | _ => cases h3
  · cases h
def spPieces (K : PySem.W.Frag) : Sp := fun vs H Q _ => ∃ va pa vars xs ts, vs = [.ref va, .ref pa] ∧ SqT K H va (vars.map V.str) ∧ SqT K H pa xs ∧ TrAll K H xs ts ∧ ts.length ≤ 900 ∧ ∀ v H', Same H H' → TrAt K H' v (resT (piecesL vars ts 0 [])) → Q v H'
abbrev sPieces : Stmt := top 42
theorem scPieces : FnScope ["variables", "pieces", "names", "number", "piece", "way"] ["variables", "pieces"] (defScope sPieces) := ⟨rfl, rfl, rfl, by decide +kernel, rfl, by decide +kernel, by decide +kernel⟩
theorem wayV_tr {K : PySem.W.Frag} {H : Hp} : ∀ w : List Nat, TrAll K H (wayV w) (intsT w)
  | [] => .nil
  | n :: r => .cons (.int _) (wayV_tr r)
section
variable {P : Program} {w : World} {K : PySem.W.Frag} {mg : Str → Option Value} {base : Heap}
theorem fn_false {k : Nat} {f : Addr} {fd : FuncData} {ps : List Str} (bd : ∀ vs : List V, True) : FnOk P w K mg base CX0 k f fd ps (fun _ _ _ _ => False) := by
  constructor
  all_goals intros
  all_goals first | contradiction | (exfalso; assumption)
theorem ok_fault {C f fT fB : Addr} {fd fdT fdB : FuncData} (F : Fun K "fault_in" "Check.fault_in" sFault f fd) (X : TxK K mg C) (mE : mg "enumerate" = none)
    (GT : FnOk P w K mg base CX0 8 fT fdT ["self", "statement", "around"] (spTakes K C)) (bT : Binds K fdT ["self", "statement", "around"] []) (mT : Meth K C "takes" fT)
    (GB : FnOk P w K mg base CX0 1 fB fdB ["statement"] (spBlocks K)) (bB : Binds K fdB ["statement"] []) (gB : mg "blocks_of" = some (.ref fB)) (kB : PySem.W.keepIn K (.ref fB) = true)
    (bF : Binds K fd ["self", "block", "way", "around"] []) (mF : Meth K C "fault_in" f) : ∀ d, FnOk P w K mg base CX0 (8 + d + 1) f fd ["self", "block", "way", "around"] (spFault K C d)
  | 0 => ok_fault_step F X mE GT bT mT GB bB gB kB bF mF 0 (fn_false fun _ => trivial)
  | d + 1 => ok_fault_step F X mE GT bT mT GB bB gB kB bF mF (d + 1) (ok_fault F X mE GT bT mT GB bB gB kB bF mF d)
end
end BK


set_option Elab.async false
set_option maxRecDepth 100000
set_option maxHeartbeats 2000000
namespace BK
open PySem PySem.Spec PyProof.Rows L2 RZ ET
section
variable {P : Program} {w : World} {K : PySem.W.Frag} {mg : Str → Option Value} {base : Heap}
theorem ok_pieces {C f fT fI fF : Addr} {fd fdT fdI fdF : FuncData} (F : Fun K "fault_of_pieces" "fault_of_pieces" sPieces f fd) (X : TxK K mg C) (mE : mg "enumerate" = none)
    (GT : FnOk P w K mg base CX0 4 fT fdT ["thing"] (spOf tripleT K)) (bT : Binds K fdT ["thing"] []) (gT : mg "is_triple" = some (.ref fT)) (kT : PySem.W.keepIn K (.ref fT) = true)
    (M : Mk K C fI) (GI : FnOk P w K mg base CX0 1 fI fdI ["self", "variables", "params"] (spCInit K C)) (bI : Binds K fdI ["self", "variables", "params"] [])
    (GF : FnOk P w K mg base CX0 14 fF fdF ["self", "block", "way", "around"] (spFault K C 5)) (bF : Binds K fdF ["self", "block", "way", "around"] []) (mF : Meth K C "fault_in" fF) :
    FnOk P w K mg base CX0 15 f fd ["variables", "pieces"] (spPieces K) := by
  refine F.ok scPieces (fun vs H Q E h => ?_) (fun cdv A outer s H vs Q E hr h => ?_)
  · obtain ⟨va, pa, vars, xs, ts, rfl, _⟩ := h
    rfl
  · obtain ⟨va, pa, vars, xs, ts, rfl, sv, sp, tr, tl, k⟩ := h
    have hr4 : Room 4 _ := hr.mono (by decide)
    have hr2 : Room 2 _ := hr.mono (by decide)
    refine ⟨_, pss_cons (ps_set (i := 2) scPieces.nd rfl (Or.inl rfl) (pe_lst pa_nil))
      (pss_cons (ps_for PassesOwn.never rfl (pi_enumT (by rfl) mE (pa_cons (pv 1) pa_nil))
        (pg_tup rfl (pgs_cons (pg_name (i := 3) scPieces.nd rfl (Or.inl rfl)) (pgs_cons (pg_name (i := 4) scPieces.nd rfl (Or.inl rfl)) pgs_nil)))
        (C8.pss_cut (ps_if (PW.pt (pw_or (pt_not (pt_val (pe_call GT hr4 rfl gT kT bT .nil pass0 (pa_cons (pv 4) pa_nil))))
            (pw_or1 (pt_cmpR op_in_seq (pe_ix ix_tup (pv 4) pe_int (fun _ _ => rfl)) (pv 2) rfl)))) (pss_one (ps_ret (pe_tup (pa_cons (pv 3) pa_nil)))) pss_nil)
        (C8.pss_cut (ps_expr (pe_bm PySem.F.plainAttrs_list PySem.F.slot_list_append PySem.F.type_list_append mt_append (pv 2) (pa_cons (pe_ix ix_tup (pv 4) pe_int (fun _ _ => rfl)) pa_nil)))
        (pss_cons (ps_set (i := 5) scPieces.nd rfl (Or.inl rfl) (pe_meth (pe_make M GI hr2 rfl X.mgC bI .nil pass0 (pa_cons (pv 0) (pa_cons (pe_ix ix_tup (pv 4) pe_int (fun _ _ => rfl)) pa_nil))) X.cl mF GF hr bF .nil pass0
            (pa_cons (pe_ix ix_tup (pv 4) pe_int (fun _ _ => rfl)) (pa_cons (pe_tup pa_nil) (pa_cons (pe_tup pa_nil) pa_nil)))))
        (pss_one (ps_if (pt_cmp (pc_notN (pv 5))) (pss_one (ps_ret (pe_tup (pa_cons (pv 3) (pa_cons (pv 5) pa_nil))))) pss_nil))))))
      (pss_one (ps_ret pe_non))), ?_⟩
    refine ⟨Nat.zero_le _, fun nl nnl => ?_⟩
    have s0 := same_new (o := .lst []) nnl
    refine ⟨_, rfl, pa, xs, rfl, sqt_same s0 sp, for_it (walk_enumT (K := K) (a := pa) (xs := xs)) (fun i σ H2 => ∃ (v3 v4 v5 : Option V) (ns : List Str), σ = [some (.ref va), some (.ref pa), some (.ref nl), v3, v4, v5] ∧ Same H H2 ∧ H2 nl = some (.lst (ns.map V.str)) ∧ ns.length = i ∧ piecesL vars ts 0 [] = piecesL vars (ts.drop i) i ns)
      ⟨none, none, none, [], rfl, s0, upd_same, rfl, rfl⟩ (fun i σ H2 _ ⟨_, _, _, _, _, s2, _⟩ => sqt_same s2 sp) ?_ ?_⟩
    · rintro i y σ H2 H3 hi ⟨v3, v4, v5, ns, rfl, s2, en, nsl, e2⟩ ⟨T, xi, y', rfl, nT, rfl, q1, q2⟩
      obtain rfl : V.int (i : Nat) = xi := Option.some.inj q1
      have q2 : xs[i]? = some y' := q2
      have sT := same_new (o := .tup [.int (i : Nat), y']) nT
      obtain ⟨t, q3, _⟩ := tr.get q2
      have il : i < ts.length := (List.getElem?_eq_some_iff.mp q3).1
      have ed : ts.drop i = t :: ts.drop (i + 1) := by
        rw [List.drop_eq_getElem_cons il]
        congr 1
        exact Option.some.inj ((List.getElem?_eq_getElem il).symm.trans q3)
      rw [ed] at e2
      have getY : ∀ {H' : Hp}, Same H H' → TrAt K H' y' t := fun {H'} s' => by
        obtain ⟨t', q4, ty⟩ := (tr.same s').get q2
        obtain rfl : t = t' := Option.some.inj (q3.symm.trans q4)
        exact ty
      refine ⟨T, _, rfl, SqT.of upd_same, rfl, _, _, rfl, _, _, rfl, rfl, ?_⟩
      have s3 := s2.trans sT
      have en3 := sT _ _ en
      generalize upd H2 T (.tup [.int (i : Nat), y']) = H3 at s3 en3 ⊢
      clear sT
      have bad : ∀ H4, Same H H4 → ¬ (tripleT t = true ∧ wordS t ∉ ns) → 1 ≤ sizeLine ∧ ∀ p, H4 p = none → Q (.ref p) (upd H4 p (.tup [.int (i : Nat)])) := fun H4 s4 hn => by
        refine ⟨by decide, fun p np => k _ _ (s4.trans (same_new np)) ?_⟩
        have e : piecesL vars ts 0 [] = some (.at_ i) := by
          rw [e2]
          show (if tripleT t = true ∧ wordS t ∉ ns then _ else some (Place.at_ i)) = _
          rw [if_neg hn]
        rw [e]
        exact .tup (SqT.of upd_same) (.cons (.int _) .nil)
      -- is it a triple of a new name?
      refine ⟨fun σ H4 => σ = [some (.ref va), some (.ref pa), some (.ref nl), some (.int (i : Nat)), some y', v5] ∧ Same H H4 ∧ H4 nl = some (.lst (ns.map V.str)) ∧ tripleT t = true ∧ wordS t ∉ ns, ?_, ?_⟩
      · refine ⟨_, rfl, y', t, rfl, getY s3, fun H4 s4 => ⟨_, rfl, ?_⟩⟩
        have s34 := s3.trans s4
        cases et : tripleT t with
        | false => exact iteT ⟨_, rfl, bad H4 s34 fun z => by rw [et] at z; cases z.1⟩
        | true =>
          refine iteF ?_
          obtain ⟨n, p, bts, rfl, hp⟩ := triple_shape et
          have ty := getY s34
          cases ty with
          | @tup b ys _ hb tb =>
          obtain ⟨u0, g0, t0⟩ := tb.get' (i := 0) (t := .str n) rfl
          cases t0 with
          | str _ z0 =>
          refine ⟨_, rfl, b, ys, 0, _, rfl, rfl, hb, at_of (j := 0) rfl g0, _, rfl, nl, _, rfl, .inl (SqL.of (s4 _ _ en3)), rfl, flat_txts ns, _, rfl, ?_⟩
          rw [in_txts]
          by_cases hm : n ∈ ns
          · rw [decide_eq_true hm]
            exact iteT ⟨_, rfl, bad H4 s34 fun z => z.2 hm⟩
          · rw [decide_eq_false hm]
            exact iteF ⟨rfl, s34, s4 _ _ en3, rfl, hm⟩
      rintro σ H4 ⟨rfl, s4, en4, et, hm⟩
      obtain ⟨n, p, bts, rfl, hp⟩ := triple_shape et
      -- names.append
      refine ⟨fun σ H5 => σ = [some (.ref va), some (.ref pa), some (.ref nl), some (.int (i : Nat)), some y', v5] ∧ Same H H5 ∧ H5 nl = some (.lst ((ns ++ [n]).map V.str)), ?_, ?_⟩
      · have ty := getY s4
        cases ty with
        | @tup b ys _ hb tb =>
        obtain ⟨u0, g0, t0⟩ := tb.get' (i := 0) (t := .str n) rfl
        cases t0 with
        | str _ z0 =>
        refine ⟨_, rfl, .inl ⟨rfl, _, SqL.of en4⟩, _, rfl, b, ys, 0, _, rfl, rfl, hb, at_of (j := 0) rfl g0, nl, _, _, rfl, rfl, en4, small1000 (by rw [List.length_map]; omega), rfl, fun b o e => ?_, ?_⟩
        · rw [upd_ne (ne_of_none e nnl)]
          exact s4 b o e
        · rw [upd_same, List.map_append]
          rfl
      rintro σ H5 ⟨rfl, s5, en5⟩
      -- Check(..).fault_in(..)
      have ty := getY s5
      cases ty with
      | @tup b ys _ hb tb =>
      obtain ⟨u1, g1, t1⟩ := tb.get' (i := 1) (t := p) rfl
      obtain ⟨u2, g2, t2⟩ := tb.get' (i := 2) (t := .tup bts) rfl
      refine ⟨_, rfl, _, rfl, b, ys, 1, u1, rfl, rfl, hb, at_of (j := 1) rfl g1, fun x dx nx ndx nxd => ?_⟩
      have s6 : Same H5 (upd (upd H5 dx (.own x)) x (.ins C dx [])) := fun b o e => by
        rw [upd_ne (ne_of_none e nx), upd_ne (ne_of_none e ndx)]
        exact e
      refine ⟨x, dx, va, u1, vars, p, rfl, upd_same, sqt_same (s5.trans s6) sv, t1.same s6, hp, fun d H7 nd c7 kp => ⟨rfl, ?_⟩⟩
      have s57 : Same H5 H7 := fun b o e => kp b o (s6 b o e) (ne_of_none e nx)
      have nd5 : H5 d = none := s6.free nd
      obtain ⟨⟨dx7, ob7⟩, dc7, _⟩ := id c7
      refine ⟨x, dx7, _, rfl, ob7, cfs_no ⟨x, va, d⟩ 0 (by decide +kernel) (by decide +kernel) (by decide +kernel), _, rfl, b, ys, 2, u2, rfl, rfl, sqt_same s57 hb, at_of (j := 2) rfl g2, Nat.zero_le _, fun e1 ne1 => ⟨Nat.zero_le _, fun e2' ne2 => ?_⟩⟩
      have sE := (same_new (o := .tup []) ne1).trans (same_new (o := .tup []) ne2)
      have s59 := s57.trans sE
      refine ⟨⟨x, va, d⟩, u2, e1, e2', vars, (kindsP p, 0), bts, [], [], rfl, c7.same sE, ⟨Nat.zero_le _, by have := kindsP_len hp; show (kindsP p).length ≤ 10 + 4 * 0; omega⟩, t2.same s59, SqT.of (by rw [upd_ne (ne_of_none upd_same ne2), upd_same]; rfl), by decide, SqT.of upd_same, rfl, fun H10 c10 b10 => ?_⟩
      have s510 : Same H5 H10 := fun b o e => b10 b o (s59 b o e) (ne_of_none e nx) (ne_of_none e nd5)
      have sH := s5.trans s510
      have step : piecesL vars ts 0 [] = (match (faultD vars 5 bts [] (kindsP p, 0)).1 with
          | some w => some (.way i w)
          | none => piecesL vars (ts.drop (i + 1)) (i + 1) (ns ++ [n])) := by
        rw [e2]
        show (if tripleT (.tup [.str n, p, .tup bts]) = true ∧ n ∉ ns then _ else _) = _
        rw [if_pos ⟨et, hm⟩]
        rfl
      refine ⟨fun er fw => ?_, fun w4 t4 er ht4 => ?_⟩
      · have er : (faultD vars 5 bts [] (kindsP p, 0)).1 = none := er
        rw [er] at step
        refine ⟨_, rfl, _, rfl, iteF ⟨_, _, _, ns ++ [n], rfl, sH, s510 _ _ en5, by rw [List.length_append, nsl]; rfl, step⟩⟩
      · have er : (faultD vars 5 bts [] (kindsP p, 0)).1 = some w4 := er
        rw [er] at step
        have step : piecesL vars ts 0 [] = some (.way i w4) := step
        refine ⟨_, rfl, _, rfl, iteT ⟨_, rfl, _, rfl, (show 2 ≤ sizeLine by decide), fun q nq => k _ _ (sH.trans (same_new nq)) ?_⟩⟩
        rw [step]
        have ht5 : SqT K H10 t4 (wayV w4) := ht4
        exact .tup (SqT.of upd_same) (.cons (.int _) (.cons (.tup (sqt_same (same_new nq) ht5) (wayV_tr w4)) .nil))
    · rintro σ H2 ⟨v3, v4, v5, ns, rfl, s2, _, _, e2⟩
      have e0 : ts.drop xs.length = [] := by rw [tr.len, List.drop_length]
      rw [e0] at e2
      have q := k .non H2 s2
      rw [e2] at q
      exact q .non
end
end BK


set_option Elab.async false
set_option maxRecDepth 100000
set_option maxHeartbeats 2000000
/-! fault_of, need_book, is_book. -/
namespace BK
open PySem PySem.Spec PyProof.Rows L2 RZ ET
def faultT : Tr → Option Place
  | .tup [.tup vs, .tup ps] => if 6 < ps.length then some .empty else if 1 ≤ vs.length ∧ vs.length ≤ 3 ∧ diffT vs = true then piecesL (texts vs) ps 0 [] else some .vars
  | _ => some .empty
def spFaultOf (K : PySem.W.Frag) : Sp := fun vs H Q _ => ∃ v t, vs = [v] ∧ TrAt K H v t ∧ ∀ u H', Same H H' → TrAt K H' u (resT (faultT t)) → Q u H'
abbrev sFaultOf : Stmt := top 43
abbrev sNeed : Stmt := top 44
abbrev sBadInit : Stmt := inClass (top 2) 0
theorem scFaultOf : FnScope ["thing", "variables", "pieces"] ["thing"] (defScope sFaultOf) := ⟨rfl, rfl, rfl, by decide +kernel, rfl, by decide +kernel, by decide +kernel⟩
theorem scNeed : FnScope ["thing", "place"] ["thing"] (defScope sNeed) := ⟨rfl, rfl, rfl, by decide +kernel, rfl, by decide +kernel, by decide +kernel⟩
theorem scBadInit : FnScope ["self", "place"] ["self", "place"] (defScope sBadInit) := ⟨rfl, rfl, rfl, by decide +kernel, rfl, by decide +kernel, by decide +kernel⟩
structure MostB (mg : Str → Option Value) : Prop where
  mp : ∃ t, mg "MOST_PIECES" = some (.int 6 t)
  mv : ∃ t, mg "MOST_VARS" = some (.int 3 t)
def isBookT (t : Tr) : Bool := (faultT t).isNone
section
variable {P : Program} {w : World} {K : PySem.W.Frag} {mg : Str → Option Value} {base : Heap}
theorem ok_faultOf {f fT fD fP : Addr} {fd fdT fdD fdP : FuncData} (F : Fun K "fault_of" "fault_of" sFaultOf f fd) (T : Forms mg) (M : MostB mg)
    (GT : FnOk P w K mg base CX0 1 fT fdT ["thing", "count"] (spTuple K)) (bT : Binds K fdT ["thing", "count"] []) (gT : mg "is_tuple" = some (.ref fT)) (kT : PySem.W.keepIn K (.ref fT) = true)
    (GD : FnOk P w K mg base CX0 2 fD fdD ["things"] (spDiff K)) (bD : Binds K fdD ["things"] []) (gD : mg "are_different_names" = some (.ref fD)) (kD : PySem.W.keepIn K (.ref fD) = true)
    (GP : FnOk P w K mg base CX0 15 fP fdP ["variables", "pieces"] (spPieces K)) (bP : Binds K fdP ["variables", "pieces"] []) (gP : mg "fault_of_pieces" = some (.ref fP)) (kP : PySem.W.keepIn K (.ref fP) = true) :
    FnOk P w K mg base CX0 16 f fd ["thing"] (spFaultOf K) := by
  refine F.ok scFaultOf (fun vs H Q E h => ?_) (fun cdv A outer s H vs Q E hr h => ?_)
  · obtain ⟨v, t, rfl, _⟩ := h
    rfl
  · obtain ⟨v, t, rfl, ht, k⟩ := h
    obtain ⟨t1, gM⟩ := M.mp
    obtain ⟨t2, gV⟩ := M.mv
    have hr1 : Room 1 _ := hr.mono (by decide)
    have hr2 : Room 2 _ := hr.mono (by decide)
    refine ⟨_, C8.pss_cut (ps_if (PW.pt (pw_or (pt_not (pt_val (pe_call GT hr1 rfl gT kT bT .nil pass0 (pa_cons (pv 0) (pa_cons pe_int pa_nil)))))
        (pw_or (pt_not (pt_val (pe_callB call_isi (by rfl) T.isi boot_isinstance (pa_cons (pe_ix ix_tup (pv 0) pe_int (fun _ _ => rfl)) (pa_cons (pe_bltn (v := .ty "tuple") (u := .type "tuple") (by rfl) T.tuple (by decide +kernel) rfl) pa_nil)))))
        (pw_or1 (pt_not (pt_val (pe_callB call_isi (by rfl) T.isi boot_isinstance (pa_cons (pe_ix ix_tup (pv 0) pe_int (fun _ _ => rfl)) (pa_cons (pe_bltn (v := .ty "tuple") (u := .type "tuple") (by rfl) T.tuple (by decide +kernel) rfl) pa_nil))))))))) (pss_one (ps_ret (pe_tup pa_nil))) pss_nil)
      (pss_cons (ps_asg (pv 0) (pg_tup rfl (pgs_cons (pg_name (i := 1) scFaultOf.nd rfl (Or.inl rfl)) (pgs_cons (pg_name (i := 2) scFaultOf.nd rfl (Or.inl rfl)) pgs_nil))))
      (pss_cons (ps_if (pt_cmpR op_gt (pe_callB call_len_seq (by rfl) T.len boot_len (pa_cons (pv 2) pa_nil)) (pe_glob (v := .int 6) rfl gM ⟨_, rfl⟩) rfl) (pss_one (ps_ret (pe_tup pa_nil))) pss_nil)
      (C8.pss_cut (ps_if (PW.pt (pw_or (pt_not (pt_chain op_le op_le pe_int (pe_callB call_len_seq (by rfl) T.len boot_len (pa_cons (pv 1) pa_nil)) (pe_glob (v := .int 3) rfl gV ⟨_, rfl⟩)))
        (pw_or1 (pt_not (pt_val (pe_call GD hr2 rfl gD kD bD .nil pass0 (pa_cons (pv 1) pa_nil))))))) (pss_one (ps_ret (pe_tup (pa_cons pe_str pa_nil)))) pss_nil)
      (pss_one (ps_ret (pe_call GP hr rfl gP kP bP .nil pass0 (pa_cons (pv 1) (pa_cons (pv 2) pa_nil)))))))), ?_⟩
    have emp : ∀ H1, Same H H1 → faultT t = some .empty → ([] : List V).length ≤ sizeLine ∧ ∀ p, H1 p = none → Q (.ref p) (upd H1 p (.tup [])) := fun H1 s1 e => by
      refine ⟨Nat.zero_le _, fun p np => k _ _ (s1.trans (same_new np)) ?_⟩
      rw [e]
      exact .tup (SqT.of upd_same) .nil
    refine ⟨fun σ H1 => ∃ (a va pa : Addr) (vs ps : List V) (tv tp : List Tr), σ = [some (.ref a), none, none] ∧ H1 = H ∧ t = .tup [.tup tv, .tup tp] ∧ SqT K H a [.ref va, .ref pa] ∧ SqT K H va vs ∧ TrAll K H vs tv ∧ SqT K H pa ps ∧ TrAll K H ps tp, ?_, ?_⟩
    · refine ⟨_, rfl, v, t, 2, rfl, ht, _, rfl, ?_⟩
      cases ht with
      | int i => exact iteT (emp H (fun _ _ e => e) rfl)
      | bl b => exact iteT (emp H (fun _ _ e => e) rfl)
      | str z hz => exact iteT (emp H (fun _ _ e => e) rfl)
      | non => exact iteT (emp H (fun _ _ e => e) rfl)
      | lst h => exact iteT (emp H (fun _ _ e => e) rfl)
      | dct h => exact iteT (emp H (fun _ _ e => e) rfl)
      | @tup a xs ts h tr =>
      by_cases l2 : ts.length = 2
      · obtain ⟨x1, x2, rfl⟩ : ∃ x1 x2, ts = [x1, x2] := by
          match ts, l2 with
          | [x1, x2], _ => exact ⟨x1, x2, rfl⟩
        refine iteF ?_
        cases tr with
        | @cons y1 _ _ _ h1 r1 =>
        cases r1 with
        | @cons y2 _ _ _ h2 r2 =>
        cases r2 with
        | nil =>
        refine ⟨_, rfl, a, _, 0, y1, rfl, rfl, h, at_of (j := 0) rfl rfl, y1, .ty "tuple", .type (tyT x1), .type "tuple", isTup x1, rfl, .ty "tuple", h1.ty, k_tup K x1, _, rfl, ?_⟩
        cases e1 : isTup x1 with
        | false =>
          refine iteT (emp H (fun _ _ e => e) ?_)
          cases x1 with
          | tup _ => cases e1
          | _ => rfl
        | true =>
          refine iteF ⟨_, rfl, a, _, 1, y2, rfl, rfl, h, at_of (j := 1) rfl rfl, y2, .ty "tuple", .type (tyT x2), .type "tuple", isTup x2, rfl, .ty "tuple", h2.ty, k_tup K x2, _, rfl, ?_⟩
          cases e2 : isTup x2 with
          | false =>
            refine iteT (emp H (fun _ _ e => e) ?_)
            cases x2 with
            | tup _ => cases e2
            | _ => cases x1 <;> rfl
          | true =>
            cases h1 with
            | @tup va vs tv hv tv' =>
              cases h2 with
              | @tup pa ps tp hp tp' => exact iteF ⟨a, va, pa, vs, ps, tv, tp, rfl, rfl, rfl, h, hv, tv', hp, tp'⟩
              | _ => cases e2
            | _ => cases e1
      · have e0 : decide ((ts.length : Int) = 2) = false := decide_eq_false (by omega)
        show (if (!decide ((ts.length : Int) = 2)) = true then _ else _)
        rw [e0]
        refine iteT (emp H (fun _ _ e => e) ?_)
        match ts, l2 with
        | [], _ => rfl
        | [x1], _ => cases x1 <;> rfl
        | [_, _], h => exact absurd rfl h
        | x1 :: x2 :: _ :: _, _ => cases x1 <;> cases x2 <;> rfl
    rintro σ H1 ⟨a, va, pa, vs, ps, tv, tp, rfl, rfl, rfl, ha, hv, tv', hp, tp'⟩
    have vl := tv'.len
    have pl := tp'.len
    refine ⟨_, rfl, a, _, rfl, ha, rfl, _, _, rfl, _, _, rfl, rfl, ?_⟩
    refine ⟨_, rfl, pa, _, rfl, .inr hp, _, _, rfl, rfl, _, rfl, ?_⟩
    rw [show decide ((ps.length : Int) > 6) = decide (6 < ps.length) from gt_cast ps.length 6, pl]
    refine ite2 (fun z => ?_) (fun z => ?_)
    · have z := of_decide_eq_true z
      refine emp H1 (fun _ _ e => e) ?_
      show (if 6 < tp.length then some Place.empty else _) = _
      rw [if_pos z]
    have n6 : ¬ 6 < tp.length := fun q => z (decide_eq_true q)
    have eF : faultT (.tup [.tup tv, .tup tp]) = if 1 ≤ tv.length ∧ tv.length ≤ 3 ∧ diffT tv = true then piecesL (texts tv) tp 0 [] else some .vars := by
      show (if 6 < tp.length then some Place.empty else _) = _
      rw [if_neg n6]
    have bad : ∀ H2, Same H1 H2 → ¬ (1 ≤ tv.length ∧ tv.length ≤ 3 ∧ diffT tv = true) → 1 ≤ sizeLine ∧ ∀ p, H2 p = none → Q (.ref p) (upd H2 p (.tup [.str "vars"])) := fun H2 s2 hn => by
      refine ⟨by decide, fun p np => k _ _ (s2.trans (same_new np)) ?_⟩
      rw [eF, if_neg hn]
      exact .tup (SqT.of upd_same) (.cons (.str _ (by decide +kernel)) .nil)
    refine ⟨fun σ H2 => σ = [some (.ref a), some (.ref va), some (.ref pa)] ∧ Same H1 H2 ∧ 1 ≤ tv.length ∧ tv.length ≤ 3 ∧ diffT tv = true, ?_, ?_⟩
    · refine ⟨_, rfl, va, _, rfl, .inr hv, _, _, rfl, rfl, _, rfl, ?_⟩
      refine ite2 (fun z1 => ?_) (fun z1 => ?_)
      · have z1 : (1 : Int) ≤ (vs.length : Int) := of_decide_eq_true z1
        refine ⟨_, _, rfl, rfl, _, rfl, ?_⟩
        refine ite2 (fun z2 => ?_) (fun z2 => ?_)
        · have z2 : ¬ ((vs.length : Int) ≤ 3) := by simpa using z2
          exact bad H1 (fun _ _ e => e) fun q => by omega
        · have z2 : (vs.length : Int) ≤ 3 := by simpa using z2
          refine ⟨_, rfl, va, vs, tv, rfl, .inr hv, tv', by omega, fun H2 s2 => ⟨_, rfl, ?_⟩⟩
          cases ed : diffT tv with
          | false => exact iteT (bad H2 s2 fun q => by rw [ed] at q; cases q.2.2)
          | true => exact iteF ⟨rfl, s2, by omega, by omega, rfl⟩
      · have z1 : ¬ ((1 : Int) ≤ (vs.length : Int)) := fun q => z1 (decide_eq_true q)
        exact ⟨_, rfl, iteT (bad H1 (fun _ _ e => e) fun q => by omega)⟩
    rintro σ H2 ⟨rfl, s2, l1, l3, ed⟩
    have exs : vs = (texts tv).map V.str := by
      unfold diffT at ed
      exact names_texts tv' (Bool.and_eq_true_iff.mp ed).1
    refine ⟨_, rfl, _, rfl, va, pa, texts tv, ps, tp, rfl, ?_, sqt_same s2 hp, tp'.same s2, by omega, fun u H3 s3 tu => k u H3 (s2.trans s3) ?_⟩
    · rw [← exs]; exact sqt_same s2 hv
    · rw [eF, if_pos ⟨l1, l3, ed⟩]
      exact tu
/-! BadBook -/
def spBadI (K : PySem.W.Frag) (C : Addr) : Sp := fun vs H Q _ => ∃ a v, vs = [.ref a, v] ∧ H a = some (exo a C none) ∧ ∀ dx, H dx = none → dx ≠ a → Q .non (upd (upd H dx (exd dx [("place", v)])) a (exo a C (some dx)))
theorem ok_badInit {C f : Addr} {fd : FuncData} (F : Fun K "__init__" "BadBook.__init__" sBadInit f fd) (T : OexC K C) (np : PySem.W.findIn K (.ref C) "place" = some none) : FnOk P w K mg base CX0 1 f fd ["self", "place"] (spBadI K C) := by
  refine F.ok scBadInit (fun vs H Q E h => ?_) (fun cdv A outer s H vs Q E hr h => ?_)
  · obtain ⟨a, v, rfl, _⟩ := h
    rfl
  · obtain ⟨a, v, rfl, ha, k⟩ := h
    refine ⟨_, pss_one (ps_ost (pv 0) (pv 1)), ?_⟩
    exact ⟨_, rfl, _, rfl, a, C, rfl, T, np, .inl ⟨ha, fun dx nd ne => k dx nd ne⟩⟩
def spNeed (K : PySem.W.Frag) (CB : Addr) : Sp := fun vs H Q E => ∃ v t, vs = [v] ∧ TrAt K H v t ∧ (faultT t = none → ∀ H', Same H H' → Q v H') ∧
  ∀ p, faultT t = some p → ∀ pv d H', Same H H' → H d = none → H' d = some (.xd [("place", pv)]) → TrAt K H' pv (placeT p) → E (.ref CB) (some d) H'
theorem ok_need {CB f fO fI : Addr} {fd fdO fdI : FuncData} (F : Fun K "need_book" "need_book" sNeed f fd) (GO : FnOk P w K mg base CX0 16 fO fdO ["thing"] (spFaultOf K)) (bO : Binds K fdO ["thing"] []) (gO : mg "fault_of" = some (.ref fO)) (kO : PySem.W.keepIn K (.ref fO) = true)
    (T : OexC K CB) (gB : mg "BadBook" = some (.ref CB)) (iC : PySem.W.findIn K (.ref CB) "__init__" = some (some (.ref fI))) (tI : PySem.W.typeIn K (.ref fI) = some (.type "function")) (GI : FnOk P w K mg base CX0 1 fI fdI ["self", "place"] (spBadI K CB)) (bI : Binds K fdI ["self", "place"] []) :
    FnOk P w K mg base (L2.CX P w) 17 f fd ["thing"] (spNeed K CB) := by
  refine F.okX scNeed (fun vs H Q E h => ?_) (fun cdv A outer s H vs Q E hr h => ?_)
  · obtain ⟨v, t, rfl, _⟩ := h
    rfl
  · obtain ⟨v, t, rfl, ht, k1, k2⟩ := h
    have hr2 : Room 2 _ := hr.mono (by decide)
    refine ⟨_, pss_cons (ps_set (i := 1) scNeed.nd rfl (Or.inl rfl) (pe_call GO hr rfl gO kO bO .nil pass0 (pa_cons (pv 0) pa_nil)))
      (pss_cons (ps_if (pt_cmp (pc_notN (pv 1))) (pss_one (ps_raise rfl (takes_of rfl rfl rfl rfl) (pmk_oex T iC tI GI hr2 bI .nil pass0 (by rfl) gB (pa_cons (pv 1) pa_nil)))) pss_nil)
      (pss_one (ps_ret (pv 0)))), ?_⟩
    refine ⟨_, rfl, v, t, rfl, ht, fun u H1 s1 tu => ?_⟩
    cases e : faultT t with
    | none =>
      rw [e] at tu
      have tu : TrAt K H1 u .non := tu
      cases tu
      exact ⟨_, rfl, _, rfl, iteF ⟨_, rfl, k1 e H1 s1⟩⟩
    | some p =>
      rw [e] at tu
      have tu : TrAt K H1 u (placeT p) := tu
      have : ∃ a, u = .ref a := by
        cases p <;> (cases tu; exact ⟨_, rfl⟩)
      obtain ⟨a, rfl⟩ := this
      refine ⟨_, rfl, _, rfl, iteT ⟨_, rfl, (show 1 ≤ 1000 by decide), fun b nb => ⟨b, .ref a, rfl, upd_same, fun d nd ne => ⟨rfl, d, _, upd_same, by rw [upd_ne ne, upd_same], ?_, ?_⟩⟩⟩⟩
      · rw [upd_ne ne] at nd; exact nd
      · rw [upd_ne ne] at nd
        have sm : Same H1 (upd (del (upd (upd (upd H1 b (exo b CB none)) d (exd d [("place", .ref a)])) b (exo b CB (some d))) b) d (.xd [("place", .ref a)])) := fun c o ec => by
          have h1 := ne_of_none ec nb
          have h2 := ne_of_none ec nd
          rw [upd_ne h2, del_ne h1, upd_ne h1, upd_ne h2, upd_ne h1]
          exact ec
        exact k2 p e (.ref a) d _ (s1.trans sm) (s1.free nd) upd_same (tu.same sm)
end
end BK


set_option Elab.async false
set_option linter.all false
set_option maxRecDepth 100000
set_option maxHeartbeats 2000000
/-! try: .. except (four classes) as e: c = e, the error held behind the suite; what is asked of it. -/
namespace BK
open PySem PySem.Spec PyProof.Rows L2
theorem flying_keeps {B h h' : Heap} {l : List Env} {e : Addr} {Z : Obj → Prop} (R : HandSPX.FlyingZ B l e Z h) (k : ∀ b o, h.get? b = some o → h'.get? b = some o) : HandSPX.FlyingZ B l e Z h' := by
  obtain ⟨f1, f2, f3, oe, ws, T, oT, ts, he, hc, hd, h1, hn, hne, hT, hdT, h3⟩ := R
  exact ⟨fun b o q => k b o (f1 b o q), f2, f3.of_keeps fun b o q _ => ⟨o, k b o q, rfl⟩, oe, ws, T, oT, ts, k _ _ he, hc, hd, h1, hn, hne, k _ _ hT, hdT, h3⟩
/-- an error of the class cls with its own dict d stands at a -/
def EO (a : Addr) (cls : Value) (d : Option Addr) : HO := .ext fun h => ∃ (oe : Obj) (vs : Array Value), h.get? a = some oe ∧ oe.cls = cls ∧ oe.dict = d ∧ oe.data = .fields vs
theorem eo_ok {P : Program} {w : World} {H : Hp} {h : Heap} {a : Addr} {cls : Value} {d : Option Addr} {oe : Obj} {vs : Array Value} (he : h.get? a = some oe) (hc : oe.cls = cls) (hd : oe.dict = d) (hv : oe.data = .fields vs) : ObjOk P w H h a (EO a cls d) :=
  ⟨⟨oe, vs, he, hc, hd, hv⟩, ⟨_, he⟩, fun h1 h2 z k => by
    obtain ⟨oe, vs, q, r⟩ := z
    exact ⟨oe, vs, k _ q, r⟩⟩
theorem eo_at {P : Program} {w : World} {H : Hp} {h : Heap} {a : Addr} {cls : Value} {d : Option Addr} (hok : HOk P w H h) (he : H a = some (EO a cls d)) : ∃ (oe : Obj) (vs : Array Value), h.get? a = some oe ∧ oe.cls = cls ∧ oe.dict = d ∧ oe.data = .fields vs := by
  have z : ObjOk P w H h a (.ext fun h => ∃ (oe : Obj) (vs : Array Value), h.get? a = some oe ∧ oe.cls = cls ∧ oe.dict = d ∧ oe.data = .fields vs) := hok a _ he
  exact z.1
section
variable {X : Cx} {pins : List (Addr × Obj)} {σ : L2.St} {H : Hp} {s : Shared}
/-- an object that no entry knew is told of from now on -/
theorem inv_track {a : Addr} {o : HO} (I : Inv X pins σ H s) (na : H a = none) (n0 : ∀ u, X.s_0.heap.get? a = some u → a ∈ X.ex ∨ X.H_0 a ≠ none) (nL : a ≠ X.env.locals) (nC : ∀ x c, X.env.cells.lookup x = some c → c ≠ a) (nP : ∀ p ∈ X.pn ++ pins, p.1 ≠ a)
    (ok : ObjOk X.prog X.w (upd H a o) s.heap a o) : Inv X pins σ (upd H a o) s := by
  have at_ : ∀ b u, H b = some u → upd H a o b = some u := fun b u e => by
    rw [upd_ne (ne_of_none e na)]
    exact e
  refine ⟨I.ok, I.os, I.bare, ⟨I.base.keep, I.base.slot, fun b u e n hx => ?_, I.base.there, fun b xs e => at_ _ _ (I.base.tups b xs e), fun b u v e => at_ _ _ (I.base.frzs b u v e), fun b ps e => ?_⟩, I.loc, I.cell, ?_, fun x c e => ?_, fun p hp => ?_, fun b u e => ?_, I.len⟩
  · by_cases hb : b = a
    · rw [hb] at e n hx
      rcases n0 u e with z | z
      · exact absurd z hx
      · exact absurd n z
    · rw [upd_ne hb]
      exact I.base.free b u e n hx
  · obtain ⟨more, e'⟩ := I.base.tbls b ps e
    exact ⟨more, at_ _ _ e'⟩
  · rw [upd_ne nL.symm]
    exact I.free
  · rw [upd_ne (nC x c e)]
    exact I.freeC x c e
  · obtain ⟨h1, h2, h3⟩ := I.pin p hp
    exact ⟨h1, by rw [upd_ne (nP p hp)]; exact h2, h3⟩
  · by_cases hb : b = a
    · rw [hb, upd_same] at e
      cases e
      rw [hb]
      exact ok
    · rw [upd_ne hb] at e
      exact (I.hok b u e).stay (fun _ _ _ q => q) (fun b q => at_ _ _ q) fun b xs q => at_ _ _ q
/-- out of a suite, its error still pinned -/
theorem inv_unsuite {a : Addr} {q : Addr × Obj} {pn' : List (Addr × Obj)} (I : Inv (X.suite a (q :: (X.pn ++ pins))) pn' σ H s) (ok : X.Ok) : Inv X (q :: pins) σ H s :=
  ⟨ok, I.os, I.bare, I.base, I.loc, I.cell, I.free, I.freeC, fun p hp => by
    refine I.pin p (List.mem_append_left _ ?_)
    rcases List.mem_append.mp hp with z | z
    · exact List.mem_cons_of_mem _ (List.mem_append_left _ z)
    · rcases List.mem_cons.mp z with z | z
      · rw [z]
        exact List.mem_cons_self
      · exact List.mem_cons_of_mem _ (List.mem_append_right _ z), I.hok, I.len⟩
end
/-- what 'except x as n: m = n' wishes of an exception of the body: n in slot i, m in slot j -/
def wKeep (K : PySem.W.Frag) (cs : List Value) (len i j : Nat) (Wout : WX) (D : Ends) : WX := fun cls d σ H =>
  ∃ b, PySem.W.exmAny K cls cs = some b ∧ (b = true → σ.length = len → ∀ a, H a = none → D.nx (((σ.set i (some (.ref a))).set j (some (.ref a))).set i none) (upd H a (EO a cls d))) ∧ (b = false → Wout cls d σ H)
section
variable {X : Cx} {x1 x2 x3 x4 n m : Str} {c1 c2 c3 c4 : Value} {i j kk : Nat} {body : List Stmt} {np1 np2 np3 np4 tpos p1 p2 p3 pos pos' : Pos} {tb : WX → TS} {Wout : WX}
theorem ps_try_keep (hs : X.stack = X.env :: X.outer) (hf : X.env.frame = some X.env.locals) (hex : X.ex = []) (hN : X.N.Nodup) (hi : X.N[i]? = some n) (hln : X.env.kindOf n = some .local) (hj : X.N[j]? = some m) (hlm : X.env.scope.names.lookup m = some .local)
    (hlt : i < X.N.length) (hij : i ≠ j) (hc1 : Names X x1 c1) (hc2 : Names X x2 c2) (hc3 : Names X x3 c3) (hc4 : Names X x4 c4) (tk : Takes X Wout)
    (hb : ∀ (W : WX) (pn : List (Addr × Obj)) (xe : Value → Shared → Prop), Takes (X.tr pn xe) W → PassesOwn (model X.prog X.w) X.A X.env xe → PSs (X.tr pn xe) body (tb W))
    (hd1 : (n == ("__debug__" : Str)) = false := by decide) (hd2 : (n == ("__classdict__" : Str)) = false := by decide) :
    PS X (.Try body [.ExceptHandler (some (.Tuple [.Name x1 np1, .Name x2 np2, .Name x3 np3, .Name x4 np4] kk tpos)) (some n) [.Assign [.Name m p1] (.Name n p2) p3] pos'] [] [] pos) (fun D σ H => tb (wKeep X.K [c1, c2, c3, c4] X.N.length i j Wout D) D σ H) := by
  refine ⟨fun pins s σ H D I h => ?_⟩
  have ok := I.ok
  have frm : X.A.frames = some (X.env :: X.outer) := ok.frames.trans (congrArg some hs)
  refine wpAny_Try_except (wpAny_mono ((hb (wKeep X.K [c1, c2, c3, c4] X.N.length i j Wout D) (X.pn ++ pins) (fun e s₁ => wpAny (model X.prog X.w) X.A (noteFrame e X.env) (fun _ s₂ => wpAny (model X.prog X.w) X.A (setFlight e none)
    (fun _ s₃ => wpAny (model X.prog X.w) X.A (handleBy e X.env [.ExceptHandler (some (.Tuple [.Name x1 np1, .Name x2 np2, .Name x3 np3, .Name x4 np4] kk tpos)) (some n) [.Assign [.Name m p1] (.Name n p2) p3] pos']) (SP X pins D) X.xe s₃) X.xe s₂) X.xe s₁)
    (fun u s' air => ?_) PassesOwn.looking).run [] s σ H D (I.toTry _) h) (fun f s1 hsp => ?_) (fun _ _ z => z))
  · -- an error comes out of the body
    obtain ⟨a, B, sI, pins', σ', H', cls, d, rfl, JT, nb, up, sky, na, os, ag, b, hb1, hyes, hno⟩ := air
    have J : Inv X pins σ' H' sI := JT.ofTry ok
    have sky1 : Sky B (X.env :: X.outer) a (Zc cls d) X.env.locals s'.heap := hs ▸ sky
    show wpAny (model X.prog X.w) X.A (noteFrame (.ref a) X.env) _ _ _
    refine Sky.land Zc.steady frm hf sky1 fun hA flA upA => ?_
    have JA : Inv X pins σ' H' { s' with heap := hA } := J.landed nb flA.1 (up.trans upA) os ag
    obtain ⟨oA, vA, getA, zA, dA⟩ := flA.there
    have out : a ∉ frs (X.env :: X.outer) := fun hm => by
      obtain ⟨_, o', e', bad⟩ := flA.2.2.1.mem hm
      rw [getA] at e'
      cases e'
      exact bad _ dA
    have nL : a ≠ X.env.locals := fun z => out (List.mem_filterMap.mpr ⟨X.env, List.mem_cons_self, by rw [hf, z]⟩)
    have nF : a ∉ X.fs := fun hm => by
      obtain ⟨e, he, q⟩ := List.mem_filterMap.mp hm
      exact out (List.mem_filterMap.mpr ⟨e, List.mem_cons_of_mem _ he, q⟩)
    have noB : ∀ o, sI.heap.get? a = some o → False := fun o e => by
      have z := nb a o e (by rw [hs]; exact out)
      rw [flA.2.1] at z
      cases z
    have SA := JA.suite getA dA na nL nF
    refine wpAny_handleBy_cons (codeAny_handlers_test ?_) (by intro q; cases q)
    have name : ∀ {x : Str} {c : Value} {np : Pos} {Q : Value → Shared → Prop} {E : Value → Shared → Prop}, Names X x c → Q c { s' with heap := hA } → wpAny (model X.prog X.w) (X.A.mark (some (.ref a))) (eval (.Name x np) X.env) Q E { s' with heap := hA } := fun {x c np Q E} hc q => by
      obtain ⟨hg, hdbg, hm | ⟨hm, hv, hnn⟩⟩ := hc
      · exact ld_glob (X := X.suite a ((a, oA) :: (X.pn ++ pins))) SA hg hm q hdbg
      · exact ld_blt (X := X.suite a ((a, oA) :: (X.pn ++ pins))) SA hg hm hv q hnn hdbg
    refine wpAny_Tuple ?_
    refine wpAny_items_cons (name hc1 ?_)
    refine wpAny_items_cons (name hc2 ?_)
    refine wpAny_items_cons (name hc3 ?_)
    refine wpAny_items_cons (name hc4 ?_)
    refine wpAny_items_nil ⟨by size_fits, ?_⟩
    have kp : ∀ q o, hA.get? q = some o → (hA.push { cls := .type "tuple", data := .seq [c1, c2, c3, c4].toArray }).get? q = some o := fun _ _ z => Heap.get?_push_of_some _ z
    have LT : PySem.W.Looks (model X.prog X.w) hA (typeOf (.ref a)) cls := fun A Q E s k q => wpAny_typeOf_ref (k _ _ getA) (by rw [zA.1]; exact q)
    refine (PySem.W.exm_tup4 (fun c o e => kp c o (JA.kIn c o e)) (LT.keeps kp) (Heap.get?_push_size hA rfl) hb1).here ?_
    have flA := flying_keeps flA kp
    have upA : s'.heap.UpToSlots (hA.push { cls := .type "tuple", data := .seq [c1, c2, c3, c4].toArray }) := upA.trans fun c o e _ => ⟨o.slots, kp c o e⟩
    clear SA JA LT name
    dsimp only
    generalize hA.push { cls := .type "tuple", data := .seq [c1, c2, c3, c4].toArray } = hT at flA upA ⊢
    cases b with
    | false =>
      show wpAny _ X.A (handleBy (.ref a) X.env []) _ _ _
      refine wpAny_handleBy_nil ?_
      obtain ⟨_, _, _, oe, vs, T, oT, _, he, _, hd, h1, _⟩ := id flA
      have fin : wpAny (model X.prog X.w) X.A (setFlight (.ref a) X.env.frame) (fun _ s4 => wpAny (model X.prog X.w) X.A (throw (.ref a) : Sem Flow) (SP X pins D) X.xe s4) X.xe { s' with heap := hT } := by
        rw [hf]
        exact HandSPX.setFlight_upZ flA fun hB fB upB => wpAny_throw (tk _ _ ⟨a, B, sI, pins, σ', H', cls, d, rfl, J, nb, (up.trans upA).trans upB, .inr (.inr (by rw [hs]; exact fB)), na, os, ag, hno rfl⟩)
      unfold PySem.passOn
      refine wpAny_bind (wpAny_field he hd h1 ?_)
      rw [if_neg (show ¬ ((Value.ref T == Value.none) = true) from by simp)]
      first
        | exact wpAny_bind (wpAny_pure (wpAny_bind fin))
        | exact wpAny_bind fin
    | true =>
      refine codeAny_handlers_suite_as (HandSPX.lands_againZ flA fun hB flB upB => ?_)
      have JB : Inv X pins σ' H' { s' with heap := hB } := J.landed nb flB.1 ((up.trans upA).trans upB) os ag
      obtain ⟨oB, vB, getB, zB, dB⟩ := flB.there
      refine store_ok (X := X.suite a ((a, oB) :: (X.pn ++ pins))) (v := .ref a) (JB.suite getB dB na nL nF) hN hi (.inl hln) rfl (fun s5 S5 => ?_) (.inr hln)
      have li : i < σ'.length := by rw [J.len]; exact hlt
      have put : PSs (X.suite a ((a, oB) :: (X.pn ++ pins))) [.Assign [.Name m p1] (.Name n p2) p3] (tAsg (tVar i) (gName j)) := pss_one (ps_set (hf := .inr hlm) hN hj (.inl hlm) (pe_var hi (.inl hln) hd1 hd2))
      refine wpAny_mono (put.run [] s5 _ H' { nx := fun σ6 H6 => σ6 = (σ'.set i (some (.ref a))).set j (some (.ref a)) ∧ H6 = H', rt := fun _ _ => False, bk := fun _ _ => False, ct := fun _ _ => False } S5 ⟨_, List.getElem?_set_self li, rfl, rfl⟩) (fun f s6 hsp => ?_) (fun _ _ z => False.elim z)
      cases f with
      | next =>
        obtain ⟨σ6, H6, S6, rfl, rfl⟩ := hsp
        refine gone_ok (inv_unsuite S6 ok) hN hi hln fun s7 J7 => ?_
        obtain ⟨get7, _⟩ := J7.pin (a, oB) (List.mem_append_right _ List.mem_cons_self)
        have J8 : Inv X pins _ H6 s7 := J7.pins_of fun p hp => J7.pin p (List.mem_append_right _ (List.mem_cons_of_mem _ hp))
        refine ⟨_, _, inv_track J8 na (fun u e => ?_) nL (fun y cc e z => ?_) (fun p hp z => ?_) (eo_ok (cls := cls) (d := d) get7 zB.1 zB.2 dB), hyes rfl J.len a na⟩
        · refine .inr fun hz => ?_
          exact noB _ (J.base.keep a u e hz nF (by rw [hex]; simp))
        · obtain ⟨v, o, ho, hdd⟩ := J7.cell y cc e
          rw [z, get7] at ho
          cases ho
          rw [show oB.data = _ from hdd] at dB
          cases dB
        · obtain ⟨e, _⟩ := J.pin p hp
          rw [z] at e
          exact noB _ e
      | brk =>
        obtain ⟨_, _, _, z⟩ := hsp
        exact z.elim
      | cont =>
        obtain ⟨_, _, _, z⟩ := hsp
        exact z.elim
      | ret u =>
        obtain ⟨_, _, _, _, _, z⟩ := hsp
        exact z.elim
  · cases f with
    | next =>
      obtain ⟨σ', H', J', q⟩ := hsp
      exact wpAny_execs_nil ⟨σ', H', J'.ofTry ok, q⟩
    | brk =>
      obtain ⟨σ', H', J', q⟩ := hsp
      exact ⟨σ', H', J'.ofTry ok, q⟩
    | cont =>
      obtain ⟨σ', H', J', q⟩ := hsp
      exact ⟨σ', H', J'.ofTry ok, q⟩
    | ret u =>
      obtain ⟨v, σ', H', J', r, q⟩ := hsp
      exact ⟨v, σ', H', J'.ofTry ok, r, q⟩
end

structure ErrF (K : PySem.W.Frag) (C : Addr) : Prop where
  ga : PySem.W.findIn K (.ref C) "__getattribute__" = some (some (.builtin "BaseException.__getattribute__"))
  gg : PySem.W.findIn K (.ref C) "__getattr__" = some none
  exC : PySem.W.subIn K (.ref C) (.type "BaseException") = some true
  hdC : PySem.W.hasDictIn K C = true
  noN : PySem.W.findIn K (.ref C) "place" = some none
/-- what isinstance asks of the class at C -/
structure IsFacts (K : PySem.W.Frag) (C : Addr) : Prop where
  cl : (PySem.W.clsIn K C).isSome = true
  ha : PySem.W.findIn K (.ref C) "__class__" = some (some (.builtin "object.__class__"))
  hn : PySem.W.specialIn K (.builtin "object.__class__") "__get__" = some (some (.builtin "getset_descriptor.__get__"))
  tk : PySem.W.takesIn K (.builtin "object.__class__") = some true
  hm : PySem.W.mroIn K C (.type "object") = some true
section
variable {X : Cx} {pins : List (Addr × Obj)} {σ : L2.St} {H : Hp} {s : Shared} {CF : Addr}
theorem eo_inst {a d : Addr} {fs : List (Str × V)} (I : Inv X pins σ H s) (e : H a = some (EO a (.ref CF) (some d))) (ed : H d = some (.xd fs)) : ∃ oe od, PySem.W.InstAt s.heap a oe CF (some od) ∧ ∃ mA : Str → Option Value, (∀ name, PySem.W.lookIn name od = some (mA name)) ∧ ∀ f, RelO (fs.lookup f) (mA f) := by
  obtain ⟨oe, vs, h1, h2, h3, h4⟩ := eo_at I.hok e
  obtain ⟨mA, hns, hr⟩ := (show ObjOk X.prog X.w H s.heap d (.xd fs) from I.hok d _ ed)
  obtain ⟨od, ho, hl⟩ := lookIn_ns hns
  exact ⟨oe, od, ⟨h1, h2, by unfold PySem.W.notCls; rw [h4], by rw [h3]; exact ho⟩, mA, hl, hr⟩
/-- isinstance(e, c), isinstance(e, (c1, c2)) -/
theorem call_isiEO (R : ErrF X.K CF) (T : IsFacts X.K CF) : CallR X (.builtin "isinstance") (fun xs H Q => ∃ (a d : Addr) (fs : List (Str × V)) (c : V) (u : Value) (b : Bool), xs = [.ref a, c] ∧ ClsV c u ∧ H a = some (EO a (.ref CF) (some d)) ∧ H d = some (.xd fs) ∧
    PySem.W.kitOne X.K (.ref CF) u = some b ∧ Q (.bl b) H) := by
  intro pins s σ H xs us Q I r h
  obtain ⟨a, d, fs, c, u, b, rfl, k, ea, ed, e, q⟩ := h
  obtain ⟨u1, u2, rfl, r1, r2⟩ := vals2 r
  obtain rfl : u1 = Value.ref a := r1
  have e2 := k.eq r2
  subst e2
  obtain ⟨oe, od, J, _⟩ := eo_inst I ea ed
  exact PySem.W.kia_one (PySem.W.kitx_exc T.cl R.ga R.gg R.exC T.ha T.hn T.tk T.hm) I.kIn J e (fun z => nomatch z) fun tk => ⟨.bl b, H, I.tok tk, rfl, q⟩
theorem call_isiEOT (R : ErrF X.K CF) (T : IsFacts X.K CF) : CallR X (.builtin "isinstance") (fun xs H Q => ∃ (a d tp : Addr) (fs : List (Str × V)) (cs : List V) (us : List Value) (b : Bool), xs = [.ref a, .ref tp] ∧ H tp = some (.tup cs) ∧ Paired ClsV cs us ∧
    H a = some (EO a (.ref CF) (some d)) ∧ H d = some (.xd fs) ∧ PySem.W.kitAny X.K (.ref CF) us = some b ∧ Q (.bl b) H) := by
  intro pins s σ H xs us Q I r h
  obtain ⟨a, d, tp, fs, cs, ws, b, rfl, hT, k, ea, ed, e, q⟩ := h
  obtain ⟨u1, u2, rfl, r1, r2⟩ := vals2 r
  obtain rfl : u1 = Value.ref a := r1
  obtain rfl : u2 = Value.ref tp := r2
  obtain ⟨_, its, rv, o, h1, h2, n, h3⟩ := (show ObjOk X.prog X.w H s.heap tp (.tup cs) from I.hok tp _ hT)
  have e3 := ClsV.all k rv
  subst e3
  obtain ⟨oc, oc2, dt, sl⟩ := o
  simp only at h2 h3
  subst h2 h3
  obtain ⟨oe, od, J, _⟩ := eo_inst I ea ed
  exact PySem.W.kia_tup (PySem.W.kitx_exc T.cl R.ga R.gg R.exC T.ha T.hn T.tk T.hm) I.kIn J h1 e (fun z => nomatch z) fun tk => ⟨.bl b, H, I.tok tk, rfl, q⟩
/-- e.place -/
def tPlace (CF : Addr) (te : TE) : TE := fun σ H Q => te σ H fun x H1 => ∃ (a d : Addr) (v : V), x = .ref a ∧ H1 a = some (EO a (.ref CF) (some d)) ∧ H1 d = some (.xd [("place", v)]) ∧ Q v H1
theorem pe_place {e : Expr} {te : TE} {pos : Pos} (R : ErrF X.K CF) (he : PE X e te) (hb : attributeBase e "place" X.env (eval e X.env) = eval e X.env := by rfl) : PE X (.Attribute e "place" pos) (tPlace CF te) := by
  refine ⟨fun pins s σ H Q I h => ?_⟩
  refine attr_of hb (thn (he.run pins s σ H _ I h) fun u s1 hh => ?_)
  obtain ⟨x, H1, I1, rx, a, d, v, rfl, ea, ed, q⟩ := hh
  obtain rfl : u = Value.ref a := rx
  obtain ⟨oe, od, J, mA, hl, hr⟩ := eo_inst I1 ea ed
  have l : List.lookup ("place" : Str) [(("place" : Str), v)] = some v := by simp [List.lookup]
  obtain ⟨u, hu, ru⟩ := RelO.some_of (v := v) (o := mA "place") (by rw [← l]; exact hr "place")
  exact HandSPX.exc_get I1.kIn J R.ga R.gg R.exC (PySem.W.findObj_own R.hdC R.noN rfl (by rw [hl, hu])) (handed_of ru) ⟨v, H1, I1.tok _, ru, q⟩
end
end BK


set_option Elab.async false
set_option maxRecDepth 100000
set_option maxHeartbeats 1000000
/-! repr of data: where no repr runs around; trees that are shown. -/
namespace BK
open PySem PySem.Spec PyProof.Rows L2
/-- a def's promise, called where no guarded call runs around -/
structure FnG (P : Program) (w : World) (K : PySem.W.Frag) (mg : Str → Option Value) (base : Heap) (k : Nat) (f : Addr) (fd : FuncData) (ps : List Str) (sp : Sp) : Prop where
  len : ∀ vs H Q E, sp vs H Q E → vs.length = ps.length
  run : ∀ (A : Around) (outer : List Env) (s : Shared) (H : Hp) (us : List Value) (vs : List V) (Q : VK) (E : XK), A.guards = some [] → Room k A → Env0 P w K mg base A outer s H → BindsTo s fd ⟨us, []⟩ (ps.zip us) → Vals vs us → sp vs H Q E →
    codeAny (model P w) A (.call (.ref f) ⟨us, []⟩) (CR CX0 outer P w H s Q E) s
section
variable {P : Program} {w : World} {K : PySem.W.Frag} {mg : Str → Option Value} {base : Heap}
theorem fng_of {k : Nat} {f : Addr} {name qual : Str} {params : Arguments} {body : List Stmt} {scope : Scope} {dV kV doc pm cdv ct oc : Value} {an od : Option Addr} {osl : Array (Option Value)} {N ps : List Str} {sp : Sp}
    (lk : K.lookup f = some ⟨oc, od, .func (PySem.W.fnOf name qual params body scope dV kV doc pm an cdv ct), osl⟩) (hcd : PySem.W.codeIn K cdv qual = true) (S : FnScope N ps scope) (len : ∀ vs H Q E, sp vs H Q E → vs.length = ps.length)
    (hbody : ∀ (A : Around) (outer : List Env) (s : Shared) (H : Hp) (vs : List V) (Q : VK) (E : XK), A.guards = some [] → Room k (A.deeper (envOfC qual scope s.heap.objs.size f cdv)) → sp vs H Q E →
      ∃ t, PSs (cxOf CX0 P w K mg base N qual scope f cdv A outer s H E).nox body t ∧ t { nx := fun _ H' => Q .non H', rt := Q } (L2.start N vs) H) :
    FnG P w K mg base (k + 1) f (PySem.W.fnOf name qual params body scope dV kV doc pm an cdv ct) ps sp :=
  ⟨len, fun A outer s H us vs Q E gd hr e0 hb r hsp => LamX.run_ofS lk hcd S hr e0 hb r (len _ _ _ _ hsp) fun hr' => by
    obtain ⟨t, ht, q⟩ := hbody A outer s H vs Q E gd hr' hsp
    exact ⟨t, ht.nox, q⟩⟩
end
section
variable {X : Cx} {k : Nat} {f : Addr} {fd : FuncData} {ps : List Str} {sp : Sp} {x : Str} {p pos : Pos} {e : Expr} {es : List Expr} {t : TA}
theorem pe_callG (F : FnG X.prog X.w X.K X.mg X.base k f fd ps sp) (gd : X.A.guards = some []) (hr : Room k X.A) (hg : Gl X x) (hm : X.mg x = some (.ref f)) (hk : PySem.W.keepIn X.K (.ref f) = true) (hb : L2.Binds X.K fd ps []) (ha : PA X (e :: es) t)
    (hdb : (x == ("__debug__" : Str)) = false := by decide) (he : starEach (e :: es) X.env = (false, eval e X.env) :: starEach es X.env := by rfl) (hpl : (backTo pos (starEach es X.env)).any (·.1) = false := by rfl) :
    PE X (.Call (.Name x p) (e :: es) [] pos) (tCall sp [] E0 t) := by
  refine ⟨fun pins s σ H Q I h => wpAny_Call_Name_kw (ld_glob I hg hm (PySem.W.callWith_K (h₀ := X.base) I.ok.mod.kin hk (thn (ha.run pos pins s σ H _ I h) fun us s1 hh => ?_) he hpl) hdb)⟩
  obtain ⟨vs, H1, I1, r, q⟩ := hh
  rw [List.append_nil] at q
  have hl : (us ++ []).length = ps.length := by
    rw [List.append_nil, ← r.length]
    exact F.len _ _ _ _ q
  have bd := hb s1 us I1.kIn hl
  rw [List.append_nil] at bd
  refine ⟨I1.kIn, wpAny_call (codeAny_mono (F.run X.A X.stack s1 H1 us vs Q E0 gd hr I1.env0 bd r q) fun r s' hq => ?_)⟩
  match r, hq with
  | .ok (.ret u), hq => exact I1.after hq
/-- repr of lists and tuples of data -/
theorem call_reprD (gd : X.A.guards = some []) (hr : Room 0 X.A) : CallR X (.builtin "repr") (fun xs H Q => ∃ (a : Addr) (d : PyData), xs = [.ref a] ∧ Dp X.K H (.ref a) d ∧ d.showable = true ∧ d.hasDict = false ∧ d.depth ≤ 60 ∧ d.shown.length ≤ sizeLine ∧ Q (.str d.shown) H) := by
  intro pins s σ H xs us Q I r h
  obtain ⟨a, d, rfl, hd, hs, hn, hp, hz, q⟩ := h
  obtain ⟨u, rfl, rx⟩ := vals1 r
  obtain rfl : u = Value.ref a := rx
  obtain ⟨as, rd⟩ := Dp.reads I d (.ref a) _ hd rfl
  have hu := hr.units
  exact repr_of_reads' rd hs (PyData.noDict_hsm hn) gd (by omega) (fun _ _ e => e) (fun h' u tk hk => ⟨.str d.shown, H, I.kept hk, ⟨u, rfl⟩, q⟩) hz
end

/-! trees as data -/
mutual
def pdT : Tr → PyData
  | .non => .none
  | .bl b => .bool b
  | .int i => .int i
  | .str s => .str s
  | .lst => .none
  | .dct => .none
  | .tup ts => .tuple (pdTs ts)
def pdTs : List Tr → List PyData
  | [] => []
  | t :: r => pdT t :: pdTs r
end
mutual
/-- no list, no dict; short ints, short texts -/
def dataT : Tr → Bool
  | .non => true
  | .bl _ => true
  | .int i => decide (i.natAbs < 10 ^ 60)
  | .str s => s.cps.toList.all (fun c => decide (c ≤ 122)) && decide (s.length ≤ 100)
  | .lst => false
  | .dct => false
  | .tup ts => dataTs ts
def dataTs : List Tr → Bool
  | [] => true
  | t :: r => dataT t && dataTs r
end
mutual
def depT : Tr → Nat
  | .tup ts => depTs ts + 1
  | _ => 0
def depTs : List Tr → Nat
  | [] => 0
  | t :: r => max (depT t) (depTs r)
end
mutual
def sizT : Tr → Nat
  | .tup ts => sizTs ts
  | _ => 0
def sizTs : List Tr → Nat
  | [] => 0
  | t :: r => sizT t + 1 + sizTs r
end
structure ReprOk (t : Tr) : Prop where
  da : dataT t = true
  de : depT t ≤ 50
  si : sizT t ≤ 400
section
variable {K : PySem.W.Frag} {H : Hp}
mutual
theorem TrAt.dp : ∀ {v : V} {t : Tr}, TrAt K H v t → dataT t = true → Dp K H v (pdT t)
  | _, _, .non, _ => by simp only [pdT]; exact .non
  | _, _, .bl b, _ => by simp only [pdT]; exact .bl b
  | _, _, .int i, _ => by simp only [pdT]; exact .int i
  | _, _, .str s _, _ => by simp only [pdT]; exact .str s
  | _, _, .lst _, e => by simp [dataT] at e
  | _, _, .dct _, e => by simp [dataT] at e
  | _, _, .tup h k, e => by
    simp only [dataT] at e
    simp only [pdT]
    exact .tup h (TrAll.dp k e)
theorem TrAll.dp : ∀ {vs : List V} {ts : List Tr}, TrAll K H vs ts → dataTs ts = true → DpAll K H vs (pdTs ts)
  | _, _, .nil, _ => by simp only [pdTs]; exact .nil
  | _, _, .cons h k, e => by
    simp only [dataTs, Bool.and_eq_true] at e
    simp only [pdTs]
    exact .cons (h.dp e.1) (k.dp e.2)
end
end
theorem ten_log {v : Int} (h : v.natAbs < 10 ^ 60) : v.natAbs.log2 < 200 := by
  by_cases z : v.natAbs = 0
  · rw [z]; decide
  · rw [Nat.log2_lt z]
    exact Nat.lt_trans h (by decide +kernel)
mutual
theorem pd_show : ∀ t : Tr, dataT t = true → (pdT t).showable = true
  | .non, _ => by simp [pdT, PyData.showable]
  | .bl _, _ => by simp [pdT, PyData.showable]
  | .int i, e => by
    simp only [dataT, decide_eq_true_eq] at e
    simp only [pdT, PyData.showable, decide_eq_true_eq]
    exact Nat.lt_trans (ten_log e) (by decide)
  | .str _, _ => by simp [pdT, PyData.showable]
  | .lst, _ => by simp [pdT, PyData.showable]
  | .dct, _ => by simp [pdT, PyData.showable]
  | .tup ts, e => by
    simp only [dataT] at e
    simp only [pdT, PyData.showable]
    exact pds_show ts e
theorem pds_show : ∀ ts : List Tr, dataTs ts = true → PyData.showableAll (pdTs ts) = true
  | [], _ => by simp [pdTs, PyData.showableAll]
  | t :: r, e => by
    simp only [dataTs, Bool.and_eq_true] at e
    simp only [pdTs, PyData.showableAll, pd_show t e.1, pds_show r e.2, Bool.and_self]
end
mutual
theorem pd_noDict : ∀ t : Tr, (pdT t).hasDict = false
  | .non => by simp [pdT, PyData.hasDict]
  | .bl _ => by simp [pdT, PyData.hasDict]
  | .int _ => by simp [pdT, PyData.hasDict]
  | .str _ => by simp [pdT, PyData.hasDict]
  | .lst => by simp [pdT, PyData.hasDict]
  | .dct => by simp [pdT, PyData.hasDict]
  | .tup ts => by
    simp only [pdT, PyData.hasDict]
    exact pds_noDict ts
theorem pds_noDict : ∀ ts : List Tr, PyData.hasDictAll (pdTs ts) = false
  | [] => by simp [pdTs, PyData.hasDictAll]
  | t :: r => by simp only [pdTs, PyData.hasDictAll, pd_noDict t, pds_noDict r, Bool.or_self]
end
mutual
theorem pd_depth : ∀ t : Tr, (pdT t).depth = depT t
  | .non => by simp [pdT, PyData.depth, depT]
  | .bl _ => by simp [pdT, PyData.depth, depT]
  | .int _ => by simp [pdT, PyData.depth, depT]
  | .str _ => by simp [pdT, PyData.depth, depT]
  | .lst => by simp [pdT, PyData.depth, depT]
  | .dct => by simp [pdT, PyData.depth, depT]
  | .tup ts => by simp only [pdT, PyData.depth, depT, pds_depth ts]
theorem pds_depth : ∀ ts : List Tr, PyData.depthAll (pdTs ts) = depTs ts
  | [] => by simp [pdTs, PyData.depthAll, depTs]
  | t :: r => by simp only [pdTs, PyData.depthAll, depTs, pd_depth t, pds_depth r]
end
mutual
theorem pd_leaves : ∀ t : Tr, dataT t = true → PyData.leavesShort 100 (pdT t) = true
  | .non, _ => by simp [pdT, PyData.leavesShort]
  | .bl _, _ => by simp [pdT, PyData.leavesShort]
  | .int i, e => by
    simp only [dataT, decide_eq_true_eq] at e
    simp only [pdT, PyData.leavesShort, decide_eq_true_eq]
    have : (toString i).length ≤ 60 + 1 := int_text_length_le10 (by decide) e
    have q := PyProof.Rows.int_text_len_1921 (Nat.lt_trans (ten_log e) (by decide : 200 < 1920))
    show (Str.ofString (toString i)).length ≤ 100
    rw [PySem.ofString_length]
    omega
  | .str s, e => by
    simp only [dataT, Bool.and_eq_true] at e
    simp only [pdT, PyData.leavesShort]
    rw [List.all_eq_true]
    intro c hc
    have := of_decide_eq_true (List.all_eq_true.mp e.1 c hc)
    exact decide_eq_true (by omega)
  | .lst, _ => by simp [pdT, PyData.leavesShort]
  | .dct, _ => by simp [pdT, PyData.leavesShort]
  | .tup ts, e => by
    simp only [dataT] at e
    simp only [pdT, PyData.leavesShort]
    exact pds_leaves ts e
theorem pds_leaves : ∀ ts : List Tr, dataTs ts = true → PyData.leavesShortAll 100 (pdTs ts) = true
  | [], _ => by simp [pdTs, PyData.leavesShortAll]
  | t :: r, e => by
    simp only [dataTs, Bool.and_eq_true] at e
    simp only [pdTs, PyData.leavesShortAll, pd_leaves t e.1, pds_leaves r e.2, Bool.and_self]
end
mutual
theorem pd_weight : ∀ t : Tr, dataT t = true → (pdT t).weight ≤ 300 * sizT t + 250
  | .non, _ => by simp [pdT, PyData.weight]
  | .bl _, _ => by simp [pdT, PyData.weight]
  | .int i, e => by
    simp only [dataT, decide_eq_true_eq] at e
    simp only [pdT, PyData.weight]
    have := ten_log e
    split <;> omega
  | .str s, e => by
    simp only [dataT, Bool.and_eq_true] at e
    simp only [pdT, PyData.weight]
    have : s.cps.size ≤ 100 := of_decide_eq_true e.2
    omega
  | .lst, _ => by simp [pdT, PyData.weight]
  | .dct, _ => by simp [pdT, PyData.weight]
  | .tup ts, e => by
    simp only [dataT] at e
    simp only [pdT, PyData.weight, sizT]
    have := pds_weight ts e
    omega
theorem pds_weight : ∀ ts : List Tr, dataTs ts = true → PyData.weightAll (pdTs ts) ≤ 300 * sizTs ts
  | [], _ => by simp [pdTs, PyData.weightAll]
  | t :: r, e => by
    simp only [dataTs, Bool.and_eq_true] at e
    have h1 := pd_weight t e.1
    have h2 := pds_weight r e.2
    simp only [pdTs, PyData.weightAll, sizTs]
    omega
end
/-- what repr asks of [t, b] -/
theorem repr_pair {t : Tr} (h : ReprOk t) (b : Bool) : (PyData.list [pdT t, .bool b]).showable = true ∧ (PyData.list [pdT t, .bool b]).hasDict = false ∧ (PyData.list [pdT t, .bool b]).depth ≤ 60 ∧ (PyData.list [pdT t, .bool b]).shown.length ≤ sizeLine := by
  refine ⟨by simp only [PyData.showable, PyData.showableAll, pd_show t h.da, Bool.and_self], by simp only [PyData.hasDict, PyData.hasDictAll, pd_noDict t, Bool.or_self], ?_, ?_⟩
  · simp only [PyData.depth, PyData.depthAll, pd_depth]
    have := h.de
    omega
  · have l : PyData.leavesShort 100 (.list [pdT t, .bool b]) = true := by simp only [PyData.leavesShort, PyData.leavesShortAll, pd_leaves t h.da, Bool.and_self]
    have := PyData.shown_le 100 (by decide) _ l
    have w := pd_weight t h.da
    have s := h.si
    simp only [PyData.weight, PyData.weightAll] at this
    rw [sizeLine_eq]
    omega
/-- what repr asks of [[t], b] -/
theorem repr_found {t : Tr} (h : ReprOk t) (b : Bool) : (PyData.list [.list [pdT t], .bool b]).showable = true ∧ (PyData.list [.list [pdT t], .bool b]).hasDict = false ∧ (PyData.list [.list [pdT t], .bool b]).depth ≤ 60 ∧ (PyData.list [.list [pdT t], .bool b]).shown.length ≤ sizeLine := by
  refine ⟨by simp only [PyData.showable, PyData.showableAll, pd_show t h.da, Bool.and_self], by simp only [PyData.hasDict, PyData.hasDictAll, pd_noDict t, Bool.or_self], ?_, ?_⟩
  · simp only [PyData.depth, PyData.depthAll, pd_depth]
    have := h.de
    omega
  · have l : PyData.leavesShort 100 (.list [.list [pdT t], .bool b]) = true := by simp only [PyData.leavesShort, PyData.leavesShortAll, pd_leaves t h.da, Bool.and_self]
    have := PyData.shown_le 100 (by decide) _ l
    have w := pd_weight t h.da
    have s := h.si
    simp only [PyData.weight, PyData.weightAll] at this
    rw [sizeLine_eq]
    omega
end BK


set_option Elab.async false
set_option maxRecDepth 100000
set_option maxHeartbeats 1000000
/-! expressions that make trees. -/
namespace BK
open PySem PySem.Spec PyProof.Rows L2
/-- the slots that hold trees -/
def Gt (K : PySem.W.Frag) (L : List (Nat × Tr)) (σ : L2.St) (H : Hp) : Prop := ∀ p ∈ L, ∃ v, σ[p.1]? = some (some v) ∧ TrAt K H v p.2
theorem Gt.same {K : PySem.W.Frag} {L : List (Nat × Tr)} {σ : L2.St} {H H' : Hp} (g : Gt K L σ H) (e : Same H H') : Gt K L σ H' := fun p hp => by
  obtain ⟨v, h1, h2⟩ := g p hp
  exact ⟨v, h1, h2.same e⟩
def ETr (X : Cx) (L : List (Nat × Tr)) (e : Expr) (t : Tr) : Prop := ∃ te : TE, PE X e te ∧ ∀ σ H Q, Gt X.K L σ H → (∀ v H', Same H H' → TrAt X.K H' v t → Q v H') → te σ H Q
def EAr (X : Cx) (L : List (Nat × Tr)) (es : List Expr) (ts : List Tr) : Prop := ∃ ta : TA, PA X es ta ∧ ∀ σ H Q, Gt X.K L σ H → (∀ vs H', Same H H' → TrAll X.K H' vs ts → Q vs H') → ta σ H Q
/-- a new list of trees -/
def ELi (X : Cx) (L : List (Nat × Tr)) (e : Expr) (ts : List Tr) : Prop := ∃ te : TE, PE X e te ∧ ∀ σ H Q, Gt X.K L σ H → (∀ a vs H', Same H H' → H a = none → H' a = some (.lst vs) → TrAll X.K H' vs ts → Q (.ref a) H') → te σ H Q
section
variable {X : Cx} {L : List (Nat × Tr)}
theorem et_var {i : Nat} {x : Str} {pos : Pos} {t : Tr} (h : PE X (.Name x pos) (tVar i)) (m : (i, t) ∈ L) : ETr X L (.Name x pos) t := ⟨_, h, fun σ H Q g k => by
  obtain ⟨v, h1, h2⟩ := g _ m
  exact ⟨v, h1, k v H (fun _ _ e => e) h2⟩⟩
theorem et_str {s : Str} {j : Nat} {pos : Pos} (h : s.length ≤ sizeLine := by decide +kernel) : ETr X L (.Constant (.str s) j pos) (.str s) := ⟨_, pe_str, fun _ H _ _ k => k _ H (fun _ _ e => e) (.str s h)⟩
theorem et_int {i : Int} {j : Nat} {pos : Pos} : ETr X L (.Constant (.int i) j pos) (.int i) := ⟨_, pe_int, fun _ H _ _ k => k _ H (fun _ _ e => e) (.int i)⟩
theorem et_neg {i : Int} {j : Nat} {pos pos' : Pos} : ETr X L (.UnaryOp .USub (.Constant (.int i) j pos) pos') (.int (-i)) := ⟨_, pe_un un_neg pe_int, fun _ H _ _ k => ⟨i, rfl, k _ H (fun _ _ e => e) (.int (-i))⟩⟩
theorem et_bl {b : Bool} {j : Nat} {pos : Pos} : ETr X L (.Constant (.bool b) j pos) (.bl b) := ⟨_, pe_bl, fun _ H _ _ k => k _ H (fun _ _ e => e) (.bl b)⟩
theorem et_non {j : Nat} {pos : Pos} : ETr X L (.Constant .none j pos) .non := ⟨_, pe_non, fun _ H _ _ k => k _ H (fun _ _ e => e) .non⟩
theorem ea_nil : EAr X L [] [] := ⟨_, pa_nil, fun _ H _ _ k => k _ H (fun _ _ e => e) .nil⟩
theorem ea_cons {e : Expr} {es : List Expr} {t : Tr} {ts : List Tr} (h : ETr X L e t) (r : EAr X L es ts) (hs : starEach (e :: es) X.env = (false, eval e X.env) :: starEach es X.env := by rfl) : EAr X L (e :: es) (t :: ts) := by
  obtain ⟨te, p, q⟩ := h
  obtain ⟨ta, p2, q2⟩ := r
  exact ⟨_, pa_cons p p2 hs, fun σ H Q g k => q σ H _ g fun v H1 s1 h1 => q2 σ H1 _ (g.same s1) fun vs H2 s2 h2 => k _ H2 (s1.trans s2) (.cons (h1.same s2) h2)⟩
theorem et_tup {es : List Expr} {k : Nat} {pos : Pos} {ts : List Tr} (h : EAr X L es ts) (hl : es.length ≤ 1000 := by exact Nat.le_of_ble_eq_true rfl) (hl2 : ts.length = es.length := by rfl) : ETr X L (.Tuple es k pos) (.tup ts) := by
  obtain ⟨ta, p, q⟩ := h
  refine ⟨_, pe_tup p, fun σ H Q g k => q σ H _ g fun vs H1 s1 h1 => ⟨?_, fun p np => k _ _ (s1.trans (same_new np)) (.tup (SqT.of upd_same) (h1.same (same_new np)))⟩⟩
  rw [h1.len, hl2, sizeLine_eq]
  omega
theorem et_lst {es : List Expr} {pos : Pos} {ts : List Tr} (h : EAr X L es ts) (hl : es.length ≤ 1000 := by exact Nat.le_of_ble_eq_true rfl) (hl2 : ts.length = es.length := by rfl) : ETr X L (.List es pos) .lst := by
  obtain ⟨ta, p, q⟩ := h
  refine ⟨_, pe_lst p, fun σ H Q g k => q σ H _ g fun vs H1 s1 h1 => ⟨?_, fun p np => k _ _ (s1.trans (same_new np)) (.lst (SqL.of upd_same))⟩⟩
  rw [h1.len, hl2, sizeLine_eq]
  omega
theorem et_dct {pos : Pos} : ETr X L (.Dict [] [] pos) .dct := ⟨_, pe_dnewK, fun _ _ _ _ k => fun p np => k _ _ (same_new np) (.dct upd_same)⟩
theorem et_cat {a b : Expr} {pos : Pos} {xs ys : List Tr} (h1 : ETr X L a (.tup xs)) (h2 : ETr X L b (.tup ys)) (l1 : xs.length ≤ 1000 := by exact Nat.le_of_ble_eq_true rfl) (l2 : ys.length ≤ 1000 := by exact Nat.le_of_ble_eq_true rfl) : ETr X L (.BinOp a .Add b pos) (.tup (xs ++ ys)) := by
  obtain ⟨ta, p1, q1⟩ := h1
  obtain ⟨tb, p2, q2⟩ := h2
  refine ⟨_, pe_op op_catA p1 p2, fun σ H Q g k => q1 σ H _ g fun v H1 s1 t1 => q2 σ H1 _ (g.same s1) fun u H2 s2 t2 => ?_⟩
  have t1 := t1.same s2
  have s12 := s1.trans s2
  cases t1 with
  | @tup aa vs _ ha ta' =>
  cases t2 with
  | @tup bb us _ hb tb' =>
  have e1 := ta'.len
  have e2 := tb'.len
  refine ⟨aa, bb, vs, us, rfl, rfl, ha, hb, by rw [sizeLine_eq]; omega, fun e => ?_, fun _ e => ?_, fun _ _ p np => ?_⟩
  · subst e
    cases ta'
    exact k _ _ s12 (.tup hb tb')
  · subst e
    cases tb'
    rw [List.append_nil] at k
    exact k _ _ s12 (.tup ha ta')
  · have app : ∀ {vs us : List V} {xs ys : List Tr} {H : Hp}, TrAll X.K H vs xs → TrAll X.K H us ys → TrAll X.K H (vs ++ us) (xs ++ ys) := fun {vs us xs ys H} h1 h2 => by
      induction vs generalizing xs with
      | nil => cases h1; exact h2
      | cons v r ih => cases h1 with | cons a b => exact .cons a (ih b)
    exact k _ _ (s12.trans (same_new np)) (.tup (SqT.of upd_same) ((app ta' tb').same (same_new np)))
theorem el_disp {es : List Expr} {pos : Pos} {ts : List Tr} (h : EAr X L es ts) (hl : es.length ≤ 1000 := by exact Nat.le_of_ble_eq_true rfl) (hl2 : ts.length = es.length := by rfl) : ELi X L (.List es pos) ts := by
  obtain ⟨ta, p, q⟩ := h
  refine ⟨_, pe_lst p, fun σ H Q g k => q σ H _ g fun vs H1 s1 h1 => ⟨?_, fun p np => k p vs _ (s1.trans (same_new np)) (s1.free np) upd_same (h1.same (same_new np))⟩⟩
  rw [h1.len, hl2, sizeLine_eq]
  omega
end
theorem TrAll.app {K : PySem.W.Frag} {H : Hp} : ∀ {vs us : List V} {xs ys : List Tr}, TrAll K H vs xs → TrAll K H us ys → TrAll K H (vs ++ us) (xs ++ ys)
  | _, _, _, _, .nil, h => h
  | _, _, _, _, .cons a b, h => .cons a (TrAll.app b h)
/-- some = some + [..] -/
theorem some_cat {X : Cx} {L : List (Nat × Tr)} {i : Nat} {te : TE} {us ts : List Tr} {σ : L2.St} {H0 H : Hp} {a : Addr} {vs : List V} {Q : VK} (r : ∀ σ H Q, Gt X.K L σ H → (∀ a vs H', Same H H' → H a = none → H' a = some (.lst vs) → TrAll X.K H' vs us → Q (.ref a) H') → te σ H Q)
    (g : Gt X.K L σ H) (hσ : σ[i]? = some (some (.ref a))) (s : Same H0 H) (e : H a = some (.lst vs)) (tr : TrAll X.K H vs ts) (lt : ts.length ≤ 500) (lu : us.length ≤ 500)
    (k : ∀ p ws H', Same H0 H' → Same H H' → H0 p = none → H' p = some (.lst ws) → TrAll X.K H' ws (ts ++ us) → Q (.ref p) H') : tOp rCat (tVar i) te σ H Q := by
  refine ⟨.ref a, hσ, r σ H _ g fun b ws H1 s1 nb eb tb => ?_⟩
  have e1 := s1 _ _ e
  have l1 := tr.len
  have l2 := tb.len
  refine ⟨a, b, vs, ws, rfl, rfl, e1, eb, by rw [sizeLine_eq]; omega, fun p np => ?_⟩
  have s2 := same_new (o := .lst (vs ++ ws)) np
  exact k p _ _ ((s.trans s1).trans s2) (s1.trans s2) ((s.trans s1).free np) upd_same (((tr.same s1).app tb).same s2)
/-- some.append(..) -/
theorem some_app {X : Cx} {L : List (Nat × Tr)} {i : Nat} {te : TE} {u : Tr} {ts : List Tr} {σ : L2.St} {H0 H : Hp} {a : Addr} {vs : List V} {Q : VK} (r : ∀ σ H Q, Gt X.K L σ H → (∀ v H', Same H H' → TrAt X.K H' v u → Q v H') → te σ H Q)
    (g : Gt X.K L σ H) (hσ : σ[i]? = some (some (.ref a))) (s : Same H0 H) (na : H0 a = none) (e : H a = some (.lst vs)) (tr : TrAll X.K H vs ts) (lt : ts.length ≤ 500)
    (k : ∀ ws H', Same H0 H' → H' a = some (.lst ws) → TrAll X.K H' ws (ts ++ [u]) → (∀ v t, TrAt X.K H v t → TrAt X.K H' v t) → Q .non H') : tBM X.K "list" rAppend (tVar i) (tCons te tNil) σ H Q := by
  refine ⟨.ref a, hσ, .inl ⟨rfl, _, SqL.of e⟩, r σ H _ g fun v H1 s1 t1 => ?_⟩
  have e1 := s1 _ _ e
  have l1 := tr.len
  refine ⟨a, vs, v, rfl, rfl, e1, by rw [sizeLine_eq]; omega, ?_⟩
  refine k (vs ++ [v]) _ (fun b o eb => ?_) upd_same (((tr.same s1).updL e1).app (.cons (t1.updL e1) .nil)) fun v t h => (h.same s1).updL e1
  rw [upd_ne (ne_of_none eb na)]
  exact s1 _ _ (s _ _ eb)
/-! the parts of a text -/
def stAt (s : Stmt) (j : Nat) : Stmt := (defBody s).getD j (.Pass ⟨0, 0, 0, 0⟩)
def noE : Expr := .Constant .none 0 ⟨0, 0, 0, 0⟩
def valueOf : Stmt → Expr
  | .Assign _ v _ => v
  | .Return (some v) _ => v
  | .Expr v _ => v
  | _ => noE
def rightOf : Expr → Expr
  | .BinOp _ _ b _ => b
  | _ => noE
def argOf : Expr → Expr
  | .Call _ (a :: _) _ _ => a
  | _ => noE
def eltsOf : Expr → List Expr
  | .Tuple es _ _ => es
  | _ => []
end BK


set_option Elab.async false
set_option linter.all false
set_option maxRecDepth 100000
set_option maxHeartbeats 4000000
/-! tuple * int, of any number of times. -/
namespace L2
open PySem PySem.Spec PyProof.Rows
open AutoSeq1 (wpAny_loadPart')
theorem tuple_mul1 (l : Addr) (items : Array Value) (n : Nat) (dd : Option Addr) (sl : Array (Option Value)) (u : Tok) :
    Meets (Builtin.«tuple.__mul__» ⟨[.ref l, .int 1 u], []⟩) (fun _ R s => s.heap.get? l = some { cls := .type "tuple", dict := dd, data := .seq items n, slots := sl } ∧
      R (.ok (.ret (Value.ref l))) s) :=
  .of_wp fun prog w A R s h => by
    obtain ⟨hp, g, d, tk, os⟩ := s
    obtain ⟨hl, h⟩ := h
    have f1 := AutoSeq1.idx_int
    have c0 : (decide ((1 : Int) < -(2 ^ 63)) || decide ((1 : Int) ≥ 2 ^ 63)) = false := by decide
    have c1 : (items.isEmpty || (1 : Int) == 1) = true := by simp
    wp_walk using wpAny_loadPart' hl
    repeat (first
      | (refine wpAny_ite_false (decide_eq_false (by rw [c0]; exact Bool.false_ne_true)) ?_; wp_walk using wpAny_loadPart' hl)
      | (refine wpAny_ite_true (decide_eq_true c1) ?_; wp_walk using wpAny_loadPart' hl))
    exact ⟨_, rfl, h⟩
theorem tuple_mul0 (l : Addr) (items : Array Value) (n : Nat) (dd : Option Addr) (sl : Array (Option Value)) (u : Tok) (ne : items.isEmpty = false) :
    Meets (Builtin.«tuple.__mul__» ⟨[.ref l, .int 0 u], []⟩) (fun _ R s => s.heap.get? l = some { cls := .type "tuple", dict := dd, data := .seq items n, slots := sl } ∧
      R (.ok (.ret (Value.ref s.heap.objs.size))) { s with heap := s.heap.push { cls := Value.type "tuple", data := Data.seq #[] }, toks := s.toks }) :=
  .of_wp fun prog w A R s h => by
    obtain ⟨hp, g, d, tk, os⟩ := s
    obtain ⟨hl, h⟩ := h
    have f1 := AutoSeq1.idx_int
    have c0 : (decide ((0 : Int) < -(2 ^ 63)) || decide ((0 : Int) ≥ 2 ^ 63)) = false := by decide
    have c1 : (items.isEmpty || (0 : Int) == 1) = false := by rw [ne]; decide
    have c2 : (decide ((0 : Int) ≤ 0) || items.isEmpty) = true := by simp
    wp_walk using wpAny_loadPart' hl
    repeat (first
      | (refine wpAny_ite_false (decide_eq_false (by rw [c0]; exact Bool.false_ne_true)) ?_; wp_walk using wpAny_loadPart' hl)
      | (refine wpAny_ite_false (decide_eq_false (by rw [c1]; exact Bool.false_ne_true)) ?_; wp_walk using wpAny_loadPart' hl)
      | (refine wpAny_ite_true (decide_eq_true c2) ?_; wp_walk using wpAny_loadPart' hl))
    exact ⟨_, rfl, h⟩
end L2


set_option Elab.async false
set_option linter.all false
set_option maxRecDepth 100000
set_option maxHeartbeats 4000000
namespace L2
open PySem PySem.Spec PyProof.Rows
def rRepA (K : PySem.W.Frag) : R2 := fun x y H Q => ∃ l k xs, x = .ref l ∧ y = .int k ∧ SqT K H l xs ∧ xs ≠ [] ∧ 0 ≤ k ∧ k ≤ 1000 ∧ xs.length ≤ 1000 ∧ ∀ p H', Same H H' → SqT K H' p (List.replicate k.toNat xs).flatten → Q (.ref p) H'
section
variable {X : Cx}
theorem op_repA : OpR X (binaryOp .Mult) (rRepA X.K) := by
  intro pins s σ H x y v u Q I rx ry h
  obtain ⟨l, k, xs, rfl, rfl, hT, hne, h1, h2, hz, q⟩ := h
  by_cases hk : 2 ≤ k
  · exact op_repT pins s σ H _ _ _ _ Q I rx ry ⟨l, k, xs, rfl, rfl, hT, hne, hk, h2, hz, fun p np => q p _ (fun b o e => by rw [upd_ne (ne_of_none e np)]; exact e) (SqT.of upd_same)⟩
  cases rx
  obtain ⟨t, rfl⟩ := ry
  obtain ⟨its, r, ⟨⟨cls, dd, data, sl⟩, ho, hc, n, hd⟩, hs⟩ := I.tuple hT
  simp only at hc hd
  subst hc hd
  have hle : its.length = xs.length := r.length.symm
  have hn : its ≠ [] := fun e => hne (by
    rw [e] at hle
    exact List.eq_nil_of_length_eq_zero hle.symm)
  have hi : its.toArray.isEmpty = false := by
    cases its with
    | nil => exact absurd rfl hn
    | cons a b => rfl
  have k01 : k = 0 ∨ k = 1 := by omega
  rcases k01 with rfl | rfl
  · refine wpAny_binaryOp_repeat_ref (T := "tuple") (U := "int") (by decide) ⟨_, ho, rfl⟩ (fun s' => typeIs_int s' 0 t) noFill_tuple_mul F.fills_int_mul F.slot_int_rmul repeat_tuple F.slot_int_index.lookup
      (call_meets F.slot_int_rmul (typeIs_int s 0 t) F.entry_int_rmul (F.args_int_rmul_2 _ _) (int_rmul_tuple 0 t l its.toArray n dd sl)
        ⟨ho, rfl, ⟨_, ho, rfl⟩, call_meets F.slot_tuple_mul ⟨_, ho, rfl⟩ F.entry_tuple_mul (F.args_tuple_mul_2 _ _) (tuple_mul0 l its.toArray n dd sl t hi) ⟨ho, ?_⟩⟩)
    have nf : H s.heap.objs.size = none := I.hok.fresh (Nat.le_refl _)
    refine ⟨.ref s.heap.objs.size, _, I.laid (t' := s.toks) (o := .tup []) (fun b ob q => Heap.get?_push_of_some _ q) (Nat.le_refl _) ?_, rfl, q _ _ (fun b o e => by rw [upd_ne (ne_of_none e nf)]; exact e) (SqT.of upd_same)⟩
    exact ⟨Nat.zero_le _, [], .nil, IsTup.new _ _⟩
  · refine wpAny_binaryOp_repeat_ref (T := "tuple") (U := "int") (by decide) ⟨_, ho, rfl⟩ (fun s' => typeIs_int s' 1 t) noFill_tuple_mul F.fills_int_mul F.slot_int_rmul repeat_tuple F.slot_int_index.lookup
      (call_meets F.slot_int_rmul (typeIs_int s 1 t) F.entry_int_rmul (F.args_int_rmul_2 _ _) (int_rmul_tuple 1 t l its.toArray n dd sl)
        ⟨ho, rfl, ⟨_, ho, rfl⟩, call_meets F.slot_tuple_mul ⟨_, ho, rfl⟩ F.entry_tuple_mul (F.args_tuple_mul_2 _ _) (tuple_mul1 l its.toArray n dd sl t) ⟨ho, ?_⟩⟩)
    refine ⟨.ref l, H, I.tok _, rfl, q l H (fun _ _ e => e) ?_⟩
    have e : (List.replicate (1 : Int).toNat xs).flatten = xs := by simp
    rw [e]
    exact hT
end
end L2


set_option Elab.async false
set_option maxRecDepth 100000
/-! The drawing of numbers: _law_mixed, _law_begin, _law_draw. -/
namespace SW
open PySem PySem.Spec PyProof.Rows L2
def top (i : Nat) : Stmt := PySem.Challenge.pw_stepwhere_k13_programs_looked_at.main.body.getD i (.Pass ⟨0, 0, 0, 0⟩)
abbrev sMixed : Stmt := top 53
abbrev sBegin : Stmt := top 54
abbrev sDraw : Stmt := top 55
/-- where the drawing keeps its things: the dict, the list of what is left, the cells -/
structure RA where
  s : Addr
  l : Addr
  c : Addr
/-- none of the three -/
structure Off (a : RA) (p : Addr) : Prop where
  s : p ≠ a.s
  l : p ≠ a.l
  c : p ≠ a.c
/-- what stays but for the two objects that a draw writes -/
def But (a : RA) (H H' : Hp) : Prop := ∀ b o, H b = some o → b ≠ a.s → b ≠ a.l → H' b = some o
theorem But.refl (a : RA) (H : Hp) : But a H H := fun _ _ e _ _ => e
theorem But.trans {a : RA} {H H1 H2 : Hp} (x : But a H H1) (y : But a H1 H2) : But a H H2 := fun c o e h1 h2 => y c o (x c o e h1 h2) h1 h2
theorem Same.but {a : RA} {H H' : Hp} (x : Same H H') : But a H H' := fun c o e _ _ => x c o e
theorem But.at {a : RA} {H H' : Hp} {p : Addr} {o : HO} (x : But a H H') (f : Off a p) (e : H p = some o) : H' p = some o := x p o e f.s f.l
theorem But.free {a : RA} {H H' : Hp} {p : Addr} (x : But a H H') (f : Off a p) (h : H' p = none) : H p = none := by
  cases e : H p with
  | none => rfl
  | some o =>
    rw [x.at f e] at h
    cases h
/-- an object that was not there is written -/
theorem But.new {a : RA} {H H' : Hp} {p : Addr} {o : HO} (x : But a H H') (h : H p = none) : But a H (upd H' p o) := fun b u e h1 h2 => by
  rw [upd_ne (ne_of_none e h)]
  exact x b u e h1 h2
theorem same_new {H : Hp} {p : Addr} {o : HO} (h : H p = none) : Same H (upd H p o) := fun b u e => by
  rw [upd_ne (ne_of_none e h)]
  exact e
theorem Same.new {H H' : Hp} {p : Addr} {o : HO} (x : Same H H') (h : H p = none) : Same H (upd H' p o) := fun b u e => by
  rw [upd_ne (ne_of_none e h)]
  exact x b u e
/-- a comprehension without an if -/
theorem tyes {σ : L2.St} {H : Hp} {f g : Hp → Prop} (h : f H) : tYes σ H fun b H3 => if b = true then f H3 else g H3 := by
  show (if true = true then f H else g H)
  exact iteT h
theorem int_at {ns : List Int} {i : Nat} {y : V} (h : (ns.map V.int)[i]? = some y) : ∃ z, ns[i]? = some z ∧ y = V.int z := by
  rw [List.getElem?_map] at h
  cases e : ns[i]? with
  | none =>
    rw [e] at h
    cases h
  | some z =>
    rw [e] at h
    exact ⟨z, rfl, (Option.some.inj h).symm⟩
/-- the pairs of the dict of draws -/
def rk (c l : Addr) (n : Nat) : List (Key × V) := [(.inr "cells", .ref c), (.inr "lefts", .ref l), (.inr "at", .int (n : Int)), (.inr "room", .int 0)]
structure Rnd (H : Hp) (a : RA) (n : Nat) : Prop where
  ex : ∃ (ns ls : List Int), H a.s = some (.dK (rk a.c a.l n)) ∧ H a.c = some (.lst (ns.map V.int)) ∧ H a.l = some (.lst (ls.map V.int)) ∧ ls.length = ns.length ∧ 0 < ns.length ∧ ns.length ≤ 63 ∧ (∀ x ∈ ls, 0 ≤ x) ∧ a.c ≠ a.s ∧ a.c ≠ a.l
theorem Rnd.same {H H' : Hp} {a : RA} {n : Nat} (R : Rnd H a n) (e : Same H H') : Rnd H' a n := by
  obtain ⟨ns, ls, h1, h2, h3, r⟩ := R
  exact ⟨ns, ls, e _ _ h1, e _ _ h2, e _ _ h3, r⟩
/-- an object beside is written -/
theorem Rnd.upd {H : Hp} {a : RA} {n : Nat} {p : Addr} {o : HO} (R : Rnd H a n) (f : Off a p) : Rnd (upd H p o) a n := by
  obtain ⟨ns, ls, h1, h2, h3, r⟩ := R
  exact ⟨ns, ls, by rw [upd_ne f.s.symm]; exact h1, by rw [upd_ne f.c.symm]; exact h2, by rw [upd_ne f.l.symm]; exact h3, r⟩
/-- a new object is none of the three -/
theorem Rnd.off {H : Hp} {a : RA} {p : Addr} {n : Nat} (R : Rnd H a n) (h : H p = none) : Off a p := by
  obtain ⟨ns, ls, h1, h2, h3, r⟩ := R
  exact ⟨(ne_of_none h1 h).symm, (ne_of_none h3 h).symm, (ne_of_none h2 h).symm⟩
/-- the numbers 48271 .. are mixed: some number below 2147483629 -/
def spMixed : Sp := fun vs H Q _ => ∃ (c k : Int), vs = [.int c, .int k] ∧ 0 ≤ k ∧ k ≤ 1000000 ∧ ∀ r : Int, 0 ≤ r → r < 2147483629 → Q (.int r) H
def spBegin (K : PySem.W.Frag) : Sp := fun vs H Q _ => ∃ (x : Addr) (ns : List Int), vs = [.ref x] ∧ SqL K H x (ns.map V.int) ∧ ns.length ≤ 63 ∧
  ∀ (a : RA) (H' : Hp), Same H H' → H a.s = none → H a.l = none → Rnd H' a 0 → Q (.ref a.s) H'
/-- a draw: a number below many; the dict and the list of what is left are written -/
def spDraw : Sp := fun vs H Q _ => ∃ (a : RA) (n : Nat) (many : Int), vs = [.ref a.s, .int many] ∧ Rnd H a n ∧ n + 60 ≤ 1000000 ∧ 0 < many ∧ many.natAbs < 2 ^ 200 ∧
  ∀ (r : Int) (H' : Hp), 0 ≤ r → r < many → Rnd H' a (n + 1) → But a H H' → Q (.int r) H'
section
variable {P : Program} {w : World} {K : PySem.W.Frag} {mg : Str → Option Value} {base : Heap}
theorem scMixed : FnScope ["cell", "k"] ["cell", "k"] (defScope sMixed) := ⟨rfl, rfl, rfl, by decide +kernel, rfl, by decide +kernel, by decide +kernel⟩
theorem ok_mixed {f : Addr} {fd : FuncData} (F : Fun K "_law_mixed" "_law_mixed" sMixed f fd) (mI : mg "int" = none) : FnOk P w K mg base CX0 1 f fd ["cell", "k"] spMixed := by
  refine F.ok scMixed (fun vs H Q E h => ?_) (fun cdv A outer s H vs Q E hr h => ?_)
  · obtain ⟨c, k, rfl, _⟩ := h
    rfl
  · obtain ⟨c, k, rfl, h0, h1, q⟩ := h
    refine ⟨_, pss_cons (ps_set (i := 0) scMixed.nd rfl (Or.inl rfl) (pe_op op_mod (pe_callTy call_int1 (by rfl) mI boot_int (pa_cons (pv 0) pa_nil)) pe_int))
      (pss_one (ps_ret (pe_op op_mod (pe_op op_mul (pe_op op_mod (pe_op op_add (pe_op op_add
        (pe_op op_mul (pv 0) (pe_op op_add pe_int (pe_op op_mul (pe_op op_mul pe_int (pv 1)) (pv 1)))) (pe_op op_mul pe_int (pv 1))) pe_int) pe_int) pe_int) pe_int))), ?_⟩
    refine ⟨_, rfl, .inl ⟨c, rfl, _, _, rfl, rfl, (by show (0 : Int) < 2147483647; decide), ?_⟩⟩
    have b0 : 0 ≤ c % 2147483647 := Int.emod_nonneg _ (by decide)
    have b1 : c % 2147483647 < 2147483647 := Int.emod_lt_of_pos _ (by decide)
    refine ⟨_, rfl, _, rfl, _, _, rfl, rfl, .inl ⟨by decide, by decide⟩, _, rfl, _, _, rfl, rfl, .inl ⟨by omega, by omega⟩, _, _, rfl, rfl, _, _, rfl, rfl, .inl ⟨by omega, by omega⟩, ?_⟩
    refine ⟨_, rfl, _, _, rfl, rfl, .inl ⟨by decide, by decide⟩, _, _, rfl, rfl, _, _, rfl, rfl, _, _, rfl, rfl, (by show (0 : Int) < 2147483647; decide), _, _, rfl, rfl, .inr ⟨by decide, by decide⟩, _, _, rfl, rfl, (by show (0 : Int) < 2147483629; decide), ?_⟩
    exact q _ (Int.emod_nonneg _ (by decide)) (Int.emod_lt_of_pos _ (by decide))
/-! _law_begin -/
theorem scBegin : FnScope ["script", "cells", "cell"] ["script"] (defScope sBegin) := ⟨rfl, rfl, rfl, by decide +kernel, rfl, by decide +kernel, by decide +kernel⟩
/-- the lefts of the cells -/
def leftOf (c : Int) : Int := if 1000000000000000000 ≤ c then c else 0
theorem leftOf_nn (c : Int) : 0 ≤ leftOf c := by unfold leftOf; split <;> omega
theorem canLay_ints : ∀ ns : List Int, PyData.canLayAll0 (ns.map PyData.int) = true
  | [] => rfl
  | n :: r => by rw [List.map_cons]; simp only [PyData.canLayAll0, PyData.canLay0, canLay_ints r, Bool.and_self]
theorem depth_ints : ∀ ns : List Int, PyData.depthAll (ns.map PyData.int) = 0
  | [] => rfl
  | n :: r => by rw [List.map_cons]; simp only [PyData.depthAll, PyData.depth, depth_ints r, Nat.max_self]
theorem shaped_ints (ns : List Int) : SeqAt.shaped (.list (ns.map PyData.int)) = true := by
  unfold SeqAt.shaped
  simp only [PyData.canLay0, PyData.depth, canLay_ints, depth_ints]
  decide
theorem dpAll_ints {K : PySem.W.Frag} {H : Hp} : ∀ ns : List Int, DpAll K H (ns.map V.int) (ns.map PyData.int)
  | [] => .nil
  | n :: r => .cons (.int n) (dpAll_ints r)
end
end SW


set_option Elab.async false
set_option maxRecDepth 100000
namespace SW
open PySem PySem.Spec PyProof.Rows L2
section
variable {P : Program} {w : World} {K : PySem.W.Frag} {mg : Str → Option Value} {base : Heap}
theorem eqv_ints_nil : ∀ ns : List Int, (!PyData.eqv (.list (ns.map PyData.int)) (.list [])) = decide (ns ≠ [])
  | [] => by simp [PyData.eqv, PyData.eqvAll]
  | n :: r => by simp [PyData.eqv, PyData.eqvAll]
theorem ok_begin {f : Addr} {fd : FuncData} (F : Fun K "_law_begin" "_law_begin" sBegin f fd) (mL : mg "list" = none) : FnOk P w K mg base CX0 1 f fd ["script"] (spBegin K) := by
  refine F.ok scBegin (fun vs H Q E h => ?_) (fun cdv A outer s H vs Q E hr h => ?_)
  · obtain ⟨a, ns, rfl, _⟩ := h
    rfl
  · obtain ⟨a, ns, rfl, hS, hl, k⟩ := h
    have hu := hr.units
    refine ⟨_, C8.pss_cut (ps_set (i := 1) scBegin.nd rfl (Or.inl rfl) (pe_ifExp (pt_cmpR (op_neD hu) (pv 0) (pe_lst pa_nil) (nomark _))
        (pe_callTy call_list_of (by rfl) mL boot_list (pa_cons (pv 0) pa_nil)) (pe_lst (pa_cons pe_int pa_nil))))
      (pss_one (ps_ret (pe_disp (pps_cons pe_str (pv 1) (pps_cons pe_str
        (pe_lc (own := [("cell", 2)]) (g := gName 2) (tt := tYes) rfl scBegin.nd (pi_list (pv 1)) (blkOk_by (N := ["script", "cells", "cell"]) (sc := defScope sBegin) (by decide +kernel))
          (fun _ _ _ _ _ => pg_name (i := 2) scBegin.nd rfl (Or.inl rfl)) (fun _ _ _ _ _ => pts_nil)
          (fun _ _ _ _ _ => pe_ifExp (pt_cmpR op_ge (pv 2) (pe_op op_pow pe_int pe_int) (nomark _)) (pv 2) pe_int))
        (pps_cons pe_str pe_int (pps_cons pe_str pe_int pps_nil)))) rfl rfl (by simp) (by decide)))), ?_⟩
    refine ⟨fun σ H1 => ∃ (c : Addr) (ms : List Int), σ = [some (.ref a), some (.ref c), none] ∧ Same H H1 ∧ H1 c = some (.lst (ms.map V.int)) ∧ 0 < ms.length ∧ ms.length ≤ 63, ?_, ?_⟩
    · refine ⟨_, rfl, Nat.zero_le _, fun p hp => ?_⟩
      have s1 : Same H (upd H p (.lst [])) := fun b o e => by
        rw [upd_ne (ne_of_none e hp)]
        exact e
      refine ⟨.list (ns.map .int), .list [], .lst (s1.seq hS) (dpAll_ints ns), .lst (SqL.of upd_same) .nil, shaped_ints ns, shaped_ints [], _, rfl, ?_⟩
      rw [eqv_ints_nil]
      refine ite2 (fun h => ?_) (fun h => ?_)
      · have hn : ns ≠ [] := of_decide_eq_true h
        refine ⟨_, rfl, _, _, rfl, .inl (s1.seq hS), fun l hl' => ?_⟩
        refine ⟨l, ns, rfl, fun b o e => ?_, upd_same, List.length_pos_iff.mpr hn, hl⟩
        rw [upd_ne (ne_of_none (s1 b o e) hl')]
        exact s1 b o e
      · refine ⟨(by show 1 ≤ sizeLine; decide), fun l hl' => ?_⟩
        refine ⟨l, [0], rfl, fun b o e => ?_, upd_same, (by decide), (by decide)⟩
        rw [upd_ne (ne_of_none (s1 b o e) hl')]
        exact s1 b o e
    · rintro σ H1 ⟨c, ms, rfl, s1, hc, h0, h1⟩
      intro p hp
      have s2 : Same H1 (upd H1 p (.dK [])) := fun b o e => by
        rw [upd_ne (ne_of_none e hp)]
        exact e
      refine ⟨_, rfl, ?_⟩
      refine ⟨_, rfl, c, rfl, ⟨_, s2.seq (SqL.of hc)⟩, fun D hD => ?_⟩
      have npD : p ≠ D := ne_of_none upd_same hD
      have hD1 : H1 D = none := by
        have z := hD
        rw [upd_ne npD.symm] at z
        exact z
      refine lc_list (K := K) (a := c) (xs := ms.map V.int) (fun i H2 => H2 p = some (.dK []) ∧ Same H1 H2 ∧ H2 D = some (.lst ((ms.take i).map fun z => V.int (leftOf z))))
        ⟨by rw [upd_ne npD, upd_same], fun b o e => by rw [upd_ne (ne_of_none e hD1)]; exact s2 b o e, upd_same⟩ (fun i H2 _ ⟨_, s3, _⟩ => s3.seq (SqL.of hc)) ?_ ?_
      · rintro i y H2 hi ⟨e1, s3, e2⟩
        obtain ⟨z, hz, rfl⟩ := int_at hi
        have hil : i < ms.length := (List.getElem?_eq_some_iff.mp hz).1
        have more : ∀ v : V, v = V.int (leftOf z) → (upd H2 D (.lst ((ms.take i).map (fun z => V.int (leftOf z)) ++ [v]))) D = some (.lst ((ms.take (i + 1)).map fun z => V.int (leftOf z))) := fun v ev => by
          rw [upd_same, List.take_add_one, hz, List.map_append, ev]
          all_goals rfl
        have keep : ∀ o, Same H1 (upd H2 D o) := fun o b u e => by
          rw [upd_ne (ne_of_none e hD1)]
          exact s3 b u e
        have kp : ∀ o, (upd H2 D o) p = some (.dK []) := fun o => by
          rw [upd_ne npD]
          exact e1
        have lt : ((ms.take i).map fun z => V.int (leftOf z)).length < sizeLine := small1000 (by rw [List.length_map, List.length_take]; omega)
        refine ⟨rfl, ?_⟩
        refine tyes ?_
        refine ⟨_, rfl, _, _, rfl, rfl, ⟨by decide, by decide, by decide⟩, _, _, rfl, rfl, _, rfl, ?_⟩
        refine ite2 (fun h => ?_) (fun h => ?_)
        · have h' : (1000000000000000000 : Int) ≤ z := of_decide_eq_true h
          exact ⟨_, rfl, _, e2, lt, kp _, keep _, more _ (by unfold leftOf; rw [if_pos h'])⟩
        · have h' : ¬ (1000000000000000000 : Int) ≤ z := fun q => h (decide_eq_true q)
          exact ⟨_, e2, lt, kp _, keep _, more _ (by unfold leftOf; rw [if_neg h'])⟩
      · rintro H2 ⟨e1, s3, e2⟩
        rw [List.length_map, List.take_length] at e2
        refine ⟨e1, rk c D 0, rfl, (by show 4 ≤ 15; decide), ?_⟩
        have hp1 : H p = none := s1.free hp
        have hD0 : H D = none := s1.free hD1
        have sp : Same H1 (upd H2 p (.dK (mergeK [] (rk c D 0)))) := fun b o e => by
          rw [upd_ne (ne_of_none e hp)]
          exact s3 b o e
        refine k ⟨p, D, c⟩ _ (s1.trans sp) hp1 hD0 ⟨ms, ms.map leftOf, ?_, sp _ _ hc, ?_, by rw [List.length_map], h0, h1, fun x hx => ?_, ?_, ?_⟩
        · show (upd H2 p _) p = _
          rw [upd_same]
          all_goals rfl
        · show (upd H2 p _) D = _
          rw [upd_ne npD.symm, e2, List.map_map]
          all_goals rfl
        · obtain ⟨z, _, rfl⟩ := List.mem_map.mp hx
          exact leftOf_nn z
        · exact ne_of_none hc hp
        · exact ne_of_none hc hD1
end
end SW


set_option Elab.async false
set_option maxRecDepth 100000
namespace SW
open PySem PySem.Spec PyProof.Rows L2
theorem rk_cells (c l : Addr) (n : Nat) : valV (rk c l n) (.inr "cells") = some (.ref c) := by with_unfolding_all rfl
theorem rk_lefts (c l : Addr) (n : Nat) : valV (rk c l n) (.inr "lefts") = some (.ref l) := by with_unfolding_all rfl
theorem rk_at (c l : Addr) (n : Nat) : valV (rk c l n) (.inr "at") = some (.int (n : Int)) := by with_unfolding_all rfl
theorem rk_put (c l : Addr) (n : Nat) : putK (rk c l n) (.inr "at") (.int ((n : Int) + 1)) = rk c l (n + 1) := by
  have e : ((n + 1 : Nat) : Int) = (n : Int) + 1 := by omega
  unfold rk
  rw [e]
  with_unfolding_all rfl
section
variable {P : Program} {w : World} {K : PySem.W.Frag} {mg : Str → Option Value} {base : Heap}
theorem scDraw : FnScope ["state", "many", "at", "place", "left", "number"] ["state", "many"] (defScope sDraw) := ⟨rfl, rfl, rfl, by decide +kernel, rfl, by decide +kernel, by decide +kernel⟩
theorem ok_draw {f fM : Addr} {fd fdM : FuncData} (F : Fun K "_law_draw" "_law_draw" sDraw f fd) (GM : FnOk P w K mg base CX0 1 fM fdM ["cell", "k"] spMixed) (bM : Binds K fdM ["cell", "k"] []) (gM : mg "_law_mixed" = some (.ref fM)) (kM : PySem.W.keepIn K (.ref fM) = true)
    (mI : mg "int" = none) (mL : mg "len" = none) : FnOk P w K mg base CX0 2 f fd ["state", "many"] spDraw := by
  refine F.ok scDraw (fun vs H Q E h => ?_) (fun cdv A outer s H vs Q E hr h => ?_)
  · obtain ⟨a, n, many, rfl, _⟩ := h
    rfl
  · obtain ⟨⟨a, l, c⟩, n, many, rfl, ⟨ns, ls, hd, hc, hls, e1, e2, e3, e4, e5, e6⟩, hn, hm, hm2, k⟩ := h
    dsimp only at hd hc hls e5 e6
    have hu := hu_of hr
    have nal : a ≠ l := ne_of hd hls (by intro z; cases z)
    refine ⟨_, pss_cons (ps_set (i := 2) scDraw.nd rfl (Or.inl rfl) (pe_dget hu (pv 0) pe_str (fun _ _ => rfl)))
      (pss_cons (ps_dput hu (pv 0) pe_str (pe_op op_add (pv 2) pe_int) rfl)
      (pss_cons (ps_set (i := 3) scDraw.nd rfl (Or.inl rfl) (pe_op op_mod (pe_callTy call_int1 (by rfl) mI boot_int (pa_cons (pv 2) pa_nil)) (pe_callB call_len_seq (by rfl) mL boot_len (pa_cons (pe_dget hu (pv 0) pe_str (fun _ _ => rfl)) pa_nil))))
      (pss_cons (ps_set (i := 4) scDraw.nd rfl (Or.inl rfl) (pe_ix ix_list (pe_dget hu (pv 0) pe_str (fun _ _ => rfl)) (pv 3) (fun _ _ => rfl)))
      (pss_cons (ps_if (pt_cmpR op_gt (pv 4) pe_int (nomark _))
        (pss_cons (ps_asg (pe_op op_fdivW (pv 4) (pv 1)) (pg_sub (pe_dget hu (pv 0) pe_str (fun _ _ => rfl)) (pv 3) set_list))
        (pss_one (ps_ret (pe_op op_mod (pe_callTy call_int1 (by rfl) mI boot_int (pa_cons (pv 4) pa_nil)) (pv 1))))) pss_nil)
      (pss_cons (ps_set (i := 5) scDraw.nd rfl (Or.inl rfl) (pe_call GM hr rfl gM kM bM .nil pass0
        (pa_cons (pe_call GM hr rfl gM kM bM .nil pass0 (pa_cons (pe_ix ix_list (pe_dget hu (pv 0) pe_str (fun _ _ => rfl)) (pv 3) (fun _ _ => rfl)) (pa_cons (pv 2) pa_nil))) (pa_cons (pe_op op_add pe_int (pv 2)) pa_nil))))
      (pss_one (ps_ret (pe_op op_mod (pe_op op_fdiv (pe_callTy call_int1 (by rfl) mI boot_int
        (pa_cons (pe_op op_add (pe_op op_mul (pv 5) pe_int) (pe_call GM hr rfl gM kM bM .nil pass0 (pa_cons (pv 5) (pa_cons (pe_op op_add pe_int (pv 2)) pa_nil)))) pa_nil)) pe_int) (pv 1))))))))), ?_⟩
    -- at = state["at"]
    refine ⟨_, rfl, a, _, rfl, (rk_at c l n) ▸ DGet.k (k := Sum.inr "at") hd, ?_⟩
    -- state["at"] = at + 1
    refine ⟨_, rfl, _, _, rfl, rfl, _, rfl, a, _, rfl, DPut.k (k := Sum.inr "at") hd (small1000 (by show 4 ≤ 1000; decide)), ?_⟩
    rw [rk_put]
    have d1 : (upd H a (.dK (rk c l (n + 1)))) a = some (.dK (rk c l (n + 1))) := upd_same
    have c1 : (upd H a (.dK (rk c l (n + 1)))) c = some (.lst (ns.map V.int)) := by
      rw [upd_ne e5]
      exact hc
    have l1 : (upd H a (.dK (rk c l (n + 1)))) l = some (.lst (ls.map V.int)) := by
      rw [upd_ne nal.symm]
      exact hls
    have b1 : But ⟨a, l, c⟩ H (upd H a (.dK (rk c l (n + 1)))) := fun b o e h1 _ => by
      rw [upd_ne h1]
      exact e
    generalize upd H a (.dK (rk c l (n + 1))) = H1 at d1 c1 l1 b1 ⊢
    -- place
    have hpos : (0 : Int) < (((ns.map V.int).length : Nat) : Int) := by rw [List.length_map]; omega
    refine ⟨_, rfl, .inl ⟨(n : Int), rfl, _, rfl, a, _, rfl, (rk_cells c l (n + 1)) ▸ DGet.k (k := Sum.inr "cells") d1, c, _, rfl, .inl (SqL.of c1), _, _, rfl, rfl, hpos, ?_⟩⟩
    obtain ⟨j, hj, hjl⟩ : ∃ j : Nat, (n : Int) % (((ns.map V.int).length : Nat) : Int) = (j : Int) ∧ j < ns.length := by
      refine ⟨n % ns.length, ?_, Nat.mod_lt _ e2⟩
      rw [List.length_map]
      omega
    have hL : (ls.map V.int)[j]? = some (V.int (ls[j]'(by omega))) := by
      rw [List.getElem?_map, List.getElem?_eq_getElem (by omega)]
      all_goals rfl
    have hC : (ns.map V.int)[j]? = some (V.int (ns[j]'hjl)) := by
      rw [List.getElem?_map, List.getElem?_eq_getElem hjl]
      all_goals rfl
    have left0 : 0 ≤ ls[j]'(by omega) := e4 _ (List.getElem_mem _)
    generalize ls[j]'(by omega) = left at hL left0
    generalize ns[j]'hjl = cell at hC
    -- left
    refine ⟨_, rfl, a, _, rfl, (rk_lefts c l (n + 1)) ▸ DGet.k (k := Sum.inr "lefts") d1, _, rfl, l, _, _, _, rfl, rfl, SqL.of l1, at_of hj hL, ?_⟩
    refine ⟨_, rfl, _, _, rfl, rfl, _, rfl, ?_⟩
    refine ite2 (fun h => ?_) (fun h => ?_)
    · -- a digit of the great cell
      have hlog : CDivW left many := wide_div hm hm2 (by decide) (by decide)
      refine ⟨_, rfl, _, rfl, _, _, rfl, rfl, hlog, ?_⟩
      refine ⟨_, rfl, a, _, rfl, (rk_lefts c l (n + 1)) ▸ DGet.k (k := Sum.inr "lefts") d1, _, rfl, l, _, _, j, rfl, rfl, l1, ?_, ?_⟩
      · show ixN (ls.map V.int).length ((n : Int) % (((ns.map V.int).length : Nat) : Int)) = some j
        rw [hj, List.length_map]
        unfold ixN
        rw [if_pos (by omega), if_pos (by omega)]
        rfl
      refine ⟨_, rfl, .inl ⟨left, rfl, _, rfl, _, _, rfl, rfl, hm, ?_⟩⟩
      have e0 : 0 ≤ left / many := Int.ediv_nonneg left0 (Int.le_of_lt hm)
      refine k _ _ (Int.emod_nonneg _ (by omega)) (Int.emod_lt_of_pos _ hm) ⟨ns, ls.set j (left / many), by rw [upd_ne nal]; exact d1, by rw [upd_ne e6]; exact c1, ?_, by rw [List.length_set]; exact e1, e2, e3, fun x hx => ?_, e5, e6⟩ fun b o e h1 h2 => ?_
      · rw [upd_same, List.map_set]
      · rcases List.mem_or_eq_of_mem_set hx with z | z
        · exact e4 x z
        · rw [z]
          exact e0
      · rw [upd_ne h2]
        exact b1 b o e h1 h2
    · -- mixed
      refine ⟨_, rfl, a, _, rfl, (rk_cells c l (n + 1)) ▸ DGet.k (k := Sum.inr "cells") d1, _, rfl, c, _, _, _, rfl, rfl, SqL.of c1, at_of hj hC, _, rfl, ?_⟩
      refine ⟨cell, (n : Int), rfl, by omega, by omega, fun r1 _ _ => ?_⟩
      refine ⟨_, rfl, _, _, rfl, rfl, ?_⟩
      refine ⟨r1, (40 : Int) + (n : Int), rfl, by omega, by omega, fun r2 r20 r2l => ?_⟩
      refine ⟨_, rfl, _, _, rfl, rfl, .inl ⟨by omega, by omega⟩, _, rfl, _, rfl, _, _, rfl, rfl, ?_⟩
      refine ⟨r2, (7 : Int) + (n : Int), rfl, by omega, by omega, fun r3 _ _ => ?_⟩
      refine ⟨_, _, rfl, rfl, .inl ⟨_, rfl, _, _, rfl, rfl, ⟨by decide, by decide⟩, _, rfl, _, _, rfl, rfl, hm, ?_⟩⟩
      exact k _ _ (Int.emod_nonneg _ (by omega)) (Int.emod_lt_of_pos _ hm) ⟨ns, ls, d1, c1, l1, e1, e2, e3, e4, e5, e6⟩ b1
end
end SW


set_option Elab.async false
set_option maxRecDepth 100000
/-! Names that are drawn: _law_name. -/
namespace SW
open PySem PySem.Spec PyProof.Rows L2
abbrev sName : Stmt := top 56
/-- a word of 1 to 8 letters a to z -/
def isNmB (z : Str) : Bool := decide (1 ≤ z.length) && decide (z.length ≤ 8) && z.cps.toList.all fun c => decide (97 ≤ c) && decide (c ≤ 122)
def isNm (z : Str) : Prop := isNmB z = true
def alpha : Str := "abcdefghijklmnopqrstuvwxyz"
theorem alpha_at : ∀ i : Fin 26, ∃ c, alpha.cps.toList[i.1]? = some c ∧ 97 ≤ c ∧ c ≤ 122 := by decide +kernel
def own1 : Str := "set hold reset drop show copy within if with guard loop leave yield fail make step close"
def own2 : Str := "vars piece context token unset used empty over ended shown failed"
def few : List Str := ["x", "y", "a", "b", "c", "t", "g", "ab", "abcdefgh"]
theorem few_ok : few.all isNmB = true := by decide +kernel
def owns : List Str := Txt.split own1 " " ++ Txt.split own2 " "
theorem owns_ok : owns.all isNmB = true ∧ owns.length = 28 := by decide +kernel
theorem nm_at {l : List Str} (h : l.all isNmB = true) {i : Nat} (hi : i < l.length) : ∃ z, (l.map V.str)[i]? = some (.str z) ∧ isNm z := by
  refine ⟨l[i], ?_, ?_⟩
  · rw [List.getElem?_map, List.getElem?_eq_getElem hi]
    rfl
  · exact List.all_eq_true.mp h _ (List.getElem_mem _)
theorem at_any {α : Type} {xs : List α} {z : Int} {j : Nat} {v : α} (e : z = (j : Int)) (h : xs[j]? = some v) : atI xs z = some v := by
  subst e
  exact atI_nat h
/-- a text of one sign for each code -/
def sgn (c : Nat) : Str := ⟨#[c]⟩
theorem fold_sgn : ∀ (rest : List Nat) (acc : Array Nat), (rest.map sgn).foldl (fun (acc : Array Nat) (p : Str) => acc ++ (Str.ofString "").cps ++ p.cps) acc = acc ++ rest.toArray
  | [], acc => by simp
  | c :: r, acc => by
    rw [List.map_cons, List.foldl_cons, fold_sgn r]
    have e : (Str.ofString "").cps = #[] := by decide +kernel
    rw [e]
    apply Array.ext'
    simp [sgn]
theorem join_sgn (cs : List Nat) : Txt.join (Str.ofString "") (cs.map sgn) = ⟨cs.toArray⟩ := by
  unfold Txt.join Builtin.Str.glued
  cases cs with
  | nil => rfl
  | cons c r =>
    rw [List.map_cons, List.drop_one, List.tail_cons, fold_sgn r]
    congr 1
    apply Array.ext'
    simp [sgn]
theorem sum_sgn : ∀ cs : List Nat, ((cs.map sgn).map fun x => x.length).sum = cs.length
  | [] => rfl
  | c :: r => by
    rw [List.map_cons, List.map_cons, List.sum_cons, sum_sgn r, List.length_cons]
    show 1 + r.length = _
    omega
theorem nm_cs {cs : List Nat} (h1 : 1 ≤ cs.length) (h2 : cs.length ≤ 8) (h : ∀ c ∈ cs, 97 ≤ c ∧ c ≤ 122) : isNm ⟨cs.toArray⟩ := by
  unfold isNm isNmB
  rw [Bool.and_eq_true, Bool.and_eq_true, List.all_eq_true]
  refine ⟨⟨decide_eq_true ?_, decide_eq_true ?_⟩, fun c hc => ?_⟩
  · show 1 ≤ cs.toArray.size
    rw [List.size_toArray]
    exact h1
  · show cs.toArray.size ≤ 8
    rw [List.size_toArray]
    exact h2
  · have z := h c (by simpa using hc)
    rw [Bool.and_eq_true]
    exact ⟨decide_eq_true z.1, decide_eq_true z.2⟩
/-- a name: some word; the draws are counted -/
def spName : Sp := fun vs H Q _ => ∃ (a : RA) (n : Nat), vs = [.ref a.s] ∧ Rnd H a n ∧ n + 100 ≤ 1000000 ∧
  ∀ (z : Str) (n' : Nat) (H' : Hp), isNm z → n' ≤ n + 10 → Rnd H' a n' → But a H H' → Q (.str z) H'
section
variable {P : Program} {w : World} {K : PySem.W.Frag} {mg : Str → Option Value} {base : Heap}
theorem scName : FnScope ["state", "few", "own", "way", "k"] ["state"] (defScope sName) := ⟨rfl, rfl, rfl, by decide +kernel, rfl, by decide +kernel, by decide +kernel⟩
theorem ok_name {f fD : Addr} {fd fdD : FuncData} (F : Fun K "_law_name" "_law_name" sName f fd) (GD : FnOk P w K mg base CX0 2 fD fdD ["state", "many"] spDraw) (bD : Binds K fdD ["state", "many"] []) (gD : mg "_law_draw" = some (.ref fD)) (kD : PySem.W.keepIn K (.ref fD) = true)
    (mR : mg "range" = none) : FnOk P w K mg base CX0 3 f fd ["state"] spName := by
  refine F.ok scName (fun vs H Q E h => ?_) (fun cdv A outer s H vs Q E hr h => ?_)
  · obtain ⟨a, n, rfl, _⟩ := h
    rfl
  · obtain ⟨a, n, rfl, R, hn, k⟩ := h
    refine ⟨_, pss_cons (ps_set (i := 1) scName.nd rfl (Or.inl rfl) (pe_lst (pa_cons pe_str (pa_cons pe_str (pa_cons pe_str (pa_cons pe_str (pa_cons pe_str (pa_cons pe_str (pa_cons pe_str (pa_cons pe_str (pa_cons pe_str pa_nil)))))))))))
      (pss_cons (ps_set (i := 2) scName.nd rfl (Or.inl rfl) (pe_split pe_str pe_str))
      (C8.pss_cut (ps_set (i := 2) scName.nd rfl (Or.inl rfl) (pe_op op_cat (pv 2) (pe_split pe_str pe_str)))
      (pss_cons (ps_set (i := 3) scName.nd rfl (Or.inl rfl) (pe_call GD hr rfl gD kD bD .nil pass0 (pa_cons (pv 0) (pa_cons pe_int pa_nil))))
      (pss_cons (ps_if (pt_cmpR op_lt (pv 3) pe_int (nomark _)) (pss_one (ps_ret (pe_ifExp (pt_cmpR op_eq (pv 3) pe_int (nomark _))
          (pe_ix ix_list (pv 1) (pe_call GD hr rfl gD kD bD .nil pass0 (pa_cons (pv 0) (pa_cons pe_int pa_nil))) (fun _ _ => rfl))
          (pe_ix ix_list (pv 2) (pe_call GD hr rfl gD kD bD .nil pass0 (pa_cons (pv 0) (pa_cons pe_int pa_nil))) (fun _ _ => rfl))))) pss_nil)
      (pss_one (ps_ret (pe_join pe_str (pe_lc (own := [("k", 4)]) (g := gName 4) (tt := tYes) rfl scName.nd
          (pi_range1 rfl mR (pa_cons (pe_op op_add pe_int (pe_call GD hr rfl gD kD bD .nil pass0 (pa_cons (pv 0) (pa_cons pe_int pa_nil)))) pa_nil))
          (blkOk_by (N := ["state", "few", "own", "way", "k"]) (sc := defScope sName) (by decide +kernel))
          (fun _ _ _ _ _ => pg_name (i := 4) scName.nd rfl (Or.inl rfl)) (fun _ _ _ _ _ => pts_nil)
          (fun _ _ _ _ _ => pe_ix ix_str pe_str (pe_call GD hr rfl gD kD bD .nil pass0 (pa_cons (pv 0) (pa_cons pe_int pa_nil))) (fun _ _ => rfl)))))))))), ?_⟩
    -- few
    refine ⟨(by show 9 ≤ sizeLine; decide), fun p1 np1 => ?_⟩
    -- own
    refine ⟨⟨_, rfl⟩, _, _, rfl, rfl, by decide +kernel, by decide +kernel, fun p2 np2 => ?_⟩
    refine ⟨fun σ H4 => ∃ p1 p4, σ = [some (.ref a.s), some (.ref p1), some (.ref p4), none, none] ∧ Same H H4 ∧ H4 p1 = some (.lst (few.map V.str)) ∧ H4 p4 = some (.lst (owns.map V.str)) ∧ Off a p1 ∧ Off a p4, ?_, ?_⟩
    · refine ⟨_, rfl, ⟨_, rfl⟩, _, _, rfl, rfl, by decide +kernel, by decide +kernel, fun p3 np3 => ?_⟩
      have n23 : p2 ≠ p3 := ne_of_none upd_same np3
      refine ⟨_, _, _, _, rfl, rfl, (upd_ne n23).trans upd_same, upd_same, by decide +kernel, fun p4 np4 => ?_⟩
      refine ⟨p1, p4, rfl, ((((same_new np1).trans (same_new np2)).trans (same_new np3)).trans (same_new np4)), (((same_new np2).trans (same_new np3)).trans (same_new np4)) p1 _ upd_same, ?_, R.off np1, (R.same (((same_new np1).trans (same_new np2)).trans (same_new np3))).off np4⟩
      rw [upd_same]
      unfold owns
      rw [List.map_append]
      rfl
    rintro σ H4 ⟨p1, p4, rfl, sA, hF, hO, nF, nO⟩
    have R4 := R.same sA
    have b4 : But a H H4 := Same.but sA
    -- way
    refine ⟨_, rfl, a, n, 3, rfl, R4, by omega, by decide, by decide, fun way H5 w0 wl R5 b5 => ?_⟩
    refine ⟨_, rfl, _, _, rfl, rfl, _, rfl, ?_⟩
    refine ite2 (fun h => ?_) (fun h => ?_)
    · refine ⟨_, rfl, rfl, _, rfl, ?_⟩
      refine ite2 (fun h => ?_) (fun h => ?_)
      · refine ⟨_, rfl, _, rfl, a, n + 1, 9, rfl, R5, by omega, by decide, by decide, fun i H6 i0 il R6 b6 => ?_⟩
        obtain ⟨z, hz, nz⟩ := nm_at few_ok (i := i.toNat) (by show i.toNat < 9; omega)
        exact ⟨p1, _, _, _, rfl, rfl, SqL.of (b6.at nF (b5.at nF hF)), at_of (by omega) hz, k z _ H6 nz (by omega) R6 ((b4.trans b5).trans b6)⟩
      · refine ⟨_, rfl, _, rfl, a, n + 1, 27, rfl, R5, by omega, by decide, by decide, fun i H6 i0 il R6 b6 => ?_⟩
        obtain ⟨z, hz, nz⟩ := nm_at owns_ok.1 (i := i.toNat) (by rw [owns_ok.2]; omega)
        exact ⟨p4, _, _, _, rfl, rfl, SqL.of (b6.at nO (b5.at nO hO)), at_of (by omega) hz, k z _ H6 nz (by omega) R6 ((b4.trans b5).trans b6)⟩
    · -- any letters
      refine ⟨⟨_, rfl⟩, _, rfl, a, n + 1, 8, rfl, R5, by omega, by decide, by decide, fun m H6 m0 ml R6 b6 => ?_⟩
      refine ⟨_, _, rfl, rfl, (1 : Int) + m, rfl, by omega, by omega, fun D nD => ?_⟩
      have nD2 := R6.off nD
      have bA := (b4.trans b5).trans b6
      have nDH := bA.free nD2 nD
      refine lc_range (lo := 0) (n := ((1 : Int) + m).toNat) (fun i H7 => ∃ (cs : List Nat), H7 D = some (.lst ((cs.map sgn).map V.str)) ∧ cs.length = i ∧ (∀ c ∈ cs, 97 ≤ c ∧ c ≤ 122) ∧ Rnd H7 a (n + 1 + 1 + i) ∧ But a H H7)
        ⟨[], upd_same, rfl, fun _ h => by simp at h, R6.same (same_new nD), ((b4.trans b5).trans b6).trans (Same.but (same_new nD))⟩ ?_ ?_
      · rintro i H7 hi ⟨cs, e1, e2, e3, R7, b7⟩
        refine ⟨rfl, ?_⟩
        refine tyes ?_
        refine ⟨_, rfl, a, n + 1 + 1 + i, 26, rfl, R7, by omega, by decide, by decide, fun r H8 r0 rl R8 b8 => ?_⟩
        obtain ⟨c, hc, c1, c2⟩ := alpha_at ⟨r.toNat, by omega⟩
        have e8 := b8.at nD2 e1
        refine ⟨_, _, c, rfl, rfl, by decide +kernel, at_any (by show r = ((r.toNat : Nat) : Int); omega) hc, _, e8, small1000 (by rw [List.length_map, List.length_map]; omega), ?_⟩
        refine ⟨cs ++ [c], ?_, by rw [List.length_append, e2]; rfl, fun x hx => ?_, R8.upd nD2, (b7.trans b8).new nDH⟩
        · rw [upd_same, List.map_append, List.map_append]
          rfl
        · rcases List.mem_append.mp hx with z | z
          · exact e3 x z
          · rw [List.mem_singleton.mp z]
            exact ⟨c1, c2⟩
      · rintro H7 ⟨cs, e1, e2, e3, R7, b7⟩
        refine ⟨_, D, cs.map sgn, rfl, rfl, .inl (SqL.of e1), ?_, ?_⟩
        · have el : (Str.ofString "").length = 0 := by decide +kernel
          rw [el, Nat.mul_zero, Nat.add_zero, sum_sgn]
          omega
        · rw [join_sgn]
          exact k _ _ H7 (nm_cs (by omega) (by omega) e3) (by omega) R7 b7
end
end SW


set_option Elab.async false
set_option maxRecDepth 100000
/-! Different names: _law_names. -/
namespace SW
open PySem PySem.Spec PyProof.Rows L2
abbrev sNames : Stmt := top 57
/-- a list without repeats within another one is no longer -/
theorem nodup_le {α : Type} [BEq α] [LawfulBEq α] : ∀ {ws zs : List α}, ws.Nodup → (∀ w ∈ ws, w ∈ zs) → ws.length ≤ zs.length
  | [], _, _, _ => Nat.zero_le _
  | w :: r, zs, hn, h => by
    obtain ⟨h1, h2⟩ := List.nodup_cons.mp hn
    have hw := h w List.mem_cons_self
    have ih := nodup_le (zs := zs.erase w) h2 fun x hx => (List.mem_erase_of_ne (fun e : x = w => h1 (by rw [← e]; exact hx))).mpr (h x (List.mem_cons_of_mem _ hx))
    rw [List.length_erase_of_mem hw] at ih
    have := List.length_pos_of_mem hw
    rw [List.length_cons]
    omega
theorem some_out {α : Type} [BEq α] [LawfulBEq α] {ws zs : List α} (hn : ws.Nodup) (h : zs.length < ws.length) : ∃ w ∈ ws, w ∉ zs := by
  by_cases q : ∃ w ∈ ws, w ∉ zs
  · exact q
  · have := nodup_le hn fun w hw => Classical.byContradiction fun z => q ⟨w, hw, z⟩
    omega
def qw (j : Nat) : Str := Str.ofString "q" ++ (⟨#[97 + j]⟩ : Str)
def qs : List Str := (List.range 26).map qw
theorem qs_ok : qs.length = 26 ∧ qs.all isNmB = true ∧ qs.Nodup := by decide +kernel
theorem alpha_qs : ∀ i : Fin 26, ∃ c, alpha.cps.toList[i.1]? = some c ∧ qs[i.1]? = some (Str.ofString "q" ++ (⟨#[c]⟩ : Str)) := by decide +kernel
theorem inV_str (z : Str) : ∀ zs : List Str, inV (.str z) (zs.map V.str) = decide (z ∈ zs)
  | [] => rfl
  | y :: r => by
    have ih := inV_str z r
    unfold inV at ih ⊢
    rw [List.map_cons, List.any_cons, ih]
    show (y == z || decide (z ∈ r)) = _
    by_cases e : y = z
    · simp [e]
    · have e' : ¬ z = y := fun q => e q.symm
      simp [e, e', List.mem_cons]
theorem flat_strs : ∀ zs : List Str, (zs.map V.str).all flatV = true
  | [] => rfl
  | y :: r => by
    rw [List.map_cons, List.all_cons, flat_strs r]
    rfl
theorem str_at {zs : List Str} {i : Nat} {y : V} (h : (zs.map V.str)[i]? = some y) : ∃ z, zs[i]? = some z ∧ y = V.str z := by
  rw [List.getElem?_map] at h
  cases e : zs[i]? with
  | none =>
    rw [e] at h
    cases h
  | some z =>
    rw [e] at h
    exact ⟨z, rfl, (Option.some.inj h).symm⟩
theorem filt_pos {α : Type} {p : α → Bool} {l : List α} {x : α} (h : p x = true) : (l ++ [x]).filter p = l.filter p ++ [x] := by
  rw [List.filter_append]
  simp [List.filter, h]
theorem filt_neg {α : Type} {p : α → Bool} {l : List α} {x : α} (h : p x = false) : (l ++ [x]).filter p = l.filter p := by
  rw [List.filter_append]
  simp [List.filter, h]
/-- so many different names -/
def spNames : Sp := fun vs H Q _ => ∃ (a : RA) (n m : Nat), vs = [.ref a.s, .int (m : Int)] ∧ Rnd H a n ∧ m ≤ 6 ∧ n + 1000 ≤ 1000000 ∧
  ∀ (p : Addr) (zs : List Str) (n' : Nat) (H' : Hp), H p = none → Off a p → H' p = some (.lst (zs.map V.str)) → zs.length = m → zs.Nodup → (∀ z ∈ zs, isNm z) → n' ≤ n + 10 * m → Rnd H' a n' → But a H H' → Q (.ref p) H'
section
variable {P : Program} {w : World} {K : PySem.W.Frag} {mg : Str → Option Value} {base : Heap}
theorem scNames : FnScope ["state", "many", "found", "k", "name", "some", "j", "one"] ["state", "many"] (defScope sNames) := ⟨rfl, rfl, rfl, by decide +kernel, rfl, by decide +kernel, by decide +kernel⟩
theorem ok_names {f fN : Addr} {fd fdN : FuncData} (F : Fun K "_law_names" "_law_names" sNames f fd) (GN : FnOk P w K mg base CX0 3 fN fdN ["state"] spName) (bN : Binds K fdN ["state"] []) (gN : mg "_law_name" = some (.ref fN)) (kN : PySem.W.keepIn K (.ref fN) = true)
    (mR : mg "range" = none) (mL : mg "len" = none) : FnOk P w K mg base CX0 4 f fd ["state", "many"] spNames := by
  refine F.ok scNames (fun vs H Q E h => ?_) (fun cdv A outer s H vs Q E hr h => ?_)
  · obtain ⟨a, n, m, rfl, _⟩ := h
    rfl
  · obtain ⟨a, n, m, rfl, R, hm, hn, k⟩ := h
    refine ⟨_, pss_cons (ps_set (i := 2) scNames.nd rfl (Or.inr rfl) (pe_lst pa_nil))
      (pss_cons (ps_for PassesOwn.never rfl (pi_range1 rfl mR (pa_cons (pv 1) pa_nil)) (pg_name (i := 3) scNames.nd rfl (Or.inl rfl))
        (pss_cons (ps_set (i := 4) scNames.nd rfl (Or.inl rfl) (pe_call GN hr rfl gN kN bN .nil pass0 (pa_cons (pv 0) pa_nil)))
        (pss_cons (ps_set (i := 5) scNames.nd rfl (Or.inl rfl) (pe_op op_cat (pe_lst (pa_cons (pv 4) pa_nil))
          (pe_lc (own := [("j", 6)]) (g := gName 6) (tt := tYes) rfl scNames.nd
            (pi_range1 rfl mR (pa_cons (pe_op op_add (pe_callB call_len_seq (by rfl) mL boot_len (pa_cons (pv 2) pa_nil)) pe_int) pa_nil))
            (blkOk_by (N := ["state", "many", "found", "k", "name", "some", "j", "one"]) (sc := defScope sNames) (by decide +kernel))
            (fun _ _ _ _ _ => pg_name (i := 6) scNames.nd rfl (Or.inl rfl)) (fun _ _ _ _ _ => pts_nil)
            (fun _ _ _ _ _ => pe_op op_add_str pe_str (pe_ix ix_str pe_str (pv 6) (fun _ _ => rfl))))))
        (pss_one (ps_expr (pe_bm PySem.F.plainAttrs_list PySem.F.slot_list_append PySem.F.type_list_append mt_append (pv 2) (pa_cons
          (pe_ix ix_list (pe_lc (own := [("one", 7)]) (g := gName 7) (tt := tTest (tOp (rIn K true) (tVar 7) (tVar 2))) rfl scNames.nd (pi_list (pv 5))
            (blkOk_by (N := ["state", "many", "found", "k", "name", "some", "j", "one"]) (sc := defScope sNames) (by decide +kernel))
            (fun _ _ _ _ _ => pg_name (i := 7) scNames.nd rfl (Or.inl rfl)) (fun _ _ _ _ _ => pts_one (pt_cmpR op_notIn_seq (pv 7) (pv 2) rfl))
            (fun _ _ _ _ _ => pv 7)) pe_int (fun _ _ => rfl)) pa_nil)))))))
      (pss_one (ps_ret (pv 2)))), ?_⟩
    -- found = []
    refine ⟨Nat.zero_le _, fun p np => ?_⟩
    have fp := R.off np
    refine ⟨_, rfl, (m : Int), rfl, by omega, by omega, for_range (lo := 0) (n := ((m : Int)).toNat) (fun i σ H' => ∃ (zs : List Str) (n' : Nat) (v3 v4 v5 : Option V), σ = [some (.ref a.s), some (.int (m : Int)), some (.ref p), v3, v4, v5, none, none] ∧
        H' p = some (.lst (zs.map V.str)) ∧ zs.length = i ∧ zs.Nodup ∧ (∀ z ∈ zs, isNm z) ∧ n' ≤ n + 10 * i ∧ Rnd H' a n' ∧ But a H H')
      ⟨[], n, none, none, none, rfl, upd_same, rfl, List.nodup_nil, (fun z h => by simp at h), Nat.le_refl _, R.same (same_new np), Same.but (same_new np)⟩ ?_ ?_⟩
    · rintro i σ H1 hi ⟨zs, n', v3, v4, v5, rfl, ep, el, nd, nm, hn', R1, b1⟩
      have him : i < m := by omega
      -- name = _law_name(state)
      refine ⟨_, rfl, a, n', rfl, R1, by omega, fun z n2 H2 nz hn2 R2 b2 => ?_⟩
      have ep2 := b2.at fp ep
      -- some = [name] + [..]
      refine ⟨_, rfl, (by show 1 ≤ sizeLine; decide), fun p1 np1 => ?_⟩
      have ep3 := same_new (o := .lst [.str z]) np1 _ _ ep2
      have hlen : (((((zs.map V.str).length : Nat) : Int) + 1).toNat) = i + 1 := by rw [List.length_map, el]; omega
      refine ⟨_, rfl, p, _, rfl, .inl (SqL.of ep3), _, _, rfl, rfl, _, rfl, (by rw [List.length_map]; omega), (by rw [List.length_map]; omega), fun D nD => ?_⟩
      refine lc_range (lo := 0) (n := (((((zs.map V.str).length : Nat) : Int) + 1).toNat)) (fun j H3 => H3 D = some (.lst ((qs.take j).map V.str)) ∧ Same (upd H2 p1 (.lst [.str z])) H3) ⟨upd_same, same_new nD⟩ ?_ ?_
      · rintro j H3 hj ⟨e1, s3⟩
        rw [hlen] at hj
        obtain ⟨c, hc, hq⟩ := alpha_qs ⟨j, by omega⟩
        refine ⟨rfl, ?_⟩
        refine tyes ?_
        have lt : ((qs.take j).map V.str).length < sizeLine := small1000 (by rw [List.length_map, List.length_take]; omega)
        refine ⟨_, rfl, _, _, c, rfl, rfl, by decide +kernel, at_any (by show (0 : Int) + (j : Int) = (j : Int); omega) hc, _, _, rfl, rfl, (by show (Str.ofString "q").length + 1 ≤ sizeLine; decide +kernel), _, e1, lt, ?_, Same.new s3 nD⟩
        rw [upd_same, List.take_add_one, hq, List.map_append]
        rfl
      · rintro H3 ⟨e1, s3⟩
        rw [hlen] at e1
        refine ⟨p1, D, _, _, rfl, rfl, s3 _ _ upd_same, e1, ?_, fun p2 np2 => ?_⟩
        · rw [List.length_map, List.length_take, qs_ok.1]
          show 1 + _ ≤ sizeLine
          have h7 : 1 + min (i + 1) 26 ≤ 1000 := by omega
          exact Nat.le_of_lt (small1000 h7)
        have ep4 := same_new (o := .lst ([V.str z] ++ (qs.take (i + 1)).map V.str)) np2 _ _ (s3 _ _ ep3)
        have b4 : But a H (upd H3 p2 (.lst ([V.str z] ++ (qs.take (i + 1)).map V.str))) := (b1.trans b2).trans (Same.but (((same_new np1).trans s3).trans (same_new np2)))
        have R4 : Rnd (upd H3 p2 (.lst ([V.str z] ++ (qs.take (i + 1)).map V.str))) a n2 := R2.same (((same_new np1).trans s3).trans (same_new np2))
        have ew : (upd H3 p2 (.lst ([V.str z] ++ (qs.take (i + 1)).map V.str))) p2 = some (.lst ((z :: qs.take (i + 1)).map V.str)) := upd_same
        generalize (upd H3 p2 (.lst ([V.str z] ++ (qs.take (i + 1)).map V.str))) = H4 at ep4 b4 R4 ew ⊢
        have hws : (qs.take (i + 1)).Nodup := qs_ok.2.2.sublist (List.take_sublist _ _)
        have hwl : (qs.take (i + 1)).length = i + 1 := by rw [List.length_take, qs_ok.1]; omega
        obtain ⟨w0, hw0, hw1⟩ := some_out (zs := zs) hws (by omega)
        have wsN : ∀ y ∈ z :: qs.take (i + 1), isNm y := fun y hy => by
          rcases List.mem_cons.mp hy with e | e
          · rw [e]
            exact nz
          · exact List.all_eq_true.mp qs_ok.2.1 _ (List.mem_of_mem_take e)
        have wsO : ∃ w ∈ z :: qs.take (i + 1), w ∉ zs := ⟨w0, List.mem_cons_of_mem _ hw0, hw1⟩
        have wsL : (z :: qs.take (i + 1)).length ≤ 100 := by rw [List.length_cons, hwl]; omega
        generalize z :: qs.take (i + 1) = ws at ew wsN wsO wsL
        -- found.append([..][0])
        refine ⟨_, rfl, Or.inl ⟨rfl, _, SqL.of ep4⟩, ?_⟩
        refine ⟨_, rfl, p2, rfl, ⟨_, SqL.of ew⟩, fun D2 nD2 => ?_⟩
        refine lc_list (K := K) (a := p2) (xs := ws.map V.str) (fun j H5 => H5 D2 = some (.lst (((ws.take j).filter fun y => decide (y ∉ zs)).map V.str)) ∧ Same H4 H5) ⟨upd_same, same_new nD2⟩ (fun j H5 _ ⟨_, s5⟩ => s5.seq (SqL.of ew)) ?_ ?_
        · rintro j y H5 hj ⟨e5, s5⟩
          obtain ⟨x, hx, rfl⟩ := str_at hj
          refine ⟨rfl, _, rfl, _, rfl, p, _, rfl, .inl (SqL.of (s5 _ _ ep4)), rfl, flat_strs zs, _, rfl, ?_⟩
          show (if (!inV (.str x) (zs.map V.str)) = true then _ else _)
          rw [inV_str]
          have et : ws.take (j + 1) = ws.take j ++ [x] := by rw [List.take_add_one, hx]; rfl
          refine ite2 (fun h => ?_) (fun h => ?_)
          · have hxz : decide (x ∉ zs) = true := by simpa using h
            refine ⟨_, rfl, _, e5, small1000 ?_, ?_, Same.new s5 nD2⟩
            · rw [List.length_map]
              exact Nat.le_trans (List.length_filter_le _ _) (by rw [List.length_take]; omega)
            · rw [upd_same, et, filt_pos (p := fun y => decide (y ∉ zs)) hxz, List.map_append]
              rfl
          · have hxz : ¬ decide (x ∉ zs) = true := by simpa using h
            refine ⟨?_, s5⟩
            rw [e5, et, filt_neg (p := fun y => decide (y ∉ zs)) (by simpa using hxz)]
        · rintro H5 ⟨e5, s5⟩
          rw [List.length_map, List.take_length] at e5
          obtain ⟨w, hw, hwz⟩ := wsO
          have hne : 0 < (ws.filter fun y => decide (y ∉ zs)).length := List.length_pos_of_mem (List.mem_filter.mpr ⟨hw, decide_eq_true hwz⟩)
          obtain ⟨g, hg⟩ : ∃ g, (ws.filter fun y => decide (y ∉ zs))[0]? = some g := ⟨_, List.getElem?_eq_getElem hne⟩
          have hgm := List.mem_filter.mp (List.mem_of_getElem? hg)
          have hgz : g ∉ zs := of_decide_eq_true hgm.2
          refine ⟨D2, _, 0, .str g, rfl, rfl, SqL.of e5, at_of (j := 0) rfl (by rw [List.getElem?_map, hg]; rfl), ?_⟩
          refine ⟨p, _, _, rfl, rfl, s5 _ _ ep4, small1000 (by rw [List.length_map]; omega), ?_⟩
          refine ⟨zs ++ [g], n2, _, _, _, rfl, ?_, by rw [List.length_append, el]; rfl, nd_snoc nd hgz, fun y hy => ?_, by omega, (R4.same s5).upd fp, (b4.trans (Same.but s5)).new np⟩
          · rw [upd_same, List.map_append]
            rfl
          · rcases List.mem_append.mp hy with e | e
            · exact nm y e
            · rw [List.mem_singleton.mp e]
              exact wsN g hgm.1
    · rintro σ H1 ⟨zs, n', v3, v4, v5, rfl, ep, el, nd, nm, hn', R1, b1⟩
      exact ⟨_, rfl, k p zs n' H1 np fp ep (by omega) nd nm (by omega) R1 b1⟩
end
end SW


set_option Elab.async false
set_option maxRecDepth 100000
set_option maxHeartbeats 2000000
/-! trees stay while the draws write. -/
namespace BK
open PySem PySem.Spec PyProof.Rows L2 SW
section
variable {K : PySem.W.Frag} {H H' : Hp} {a : RA} {n n' : Nat}
theorem lst_but (R : Rnd H a n) (R' : Rnd H' a n') (b : But a H H') {p : Addr} {xs : List V} (h : SqL K H p xs) : ∃ ys, SqL K H' p ys := by
  obtain ⟨ns, ls, e1, e2, e3, _⟩ := R.ex
  obtain ⟨ns', ls', f1, f2, f3, _⟩ := R'.ex
  by_cases q1 : p = a.l
  · subst q1
    exact ⟨_, SqL.of f3⟩
  by_cases q2 : p = a.s
  · subst q2
    rcases h with (h | ⟨o, h⟩) | h
    · rw [e1] at h
      cases h
    · rw [e1] at h
      cases h
    · exact ⟨xs, .inr h⟩
  rcases h with (h | ⟨o, h⟩) | h
  · exact ⟨xs, .inl (.inl (b _ _ h q2 q1))⟩
  · exact ⟨xs, .inl (.inr ⟨o, b _ _ h q2 q1⟩)⟩
  · exact ⟨xs, .inr h⟩
theorem sqt_but (R : Rnd H a n) (b : But a H H') {p : Addr} {xs : List V} (h : SqT K H p xs) : SqT K H' p xs := by
  obtain ⟨ns, ls, e1, e2, e3, _⟩ := R.ex
  have ne : ∀ o, H p = some o → (∀ kvs, o ≠ .dK kvs) → (∀ ys, o ≠ .lst ys) → H' p = some o := fun o e z1 z2 => b _ _ e (fun q => by
    subst q
    rw [e1] at e
    exact z1 _ (Option.some.inj e).symm) (fun q => by
    subst q
    rw [e3] at e
    exact z2 _ (Option.some.inj e).symm)
  rcases h with (h | ⟨o, h⟩) | h
  · exact .inl (.inl (ne _ h (fun _ z => by cases z) (fun _ z => by cases z)))
  · exact .inl (.inr ⟨o, ne _ h (fun _ z => by cases z) (fun _ z => by cases z)⟩)
  · exact .inr h
theorem dct_but (R : Rnd H a n) (R' : Rnd H' a n') (b : But a H H') {p : Addr} {kvs : List (Key × V)} (h : H p = some (.dK kvs)) : ∃ kvs', H' p = some (.dK kvs') := by
  obtain ⟨ns, ls, e1, e2, e3, _⟩ := R.ex
  obtain ⟨ns', ls', f1, f2, f3, _⟩ := R'.ex
  by_cases q2 : p = a.s
  · subst q2
    exact ⟨_, f1⟩
  · exact ⟨_, b _ _ h q2 fun q => by
      subst q
      rw [e3] at h
      cases h⟩
mutual
theorem TrAt.rnd (R : Rnd H a n) (R' : Rnd H' a n') (b : But a H H') : ∀ {v : V} {t : Tr}, TrAt K H v t → TrAt K H' v t
  | _, _, .non => .non
  | _, _, .bl b => .bl b
  | _, _, .int i => .int i
  | _, _, .str s h => .str s h
  | _, _, .lst h => by
    obtain ⟨ys, q⟩ := lst_but R R' b h
    exact .lst q
  | _, _, .dct h => by
    obtain ⟨kvs, q⟩ := dct_but R R' b h
    exact .dct q
  | _, _, .tup h k => .tup (sqt_but R b h) (TrAll.rnd R R' b k)
theorem TrAll.rnd (R : Rnd H a n) (R' : Rnd H' a n') (b : But a H H') : ∀ {vs : List V} {ts : List Tr}, TrAll K H vs ts → TrAll K H' vs ts
  | _, _, .nil => .nil
  | _, _, .cons h k => .cons (h.rnd R R' b) (k.rnd R R' b)
end
/-- xs + ys of two tuples -/
theorem cat_tr {v u : V} {xs ys : List Tr} {Q : VK} (t1 : TrAt K H v (.tup xs)) (t2 : TrAt K H u (.tup ys)) (l1 : xs.length ≤ 1000) (l2 : ys.length ≤ 1000) (k : ∀ r H', Same H H' → TrAt K H' r (.tup (xs ++ ys)) → Q r H') : rCatA K v u H Q := by
  cases t1 with
  | @tup aa vs _ ha ta' =>
  cases t2 with
  | @tup bb us _ hb tb' =>
  have e1 := ta'.len
  have e2 := tb'.len
  refine ⟨aa, bb, vs, us, rfl, rfl, ha, hb, by rw [sizeLine_eq]; omega, fun e => ?_, fun _ e => ?_, fun _ _ p np => ?_⟩
  · subst e
    cases ta'
    exact k _ _ (fun _ _ e => e) (.tup hb tb')
  · subst e
    cases tb'
    rw [List.append_nil] at k
    exact k _ _ (fun _ _ e => e) (.tup ha ta')
  · exact k _ _ (same_new np) (.tup (SqT.of upd_same) ((ta'.app tb').same (same_new np)))
theorem TrAll.rep {v : V} {t : Tr} (h : TrAt K H v t) : ∀ k : Nat, TrAll K H (List.replicate k [v]).flatten (List.replicate k t)
  | 0 => .nil
  | k + 1 => by
    rw [List.replicate_succ, List.replicate_succ, List.flatten_cons]
    exact .cons h (TrAll.rep h k)
/-- (t,) * k -/
theorem rep_tr {v : V} {t : Tr} {k : Int} {Q : VK} (h : TrAt K H v (.tup [t])) (h0 : 0 ≤ k) (h1 : k ≤ 1000) (q : ∀ r H', Same H H' → TrAt K H' r (.tup (List.replicate k.toNat t)) → Q r H') : rRepA K v (.int k) H Q := by
  cases h with
  | @tup aa vs _ ha ta =>
  cases ta with
  | cons t1 tn =>
  cases tn
  exact ⟨aa, k, _, rfl, rfl, ha, (fun z => by cases z), h0, h1, (Nat.le_of_ble_eq_true rfl), fun p H' s hT => q _ _ s (.tup hT ((TrAll.rep t1 _).same s))⟩
/-- a new tuple -/
theorem new_tr {p : Addr} {vs : List V} {ts : List Tr} (np : H p = none) (h : TrAll K H vs ts) : Same H (upd H p (.tup vs)) ∧ TrAt K (upd H p (.tup vs)) (.ref p) (.tup ts) := ⟨same_new np, .tup (SqT.of upd_same) (h.same (same_new np))⟩
end
/-- the law's own dict -/
def ownK (x y c t nn : Str) (nm : Addr) (pv : V) : List (Key × V) := [(.inr "x", .str x), (.inr "y", .str y), (.inr "c", .str c), (.inr "t", .str t), (.inr "names", .ref nm), (.inr "params", pv), (.inr "none", .str nn)]
section
variable {x y c t nn : Str} {nm : Addr} {pv : V}
theorem ow_x : valV (ownK x y c t nn nm pv) (.inr "x") = some (.str x) := by with_unfolding_all rfl
theorem ow_y : valV (ownK x y c t nn nm pv) (.inr "y") = some (.str y) := by with_unfolding_all rfl
theorem ow_c : valV (ownK x y c t nn nm pv) (.inr "c") = some (.str c) := by with_unfolding_all rfl
theorem ow_t : valV (ownK x y c t nn nm pv) (.inr "t") = some (.str t) := by with_unfolding_all rfl
theorem ow_names : valV (ownK x y c t nn nm pv) (.inr "names") = some (.ref nm) := by with_unfolding_all rfl
theorem ow_params : valV (ownK x y c t nn nm pv) (.inr "params") = some pv := by with_unfolding_all rfl
theorem ow_none : valV (ownK x y c t nn nm pv) (.inr "none") = some (.str nn) := by with_unfolding_all rfl
end
end BK


set_option Elab.async false
set_option maxRecDepth 100000
set_option maxHeartbeats 1000000
/-! steps: is_step, parts_of_step, program_of. -/
namespace BK
open PySem PySem.Spec PyProof.Rows L2 RZ
def stepTab : List (Str × List Str) := [("set", ["variable", "value"]), ("hold", ["token", "variable", "value"]), ("reset", ["token"]), ("drop", ["variable"]), ("show", ["variable"]), ("copy", ["context"]), ("within", ["context", "block"]),
  ("guard", ["block"]), ("make", ["piece", "name", "args"]), ("step", ["piece"]), ("close", ["piece"])]
def stepKinds (w : Str) : Option (List Str) := (stepTab.find? fun e => decide (e.1 = w)).map (·.2)
theorem stab_few : (stepTab.all fun e => decide (e.2.length ≤ 3) && decide (1 ≤ e.2.length)) = true := by decide +kernel
theorem skinds_mem {x : Str} {ks : List Str} (h : stepKinds x = some ks) : (x, ks) ∈ stepTab := by
  unfold stepKinds at h
  cases e : stepTab.find? fun e => decide (e.1 = x) with
  | none => rw [e] at h; cases h
  | some p =>
    rw [e] at h
    have q : p.2 = ks := Option.some.inj h
    have q0 : (fun e : Str × List Str => decide (e.1 = x)) p = true := List.find?_some (p := fun e : Str × List Str => decide (e.1 = x)) e
    have q1 : p.1 = x := of_decide_eq_true q0
    have m := List.mem_of_find?_eq_some e
    rw [← q, ← q1]
    exact m
theorem skinds_few {w : Str} {ks : List Str} (h : stepKinds w = some ks) : 1 ≤ ks.length ∧ ks.length ≤ 3 := by
  have q := List.all_eq_true.mp stab_few _ (skinds_mem h)
  rw [Bool.and_eq_true] at q
  exact ⟨of_decide_eq_true q.2, of_decide_eq_true q.1⟩
def stepT : Tr → Bool
  | .tup (.str w :: rest) => match stepKinds w with
    | some ks => fitsT rest ks
    | none => false
  | _ => false
theorem step_shape : ∀ {t : Tr}, stepT t = true → ∃ w r ks, t = .tup (.str w :: r) ∧ stepKinds w = some ks ∧ fitsT r ks = true
  | .tup (.str w :: r), h => by
    have h : (match stepKinds w with
      | some ks => fitsT r ks
      | none => false) = true := h
    cases e : stepKinds w with
    | none => rw [e] at h; cases h
    | some ks => rw [e] at h; exact ⟨w, r, ks, rfl, e, h⟩
/-- the program within a step -/
def progT : Tr → List Tr
  | .tup (.str w :: rest) => match stepKinds w with
    | some ks => if ks.getLast? = some ("block" : Str) then tupTs (rest.getLastD .non) else []
    | none => []
  | _ => []
structure StepsD (K : PySem.W.Frag) (mg : Str → Option Value) (w : World) (p : Addr) (es : Array DictEntry) (n : Nat) : Prop where
  d : KDict K w p es n
  g : mg "STEPS" = some (.ref p)
  at_ : ∀ x ks, stepKinds x = some ks → ∃ t, PySem.W.nsIn K p x = some (some (.ref t)) ∧ ∀ H, SqT K H t (ks.map V.str)
  no : ∀ x, stepKinds x = none → PySem.W.nsIn K p x = some none
theorem StepsD.kd {K : PySem.W.Frag} {mg : Str → Option Value} {w : World} {p : Addr} {es : Array DictEntry} {n : Nat} (D : StepsD K mg w p es n) {x : Str} {ks : List Str} (e : stepKinds x = some ks) : ∃ t, KDct K w p x (.ref t) ∧ ∀ H, SqT K H t (ks.map V.str) := by
  obtain ⟨t, h1, h2⟩ := D.at_ x ks e
  exact ⟨t, ⟨es, n, _, D.d.at_, D.d.lit, h1, rfl⟩, h2⟩
abbrev sIsStep : Stmt := top 24
abbrev sPartsS : Stmt := top 27
abbrev sProgOf : Stmt := top 28
theorem scIsStep : FnScope ["thing", "word"] ["thing"] (defScope sIsStep) := ⟨rfl, rfl, rfl, by decide +kernel, rfl, by decide +kernel, by decide +kernel⟩
theorem scPartsS : FnScope ["step"] ["step"] (defScope sPartsS) := ⟨rfl, rfl, rfl, by decide +kernel, rfl, by decide +kernel, by decide +kernel⟩
theorem scProgOf : FnScope ["step"] ["step"] (defScope sProgOf) := ⟨rfl, rfl, rfl, by decide +kernel, rfl, by decide +kernel, by decide +kernel⟩
/-- the parts of a thing are no tuples of millions -/
def shortT : Tr → Prop
  | .tup ts => ∀ t ∈ ts, ∀ us, t = .tup us → us.length ≤ 4000000
  | _ => True
def spIsStep (K : PySem.W.Frag) : Sp := fun vs H Q _ => ∃ v t, vs = [v] ∧ TrAt K H v t ∧ shortT t ∧ ∀ H', Same H H' → Q (.bl (stepT t)) H'
def spPartsS (K : PySem.W.Frag) : Sp := fun vs H Q _ => ∃ v x rest ks, vs = [v] ∧ TrAt K H v (.tup (.str x :: rest)) ∧ stepKinds x = some ks ∧ rest.length = ks.length ∧
  ∀ (L : Addr) (ts : List Addr) (H' : Hp), Same H H' → H' L = some (.lst (ts.map V.ref)) → ts.length = ks.length → (∀ (j : Nat) (T : Addr), ts[j]? = some T → ∃ y t k, rest[j]? = some t ∧ ks[j]? = some k ∧ TrAt K H' y t ∧ H' T = some (.tup [y, .str k])) → Q (.ref L) H'
def spProgOf (K : PySem.W.Frag) : Sp := fun vs H Q _ => ∃ v t, vs = [v] ∧ TrAt K H v t ∧ stepT t = true ∧ ∀ u H', Same H H' → TrAt K H' u (.tup (progT t)) → Q u H'
section
variable {P : Program} {w : World} {K : PySem.W.Frag} {mg : Str → Option Value} {base : Heap}
theorem ok_isStep {f fW fF p : Addr} {fd fdW fdF : FuncData} {es : Array DictEntry} {n : Nat} (F : Fun K "is_step" "is_step" sIsStep f fd) (D : StepsD K mg w p es n)
    (GW : FnOk P w K mg base CX0 1 fW fdW ["thing"] (spWord K)) (bW : Binds K fdW ["thing"] []) (gW : mg "word_of" = some (.ref fW)) (kW : PySem.W.keepIn K (.ref fW) = true)
    (GF : FnOk P w K mg base CX0 4 fF fdF ["thing", "kinds"] (spFits K)) (bF : Binds K fdF ["thing", "kinds"] []) (gF : mg "fits" = some (.ref fF)) (kF : PySem.W.keepIn K (.ref fF) = true) : FnOk P w K mg base CX0 5 f fd ["thing"] (spIsStep K) := by
  refine F.ok scIsStep (fun vs H Q E h => ?_) (fun cdv A outer s H vs Q E hr h => ?_)
  · obtain ⟨v, t, rfl, _⟩ := h
    rfl
  · obtain ⟨v, t, rfl, ht, hsh, k⟩ := h
    have hr1 : Room 1 _ := hr.mono (by decide)
    refine ⟨_, pss_cons (ps_set (i := 1) scIsStep.nd rfl (Or.inl rfl) (pe_call GW hr1 rfl gW kW bW .nil pass0 (pa_cons (pv 0) pa_nil)))
      (pss_one (ps_ret (pe_and (pe_cmpR (op_in_kdN D.d) (pv 1) (pe_glob (v := .ref p) rfl D.g rfl) rfl) (pe_one (pe_call GF hr rfl gF kF bF .nil pass0 (pa_cons (pv 0) (pa_cons (pe_ix ix_kdict (pe_glob (v := .ref p) rfl D.g rfl) (pv 1) (fun _ _ => rfl)) pa_nil))))))), ?_⟩
    refine ⟨_, rfl, v, t, rfl, ht, ?_⟩
    have q0 := k H fun _ _ e => e
    have no : wordV t = .non → stepT t = false := fun e => by
      cases t with
      | tup ts =>
        cases ts with
        | nil => rfl
        | cons a r =>
          cases a with
          | str w => cases e
          | _ => rfl
      | _ => rfl
    by_cases hw : ∃ x rest, t = .tup (.str x :: rest)
    · obtain ⟨x, rest, rfl⟩ := hw
      cases ek : stepKinds x with
      | none =>
        have e : stepT (.tup (.str x :: rest)) = false := by
          show (match stepKinds x with
            | some ks => fitsT rest ks
            | none => false) = false
          rw [ek]
        rw [e] at q0
        exact ⟨_, rfl, rfl, .inr ⟨x, none, rfl, D.no x ek, _, rfl, iteF q0⟩⟩
      | some ks =>
        have e : stepT (.tup (.str x :: rest)) = fitsT rest ks := by
          show (match stepKinds x with
            | some ks => fitsT rest ks
            | none => false) = fitsT rest ks
          rw [ek]
        rw [e] at k
        obtain ⟨t, nt, st⟩ := D.at_ x ks ek
        refine ⟨_, rfl, rfl, .inr ⟨x, some (.ref t), rfl, nt, _, rfl, iteT ?_⟩⟩
        refine ⟨_, rfl, _, rfl, p, x, .ref t, rfl, rfl, ⟨es, n, _, D.d.at_, D.d.lit, nt, rfl⟩, v, t, _, rest, ks, rfl, ht, st _, by have := skinds_few ek; omega, fun _ z hz us e => hsh z (List.mem_cons_of_mem _ hz) us e, k⟩
    · have e : wordV t = .non := by
        unfold wordV
        split
        · exact absurd ⟨_, _, rfl⟩ hw
        · rfl
      rw [no e] at q0
      rw [e]
      exact ⟨_, rfl, rfl, .inl ⟨rfl, _, rfl, iteF q0⟩⟩
theorem ok_partsS {f p : Addr} {fd : FuncData} {es : Array DictEntry} {n : Nat} (F : Fun K "parts_of_step" "parts_of_step" sPartsS f fd) (D : StepsD K mg w p es n) (mL : mg "list" = none) (mZ : mg "zip" = none) : FnOk P w K mg base CX0 1 f fd ["step"] (spPartsS K) := by
  refine F.ok scPartsS (fun vs H Q E h => ?_) (fun cdv A outer s H vs Q E hr h => ?_)
  · obtain ⟨v, x, rest, ks, rfl, _⟩ := h
    rfl
  · obtain ⟨v, x, rest, ks, rfl, tv, ek, el, k⟩ := h
    obtain ⟨t, kd, st⟩ := D.kd ek
    refine ⟨_, pss_one (ps_ret (pe_listZip rfl (by rfl) mL (by rfl) mZ (pa_cons (pe_slice sl_tup (pv 0) (po_some pe_int) po_none) (pa_cons (pe_ix ix_kdict (pe_glob (v := .ref p) rfl D.g rfl) (pe_ix ix_tup (pv 0) pe_int (fun _ _ => rfl)) (fun _ _ => rfl)) pa_nil)))), ?_⟩
    cases tv with
    | @tup a xs _ h tr =>
    cases tr with
    | @cons y ys _ _ hy rs =>
    cases hy with
    | str _ hx =>
    refine ⟨_, rfl, 1, rfl, a, _, rfl, h, (by rintro ⟨e, _⟩; simp [HT.sIx] at e), fun q nq => ?_⟩
    rw [cut1]
    have s1 := same_new (o := .tup ys) nq
    refine ⟨_, rfl, a, _, 0, _, rfl, rfl, sqt_same s1 h, at_of (j := 0) rfl rfl, p, x, .ref t, rfl, rfl, kd, ?_⟩
    refine ⟨q, t, ys, ks.map V.str, rfl, SqT.of upd_same, st _, by rw [rs.len, List.length_map]; exact el, by rw [rs.len, el]; have := skinds_few ek; omega, fun L ts H' s2 nL eL lt at2 => ?_⟩
    refine k L ts H' (s1.trans s2) eL (by rw [lt, rs.len]; exact el) fun j T hj => ?_
    obtain ⟨y', k', q1, q2, q3⟩ := at2 j T hj
    obtain ⟨t', q4, q5⟩ := (rs.same (s1.trans s2)).get q1
    rw [List.getElem?_map] at q2
    cases e : ks[j]? with
    | none => rw [e] at q2; cases q2
    | some kk =>
      rw [e] at q2
      obtain rfl : V.str kk = k' := Option.some.inj q2
      exact ⟨y', t', kk, q4, rfl, q5, q3⟩
theorem last_at {α : Type} : ∀ {xs : List α} {x : α}, xs.getLast? = some x → atI xs (-1) = some x := fun {xs x} h => by
  have hne : xs ≠ [] := fun e => by rw [e] at h; cases h
  have hl := List.length_pos_iff.mpr hne
  rw [List.getLast?_eq_getElem?] at h
  unfold atI ixN
  rw [if_neg (by decide), if_pos (by omega)]
  show xs[((xs.length : Int) + -1).toNat]? = some x
  rw [show ((xs.length : Int) + -1).toNat = xs.length - 1 by omega]
  exact h
theorem ok_progOf {f p : Addr} {fd : FuncData} {es : Array DictEntry} {n : Nat} (F : Fun K "program_of" "program_of" sProgOf f fd) (D : StepsD K mg w p es n) : FnOk P w K mg base CX0 1 f fd ["step"] (spProgOf K) := by
  refine F.ok scProgOf (fun vs H Q E h => ?_) (fun cdv A outer s H vs Q E hr h => ?_)
  · obtain ⟨v, t, rfl, _⟩ := h
    rfl
  · obtain ⟨v, t, rfl, ht, hs, k⟩ := h
    obtain ⟨x, rest, ks, rfl, ek, ef⟩ := step_shape hs
    obtain ⟨t, kd, st⟩ := D.kd ek
    refine ⟨_, pss_one (ps_ret (pe_ifExp (pt_cmpR op_eq (pe_ix ix_tup (pe_ix ix_kdict (pe_glob (v := .ref p) rfl D.g rfl) (pe_ix ix_tup (pv 0) pe_int (fun _ _ => rfl)) (fun _ _ => rfl)) (pe_un un_neg pe_int) (fun _ _ => rfl)) pe_str (nomark _))
      (pe_ix ix_tup (pv 0) (pe_un un_neg pe_int) (fun _ _ => rfl)) (pe_tup pa_nil))), ?_⟩
    have el : rest.length = ks.length := by
      unfold fitsT at ef
      exact of_decide_eq_true (Bool.and_eq_true_iff.mp ef).1
    have ep : ∀ p ∈ rest.zip ks, partT p.1 p.2 = true := by
      unfold fitsT at ef
      exact List.all_eq_true.mp (Bool.and_eq_true_iff.mp ef).2
    have kl := skinds_few ek
    cases ht with
    | @tup a xs _ h tr =>
    cases tr with
    | @cons y ys _ _ hy rs =>
    cases hy with
    | str _ hx =>
    have eP : progT (.tup (.str x :: rest)) = if ks.getLast? = some ("block" : Str) then tupTs (rest.getLastD .non) else [] := by
      show (match stepKinds x with
        | some ks => if ks.getLast? = some ("block" : Str) then tupTs (rest.getLastD .non) else []
        | none => []) = _
      rw [ek]
    rw [eP] at k
    obtain ⟨lk, hlk⟩ : ∃ lk, ks.getLast? = some lk := by
      cases e : ks.getLast? with
      | some z => exact ⟨z, rfl⟩
      | none => rw [List.getLast?_eq_none_iff] at e; rw [e] at kl; simp at kl
    have hlv : (ks.map V.str).getLast? = some (.str lk) := by rw [List.getLast?_map, hlk]; rfl
    refine ⟨_, rfl, a, _, 0, _, rfl, rfl, h, at_of (j := 0) rfl rfl, p, x, .ref t, rfl, rfl, kd, ?_⟩
    refine ⟨1, rfl, t, _, _, _, rfl, rfl, st _, last_at hlv, rfl, _, rfl, ?_⟩
    rw [show decide (V.str lk = V.str ("block" : Str)) = decide (lk = "block") from eq_txt _ _]
    rw [hlk] at k
    refine ite2 (fun z => ?_) (fun z => ?_)
    · have z : lk = "block" := of_decide_eq_true z
      subst z
      rw [if_pos rfl] at k
      obtain ⟨lt, hlt⟩ : ∃ lt, rest.getLast? = some lt := by
        cases e : rest.getLast? with
        | some z => exact ⟨z, rfl⟩
        | none => rw [List.getLast?_eq_none_iff] at e; rw [e] at el; simp at el; omega
      have htup : isTup lt = true := by
        have hz : (lt, ("block" : Str)) ∈ rest.zip ks := by
          rw [List.getLast?_eq_getElem?] at hlt hlk
          rw [← el] at hlk
          exact List.mem_of_getElem? (List.getElem?_zip_eq_some.mpr ⟨hlt, hlk⟩)
        exact ep _ hz
      obtain ⟨us, rfl⟩ : ∃ us, lt = .tup us := by
        cases lt with
        | tup us => exact ⟨us, rfl⟩
        | _ => cases htup
      have hd : rest.getLastD .non = .tup us := by rw [List.getLastD_eq_getLast?, hlt]; rfl
      rw [hd] at k
      obtain ⟨yl, hyl, tyl⟩ : ∃ yl, ys.getLast? = some yl ∧ TrAt K H yl (.tup us) := by
        rw [List.getLast?_eq_getElem?] at hlt
        obtain ⟨yl, q1, q2⟩ := rs.get' hlt
        refine ⟨yl, ?_, q2⟩
        rw [List.getLast?_eq_getElem?, rs.len]
        exact q1
      refine ⟨_, rfl, 1, rfl, a, _, _, yl, rfl, rfl, h, last_at ?_, k yl H (fun _ _ e => e) tyl⟩
      rw [List.getLast?_cons, hyl]
      rfl
    · have z : ¬ (some lk = some ("block" : Str)) := fun e => z (decide_eq_true (Option.some.inj e))
      rw [if_neg z] at k
      exact ⟨Nat.zero_le _, fun q nq => k _ _ (same_new nq) (.tup (SqT.of upd_same) .nil)⟩
end
end BK

set_option Elab.async false
set_option maxRecDepth 100000
set_option maxHeartbeats 4000000
/-! ProgramCheck: what it keeps; __init__. -/
namespace BK
open PySem PySem.Spec PyProof.Rows L2 RZ ET
abbrev cPC : Stmt := top 49
abbrev sPInit : Stmt := inClass cPC 0
abbrev sPFault : Stmt := inClass cPC 1
abbrev sPTakes : Stmt := inClass cPC 2
abbrev sPKnows : Stmt := inClass cPC 3
abbrev sPSlots : Stmt := inClass cPC 4
section
variable {K : PySem.W.Frag} {C : Addr} {H H' : Hp} {x dx : Addr} {fs : List (Str × V)}
theorem sqt_ins (ob : H x = some (.ins C dx fs)) (kp : ∀ b o, H b = some o → b ≠ x → H' b = some o) {t : Addr} {xs : List V} (h : SqT K H t xs) : SqT K H' t xs := by
  rcases h with (h | ⟨o, h⟩) | h
  · exact .inl (.inl (kp _ _ h (ne_of h ob (by intro z; cases z))))
  · exact .inl (.inr ⟨o, kp _ _ h (ne_of h ob (by intro z; cases z))⟩)
  · exact .inr h
theorem sql_ins (ob : H x = some (.ins C dx fs)) (kp : ∀ b o, H b = some o → b ≠ x → H' b = some o) {t : Addr} {xs : List V} (h : SqL K H t xs) : SqL K H' t xs := by
  rcases h with (h | ⟨o, h⟩) | h
  · exact .inl (.inl (kp _ _ h (ne_of h ob (by intro z; cases z))))
  · exact .inl (.inr ⟨o, kp _ _ h (ne_of h ob (by intro z; cases z))⟩)
  · exact .inr h
mutual
theorem TrAt.ins (ob : H x = some (.ins C dx fs)) (kp : ∀ b o, H b = some o → b ≠ x → H' b = some o) : ∀ {v : V} {t : Tr}, TrAt K H v t → TrAt K H' v t
  | _, _, .non => .non
  | _, _, .bl b => .bl b
  | _, _, .int i => .int i
  | _, _, .str s h => .str s h
  | _, _, .lst h => .lst (sql_ins ob kp h)
  | _, _, .dct h => .dct (kp _ _ h (ne_of h ob (by intro z; cases z)))
  | _, _, .tup h k => .tup (sqt_ins ob kp h) (TrAll.ins ob kp k)
theorem TrAll.ins (ob : H x = some (.ins C dx fs)) (kp : ∀ b o, H b = some o → b ≠ x → H' b = some o) : ∀ {vs : List V} {ts : List Tr}, TrAll K H vs ts → TrAll K H' vs ts
  | _, _, .nil => .nil
  | _, _, .cons h k => .cons (h.ins ob kp) (k.ins ob kp)
end
end
/-- a piece's name and the kinds of its params -/
def parP : Tr → Str × List Str
  | .tup (.str n :: .tup qs :: _) => (n, (qs.filterMap pairKm).map (·.2))
  | _ => (Str.empty, [])
inductive DPs (H : Hp) : List (Str × List Str) → List (Key × V) → Prop
  | nil : DPs H [] []
  | cons {n : Str} {ks : List Str} {l : Addr} {P : List (Str × List Str)} {kvs : List (Key × V)} (h : H l = some (.lst (ks.map V.str))) (r : DPs H P kvs) : DPs H ((n, ks) :: P) ((.inr n, .ref l) :: kvs)
def pget (P : List (Str × List Str)) (s : Str) : Option (List Str) := (P.find? fun e => decide (e.1 = s)).map (·.2)
section
variable {H H' : Hp} {P : List (Str × List Str)} {kvs : List (Key × V)}
theorem DPs.mono (f : ∀ l xs, H l = some (.lst xs) → H' l = some (.lst xs)) : ∀ {P : List (Str × List Str)} {kvs : List (Key × V)}, DPs H P kvs → DPs H' P kvs
  | _, _, .nil => .nil
  | _, _, .cons h r => .cons (f _ _ h) (r.mono f)
theorem DPs.snoc {n : Str} {ks : List Str} {l : Addr} (h : H l = some (.lst (ks.map V.str))) : ∀ {P : List (Str × List Str)} {kvs : List (Key × V)}, DPs H P kvs → DPs H (P ++ [(n, ks)]) (kvs ++ [(.inr n, .ref l)])
  | _, _, .nil => .cons h .nil
  | _, _, .cons a r => .cons a (r.snoc h)
theorem DPs.len : ∀ {P : List (Str × List Str)} {kvs : List (Key × V)}, DPs H P kvs → kvs.length = P.length
  | _, _, .nil => rfl
  | _, _, .cons _ r => by simp [r.len]
theorem DPs.get (s : Str) : ∀ {P : List (Str × List Str)} {kvs : List (Key × V)}, DPs H P kvs → (pget P s = none ∧ valV kvs (.inr s) = none) ∨ ∃ ks l, pget P s = some ks ∧ valV kvs (.inr s) = some (.ref l) ∧ H l = some (.lst (ks.map V.str))
  | _, _, .nil => .inl ⟨rfl, rfl⟩
  | _, _, .cons (n := n) (ks := ks) (l := l) (P := P) (kvs := kvs) h r => by
    by_cases e : n = s
    · subst e
      refine .inr ⟨ks, l, ?_, ?_, h⟩
      · simp [pget]
      · exact valV_pos rfl
    · have q1 : pget ((n, ks) :: P) s = pget P s := by simp [pget, e]
      have q2 : valV ((.inr n, .ref l) :: kvs) (.inr s) = valV kvs (.inr s) := valV_neg fun z => e (Sum.inr.inj z)
      rw [q1, q2]
      exact r.get s
end
structure PA_ where
  p : Addr
  v : Addr
  q : Addr
  d : Addr
def pfs (a : PA_) (calls : Nat) : List (Str × V) := [("variables", .ref a.v), ("params", .ref a.q), ("kinds", .ref a.d), ("calls", .int (calls : Nat))]
structure PkAt (K : PySem.W.Frag) (C : Addr) (H : Hp) (a : PA_) (vars : List Str) (P : List (Str × List Str)) (m : Km) (calls : Nat) : Prop where
  ob : ∃ dx, H a.p = some (.ins C dx (pfs a calls))
  qc : ∃ kvs, H a.q = some (.dK kvs) ∧ DPs H P kvs
  dc : H a.d = some (.dK (kk m))
  vs : SqT K H a.v (vars.map V.str)
  ne : a.q ≠ a.d
/-- all stays but the check and its dict of kinds -/
def ButP (a : PA_) (H H' : Hp) : Prop := ∀ b o, H b = some o → b ≠ a.p → b ≠ a.d → H' b = some o
theorem ButP.refl (a : PA_) (H : Hp) : ButP a H H := fun _ _ e _ _ => e
theorem ButP.trans {a : PA_} {H H1 H2 : Hp} (x : ButP a H H1) (y : ButP a H1 H2) : ButP a H H2 := fun c o e h1 h2 => y c o (x c o e h1 h2) h1 h2
theorem ButP.of {a : PA_} {H H' : Hp} (e : Same H H') : ButP a H H' := fun c o h _ _ => e c o h
section
variable {K : PySem.W.Frag} {C : Addr} {H H' : Hp} {a : PA_} {vars : List Str} {P : List (Str × List Str)} {m m' : Km} {n n' : Nat}
theorem PkAt.same (c : PkAt K C H a vars P m n) (e : Same H H') : PkAt K C H' a vars P m n := by
  obtain ⟨⟨dx, ob⟩, ⟨kvs, q1, q2⟩, dc, vs, ne⟩ := c
  exact ⟨⟨dx, e _ _ ob⟩, ⟨kvs, e _ _ q1, q2.mono fun _ _ h => e _ _ h⟩, e _ _ dc, sqt_same e vs, ne⟩
theorem ButP.tup (b : ButP a H H') (c : PkAt K C H a vars P m n) {t : Addr} {xs : List V} (h : SqT K H t xs) : SqT K H' t xs := by
  obtain ⟨⟨dx, ob⟩, _, dc, _⟩ := c
  rcases h with (h | ⟨o, h⟩) | h
  · exact .inl (.inl (b _ _ h (ne_of h ob (by intro z; cases z)) (ne_of h dc (by intro z; cases z))))
  · exact .inl (.inr ⟨o, b _ _ h (ne_of h ob (by intro z; cases z)) (ne_of h dc (by intro z; cases z))⟩)
  · exact .inr h
theorem ButP.lst (b : ButP a H H') (c : PkAt K C H a vars P m n) {t : Addr} {xs : List V} (h : SqL K H t xs) : SqL K H' t xs := by
  obtain ⟨⟨dx, ob⟩, _, dc, _⟩ := c
  rcases h with (h | ⟨o, h⟩) | h
  · exact .inl (.inl (b _ _ h (ne_of h ob (by intro z; cases z)) (ne_of h dc (by intro z; cases z))))
  · exact .inl (.inr ⟨o, b _ _ h (ne_of h ob (by intro z; cases z)) (ne_of h dc (by intro z; cases z))⟩)
  · exact .inr h
theorem PkAt.qkeep (c : PkAt K C H a vars P m n) (b : ButP a H H') : (∃ kvs, H' a.q = some (.dK kvs) ∧ DPs H' P kvs) ∧ SqT K H' a.v (vars.map V.str) := by
  obtain ⟨⟨dx, ob⟩, ⟨kvs, q1, q2⟩, dc, vs, ne⟩ := id c
  refine ⟨⟨kvs, b _ _ q1 (ne_of q1 ob (by intro z; cases z)) ne, q2.mono fun l xs h => b _ _ h (ne_of h ob (by intro z; cases z)) (ne_of h dc (by intro z; cases z))⟩, b.tup c vs⟩
mutual
theorem TrAt.butP (b : ButP a H H') (c : PkAt K C H a vars P m n) (c' : PkAt K C H' a vars P m' n') : ∀ {v : V} {t : Tr}, TrAt K H v t → TrAt K H' v t
  | _, _, .non => .non
  | _, _, .bl b => .bl b
  | _, _, .int i => .int i
  | _, _, .str s h => .str s h
  | _, _, .lst h => .lst (b.lst c h)
  | _, _, .dct (a := x) (kvs := kvs) h => by
    by_cases z : x = a.d
    · rw [z]
      exact .dct c'.dc
    · obtain ⟨⟨dx, ob⟩, _, dc, _⟩ := c
      exact .dct (b _ _ h (ne_of h ob (by intro z; cases z)) z)
  | _, _, .tup h k => .tup (b.tup c h) (TrAll.butP b c c' k)
theorem TrAll.butP (b : ButP a H H') (c : PkAt K C H a vars P m n) (c' : PkAt K C H' a vars P m' n') : ∀ {vs : List V} {ts : List Tr}, TrAll K H vs ts → TrAll K H' vs ts
  | _, _, .nil => .nil
  | _, _, .cons h k => .cons (h.butP b c c') (k.butP b c c')
end
theorem PkAt.pd (c : PkAt K C H a vars P m n) : a.p ≠ a.d := by
  obtain ⟨⟨dx, ob⟩, _, dc, _⟩ := c
  exact ne_of ob dc (by intro z; cases z)
end
structure TxP (K : PySem.W.Frag) (mg : Str → Option Value) (C : Addr) : Prop where
  cl : Cls K C
  nV : NoAttr K C "variables"
  nP : NoAttr K C "params"
  nK : NoAttr K C "kinds"
  nC : NoAttr K C "calls"
  mgC : mg "ProgramCheck" = some (.ref C)
theorem pfs_v (a : PA_) (n : Nat) : (pfs a n).lookup ("variables" : Str) = some (.ref a.v) := by rfl
theorem pfs_p (a : PA_) (n : Nat) : (pfs a n).lookup ("params" : Str) = some (.ref a.q) := by rfl
theorem pfs_k (a : PA_) (n : Nat) : (pfs a n).lookup ("kinds" : Str) = some (.ref a.d) := by rfl
theorem pfs_c (a : PA_) (n : Nat) : (pfs a n).lookup ("calls" : Str) = some (.int (n : Nat)) := by rfl
theorem put_calls (a : PA_) (n : Nat) : putF "calls" (.int ((n : Int) + 1)) (pfs a n) = pfs a (n + 1) := by rfl
theorem pfs_no (a : PA_) (n : Nat) {m : Str} (h1 : ¬ m = "variables") (h2 : ¬ m = "params") (h3 : ¬ m = "kinds") (h4 : ¬ m = "calls") : (pfs a n).lookup m = none := by
  have e1 : (m == ("variables" : Str)) = false := beq_eq_false_iff_ne.mpr h1
  have e2 : (m == ("params" : Str)) = false := beq_eq_false_iff_ne.mpr h2
  have e3 : (m == ("kinds" : Str)) = false := beq_eq_false_iff_ne.mpr h3
  have e4 : (m == ("calls" : Str)) = false := beq_eq_false_iff_ne.mpr h4
  unfold pfs
  simp only [List.lookup, e1, e2, e3, e4]
theorem blk_any {N : List Str} {sc sc' scope : Scope} {own : List (Str × Nat)} (h : BlkOk N sc scope own) (hf : ∀ y ∈ scope.names, y.2 ≠ .free) : BlkOk N sc' scope own :=
  ⟨h.kind, h.uniq, h.ix, fun y hy e => absurd e (hf y hy), h.own⟩
def spPInit (K : PySem.W.Frag) (C : Addr) : Sp := fun vs H Q _ => ∃ (x dx : Addr) (bv : V) (vars : List Str) (ps : List Tr), vs = [.ref x, bv] ∧ H x = some (.ins C dx []) ∧ TrAt K H bv (.tup [.tup (vars.map Tr.str), .tup ps]) ∧ (∀ p ∈ ps, tripleT p = true) ∧ (ps.map wordS).Nodup ∧ ps.length ≤ 900 ∧
  ∀ (a : PA_) (H' : Hp), a.p = x → H a.d = none → PkAt K C H' a vars (ps.map parP) [] 0 → (∀ b o, H b = some o → b ≠ x → H' b = some o) → Q .non H'
abbrev nPInit : List Str := ["self", "book", "variables", "pieces", "piece"]
theorem scPInit : FnScope nPInit ["self", "book"] (defScope sPInit) := ⟨rfl, rfl, rfl, by decide +kernel, rfl, by decide +kernel, by decide +kernel⟩
end BK

set_option Elab.async false
set_option maxRecDepth 100000
set_option maxHeartbeats 4000000
/-! ProgramCheck.__init__. -/
namespace BK
open PySem PySem.Spec PyProof.Rows L2 RZ ET
theorem tr_three {K : PySem.W.Frag} {H : Hp} {v : V} {x y z : Tr} (h : TrAt K H v (.tup [x, y, z])) : ∃ a v1 v2 v3, v = .ref a ∧ SqT K H a [v1, v2, v3] ∧ TrAt K H v1 x ∧ TrAt K H v2 y ∧ TrAt K H v3 z := by
  cases h with
  | @tup a vs _ ha ta =>
  cases ta with
  | cons h1 r =>
  cases r with
  | cons h2 r =>
  cases r with
  | cons h3 r =>
  cases r
  exact ⟨_, _, _, _, rfl, ha, h1, h2, h3⟩
theorem tr_two {K : PySem.W.Frag} {H : Hp} {v : V} {x y : Tr} (h : TrAt K H v (.tup [x, y])) : ∃ a v1 v2, v = .ref a ∧ SqT K H a [v1, v2] ∧ TrAt K H v1 x ∧ TrAt K H v2 y := by
  cases h with
  | @tup a vs _ ha ta =>
  cases ta with
  | cons h1 r =>
  cases r with
  | cons h2 r =>
  cases r
  exact ⟨_, _, _, rfl, ha, h1, h2⟩
theorem strs_tr {K : PySem.W.Frag} {H : Hp} : ∀ {vs : List V} {ss : List Str}, TrAll K H vs (ss.map Tr.str) → vs = ss.map V.str
  | _, [], .nil => rfl
  | _, s :: r, .cons h k => by
    cases h
    rw [strs_tr k]
    rfl
theorem pget_none {P : List (Str × List Str)} {s : Str} (h : s ∉ P.map (·.1)) : pget P s = none := by
  unfold pget
  have : P.find? (fun e => decide (e.1 = s)) = none := by
    rw [List.find?_eq_none]
    intro e he
    simp only [decide_eq_true_eq]
    intro q
    exact h (List.mem_map.mpr ⟨e, he, q⟩)
  rw [this]
  rfl
theorem par_name {t : Tr} (h : tripleT t = true) : (parP t).1 = wordS t := by
  obtain ⟨n, p, bts, rfl, hp⟩ := triple_shape h
  cases p with
  | tup qs => rfl
  | _ => cases hp
section
variable {P : Program} {w : World} {K : PySem.W.Frag} {mg : Str → Option Value} {base : Heap}
abbrev sKO : Stmt := top 45
abbrev nKO : List Str := ["piece", "slot", "kind"]
theorem scKO : FnScope nKO ["piece"] (defScope sKO) := ⟨rfl, rfl, rfl, by decide +kernel, rfl, by decide +kernel, by decide +kernel⟩
/-- the kinds of the params of a piece -/
def spKO (K : PySem.W.Frag) : Sp := fun vs H Q _ => ∃ (v : V) (t : Tr), vs = [v] ∧ TrAt K H v t ∧ tripleT t = true ∧ ∀ G H', H G = none → Same H H' → H' G = some (.lst ((parP t).2.map V.str)) → Q (.ref G) H'
theorem ok_kinds {f : Addr} {fd : FuncData} (F : Fun K "kinds_of" "kinds_of" sKO f fd) : FnOk P w K mg base CX0 1 f fd ["piece"] (spKO K) := by
  refine F.ok scKO (fun vs H Q E h => ?_) (fun cdv A outer s H vs Q E hr h => ?_)
  · obtain ⟨v, t, rfl, _⟩ := h
    rfl
  · obtain ⟨v, t, rfl, tv, pt, k⟩ := h
    refine ⟨_, pss_one (ps_ret (pe_lc (own := [("slot", 1), ("kind", 2)]) (g := gTup K 2 (gCons (gName 1) (gCons (gName 2) gNil))) (tt := tYes) rfl scKO.nd (pi_tup (pe_ix ix_tup (pv 0) pe_int (fun _ _ => rfl))) (blkOk_by (N := nKO) (sc := defScope sKO) (by decide +kernel))
      (fun _ _ _ _ _ => by exact pg_tup rfl (pgs_cons (pg_name (i := 1) scKO.nd rfl (Or.inl rfl)) (pgs_cons (pg_name (i := 2) scKO.nd rfl (Or.inl rfl)) pgs_nil))) (fun _ _ _ _ _ => pts_nil) (fun _ _ _ _ _ => pv 2))), ?_⟩
    obtain ⟨n, prm, bts, rfl, hprm⟩ := triple_shape pt
    obtain ⟨b, y1, y2, y3, rfl, hb, ty1, ty2, ty3⟩ := tr_three tv
    obtain ⟨qs, rfl⟩ : ∃ qs, prm = .tup qs := by
      cases prm with
      | tup qs => exact ⟨qs, rfl⟩
      | _ => cases hprm
    cases ty2 with
    | @tup qa zs _ hq tq =>
    obtain ⟨lq, hall, hnm, hnq⟩ := params_split hprm
    refine ⟨_, rfl, ?_⟩
    refine ⟨b, _, 1, _, rfl, rfl, hb, rfl, ?_⟩
    refine ⟨qa, rfl, ⟨_, hq⟩, fun G nG => ?_⟩
    have sG := same_new (o := .lst []) nG
    refine lc_it (walk_tup (K := K) (a := qa) (xs := zs)) (fun j H3 => H3 G = some (.lst ((((qs.take j).filterMap pairKm).map (·.2)).map V.str)) ∧ ∀ b o, H b = some o → H3 b = some o) ⟨upd_same, sG⟩ (fun j H3 _ ⟨_, s3⟩ => sqt_same s3 hq) ?_ ?_
    · rintro j u H3 H4 hj ⟨e3, s3⟩ ⟨rfl, hu'⟩
      obtain ⟨q, hq', tu⟩ := (tq.same s3).get hu'
      have qt : paramT q = true := List.all_eq_true.mp hall q (List.mem_of_getElem? hq')
      have nt : nameT (firstT q) = true := List.all_eq_true.mp hnm _ (List.mem_map.mpr ⟨q, List.mem_of_getElem? hq', rfl⟩)
      obtain ⟨sl, kd, rfl, hkd⟩ := param_shape qt nt
      obtain ⟨qb, u1, u2, rfl, hqb, tu1, tu2⟩ := tr_two tu
      cases tu2 with
      | str _ hz2 =>
      refine ⟨qb, _, rfl, hqb, rfl, _, _, rfl, _, _, rfl, rfl, rfl, ?_⟩
      refine tyes ?_
      refine ⟨_, rfl, _, e3, small1000 ?_, ?_, fun b o e => ?_⟩
      · rw [List.length_map, List.length_map]
        have := List.length_filterMap_le pairKm (qs.take j)
        rw [List.length_take] at this
        omega
      · rw [upd_same, List.take_add_one, hq', List.filterMap_append, List.map_append, List.map_append]
        rfl
      · rw [upd_ne (ne_of_none e nG)]
        exact s3 b o e
    · rintro H3 ⟨e3, s3⟩
      have et : qs.take zs.length = qs := by rw [tq.len, List.take_length]
      rw [et] at e3
      exact k G H3 nG s3 e3
theorem ok_pinit {C f fO : Addr} {fd fdO : FuncData} (F : Fun K "__init__" "ProgramCheck.__init__" sPInit f fd) (X : TxP K mg C)
    (GO : FnOk P w K mg base CX0 1 fO fdO ["piece"] (spKO K)) (bO : Binds K fdO ["piece"] []) (gO : mg "kinds_of" = some (.ref fO)) (kO : PySem.W.keepIn K (.ref fO) = true) : FnOk P w K mg base CX0 2 f fd ["self", "book"] (spPInit K C) := by
  refine F.ok scPInit (fun vs H Q E h => ?_) (fun cdv A outer s H vs Q E hr h => ?_)
  · obtain ⟨x, dx, bv, vars, ps, rfl, _⟩ := h
    rfl
  · obtain ⟨x, dx, bv, vars, ps, rfl, ob, tb, hp, hnd, hl, k⟩ := h
    have hu := hu_of hr
    refine ⟨_, pss_cons (ps_asg (pv 1) (pg_tup rfl (pgs_cons (pg_name (i := 2) scPInit.nd rfl (Or.inl rfl)) (pgs_cons (pg_name (i := 3) scPInit.nd rfl (Or.inl rfl)) pgs_nil))))
      (pss_cons (ps_fld (pv 0) (pv 2) rfl)
      (pss_cons (ps_fld (pv 0) (pe_dc (own := [("piece", 4)]) (g := gName 4) (tt := tYes) rfl scPInit.nd (pi_tup (pv 3))
          (blkOk_by (N := nPInit) (sc := defScope sPInit) (by decide +kernel))
          (fun _ _ _ _ _ => pg_name (i := 4) scPInit.nd rfl (Or.inl rfl)) (fun _ _ _ _ _ => pts_nil)
          (fun _ _ _ _ _ => pe_ix (r := rIxT K) (by exact ix_tup) (pv 4) pe_int (fun _ _ => rfl))
          (fun _ _ _ _ _ => pe_call GO hr rfl gO kO bO .nil pass0 (pa_cons (pv 4) pa_nil))) rfl)
      (pss_cons (ps_fld (pv 0) pe_dnewK rfl)
      (pss_one (ps_fld (pv 0) pe_int rfl))))), ?_⟩
    obtain ⟨ba, v1, v2, rfl, hba, t1, t2⟩ := tr_two tb
    cases t1 with
    | @tup va vv _ hva tva =>
    cases t2 with
    | @tup pa xs _ hpa tps =>
    have evs := strs_tr tva
    refine ⟨_, rfl, ba, _, rfl, hba, rfl, _, _, rfl, _, _, rfl, rfl, ?_⟩
    refine ⟨_, rfl, _, rfl, x, C, dx, _, rfl, ob, X.cl, X.nV, by decide, ?_⟩
    have k1 : ∀ b u, H b = some u → b ≠ x → (upd H x (.ins C dx (putF "variables" (.ref va) []))) b = some u := fun b u e n => by rw [upd_ne n]; exact e
    have hT1 := sqt_ins ob k1 hpa
    have tr1 := tps.ins ob k1
    have hv1 := sqt_ins ob k1 hva
    have ob1 : (upd H x (.ins C dx (putF "variables" (.ref va) []))) x = some (.ins C dx [("variables", .ref va)]) := upd_same
    generalize upd H x (.ins C dx (putF "variables" (.ref va) [])) = H1 at hT1 tr1 hv1 ob1 k1 ⊢
    refine ⟨_, rfl, pa, rfl, ⟨_, hT1⟩, fun D nD => ?_⟩
    have sD := same_new (o := .dK []) nD
    have nxD : x ≠ D := ne_of_none ob1 nD
    have pl := tps.len
    refine dc_tup (K := K) (a := pa) (xs := xs) (fun i H2 => (∃ kvs, H2 D = some (.dK kvs) ∧ DPs H2 ((ps.take i).map parP) kvs) ∧ ∀ b o, H1 b = some o → H2 b = some o)
      ⟨⟨[], upd_same, .nil⟩, sD⟩ (fun i H2 _ ⟨_, s2⟩ => sqt_same s2 hT1) ?_ ?_
    · rintro i y H2 hi ⟨⟨kvs, e2, dp⟩, s2⟩
      obtain ⟨t, ht, ty⟩ := (tr1.same s2).get hi
      have pt := hp t (List.mem_of_getElem? ht)
      obtain ⟨n, prm, bts, rfl, hprm⟩ := triple_shape pt
      have il : i < ps.length := (List.getElem?_eq_some_iff.mp ht).1
      obtain ⟨b, y1, y2, y3, rfl, hb, ty1, ty2, ty3⟩ := tr_three ty
      cases ty1 with
      | str _ hz =>
      obtain ⟨qs, rfl⟩ : ∃ qs, prm = .tup qs := by
        cases prm with
        | tup qs => exact ⟨qs, rfl⟩
        | _ => cases hprm
      refine ⟨rfl, ?_⟩
      refine tyes ?_
      refine ⟨_, rfl, ?_⟩
      refine ⟨b, _, 0, _, rfl, rfl, hb, rfl, ?_⟩
      refine ⟨_, rfl, _, _, rfl, ty, pt, fun G H3 nG s3 e3 => ?_⟩
      · show _
        have eD3 := s3 _ _ e2
        have dp3 : DPs H3 ((ps.take i).map parP) kvs := dp.mono fun l xs h => s3 _ _ h
        have hno : pget ((ps.take i).map parP) n = none := pget_none fun hm => by
          obtain ⟨e, he, hen⟩ := List.mem_map.mp hm
          obtain ⟨p0, hp0, rfl⟩ := List.mem_map.mp he
          have hw := par_name (hp p0 (List.mem_of_mem_take hp0))
          have e1 := (List.take_append_drop i ps).symm
          rw [List.drop_eq_getElem_cons il, (Option.some.inj ((List.getElem?_eq_getElem il).symm.trans ht))] at e1
          rw [e1, List.map_append] at hnd
          exact (List.nodup_append.mp hnd).2.2 _ (List.mem_map.mpr ⟨p0, hp0, rfl⟩) _ List.mem_cons_self (by rw [← hw, hen]; rfl)
        have hval : valV kvs (.inr n) = none := by
          rcases dp3.get n with ⟨_, z⟩ | ⟨_, _, z, _⟩
          · exact z
          · rw [hno] at z; cases z
        have dl := dp3.len
        rw [List.length_map, List.length_take] at dl
        refine ⟨_, .inr n, rfl, eD3, small1000 (by omega), ?_, fun b o e => ?_⟩
        · rw [putK_new _ hval]
          refine ⟨_, upd_same, ?_⟩
          have et2 : (ps.take (i + 1)).map parP = (ps.take i).map parP ++ [(n, (parP (.tup [.str n, .tup qs, .tup bts])).2)] := by rw [List.take_add_one, ht, List.map_append]; rfl
          rw [et2]
          have fl : ∀ l xs, H3 l = some (.lst xs) → (upd H3 D (.dK (kvs ++ [(.inr n, .ref G)]))) l = some (.lst xs) := fun l xs h => by
            rw [upd_ne (ne_of h eD3 (by intro z; cases z))]
            exact h
          exact (dp3.mono fl).snoc (fl _ _ e3)
        · rw [upd_ne (ne_of_none e nD)]
          exact s3 _ _ (s2 b o e)
    · rintro H2 ⟨⟨kvs, e2, dp⟩, s2⟩
      have et : ps.take xs.length = ps := by rw [pl, List.take_length]
      rw [et] at dp
      have ob2 := s2 _ _ ob1
      refine ⟨_, rfl, x, C, dx, _, rfl, ob2, X.cl, X.nP, (show 1 < 1000 by decide), ?_⟩
      have k3 : ∀ b u, H2 b = some u → b ≠ x → (upd H2 x (.ins C dx (putF "params" (.ref D) [("variables", .ref va)]))) b = some u := fun b u e n => by rw [upd_ne n]; exact e
      have ob3 : (upd H2 x (.ins C dx (putF "params" (.ref D) [("variables", .ref va)]))) x = some (.ins C dx [("variables", .ref va), ("params", .ref D)]) := upd_same
      generalize upd H2 x (.ins C dx (putF "params" (.ref D) [("variables", .ref va)])) = H3 at k3 ob3 ⊢
      refine fun d hd => ?_
      have sd := same_new (o := .dK []) hd
      have ob4 := sd _ _ ob3
      have ed : (upd H3 d (.dK [])) d = some (.dK []) := upd_same
      generalize upd H3 d (.dK []) = H4 at sd ob4 ed ⊢
      refine ⟨_, rfl, x, C, dx, _, rfl, ob4, X.cl, X.nK, (show 2 < 1000 by decide), ?_⟩
      refine ⟨_, rfl, x, C, dx, _, rfl, upd_same, X.cl, X.nC, (show 3 < 1000 by decide), ?_⟩
      have hD0 : H D = none := by
        cases e : H D with
        | none => rfl
        | some o =>
          by_cases z : D = x
          · exact absurd z.symm nxD
          · rw [k1 _ _ e z] at nD; cases nD
      have nDd : D ≠ d := ne_of_none (k3 _ _ e2 nxD.symm) hd
      have nxd : x ≠ d := ne_of_none ob3 hd
      have fin : ∀ o1 o2 b u, H4 b = some u → b ≠ x → (upd (upd H4 x o1) x o2) b = some u := fun o1 o2 b u e n => by rw [upd_ne n, upd_ne n]; exact e
      have all : ∀ o1 o2 b u, H2 b = some u → b ≠ x → (upd (upd H4 x o1) x o2) b = some u := fun o1 o2 b u e n => fin o1 o2 b u (sd _ _ (k3 _ _ e n)) n
      have hd0 : H d = none := by
        cases e : H d with
        | none => rfl
        | some o =>
          by_cases z : d = x
          · exact absurd z.symm nxd
          · rw [k3 _ _ (s2 _ _ (k1 _ _ e z)) z] at hd; cases hd
      refine k ⟨x, va, D, d⟩ _ rfl hd0 ⟨⟨dx, upd_same⟩, ⟨kvs, all _ _ _ _ e2 nxD.symm, dp.mono fun l zs h => all _ _ _ _ h (ne_of h ob2 (by intro z; cases z))⟩, fin _ _ _ _ ed nxd.symm, ?_, nDd⟩ fun b o e n => all _ _ _ _ (s2 _ _ (k1 _ _ e n)) n
      rw [← evs]
      exact sqt_ins ob2 (fun b o e n => all _ _ _ _ e n) (sqt_same s2 hv1)
end
end BK

set_option Elab.async false
set_option linter.all false
set_option maxRecDepth 100000
set_option maxHeartbeats 4000000
/-! list(zip(t, l)) of a tuple and a list: a list of new pairs. -/
namespace ZM
open PySem PySem.Spec PyProof.Rows LZ
section
variable {prog : Program} {w : World} {A : Around} {E : Value → Shared → Prop} {s : Shared}
/-- the next pair, the one ahead of it kept by somebody -/
theorem next_kept {z TI TO T i1 i2 a b : Addr} {f : Bool} {oT : Obj} {k : Nat} {xs ys : Array Value} {x y : Value} {Q : Option Value → Shared → Prop} (D : ZipApart z TI TO i1 i2 a b) (hz : IsZipHeld s.heap z TI TO T f) (hT : s.heap.get? T = some oT)
    (hp : IsPair s.heap TI (.ref i1) (.ref i2)) (h1 : s.heap.IsTupleIter i1 a k) (h2 : s.heap.IsListIter i2 b k) (ta : s.heap.IsTuple a xs) (tb : s.heap.IsList b ys) (hx : xs[k]? = some x) (hy : ys[k]? = some y)
    (q : ∀ h', IsZipHeld h' z TI TO T true → h'.IsTupleIter i1 a (k + 1) → h'.IsListIter i2 b (k + 1) → IsPair h' s.heap.objs.size x y → (∀ c o, c ≠ z → c ≠ i1 → c ≠ i2 → s.heap.get? c = some o → h'.get? c = some o) → Q (some (.ref s.heap.objs.size)) { s with heap := h' }) :
    wpAny (model prog w) A (pyNext (.ref z)) Q E s := by
  have ty : s.TypeIs (.ref z) "zip" := ⟨_, hz, rfl⟩
  unfold pyNext
  refine wpAny_bind (wpAny_attempt (wpAny_callSpecial?_slot (name := Str.ofString "__next__") ty F.slot_zip_next (wpAny_call_entry F.slot_zip_next ty F.entry_zip_next ?_ (F.args_zip_next_1 _))))
  show wpAny _ _ (field (.ref z) 2 >>= _) _ _ _
  refine wpAny_bind (wpAny_field hz rfl (x := .bool false) rfl ?_)
  show wpAny _ _ (field (.ref z) 3 >>= _) _ _ _
  refine wpAny_bind (wpAny_field hz rfl (x := .ref TI) rfl (wpAny_bind (wpAny_seqItems hp rfl ?_)))
  show wpAny _ _ (Builtin.SmallTypes.ownedTupleIsFree (.ref z) >>= _) _ _ _
  refine wpAny_bind (wpAny_tupleHeld_zip hz hT fun g₁ z₁ s₁ => ?_)
  simp only [Bool.false_eq_true, if_false]
  refine wpAny_bind ?_
  rw [← Array.forIn_toList]
  simp only [List.forIn_cons, List.forIn_nil]
  refine wpAny_bind (wpAny_bind (wpAny_holding ?_))
  show wpAny _ _ (Builtin.SmallTypes.nextOf (.ref i1) >>= _) _ _ _
  refine wpAny_bind (RZ.nextOf_tuple_item (s := { s with heap := g₁ }) (h1.extBut s₁.extBut D.i1z) (ta.extBut s₁.extBut D.l1z) hx fun g₂ n₁ s₂ => wpAny_pure (wpAny_pure ?_))
  refine wpAny_bind (wpAny_bind (wpAny_holding ?_))
  show wpAny _ _ (Builtin.SmallTypes.nextOf (.ref i2) >>= _) _ _ _
  refine wpAny_bind (wpAny_nextOf_list_item (s := { s with heap := g₂ }) ((h2.extBut s₁.extBut D.i2z).extBut s₂.extBut D.i12.symm) ((tb.extBut s₁.extBut D.l2z).extBut s₂.extBut D.l2i1) hy fun g₃ n₂ s₃ => wpAny_pure (wpAny_pure (wpAny_pure ?_)))
  show wpAny _ _ (newTuple [x, y] >>= _) _ _ _
  refine wpAny_bind (wpAny_newTuple (wpAny_pure ?_))
  have sz : g₃.objs.size = s.heap.objs.size := by rw [s₃.1, s₂.1, s₁.1]
  have z₃ : IsZipHeld g₃ z TI TO T true := s₃.extBut _ _ D.i2z.symm (s₂.extBut _ _ D.i1z.symm z₁)
  have kp : ∀ c o, c ≠ z → c ≠ i1 → c ≠ i2 → s.heap.get? c = some o → g₃.get? c = some o := fun c o c1 c2 c3 e => s₃.extBut _ _ c3 (s₂.extBut _ _ c2 (s₁.extBut _ _ c1 e))
  have n₃ : g₃.IsTupleIter i1 a (k + 1) := n₁.extBut s₃.extBut D.i12
  have np : IsPair (g₃.push { cls := .type "tuple", data := .seq #[x, y] }) g₃.objs.size x y := Heap.get?_push_size _ rfl
  refine ⟨_, rfl, ?_⟩
  show wpAny _ _ (pure _) _ _ _
  refine wpAny_pure ?_
  show Q (some (.ref g₃.objs.size)) _
  rw [sz] at np ⊢
  exact q _ (Heap.get?_push_of_some _ z₃) (n₃.at fun o e => Heap.get?_push_of_some _ e) (n₂.at fun o e => Heap.get?_push_of_some _ e) np fun c o c1 c2 c3 e => Heap.get?_push_of_some _ (kp c o c1 c2 c3 e)
/-- the first pair -/
theorem next_first {z TI TO i1 i2 a b : Addr} {k : Nat} {xs ys : Array Value} {x y x0 y0 : Value} {Q : Option Value → Shared → Prop} (D : ZipApart z TI TO i1 i2 a b) (hz : IsZip s.heap z TI TO .none)
    (hp : IsPair s.heap TI (.ref i1) (.ref i2)) (hO : IsPair s.heap TO x0 y0) (h1 : s.heap.IsTupleIter i1 a k) (h2 : s.heap.IsListIter i2 b k) (ta : s.heap.IsTuple a xs) (tb : s.heap.IsList b ys) (hx : xs[k]? = some x) (hy : ys[k]? = some y)
    (q : ∀ h', IsZip h' z TI TO (rawInt s.heap.objs.size) → IsPair h' TO x y → h'.IsTupleIter i1 a (k + 1) → h'.IsListIter i2 b (k + 1) → IsPair h' s.heap.objs.size x y → (∀ c o, c ≠ z → c ≠ TO → c ≠ i1 → c ≠ i2 → s.heap.get? c = some o → h'.get? c = some o) → Q (some (.ref s.heap.objs.size)) { s with heap := h' }) :
    wpAny (model prog w) A (pyNext (.ref z)) Q E s := by
  have ty : s.TypeIs (.ref z) "zip" := ⟨_, hz, rfl⟩
  unfold pyNext
  refine wpAny_bind (wpAny_attempt (wpAny_callSpecial?_slot (name := Str.ofString "__next__") ty F.slot_zip_next (wpAny_call_entry F.slot_zip_next ty F.entry_zip_next ?_ (F.args_zip_next_1 _))))
  show wpAny _ _ (field (.ref z) 2 >>= _) _ _ _
  refine wpAny_bind (wpAny_field hz rfl (x := .bool false) rfl ?_)
  show wpAny _ _ (field (.ref z) 3 >>= _) _ _ _
  refine wpAny_bind (wpAny_field hz rfl (x := .ref TI) rfl (wpAny_bind (wpAny_seqItems hp rfl ?_)))
  show wpAny _ _ (Builtin.SmallTypes.ownedTupleIsFree (.ref z) >>= _) _ _ _
  refine wpAny_bind ?_
  unfold Builtin.SmallTypes.ownedTupleIsFree
  refine wpAny_bind (wpAny_field hz rfl (x := .none) rfl (wpAny_pure ?_))
  simp only [if_true]
  refine wpAny_bind (wpAny_rule (wpAny_bind (wpAny_field hz rfl (x := .ref TO) rfl ?_)))
  refine wpAny_bind (wpAny_setField_rec hz (by simp) fun g₁ z₁ s₁ => ?_)
  replace z₁ : IsZip g₁ z TI TO .ellipsis := z₁
  refine wpAny_bind ?_
  simp only [List.zipIdx_cons, List.zipIdx_nil, List.forIn_cons, List.forIn_nil]
  refine wpAny_bind (wpAny_bind (wpAny_onRaise ?_))
  show wpAny _ _ (Builtin.SmallTypes.nextOf (.ref i1) >>= _) _ _ _
  refine wpAny_bind (RZ.nextOf_tuple_item (s := { s with heap := g₁ }) (h1.extBut s₁.extBut D.i1z) (ta.extBut s₁.extBut D.l1z) hx fun g₂ n₁ s₂ => wpAny_pure ?_)
  have o₂ : IsPair g₂ TO x0 y0 := s₂.extBut _ _ D.TOi1 (s₁.extBut _ _ D.TOz hO)
  refine wpAny_bind (wpAny_seqItems o₂ rfl (wpAny_bind (wpAny_updateSeq_pair o₂ fun g₃ o₃ s₃ => ?_)))
  replace o₃ : IsPair g₃ TO x y0 := o₃
  refine wpAny_bind (wpAny_letGo (wpAny_pure ?_))
  refine wpAny_bind (wpAny_bind (wpAny_onRaise ?_))
  show wpAny _ _ (Builtin.SmallTypes.nextOf (.ref i2) >>= _) _ _ _
  refine wpAny_bind (wpAny_nextOf_list_item (s := { s with heap := g₃ }) (((h2.extBut s₁.extBut D.i2z).extBut s₂.extBut D.i12.symm).extBut s₃.extBut D.TOi2.symm)
    (((tb.extBut s₁.extBut D.l2z).extBut s₂.extBut D.l2i1).extBut s₃.extBut D.l2TO) hy fun g₄ n₂ s₄ => wpAny_pure ?_)
  have o₄ : IsPair g₄ TO x y0 := s₄.extBut _ _ D.TOi2 o₃
  refine wpAny_bind (wpAny_seqItems o₄ rfl (wpAny_bind (wpAny_updateSeq_pair o₄ fun g₅ o₅ s₅ => ?_)))
  replace o₅ : IsPair g₅ TO x y := o₅
  refine wpAny_bind (wpAny_letGo (wpAny_pure (wpAny_pure ?_)))
  refine wpAny_bind (wpAny_seqItems o₅ rfl (wpAny_bind (wpAny_newTuple ?_)))
  have sz : g₅.objs.size = s.heap.objs.size := by rw [s₅.1, s₄.1, s₃.1, s₂.1, s₁.1]
  have z₅ : IsZip g₅ z TI TO .ellipsis := s₅.extBut _ _ D.TOz.symm (s₄.extBut _ _ D.i2z.symm (s₃.extBut _ _ D.TOz.symm (s₂.extBut _ _ D.i1z.symm z₁)))
  have kp : ∀ c o, c ≠ z → c ≠ TO → c ≠ i1 → c ≠ i2 → s.heap.get? c = some o → g₅.get? c = some o := fun c o c1 c2 c3 c4 e => s₅.extBut _ _ c2 (s₄.extBut _ _ c4 (s₃.extBut _ _ c2 (s₂.extBut _ _ c3 (s₁.extBut _ _ c1 e))))
  have n₅ : g₅.IsTupleIter i1 a (k + 1) := ((n₁.extBut s₃.extBut D.TOi1.symm).extBut s₄.extBut D.i12).extBut s₅.extBut D.TOi1.symm
  have m₅ : g₅.IsListIter i2 b (k + 1) := n₂.extBut s₅.extBut D.TOi2.symm
  have zl : z < g₅.objs.size := Heap.lt_size z₅
  show wpAny _ _ (Builtin.SmallTypes.ownedTupleHandOut (.ref z) (.ref g₅.objs.size) >>= _) _ _ _
  refine wpAny_bind ?_
  unfold Builtin.SmallTypes.ownedTupleHandOut
  have z₆ : IsZip (g₅.push { cls := .type "tuple", data := .seq #[x, y] }) z TI TO .ellipsis := Heap.get?_push_of_some _ z₅
  refine wpAny_bind (wpAny_setField_rec z₆ (by simp) fun g₇ z₇ s₇ => ?_)
  replace z₇ : IsZip g₇ z TI TO (rawInt g₅.objs.size) := z₇
  refine wpAny_setField_rec z₇ (by simp) fun g₈ z₈ s₈ => ?_
  replace z₈ : IsZip g₈ z TI TO (rawInt g₅.objs.size) := z₈
  have up : ∀ c o, c ≠ z → g₅.get? c = some o → g₈.get? c = some o := fun c o c1 e => s₈.extBut _ _ c1 (s₇.extBut _ _ c1 (Heap.get?_push_of_some _ e))
  have t₈ : IsPair g₈ g₅.objs.size x y := s₈.extBut _ _ (Nat.ne_of_gt zl) (s₇.extBut _ _ (Nat.ne_of_gt zl) (Heap.get?_push_size _ rfl))
  rw [sz] at z₈ t₈
  refine wpAny_pure ⟨_, rfl, ?_⟩
  show wpAny _ _ (pure _) _ _ _
  refine wpAny_pure ?_
  show Q (some (.ref g₅.objs.size)) _
  rw [sz]
  exact q g₈ z₈ (up _ _ D.TOz o₅) (n₅.at fun o e => up _ o D.i1z e) (m₅.at fun o e => up _ o D.i2z e) t₈ fun c o c1 c2 c3 c4 e => up c o c1 (kp c o c1 c2 c3 c4 e)
/-- none at all -/
theorem end_first {z TI TO i1 i2 a b : Addr} {k : Nat} {xs : Array Value} {Q : Option Value → Shared → Prop} (calm : A.handled = none) (D : ZipApart z TI TO i1 i2 a b) (hz : IsZip s.heap z TI TO .none)
    (hp : IsPair s.heap TI (.ref i1) (.ref i2)) (h1 : s.heap.IsTupleIter i1 a k) (ta : s.heap.IsTuple a xs) (hx : xs[k]? = none) (q : ∀ h', (∀ c o, c ≠ z → c ≠ TO → c ≠ i1 → c ≠ i2 → s.heap.get? c = some o → h'.get? c = some o) → Q none { s with heap := h' }) :
    wpAny (model prog w) A (pyNext (.ref z)) Q E s := by
  have ty : s.TypeIs (.ref z) "zip" := ⟨_, hz, rfl⟩
  unfold pyNext
  refine wpAny_bind (wpAny_attempt (wpAny_callSpecial?_slot (name := Str.ofString "__next__") ty F.slot_zip_next (wpAny_call_entry F.slot_zip_next ty F.entry_zip_next ?_ (F.args_zip_next_1 _))))
  show wpAny _ _ (field (.ref z) 2 >>= _) _ _ _
  refine wpAny_bind (wpAny_field hz rfl (x := .bool false) rfl ?_)
  show wpAny _ _ (field (.ref z) 3 >>= _) _ _ _
  refine wpAny_bind (wpAny_field hz rfl (x := .ref TI) rfl (wpAny_bind (wpAny_seqItems hp rfl ?_)))
  show wpAny _ _ (Builtin.SmallTypes.ownedTupleIsFree (.ref z) >>= _) _ _ _
  refine wpAny_bind ?_
  unfold Builtin.SmallTypes.ownedTupleIsFree
  refine wpAny_bind (wpAny_field hz rfl (x := .none) rfl (wpAny_pure ?_))
  simp only [if_true]
  refine wpAny_bind (wpAny_rule (wpAny_bind (wpAny_field hz rfl (x := .ref TO) rfl ?_)))
  refine wpAny_bind (wpAny_setField_rec hz (by simp) fun g₁ z₁ s₁ => ?_)
  replace z₁ : IsZip g₁ z TI TO .ellipsis := z₁
  refine wpAny_bind ?_
  simp only [List.zipIdx_cons, List.zipIdx_nil, List.forIn_cons, List.forIn_nil]
  refine wpAny_bind (wpAny_bind (wpAny_onRaise ?_))
  show wpAny _ _ (Builtin.SmallTypes.nextOf (.ref i1) >>= _) _ _ _
  refine wpAny_bind (RZ.nextOf_tuple_end (s := { s with heap := g₁ }) calm (h1.extBut s₁.extBut D.i1z) (ta.extBut s₁.extBut D.l1z) hx fun g₂ e s₂ he => ?_)
  obtain ⟨o, ho, hc⟩ := he
  have z₂ : IsZip g₂ z TI TO .ellipsis := s₂ _ _ D.i1z.symm z₁
  have ez : e ≠ z := fun x => by subst x; rw [z₂] at ho; cases ho; simp at hc
  refine wpAny_setField_rec z₂ (by simp) fun g₃ _ s₃ => ?_
  refine wpAny_bind (wpAny_isInstance (T := "StopIteration") (b := true) ⟨o, s₃.extBut _ _ ez ho, hc⟩ isSubtype_stop ?_)
  exact wpAny_pure (q _ fun c o c1 c2 c3 _ x => s₃.extBut _ _ c1 (s₂ _ _ c3 (s₁.extBut _ _ c1 x)))
end
end ZM

set_option Elab.async false
set_option linter.all false
set_option maxRecDepth 100000
set_option maxHeartbeats 4000000
namespace ZM
open PySem PySem.Spec PyProof.Rows
open LZ (cls_ne lstO Made)
/-- the zip at its turn i -/
structure ZS (h : Heap) (z TI TO i1 i2 a b : Addr) (xs ys : Array Value) (i : Nat) : Prop where
  p : IsPair h TI (.ref i1) (.ref i2)
  o : ∃ x y, IsPair h TO x y
  n1 : h.IsTupleIter i1 a i
  n2 : h.IsListIter i2 b i
  ta : h.IsTuple a xs
  tb : h.IsList b ys
  zz : (i = 0 ∧ IsZip h z TI TO .none) ∨ ∃ T f x y, IsZipHeld h z TI TO T f ∧ IsPair h T x y
section
variable {prog : Program} {w : World} {A : Around} {E : Value → Shared → Prop} {s : Shared} {z TI TO i1 i2 a b S : Addr} {xs ys : Array Value} {h h' : Heap} {i : Nat}
/-- only the list at S is written -/
theorem ZS.keep (Z : ZS h z TI TO i1 i2 a b xs ys i) {vs : List Value} {c : Nat} (hbS : b ≠ S) (hS : h.get? S = some (lstO vs c)) (k : ∀ c o, c ≠ S → h.get? c = some o → h'.get? c = some o) : ZS h' z TI TO i1 i2 a b xs ys i := by
  have ne : ∀ {c : Addr} {o : Obj}, h.get? c = some o → o.cls ≠ .type "list" → c ≠ S := fun e ho q => by
    rw [q, hS] at e
    cases e
    exact ho rfl
  have pr : ∀ {T : Addr} {x y : Value}, IsPair h T x y → IsPair h' T x y := fun e => k _ _ (ne e (by simp)) e
  obtain ⟨x0, y0, o0⟩ := Z.o
  obtain ⟨o1, e1, c1, d1⟩ := Z.n1
  obtain ⟨o2, e2, c2, d2⟩ := Z.n2
  obtain ⟨o3, e3, c3, n3, d3⟩ := Z.ta
  obtain ⟨o4, e4, c4, n4, d4⟩ := Z.tb
  refine ⟨pr Z.p, ⟨x0, y0, pr o0⟩, ⟨o1, k _ _ (ne e1 (by rw [c1]; simp)) e1, c1, d1⟩, ⟨o2, k _ _ (ne e2 (by rw [c2]; simp)) e2, c2, d2⟩, ⟨o3, k _ _ (ne e3 (by rw [c3]; simp)) e3, c3, n3, d3⟩, ⟨o4, k _ _ hbS e4, c4, n4, d4⟩, ?_⟩
  rcases Z.zz with ⟨e, q⟩ | ⟨T, f, x, y, q, t⟩
  · exact .inl ⟨e, k _ _ (ne q (by simp)) q⟩
  · exact .inr ⟨T, f, x, y, k _ _ (ne q (by simp)) q, pr t⟩
theorem ZS.zip (Z : ZS h z TI TO i1 i2 a b xs ys i) : ∃ f0 f1 : Value, h.get? z = some { cls := .type "zip", dict := none, data := .fields #[f0, f1, .bool false, .ref TI, .ref TO], slots := #[] } := by
  rcases Z.zz with ⟨e, q⟩ | ⟨T, f, x, y, q, t⟩
  · exact ⟨_, _, q⟩
  · exact ⟨_, _, q⟩
/-- one turn -/
theorem ZS.next (Z : ZS s.heap z TI TO i1 i2 a b xs ys i) (D : ZipApart z TI TO i1 i2 a b) {x y : Value} (hx : xs[i]? = some x) (hy : ys[i]? = some y) {Q : Option Value → Shared → Prop}
    (q : ∀ h', ZS h' z TI TO i1 i2 a b xs ys (i + 1) → IsPair h' s.heap.objs.size x y → (∀ c o, c ≠ z → c ≠ TO → c ≠ i1 → c ≠ i2 → s.heap.get? c = some o → h'.get? c = some o) → Q (some (.ref s.heap.objs.size)) { s with heap := h' }) :
    wpAny (model prog w) A (pyNext (.ref z)) Q E s := by
  obtain ⟨x0, y0, o0⟩ := Z.o
  rcases Z.zz with ⟨e, g⟩ | ⟨T, f, xT, yT, g, t⟩
  · refine next_first D g Z.p o0 Z.n1 Z.n2 Z.ta Z.tb hx hy fun h' a1 a2 a3 a4 a5 a7 => ?_
    have lt : ∀ {c o}, s.heap.get? c = some o → s.heap.objs.size ≠ c := fun e => Nat.ne_of_gt (Heap.lt_size e)
    exact q h' ⟨a7 _ _ D.TIz D.TITO D.TIi1 D.TIi2 Z.p, ⟨_, _, a2⟩, a3, a4, Z.ta.at fun o e => a7 _ o D.l1z D.l1TO D.l1i1 D.l1i2 e, Z.tb.at fun o e => a7 _ o D.l2z D.l2TO D.l2i1 D.l2i2 e, .inr ⟨_, false, x, y, a1, a5⟩⟩ a5 a7
  · refine next_kept D g t Z.p Z.n1 Z.n2 Z.ta Z.tb hx hy fun h' a1 a3 a4 a5 a7 => ?_
    have kp : ∀ c o, c ≠ z → c ≠ TO → c ≠ i1 → c ≠ i2 → s.heap.get? c = some o → h'.get? c = some o := fun c o c1 _ c3 c4 e => a7 c o c1 c3 c4 e
    have nz : T ≠ z := fun e => by
      rw [e] at t
      exact cls_ne t g (by simp)
    have n1 : T ≠ i1 := fun e => by
      obtain ⟨o, e1, e2, _⟩ := Z.n1
      rw [e] at t
      exact cls_ne t e1 (by rw [e2]; simp)
    have n2 : T ≠ i2 := fun e => by
      obtain ⟨o, e1, e2, _⟩ := Z.n2
      rw [e] at t
      exact cls_ne t e1 (by rw [e2]; simp)
    exact q h' ⟨kp _ _ D.TIz D.TITO D.TIi1 D.TIi2 Z.p, ⟨_, _, a7 _ _ D.TOz D.TOi1 D.TOi2 o0⟩, a3, a4, Z.ta.at fun o e => kp _ o D.l1z D.l1TO D.l1i1 D.l1i2 e, Z.tb.at fun o e => kp _ o D.l2z D.l2TO D.l2i1 D.l2i2 e, .inr ⟨T, true, _, _, a1, a7 _ _ nz n1 n2 t⟩⟩ a5 kp
theorem ZS.fin (Z : ZS s.heap z TI TO i1 i2 a b xs ys i) (D : ZipApart z TI TO i1 i2 a b) (calm : A.handled = none) (hx : xs[i]? = none) {Q : Option Value → Shared → Prop}
    (q : ∀ h', (∀ c o, c ≠ z → c ≠ TO → c ≠ i1 → c ≠ i2 → s.heap.get? c = some o → h'.get? c = some o) → Q none { s with heap := h' }) : wpAny (model prog w) A (pyNext (.ref z)) Q E s := by
  obtain ⟨x0, y0, o0⟩ := Z.o
  rcases Z.zz with ⟨e, g⟩ | ⟨T, f, xT, yT, g, t⟩
  · exact end_first calm D g Z.p Z.n1 Z.ta hx q
  · exact LZ.end_kept calm D g t Z.p Z.n1 Z.ta hx fun h' k => q h' fun c o c1 _ c3 _ e => k c o c1 c3 e
theorem loop {n N : Nat} {res : Value} {R : Result → Shared → Prop} (hbS : b ≠ S) (D : ZipApart z TI TO i1 i2 a b) (calm : A.handled = none) (lx : xs.size = n) (ly : ys.size = n) (few : n ≤ 1000) (lz : z < N) (lO : TO < N) (l1 : i1 < N) (l2 : i2 < N) (lS : S < N) (d : Nat) :
    ∀ (i : Nat) (s : Shared) (ts : List Addr) (c : Nat), i + d = n → ts.length = i → ZS s.heap z TI TO i1 i2 a b xs ys i → s.heap.get? S = some (lstO (ts.map Value.ref) c) → Made s.heap xs ys ts → ts.Nodup → (∀ T ∈ ts, N ≤ T) → N ≤ s.heap.objs.size →
      (∀ h' ts' c', ts'.length = n → h'.get? S = some (lstO (ts'.map Value.ref) c') → Made h' xs ys ts' → ts'.Nodup → (∀ T ∈ ts', N ≤ T) → (∀ c o, c ≠ S → c ≠ z → c ≠ TO → c ≠ i1 → c ≠ i2 → s.heap.get? c = some o → h'.get? c = some o) → R (.ok (.ret res)) { s with heap := h' }) →
      codeAny (model prog w) A (.builtin "list.extend.loop" ⟨[.ref S, .ref z, res], []⟩) R s := by
  have sz : sizeLine = 16777216 := sizeLine_eq
  induction d with
  | zero =>
    intro i s ts c e el Z hS mk nd ge le then_
    obtain rfl : i = n := e
    refine codeAny_builtin F.entry_extend_loop ?_
    rw [Around.under_plainId F.plain_extend_loop _]
    show wpAny _ A.in1 (pyNext (.ref z) >>= _) _ _ s
    refine wpAny_bind (Z.fin D (show A.in1.handled = none by simp [calm]) (by rw [Array.getElem?_eq_none_iff]; omega) fun h' k => ?_)
    have big : ∀ {c T : Nat}, c < N → N ≤ T → T ≠ c := fun h1 h2 => by omega
    have nS : S ≠ z ∧ S ≠ TO ∧ S ≠ i1 ∧ S ≠ i2 := by
      obtain ⟨f0, f1, gz⟩ := Z.zip
      obtain ⟨x0, y0, o0⟩ := Z.o
      obtain ⟨o1, e1, c1, _⟩ := Z.n1
      obtain ⟨o2, e2, c2, _⟩ := Z.n2
      refine ⟨fun q => ?_, fun q => ?_, fun q => ?_, fun q => ?_⟩
      · rw [q] at hS; exact cls_ne hS gz (by simp)
      · rw [q] at hS; exact cls_ne hS o0 (by simp)
      · rw [q] at hS; exact cls_ne hS e1 (by rw [c1]; simp)
      · rw [q] at hS; exact cls_ne hS e2 (by rw [c2]; simp)
    refine wpAny_pure (then_ h' ts c el (k _ _ nS.1 nS.2.1 nS.2.2.1 nS.2.2.2 hS) (fun j T hj => ?_) nd ge fun c o _ c1 c2 c3 c4 e => k c o c1 c2 c3 c4 e)
    obtain ⟨x, y, p1, p2, p3⟩ := mk j T hj
    have gT := ge T (List.mem_of_getElem? hj)
    exact ⟨x, y, p1, p2, k _ _ (big lz gT) (big lO gT) (big l1 gT) (big l2 gT) p3⟩
  | succ d ih =>
    intro i s ts c e el Z hS mk nd ge le then_
    have lt : i < n := by omega
    obtain ⟨x, hx⟩ : ∃ x, xs[i]? = some x := ⟨_, Array.getElem?_eq_getElem (by omega)⟩
    obtain ⟨y, hy⟩ : ∃ y, ys[i]? = some y := ⟨_, Array.getElem?_eq_getElem (by omega)⟩
    refine codeAny_builtin F.entry_extend_loop ?_
    rw [Around.under_plainId F.plain_extend_loop _]
    show wpAny _ A.in1 (pyNext (.ref z) >>= _) _ _ s
    refine wpAny_bind (Z.next D hx hy fun h' Z' np k => ?_)
    have big : ∀ {c T : Nat}, c < N → N ≤ T → T ≠ c := fun h1 h2 => by omega
    have nS : S ≠ z ∧ S ≠ TO ∧ S ≠ i1 ∧ S ≠ i2 := by
      obtain ⟨f0, f1, gz⟩ := Z.zip
      obtain ⟨x0, y0, o0⟩ := Z.o
      obtain ⟨o1, e1, c1, _⟩ := Z.n1
      obtain ⟨o2, e2, c2, _⟩ := Z.n2
      refine ⟨fun q => ?_, fun q => ?_, fun q => ?_, fun q => ?_⟩
      · rw [q] at hS; exact cls_ne hS gz (by simp)
      · rw [q] at hS; exact cls_ne hS o0 (by simp)
      · rw [q] at hS; exact cls_ne hS e1 (by rw [c1]; simp)
      · rw [q] at hS; exact cls_ne hS e2 (by rw [c2]; simp)
    have hS' := k _ _ nS.1 nS.2.1 nS.2.2.1 nS.2.2.2 hS
    show wpAny _ A.in1 (updateSeq S (·.push (.ref s.heap.objs.size)) >>= _) _ _ _
    have sm : ((ts.map Value.ref).toArray).size ≤ sizeLine := by rw [List.size_toArray, List.length_map]; omega
    refine wpAny_bind (wpAny_updateSeq hS' rfl ?_ sm (by show (((ts.map Value.ref).toArray).push _).size ≤ sizeLine + 1; rw [Array.size_push]; omega))
    have hS2 := Heap.get?_update_self (Obj.mapSeq (·.push (.ref s.heap.objs.size))) hS' rfl
    have oth : ∀ c o, c ≠ S → h'.get? c = some o → (h'.update S (Obj.mapSeq (·.push (.ref s.heap.objs.size)))).get? c = some o := fun c o nc e => (Heap.get?_update_other _ _ (Ne.symm nc)).trans e
    obtain ⟨c2, eS⟩ : ∃ c2, Obj.mapSeq (·.push (.ref s.heap.objs.size)) (lstO (ts.map Value.ref) c) = lstO ((ts ++ [s.heap.objs.size]).map Value.ref) c2 := by
      simp [Obj.mapSeq]
    rw [eS] at hS2
    have Z2 := Z'.keep hbS hS' oth
    have nTS : s.heap.objs.size ≠ S := Nat.ne_of_gt (Heap.lt_size hS)
    have mk2 : Made (h'.update S (Obj.mapSeq (·.push (.ref s.heap.objs.size)))) xs ys (ts ++ [s.heap.objs.size]) := fun j T hj => by
      by_cases hj2 : j < ts.length
      · rw [List.getElem?_append_left hj2] at hj
        obtain ⟨x', y', p1, p2, p3⟩ := mk j T hj
        have gT := ge T (List.mem_of_getElem? hj)
        exact ⟨x', y', p1, p2, oth _ _ (big lS gT) (k _ _ (big lz gT) (big lO gT) (big l1 gT) (big l2 gT) p3)⟩
      · rw [List.getElem?_append_right (by omega)] at hj
        have j0 : j = ts.length := by
          have := (List.getElem?_eq_some_iff.mp hj).1
          simp at this
          omega
        subst j0
        rw [Nat.sub_self, List.getElem?_cons_zero] at hj
        obtain rfl : s.heap.objs.size = T := Option.some.inj hj
        rw [el]
        exact ⟨x, y, hx, hy, oth _ _ nTS np⟩
    have fresh : s.heap.objs.size ∉ ts := fun m => by
      obtain ⟨j, hj⟩ := List.getElem?_of_mem m
      obtain ⟨x', y', _, _, p3⟩ := mk j _ hj
      exact Nat.lt_irrefl _ (Heap.lt_size p3)
    refine wpAny_pure ⟨plainId_quiet F.plain_extend_loop _, ih (i + 1) _ (ts ++ [s.heap.objs.size]) c2 (by omega) (by rw [List.length_append, el]; rfl) Z2 hS2 mk2 (L2.nd_snoc nd fresh) (fun T hT => ?_) ?_ fun h2 ts' c' a1 a2 a3 a4 a5 a6 => ?_⟩
    · rcases List.mem_append.mp hT with q | q
      · exact ge T q
      · rw [List.mem_singleton.mp q]
        exact le
    · exact Nat.le_trans le (Nat.le_of_lt (Heap.lt_size (oth _ _ nTS np)))
    · exact then_ h2 ts' c' a1 a2 a3 a4 a5 fun c o c0 c1 c2 c3 c4 e => a6 c o c0 c1 c2 c3 c4 (oth _ _ c0 (k _ _ c1 c2 c3 c4 e))
end
end ZM

set_option Elab.async false
set_option linter.all false
set_option maxRecDepth 100000
set_option maxHeartbeats 4000000
namespace ZM
open PySem PySem.Spec PyProof.Rows
open LZ (cls_ne lstO Made zip_len zip_hint)
section
variable {prog : Program} {w : World} {A : Around} {E : Value → Shared → Prop} {s : Shared} {z TI TO i1 i2 a b : Addr} {xs ys : Array Value}
theorem ZS.mono {h h' : Heap} {i : Nat} (Z : ZS h z TI TO i1 i2 a b xs ys i) (k : ∀ c o, h.get? c = some o → h'.get? c = some o) : ZS h' z TI TO i1 i2 a b xs ys i := by
  obtain ⟨x0, y0, o0⟩ := Z.o
  refine ⟨k _ _ Z.p, ⟨x0, y0, k _ _ o0⟩, Z.n1.at fun o e => k _ o e, Z.n2.at fun o e => k _ o e, Z.ta.at fun o e => k _ o e, Z.tb.at fun o e => k _ o e, ?_⟩
  rcases Z.zz with ⟨e, q⟩ | ⟨T, f, x, y, q, t⟩
  · exact .inl ⟨e, k _ _ q⟩
  · exact .inr ⟨T, f, x, y, k _ _ q, k _ _ t⟩
/-- list(z), z a zip of two tuples of one length that nobody has asked -/
theorem list_zip {n : Nat} {Q : Value → Shared → Prop} (D : ZipApart z TI TO i1 i2 a b) (calm : A.handled = none) (Z : ZS s.heap z TI TO i1 i2 a b xs ys 0) (gz0 : IsZip s.heap z TI TO .none) (lx : xs.size = n) (ly : ys.size = n) (few : n ≤ 1000)
    (q : ∀ h' ts c, ts.length = n → h'.get? s.heap.objs.size = some (lstO (ts.map Value.ref) c) → Made h' xs ys ts → ts.Nodup → (∀ T ∈ ts, s.heap.objs.size < T) → (∀ c o, c ≠ z → c ≠ TO → c ≠ i1 → c ≠ i2 → s.heap.get? c = some o → h'.get? c = some o) →
      Q (.ref s.heap.objs.size) { s with heap := h' }) : wpAny (model prog w) A (call (.type "list") [.ref z]) Q E s := by
  obtain ⟨f0, f1, gz⟩ := Z.zip
  obtain ⟨x0, y0, gO⟩ := Z.o
  obtain ⟨o1, g1, _⟩ := id Z.n1
  obtain ⟨o2, g2, _⟩ := id Z.n2
  have lz : z < s.heap.objs.size := Heap.lt_size gz
  obtain ⟨ob, gb, _⟩ := id Z.tb
  have lb : b < s.heap.objs.size := Heap.lt_size gb
  refine callType_codes (Q₁ := fun obj s₁ => obj = .ref s.heap.objs.size ∧ s₁ = { s with heap := s.heap.push (lstO [] 0) }) F.called_list (F.typeCall_list_1 _) F.entry_list_init (code_list_new _ ⟨rfl, rfl⟩) fun obj s₁ e => ?_
  obtain ⟨rfl, rfl⟩ := e
  have gS : (s.heap.push (lstO [] 0)).get? s.heap.objs.size = some (lstO [] 0) := Heap.get?_push_size _ rfl
  refine ⟨⟨_, gS, rfl⟩, F.args_list_init_2 _ _, ?_⟩
  show wpAny _ A.in1.in1 (do let old ← Builtin.List.listItems (.ref s.heap.objs.size); Builtin.List.listUpdate (.ref s.heap.objs.size) (fun _ => #[]); letGo old.toList.reverse; Builtin.List.listExtendWith (.ref s.heap.objs.size) (.ref z) .none) _ _ _
  refine wpAny_bind ?_
  unfold Builtin.List.listItems
  refine wpAny_bind (wpAny_seqItems gS rfl (wpAny_pure ?_))
  show wpAny _ A.in1.in1 (updateSeq s.heap.objs.size (fun _ => #[]) >>= fun _ => letGo (#[] : Array Value).toList.reverse >>= fun _ => Builtin.List.listExtendWith (.ref s.heap.objs.size) (.ref z) .none) _ _ _
  refine wpAny_bind (wpAny_updateSeq gS rfl ?_)
  have gS2 := Heap.get?_update_self (Obj.mapSeq (fun _ => (#[] : Array Value))) gS rfl
  refine wpAny_bind (wpAny_letGo ?_)
  have oth2 : ∀ c o, c ≠ s.heap.objs.size → (s.heap.push (lstO [] 0)).get? c = some o → ((s.heap.push (lstO [] 0)).update s.heap.objs.size (Obj.mapSeq (fun _ => (#[] : Array Value)))).get? c = some o := fun c o nc e => (Heap.get?_update_other _ _ (Ne.symm nc)).trans e
  have nzS : z ≠ s.heap.objs.size := Nat.ne_of_lt lz
  have gz2 : IsZip ((s.heap.push (lstO [] 0)).update s.heap.objs.size (Obj.mapSeq (fun _ => (#[] : Array Value)))) z TI TO .none := oth2 _ _ nzS (Heap.get?_push_of_some _ gz0)
  have ty : ∀ {h : Heap} {g d t os}, IsZip h z TI TO .none → Shared.TypeIs ⟨h, g, d, t, os⟩ (.ref z) "zip" := fun e => ⟨_, e, rfl⟩
  unfold Builtin.List.listExtendWith
  refine wpAny_bind (wpAny_typeOf (ty gz2) ?_)
  have c1 : Builtin.List.listSameRef (.ref s.heap.objs.size) (.ref z) = false := by simp [Builtin.List.listSameRef, Ne.symm nzS]
  have c2 : (Value.type "zip" == Value.type "list") = false := by decide
  have c3 : (Value.type "zip" == Value.type "tuple") = false := by decide
  simp only [c1, c2, c3, Bool.or_false, Bool.false_eq_true, if_false]
  refine wpAny_bind (wpAny_pyIter_zip gz2 (wpAny_bind (wpAny_holding ?_)))
  unfold Builtin.List.listLengthHint
  refine wpAny_bind (wpAny_specialOf (ty gz2) zip_len ?_)
  show wpAny _ A.in1.in1 (specialOf (Value.ref z) (Str.ofString "__length_hint__") >>= _) _ _ _
  refine wpAny_bind (wpAny_specialOf (ty gz2) zip_hint (wpAny_pure ?_))
  show wpAny _ A.in1.in1 (rule "list.extend.makes-room" >>= fun _ => Builtin.List.listTouch (.ref s.heap.objs.size) >>= fun _ => again (.builtin "list.extend.loop" ⟨[.ref s.heap.objs.size, .ref z, .none], []⟩)) _ _ _
  refine wpAny_bind (wpAny_rule (wpAny_bind ?_))
  show wpAny _ A.in1.in1 (updateSeq s.heap.objs.size (·.push .none) >>= fun _ => updateSeq s.heap.objs.size (·.pop)) _ _ _
  refine wpAny_bind (wpAny_updateSeq gS2 rfl ?_)
  have gS3 := Heap.get?_update_self (Obj.mapSeq (·.push Value.none)) gS2 rfl
  refine wpAny_updateSeq (hz := by seq_fits) gS3 rfl ?_
  have gS4 := Heap.get?_update_self (Obj.mapSeq (·.pop)) gS3 rfl
  have oth4 : ∀ c o, c ≠ s.heap.objs.size → (s.heap.push (lstO [] 0)).get? c = some o → ((((s.heap.push (lstO [] 0)).update s.heap.objs.size (Obj.mapSeq (fun _ => (#[] : Array Value)))).update s.heap.objs.size (Obj.mapSeq (·.push Value.none))).update s.heap.objs.size (Obj.mapSeq (·.pop))).get? c = some o :=
    fun c o nc e => (Heap.get?_update_other _ _ (Ne.symm nc)).trans ((Heap.get?_update_other _ _ (Ne.symm nc)).trans (oth2 c o nc e))
  obtain ⟨c4, e4⟩ : ∃ c4, Obj.mapSeq (·.pop) (Obj.mapSeq (·.push Value.none) (Obj.mapSeq (fun _ => (#[] : Array Value)) (lstO [] 0))) = lstO (([] : List Addr).map Value.ref) c4 := ⟨_, rfl⟩
  rw [e4] at gS4
  have Z4 := (Z.mono fun c o e => Heap.get?_push_of_some _ e).keep (Nat.ne_of_lt lb) gS oth4
  have big : s.heap.objs.size + 1 ≤ ((((s.heap.push (lstO [] 0)).update s.heap.objs.size (Obj.mapSeq (fun _ => (#[] : Array Value)))).update s.heap.objs.size (Obj.mapSeq (·.push Value.none))).update s.heap.objs.size (Obj.mapSeq (·.pop))).objs.size := Nat.succ_le_of_lt (Heap.lt_size gS4)
  refine wpAny_pure ⟨plainId_quiet F.plain_extend_loop _, loop (N := s.heap.objs.size + 1) (Nat.ne_of_lt lb) D (show A.in1.handled = none by simp [calm]) lx ly few (Nat.lt_succ_of_lt lz) (Nat.lt_succ_of_lt (Heap.lt_size gO)) (Nat.lt_succ_of_lt (Heap.lt_size g1)) (Nat.lt_succ_of_lt (Heap.lt_size g2)) (Nat.lt_succ_self _) n 0 _ [] c4 (by omega) rfl Z4 gS4
    (fun j T hj => by simp at hj) List.nodup_nil (fun T hT => by simp at hT) big fun h' ts c a1 a2 a3 a4 a5 a6 => ?_⟩
  exact ⟨rfl, q h' ts c a1 a2 a3 a4 a5 fun c o k1 k2 k3 k4 e => a6 c o (Nat.ne_of_lt (Heap.lt_size e)) k1 k2 k3 k4 (oth4 _ _ (Nat.ne_of_lt (Heap.lt_size e)) (Heap.get?_push_of_some _ e))⟩
end
end ZM

set_option Elab.async false
set_option linter.all false
set_option maxRecDepth 100000
set_option maxHeartbeats 4000000
namespace BK
open PySem PySem.Spec PyProof.Rows L2
def tListZipM (K : PySem.W.Frag) (ta : TA) : TE := fun σ H Q => ta σ H fun vs H1 => ∃ a b xs ys, vs = [.ref a, .ref b] ∧ SqT K H1 a xs ∧ SqL K H1 b ys ∧ xs.length = ys.length ∧ xs.length ≤ 1000 ∧
  ∀ (L : Addr) (ts : List Addr) (H' : Hp), Same H1 H' → H1 L = none → H' L = some (.lst (ts.map V.ref)) → ts.length = xs.length → (∀ (j : Nat) (T : Addr), ts[j]? = some T → ∃ x y, xs[j]? = some x ∧ ys[j]? = some y ∧ H' T = some (.tup [x, y])) → Q (.ref L) H'
section
variable {X : Cx}
theorem pe_listZipM {e e2 : Expr} {ta : TA} {p p2 q pos : Pos} (hc : X.calm = true) (g1 : Gl X "list") (m1 : X.mg "list" = none) (g2 : Gl X "zip") (m2 : X.mg "zip" = none) (ha : PA X [e, e2] ta)
    (hs : starEach [e, e2] X.env = (false, eval e X.env) :: starEach [e2] X.env := by rfl) (hpl : (backTo q (starEach [e2] X.env)).any (·.1) = false := by rfl) : PE X (.Call (.Name "list" p) [.Call (.Name "zip" p2) [e, e2] [] q] [] pos) (tListZipM X.K ta) := by
  refine ⟨fun pins s σ H Q I h => Call_ (ld_blt I g1 m1 boot_list (PyProof.Rows.callWith_type1 (PyProof.Rows.args_cons ?_ rfl) rfl rfl))⟩
  refine Call_ (ld_blt I g2 m2 PyProof.Rows.boot_zip (PyProof.Rows.callWith_type1 (thn (ha.run q pins s σ H _ I h) fun us s1 z => ?_) hs hpl))
  obtain ⟨vs, H1, I1, r1, a, b, xs, ys, rfl, sa, sb, el, few, k⟩ := z
  obtain ⟨u1, u2, rfl, ra, rb⟩ := vals2 r1
  obtain rfl : u1 = Value.ref a := ra
  obtain rfl : u2 = Value.ref b := rb
  obtain ⟨its, rx, ta, zx⟩ := I1.tuple sa
  obtain ⟨its2, ry, tb, zy⟩ := I1.list sb
  obtain ⟨oa, ga, _⟩ := id ta
  obtain ⟨ob, gb, _⟩ := id tb.isList
  have lx : its.toArray.size = xs.length := by rw [List.size_toArray, rx.length]
  have ly : its2.toArray.size = xs.length := by rw [List.size_toArray, ← ry.length, el]
  refine PySem.zip_begins2 (begins_tuple a its.toArray) (begins_list b its2.toArray) (show s1.heap.IsTuple a its.toArray from ta) tb.isList fun h' hz hTI hTO g1 g2 hsz hk => PyProof.Rows.args_nil ?_
  have Z : ZM.ZS h' (s1.heap.objs.size + 4) (s1.heap.objs.size + 2) (s1.heap.objs.size + 3) s1.heap.objs.size (s1.heap.objs.size + 1) a b its.toArray its2.toArray 0 :=
    ⟨hTI, ⟨_, _, hTO⟩, ⟨_, g1, rfl, rfl⟩, ⟨_, g2, rfl, rfl⟩, (show s1.heap.IsTuple a its.toArray from ta).at fun o e => hk _ o e, tb.isList.at fun o e => hk _ o e, .inl ⟨rfl, hz⟩⟩
  refine ZM.list_zip (s := { s1 with heap := h' }) (PySem.W.ktu_apart s1.heap.objs.size a b (Heap.lt_size ga) (Heap.lt_size gb)) (I1.ok.hd hc) Z hz lx ly few fun h2 ts c a1 a2 a3 a4 a5 a6 => ?_
  have lt : ∀ {c : Addr} {o : Obj} (m : Nat), s1.heap.get? c = some o → c ≠ s1.heap.objs.size + m := fun m e => Nat.ne_of_lt (Nat.lt_of_lt_of_le (Heap.lt_size e) (Nat.le_add_right _ _))
  have kp : ∀ c o, s1.heap.get? c = some o → h2.get? c = some o := fun c o e => a6 c o (lt 4 e) (lt 3 e) (Nat.ne_of_lt (Heap.lt_size e)) (lt 1 e) (hk c o e)
  have I2 : Inv X pins σ H1 { s1 with heap := h2 } := I1.kept (t' := s1.toks) kp
  have up : s1.heap.objs.size ≤ h'.objs.size := by rw [hsz]; exact Nat.le_add_right _ _
  have ezs : (ts.zip (xs.zip ys)).map (·.1) = ts := by
    rw [List.map_fst_zip]
    rw [List.length_zip]
    omega
  have inz : ∀ z ∈ ts.zip (xs.zip ys), ∃ j, ts[j]? = some z.1 ∧ xs[j]? = some z.2.1 ∧ ys[j]? = some z.2.2 := fun z hz => by
    obtain ⟨j, hj⟩ := List.getElem?_of_mem hz
    obtain ⟨T, x, y⟩ := z
    obtain ⟨q1, q2⟩ := List.getElem?_zip_eq_some.mp hj
    obtain ⟨q3, q4⟩ := List.getElem?_zip_eq_some.mp q2
    exact ⟨j, q1, q3, q4⟩
  obtain ⟨H2, I3, s3, at3, no3⟩ := tell_pairs (ts.zip (xs.zip ys)) (by rw [ezs]; exact a4) (fun z hz => by
    obtain ⟨j, q1, q2, q3⟩ := inz z hz
    obtain ⟨u', v', w1, w2, w3⟩ := a3 j z.1 q1
    obtain ⟨u, w4, ru⟩ := rx.get q2
    obtain ⟨v, w5, rv⟩ := ry.get q3
    have e1 : u' = u := Option.some.inj (w1.symm.trans (by rw [List.getElem?_toArray]; exact w4))
    have e2 : v' = v := Option.some.inj (w2.symm.trans (by rw [List.getElem?_toArray]; exact w5))
    rw [e1, e2] at w3
    have le : s1.heap.objs.size ≤ z.1 := Nat.le_trans up (Nat.le_of_lt (a5 z.1 (List.mem_of_getElem? q1)))
    exact ⟨Fr.of I1 le, I1.hok.fresh le, u, v, ru, rv, w3⟩) I2
  have nL : H2 h'.objs.size = none := no3 _ (I1.hok.fresh up) (by
    rw [ezs]
    intro m
    exact Nat.lt_irrefl _ (a5 _ m))
  have I4 : Inv X pins σ (upd H2 h'.objs.size (.lst (ts.map V.ref))) { s1 with heap := h2 } := tell I3 nL (Fr.of I1 up) ⟨by rw [List.length_map, a1]; exact Nat.le_of_lt (small1000 few), ts.map Value.ref, c, vals_refs ts, a2⟩
  refine ⟨.ref h'.objs.size, _, I4, rfl, k h'.objs.size ts _ (s3.trans (same_new nL)) (I1.hok.fresh up) upd_same a1 fun j T hj => ?_⟩
  have jl : j < ts.length := (List.getElem?_eq_some_iff.mp hj).1
  have hx : xs[j]? = some xs[j] := List.getElem?_eq_getElem (by omega)
  have hy : ys[j]? = some ys[j] := List.getElem?_eq_getElem (by omega)
  have mem : (T, xs[j], ys[j]) ∈ ts.zip (xs.zip ys) := List.mem_of_getElem? (i := j) (List.getElem?_zip_eq_some.mpr ⟨hj, List.getElem?_zip_eq_some.mpr ⟨hx, hy⟩⟩)
  exact ⟨xs[j], ys[j], hx, hy, same_new nL _ _ (at3 _ mem)⟩
end
end BK

set_option Elab.async false
set_option maxRecDepth 100000
set_option maxHeartbeats 4000000
/-! ProgramCheck.knows. -/
namespace BK
open PySem PySem.Spec PyProof.Rows L2 RZ ET
def plen (P : List (Str × List Str)) : Tr → Nat
  | .str s => ((pget P s).getD []).length
  | _ => 0
def strIn (vars : List Str) : Tr → Bool
  | .str s => decide (s ∈ vars)
  | _ => false
def keyIn (P : List (Str × List Str)) : Tr → Bool
  | .str s => (pget P s).isSome
  | _ => false
/-- a part of a step is known -/
def okP (vars : List Str) (P : List (Str × List Str)) (nm : Tr) (e : Tr × Str) : Bool :=
  !(decide (e.2 = "variable") && !strIn vars e.1) && !(decide (e.2 = "name") && !keyIn P e.1) && !(decide (e.2 = "args") && !decide ((tupTs e.1).length = plen P nm))
def knowsS (vars : List Str) (P : List (Str × List Str)) (rest : List Tr) (ks : List Str) : Bool := (rest.zip ks).all (okP vars P (rest.getD 1 .non))
theorem args_make {x : Str} {ks : List Str} (h : stepKinds x = some ks) : ∀ i, ks[i]? = some ("args" : Str) → x = "make" ∧ ks = [("piece" : Str), ("name" : Str), ("args" : Str)] ∧ i = 2 := by
  have all : (stepTab.all fun e => (List.range 4).all fun i => if e.2[i]? = some ("args" : Str) then decide (e.1 = "make") && decide (e.2 = [("piece" : Str), ("name" : Str), ("args" : Str)]) && decide (i = 2) else true) = true := by decide +kernel
  intro i hi
  have h1 := List.all_eq_true.mp all _ (skinds_mem h)
  have il : i < 4 := by
    have := (List.getElem?_eq_some_iff.mp hi).1
    have := (skinds_few h).2
    omega
  have h2 := List.all_eq_true.mp h1 i (List.mem_range.mpr il)
  rw [if_pos hi, Bool.and_eq_true, Bool.and_eq_true] at h2
  exact ⟨of_decide_eq_true h2.1.1, of_decide_eq_true h2.1.2, of_decide_eq_true h2.2⟩
theorem part_str {t : Tr} {k : Str} (h : partT t k = true) (hk : k = "variable" ∨ k = "name" ∨ k = "piece" ∨ k = "token" ∨ k = "context") : ∃ s, t = .str s := by
  have e : nameT t = true := by
    rcases hk with rfl | rfl | rfl | rfl | rfl <;> exact h
  exact name_str e
theorem part_args {t : Tr} (h : partT t "args" = true) : ∃ ts, t = .tup ts ∧ ts.all nameT = true := by
  have h : argsT t = true := h
  cases t with
  | tup ts => exact ⟨ts, rfl, h⟩
  | _ => cases h
def spPKnows (K : PySem.W.Frag) (C : Addr) : Sp := fun vs H Q _ => ∃ a v vars P m n x rest ks, vs = [.ref a.p, v] ∧ PkAt K C H a vars P m n ∧ TrAt K H v (.tup (.str x :: rest)) ∧ stepKinds x = some ks ∧ fitsT rest ks = true ∧
  ∀ H', Same H H' → Q (.bl (knowsS vars P rest ks)) H'
theorem scPKnows : FnScope ["self", "step", "part", "kind"] ["self", "step"] (defScope sPKnows) := ⟨rfl, rfl, rfl, by decide +kernel, rfl, by decide +kernel, by decide +kernel⟩
section
variable {P : Program} {w : World} {K : PySem.W.Frag} {mg : Str → Option Value} {base : Heap}
theorem ok_pknows {C f fQ : Addr} {fd fdQ : FuncData} (F : Fun K "knows" "ProgramCheck.knows" sPKnows f fd) (X : TxP K mg C) (mL : mg "len" = none)
    (GQ : FnOk P w K mg base CX0 1 fQ fdQ ["step"] (spPartsS K)) (bQ : Binds K fdQ ["step"] []) (gQ : mg "parts_of_step" = some (.ref fQ)) (kQ : PySem.W.keepIn K (.ref fQ) = true) : FnOk P w K mg base CX0 2 f fd ["self", "step"] (spPKnows K C) := by
  refine F.ok scPKnows (fun vs H Q E h => ?_) (fun cdv A outer s H vs Q E hr h => ?_)
  · obtain ⟨a, v, vars, PP, m, n, x, rest, ks, rfl, _⟩ := h
    rfl
  · obtain ⟨a, v, vars, PP, m, n, x, rest, ks, rfl, cA, ht, ek, ef, k⟩ := h
    have hu := hu_of hr
    refine ⟨_, pss_cons (ps_for PassesOwn.never rfl (pi_list (pe_call GQ hr rfl gQ kQ bQ .nil pass0 (pa_cons (pv 1) pa_nil)))
        (pg_tup rfl (pgs_cons (pg_name (i := 2) scPKnows.nd rfl (Or.inl rfl)) (pgs_cons (pg_name (i := 3) scPKnows.nd rfl (Or.inl rfl)) pgs_nil)))
        (pss_cons (ps_if (PW.pt (pw_and (pt_cmpR op_eq (pv 3) pe_str (nomark _)) (pw_and1 (pt_cmpR op_notIn_seq (pv 2) (pe_fld (pv 0) rfl) rfl)))) (pss_one (ps_ret pe_bl)) pss_nil)
        (pss_cons (ps_if (PW.pt (pw_and (pt_cmpR op_eq (pv 3) pe_str (nomark _)) (pw_and1 (pt_cmp (pc_dnotin hu (pv 2) (pe_fld (pv 0) rfl)))))) (pss_one (ps_ret pe_bl)) pss_nil)
        (pss_one (ps_if (PW.pt (pw_and (pt_cmpR op_eq (pv 3) pe_str (nomark _)) (pw_and1 (pt_cmpR op_ne (pe_callB call_len_seq (by rfl) mL boot_len (pa_cons (pv 2) pa_nil))
            (pe_callB call_len_seq (by rfl) mL boot_len (pa_cons (pe_dget hu (pe_fld (pv 0) rfl) (pe_ix ix_tup (pv 1) pe_int (fun _ _ => rfl)) (fun _ _ => rfl)) pa_nil)) (nomark _))))) (pss_one (ps_ret pe_bl)) pss_nil)))))
      (pss_one (ps_ret pe_bl)), ?_⟩
    have el : rest.length = ks.length := by
      unfold fitsT at ef
      exact of_decide_eq_true (Bool.and_eq_true_iff.mp ef).1
    have ep : ∀ p ∈ rest.zip ks, partT p.1 p.2 = true := by
      unfold fitsT at ef
      exact List.all_eq_true.mp (Bool.and_eq_true_iff.mp ef).2
    refine ⟨_, rfl, v, x, rest, ks, rfl, ht, ek, el, fun L ts H1 s1 eL lt at1 => ?_⟩
    have c1 := cA.same s1
    have ht1 := ht.same s1
    have k1 : ∀ b, knowsS vars PP rest ks = b → Q (.bl b) H1 := fun b e => e ▸ k H1 s1
    obtain ⟨⟨dx, ob⟩, ⟨kvs, eq, dp⟩, dc, sv, ne⟩ := id c1
    have zl : (rest.zip ks).length = ts.length := by rw [List.length_zip]; omega
    refine ⟨L, rfl, ⟨_, SqL.of eL⟩, for_list (K := K) (a := L) (xs := ts.map V.ref) (fun i σ H2 => H1 = H2 ∧ ∃ (v2 v3 : Option V), σ = [some (.ref a.p), some v, v2, v3] ∧ ∀ j e, j < i → (rest.zip ks)[j]? = some e → okP vars PP (rest.getD 1 .non) e = true)
      ⟨rfl, none, none, rfl, fun j e h => absurd h (by omega)⟩ (fun i σ H2 _ ⟨e, _⟩ => e ▸ SqL.of eL) ?_ ?_⟩
    · rintro i y σ H2 hi ⟨rfl, v2, v3, rfl, all⟩
      rw [List.getElem?_map] at hi
      cases eT : ts[i]? with
      | none => rw [eT] at hi; cases hi
      | some U =>
      rw [eT] at hi
      obtain rfl : V.ref U = y := Option.some.inj hi
      obtain ⟨y', t', k', q1, q2, q3, q4⟩ := at1 i U eT
      have ez : (rest.zip ks)[i]? = some (t', k') := List.getElem?_zip_eq_some.mpr ⟨q1, q2⟩
      have pt := ep _ (List.mem_of_getElem? ez)
      have bad : okP vars PP (rest.getD 1 .non) (t', k') = false → Q (.bl false) H1 := fun e => k1 false (by
        unfold knowsS
        rw [List.all_eq_false]
        exact ⟨_, List.mem_of_getElem? ez, by rw [e]; simp⟩)
      refine ⟨U, _, rfl, SqT.of q4, rfl, _, _, rfl, _, _, rfl, rfl, ?_⟩
      -- the variable
      refine ⟨_, rfl, rfl, _, rfl, ?_⟩
      rw [eq_txt]
      have next : okP vars PP (rest.getD 1 .non) (t', k') = true → H1 = H1 ∧ ∃ (v2 v3 : Option V), [some (V.ref a.p), some v, some y', some (V.str k')] = [some (.ref a.p), some v, v2, v3] ∧ ∀ j e, j < i + 1 → (rest.zip ks)[j]? = some e → okP vars PP (rest.getD 1 .non) e = true := fun e => ⟨rfl, _, _, rfl, fun j z hj hz => by
        by_cases h : j < i
        · exact all j z h hz
        · have : j = i := by omega
          subst this
          rw [ez] at hz
          cases hz
          exact e⟩
      -- the args
      have three : okP vars PP (rest.getD 1 .non) (t', k') = (!(decide (k' = "args") && !decide ((tupTs t').length = plen PP (rest.getD 1 .non)))) →
          (∃ z, V.str k' = z ∧ True) := fun _ => ⟨_, rfl, trivial⟩
      clear three
      by_cases h1 : k' = "variable"
      · rw [decide_eq_true h1]
        obtain ⟨z, rfl⟩ := part_str pt (.inl h1)
        cases q3 with
        | str _ hz =>
        refine iteT ⟨_, rfl, _, rfl, a.p, C, dx, _, _, rfl, ob, X.cl, X.nV, pfs_v a n, a.v, _, rfl, .inr sv, rfl, flat_txts vars, _, rfl, ?_⟩
        rw [in_txts]
        subst h1
        by_cases hm : z ∈ vars
        · rw [decide_eq_true hm]
          refine iteF ⟨_, rfl, rfl, _, rfl, ?_⟩
          rw [eq_txt]
          refine iteF ⟨_, rfl, rfl, _, rfl, ?_⟩
          rw [eq_txt]
          refine iteF (next ?_)
          simp (decide := true) [okP, strIn, hm]
        · rw [decide_eq_false hm]
          refine iteT (bad ?_)
          simp (decide := true) [okP, strIn, hm]
      rw [decide_eq_false h1]
      refine iteF ⟨_, rfl, rfl, _, rfl, ?_⟩
      rw [eq_txt]
      by_cases h2 : k' = "name"
      · rw [decide_eq_true h2]
        obtain ⟨z, rfl⟩ := part_str pt (.inr (.inl h2))
        cases q3 with
        | str _ hz =>
        subst h2
        refine iteT ⟨_, rfl, _, rfl, a.p, C, dx, _, _, rfl, ob, X.cl, X.nP, pfs_p a n, a.q, _, rfl, DGet.k (k := Sum.inr z) eq, _, rfl, ?_⟩
        rcases dp.get z with ⟨g1, g2⟩ | ⟨kz, l, g1, g2, _⟩
        · rw [g2]
          refine iteT (bad ?_)
          simp (decide := true) [okP, keyIn, g1]
        · rw [g2]
          refine iteF ⟨_, rfl, rfl, _, rfl, ?_⟩
          rw [eq_txt]
          refine iteF (next ?_)
          simp (decide := true) [okP, keyIn, g1]
      rw [decide_eq_false h2]
      refine iteF ⟨_, rfl, rfl, _, rfl, ?_⟩
      rw [eq_txt]
      by_cases h3 : k' = "args"
      · rw [decide_eq_true h3]
        subst h3
        obtain ⟨us, rfl, hus⟩ := part_args pt
        obtain ⟨ex, eks, ei⟩ := args_make ek i q2
        subst ei
        cases q3 with
        | @tup ya yvs _ hya tya =>
        -- the name stands in the dict
        have l3 : rest.length = 3 := by rw [el, eks]; rfl
        obtain ⟨r0, r1, r2, rfl⟩ : ∃ r0 r1 r2, rest = [r0, r1, r2] := by
          match rest, l3 with
          | [r0, r1, r2], _ => exact ⟨r0, r1, r2, rfl⟩
        have ok1 := all 1 (r1, "name") (by omega) (by rw [eks]; rfl)
        have pt1 := ep (r1, "name") (List.mem_of_getElem? (i := 1) (by rw [eks]; rfl))
        obtain ⟨nm, rfl⟩ := part_str pt1 (.inr (.inl rfl))
        have hkey : keyIn PP (.str nm) = true := by
          cases e : keyIn PP (.str nm) with
          | true => rfl
          | false => simp (decide := true) [okP, e] at ok1
        rcases dp.get nm with ⟨g1, _⟩ | ⟨kz, l, g1, g2, g3⟩
        · have : (pget PP nm).isSome = true := hkey
          rw [g1] at this
          cases this
        cases ht1 with
        | @tup sa sxs _ hsa tsx =>
        cases tsx with
        | cons t0 tsx =>
        cases tsx with
        | cons t1 tsx =>
        cases tsx with
        | cons t2 tsx =>
        cases t2 with
        | str _ hnm =>
        refine iteT ⟨_, rfl, ya, _, rfl, .inr hya, ?_⟩
        refine ⟨_, rfl, a.p, C, dx, _, _, rfl, ob, X.cl, X.nP, pfs_p a n, _, rfl, sa, _, 2, _, rfl, rfl, hsa, at_of (j := 2) rfl rfl, a.q, _, rfl, g2 ▸ DGet.k (k := Sum.inr nm) eq, l, _, rfl, .inl (SqL.of g3), rfl, _, rfl, ?_⟩
        have pl : plen PP (([r0, .str nm, .tup us] : List Tr).getD 1 .non) = kz.length := by
          show ((pget PP nm).getD []).length = _
          rw [g1]
          rfl
        have yl := tya.len
        rw [dec_int, List.length_map]
        by_cases hl : us.length = kz.length
        · have e1 : (((yvs.length : Nat) : Int) == ((kz.length : Nat) : Int)) = true := by rw [beq_iff_eq]; omega
          rw [e1]
          refine iteF (next ?_)
          have e2 : (tupTs (.tup us)).length = plen PP (.str nm) := by rw [show plen PP (.str nm) = kz.length from pl]; exact hl
          simp (decide := true) [okP, e2]
        · have e1 : (((yvs.length : Nat) : Int) == ((kz.length : Nat) : Int)) = false := by rw [beq_eq_false_iff_ne]; omega
          rw [e1]
          refine iteT (bad ?_)
          have e2 : ¬ (tupTs (.tup us)).length = plen PP (.str nm) := by rw [show plen PP (.str nm) = kz.length from pl]; exact hl
          simp (decide := true) [okP, e2]
      rw [decide_eq_false h3]
      refine iteF (next ?_)
      simp [okP, h1, h2, h3]
    · rintro σ H2 ⟨rfl, v2, v3, rfl, all⟩
      refine k1 true ?_
      unfold knowsS
      rw [List.all_eq_true]
      intro e he
      obtain ⟨j, hj⟩ := List.getElem?_of_mem he
      refine all j e ?_ hj
      rw [List.length_map, ← zl]
      exact (List.getElem?_eq_some_iff.mp hj).1
end
end BK

set_option Elab.async false
set_option maxRecDepth 100000
set_option maxHeartbeats 4000000
set_option linter.unusedVariables false
/-! what a program's walk finds: as functions on trees -/
namespace BK
open PySem PySem.Spec PyProof.Rows L2
def slotK3 (k : Str) : Bool := decide (k = "context") || decide (k = "token") || decide (k = "piece")
def slotPr : Tr × Str → Option (Str × Str)
  | (.str s, k) => if slotK3 k = true then some (s, k) else none
  | _ => none
def parsOf (P : List (Str × List Str)) : List Tr → List Str
  | _ :: .str s :: _ => (pget P s).getD []
  | _ => []
def argsOf : List Tr → List Str
  | _ :: _ :: .tup ts :: _ => texts ts
  | _ => []
def slotsS (P : List (Str × List Str)) (x : Str) (rest : List Tr) (ks : List Str) : List (Str × Str) := (rest.zip ks).filterMap slotPr ++ (if x = "make" then (argsOf rest).zip (parsOf P rest) else [])
def setL : List (Str × Str) → Km → Bool × Km
  | [], m => (true, m)
  | (s, k) :: r, m => match kget m s with
    | none => setL r (m ++ [(s, k)])
    | some k2 => if k2 = k then setL r m else (false, m)
def takesS (vars : List Str) (P : List (Str × List Str)) (t : Tr) (c : Ck) : Bool × Ck := match t with
  | .tup (.str x :: rest) => match stepKinds x with
    | some ks => if fitsT rest ks = true ∧ knowsS vars P rest ks = true then
        ((setL (slotsS P x rest ks) c.1).1, ((setL (slotsS P x rest ks) c.1).2, if x = "step" ∨ x = "close" then c.2 + 1 else c.2))
      else (false, c)
    | none => (false, c)
  | _ => (false, c)
def progF (vars : List Str) (P : List (Str × List Str)) (rec : List Tr → Ck → Fl) (over : Bool) : List Tr → Nat → Ck → Fl
  | [], _, c => (none, c)
  | t :: r, i, c => if over = true then (some [i], c) else match takesS vars P t c with
    | (false, c') => (some [i], c')
    | (true, c') => match rec (progT t) c' with
      | (some w, c2) => (some (i :: 0 :: w), c2)
      | (none, c2) => progF vars P rec over r (i + 1) c2
/-- at depth 13 - d -/
def progD (vars : List Str) (P : List (Str × List Str)) : Nat → List Tr → Ck → Fl
  | 0, b, c => progF vars P (fun _ c => (none, c)) true b 0 c
  | d + 1, b, c => progF vars P (progD vars P d) false b 0 c
def recP (vars : List Str) (P : List (Str × List Str)) : Nat → List Tr → Ck → Fl
  | 0 => fun _ c => (none, c)
  | d + 1 => progD vars P d
def overP : Nat → Bool
  | 0 => true
  | _ + 1 => false
theorem progD_eq (vars : List Str) (P : List (Str × List Str)) (d : Nat) (b : List Tr) (c : Ck) : progD vars P d b c = progF vars P (recP vars P d) (overP d) b 0 c := by cases d <;> rfl
theorem setL_len : ∀ (l : List (Str × Str)) (m : Km), m.length ≤ (setL l m).2.length
  | [], m => Nat.le_refl _
  | (s, k) :: r, m => by
    unfold setL
    cases e : kget m s with
    | none =>
      have := setL_len r (m ++ [(s, k)])
      simp only [List.length_append, List.length_cons, List.length_nil] at this
      show m.length ≤ (setL r (m ++ [(s, k)])).2.length
      omega
    | some k2 =>
      show m.length ≤ (if k2 = k then setL r m else (false, m)).2.length
      by_cases h : k2 = k
      · rw [if_pos h]; exact setL_len r m
      · rw [if_neg h]; exact Nat.le_refl _
theorem takes_len (vars : List Str) (P : List (Str × List Str)) (t : Tr) (c : Ck) : c.1.length ≤ (takesS vars P t c).2.1.length := by
  unfold takesS
  split
  · split
    · split
      · exact setL_len _ _
      · exact Nat.le_refl _
    · exact Nat.le_refl _
  · exact Nat.le_refl _
theorem progF_len (vars : List Str) (P : List (Str × List Str)) (rec : List Tr → Ck → Fl) (over : Bool) (hr : ∀ b c, c.1.length ≤ (rec b c).2.1.length) : ∀ (ts : List Tr) (i : Nat) (c : Ck), c.1.length ≤ (progF vars P rec over ts i c).2.1.length
  | [], _, _ => Nat.le_refl _
  | t :: r, i, c => by
    unfold progF
    split
    · exact Nat.le_refl _
    · have h1 := takes_len vars P t c
      split
      · rename_i c' e
        rw [e] at h1
        exact h1
      · rename_i c' e
        rw [e] at h1
        have h2 := hr (progT t) c'
        split
        · rename_i w c2 e2
          rw [e2] at h2
          exact Nat.le_trans h1 h2
        · rename_i c2 e2
          rw [e2] at h2
          exact Nat.le_trans (Nat.le_trans h1 h2) (progF_len vars P rec over hr r (i + 1) c2)
theorem progD_len (vars : List Str) (P : List (Str × List Str)) : ∀ (d : Nat) (b : List Tr) (c : Ck), c.1.length ≤ (progD vars P d b c).2.1.length
  | 0, b, c => progF_len vars P _ _ (fun _ _ => Nat.le_refl _) b 0 c
  | d + 1, b, c => progF_len vars P _ _ (progD_len vars P d) b 0 c
theorem recP_len (vars : List Str) (P : List (Str × List Str)) (d : Nat) (b : List Tr) (c : Ck) : c.1.length ≤ (recP vars P d b c).2.1.length := by
  cases d with
  | zero => exact Nat.le_refl _
  | succ d => exact progD_len vars P d b c
theorem progF_way (vars : List Str) (P : List (Str × List Str)) (rec : List Tr → Ck → Fl) (over : Bool) (n : Nat) (hr : ∀ b c w, (rec b c).1 = some w → w.length ≤ n) : ∀ (ts : List Tr) (i : Nat) (c : Ck) (w : List Nat), (progF vars P rec over ts i c).1 = some w → w.length ≤ n + 2
  | [], _, _, _, h => by cases h
  | t :: r, i, c, w, h => by
    unfold progF at h
    split at h
    · cases h; simp
    · split at h
      · cases h; simp
      · split at h
        · rename_i w2 c2 e2
          have := hr (progT t) _ w2 (by rw [e2])
          cases h
          simp only [List.length_cons]
          omega
        · exact progF_way vars P rec over n hr r (i + 1) _ w h
theorem progD_way (vars : List Str) (P : List (Str × List Str)) : ∀ (d : Nat) (b : List Tr) (c : Ck) (w : List Nat), (progD vars P d b c).1 = some w → w.length ≤ 2 * d + 2
  | 0, b, c, w, h => progF_way vars P _ _ 0 (fun _ _ _ e => by cases e) b 0 c w h
  | d + 1, b, c, w, h => by
    have := progF_way vars P _ _ (2 * d + 2) (progD_way vars P d) b 0 c w h
    omega
theorem stepT_progT {t : Tr} (h : stepT t = false) : True := trivial
theorem takes_step {vars : List Str} {P : List (Str × List Str)} {t : Tr} {c c' : Ck} (h : takesS vars P t c = (true, c')) : ∃ x rest ks, t = .tup (.str x :: rest) ∧ stepKinds x = some ks ∧ fitsT rest ks = true ∧ knowsS vars P rest ks = true := by
  unfold takesS at h
  split at h
  · rename_i x rest
    cases ek : stepKinds x with
    | none => rw [ek] at h; cases h
    | some ks =>
      rw [ek] at h
      simp only at h
      split at h
      · rename_i q
        exact ⟨x, rest, ks, rfl, ek, q.1, q.2⟩
      · cases h
  · cases h
mutual
/-- no tuple of thousands -/
def thinT : Tr → Bool
  | .tup ts => decide (ts.length ≤ 1000) && thinTs ts
  | _ => true
def thinTs : List Tr → Bool
  | [] => true
  | t :: r => thinT t && thinTs r
end
theorem thins_mem : ∀ {ts : List Tr}, thinTs ts = true → ∀ t ∈ ts, thinT t = true
  | [], _, t, h => by cases h
  | u :: r, e, t, h => by
    have e : (thinT u && thinTs r) = true := e
    rw [Bool.and_eq_true] at e
    rcases List.mem_cons.mp h with rfl | h
    · exact e.1
    · exact thins_mem e.2 t h
theorem thins_of : ∀ {ts : List Tr}, (∀ t ∈ ts, thinT t = true) → thinTs ts = true
  | [], _ => rfl
  | u :: r, h => by
    show (thinT u && thinTs r) = true
    rw [h u List.mem_cons_self, thins_of fun t ht => h t (List.mem_cons_of_mem _ ht)]
    rfl
theorem thin_tup {ts : List Tr} (h : thinT (.tup ts) = true) : ts.length ≤ 1000 ∧ thinTs ts = true := by
  have h : (decide (ts.length ≤ 1000) && thinTs ts) = true := h
  rw [Bool.and_eq_true] at h
  exact ⟨of_decide_eq_true h.1, h.2⟩
theorem tupTs_thin {t : Tr} (h : thinT t = true) : thinTs (tupTs t) = true := by
  cases t with
  | tup ts => exact (thin_tup h).2
  | _ => rfl
theorem progT_thin {t : Tr} (h : thinT t = true) : thinTs (progT t) = true := by
  unfold progT
  split
  · rename_i w rest
    split
    · split
      · refine tupTs_thin ?_
        have h2 := (thin_tup h).2
        cases e : rest.getLast? with
        | none => rw [List.getLastD_eq_getLast?, e]; rfl
        | some z =>
          rw [List.getLastD_eq_getLast?, e]
          exact thins_mem h2 z (List.mem_cons_of_mem _ (List.mem_of_getLast? e))
      · rfl
    · rfl
  · rfl
/-- the place of the first fault of a program -/
def faultP (vars : List Str) (P : List (Str × List Str)) : Tr → Option (List Nat)
  | .tup ts => (progD vars P 13 ts ([], 0)).1
  | _ => some []
end BK

set_option Elab.async false
set_option maxRecDepth 100000
set_option maxHeartbeats 4000000
set_option linter.unusedVariables false
/-! ProgramCheck.slots_at. -/
namespace BK
open PySem PySem.Spec PyProof.Rows L2 RZ ET
/-- the list L holds pairs -/
def PrsAt (K : PySem.W.Frag) (H : Hp) (L : Addr) (ps : List (Str × Str)) : Prop := ∃ ts : List Addr, H L = some (.lst (ts.map V.ref)) ∧ ts.length = ps.length ∧ ∀ (j : Nat) (T : Addr), ts[j]? = some T → ∃ e, ps[j]? = some e ∧ SqT K H T [.str e.1, .str e.2]
theorem PrsAt.same {K : PySem.W.Frag} {H H' : Hp} {L : Addr} {ps : List (Str × Str)} (h : PrsAt K H L ps) (s : Same H H') : PrsAt K H' L ps := by
  obtain ⟨ts, e, l, a⟩ := h
  exact ⟨ts, s _ _ e, l, fun j T hj => let ⟨z, q1, q2⟩ := a j T hj; ⟨z, q1, sqt_same s q2⟩⟩
structure SKinds (K : PySem.W.Frag) (mg : Str → Option Value) : Prop where
  sk : ∃ a, mg "SLOT_KINDS" = some (.ref a) ∧ ∀ H, SqT K H a [.str "context", .str "token", .str "piece"]
theorem inV_three (a b c z : Str) : inV (.str z) [.str a, .str b, .str c] = (decide (z = a) || decide (z = b) || decide (z = c)) := by
  have := in_txts z [a, b, c]
  rw [show [V.str a, V.str b, V.str c] = [a, b, c].map V.str from rfl, this]
  simp [Bool.or_assoc]
def PFew (P : List (Str × List Str)) : Prop := ∀ s ks, pget P s = some ks → ks.length ≤ 2
theorem know_args {vars : List Str} {P : List (Str × List Str)} {rest : List Tr} {ks : List Str} (ek : stepKinds ("make" : Str) = some ks) (ef : fitsT rest ks = true) (kn : knowsS vars P rest ks = true) :
    ∃ r0 nm us kz, rest = [r0, .str nm, .tup us] ∧ us.all nameT = true ∧ pget P nm = some kz ∧ us.length = kz.length := by
  have e0 : stepKinds ("make" : Str) = some [("piece" : Str), ("name" : Str), ("args" : Str)] := by decide +kernel
  rw [e0] at ek
  obtain rfl := Option.some.inj ek
  have el : rest.length = 3 := by
    unfold fitsT at ef
    exact of_decide_eq_true (Bool.and_eq_true_iff.mp ef).1
  obtain ⟨r0, r1, r2, rfl⟩ : ∃ r0 r1 r2, rest = [r0, r1, r2] := by
    match rest, el with
    | [r0, r1, r2], _ => exact ⟨r0, r1, r2, rfl⟩
  have ep : ∀ p ∈ [r0, r1, r2].zip [("piece" : Str), ("name" : Str), ("args" : Str)], partT p.1 p.2 = true := by
    unfold fitsT at ef
    exact List.all_eq_true.mp (Bool.and_eq_true_iff.mp ef).2
  obtain ⟨nm, rfl⟩ := part_str (ep (r1, "name") (List.mem_of_getElem? (i := 1) rfl)) (.inr (.inl rfl))
  obtain ⟨us, rfl, hus⟩ := part_args (ep (r2, "args") (List.mem_of_getElem? (i := 2) rfl))
  have kk := List.all_eq_true.mp kn
  have k1 := kk (.str nm, "name") (List.mem_of_getElem? (i := 1) rfl)
  have k2 := kk (.tup us, "args") (List.mem_of_getElem? (i := 2) rfl)
  have hkey : (pget P nm).isSome = true := by
    cases e : (pget P nm).isSome with
    | true => rfl
    | false =>
      have e' : keyIn P (.str nm) = false := e
      simp (decide := true) [okP, e'] at k1
  obtain ⟨kz, hz⟩ := Option.isSome_iff_exists.mp hkey
  refine ⟨r0, nm, us, kz, rfl, hus, hz, ?_⟩
  by_cases hl : us.length = kz.length
  · exact hl
  · exfalso
    have e2 : plen P (.str nm) = kz.length := by
      show ((pget P nm).getD []).length = _
      rw [hz]; rfl
    have e3 : ¬ (tupTs (.tup us)).length = plen P (.str nm) := by rw [e2]; exact hl
    simp (decide := true) [okP, e3] at k2
def spPSlots (K : PySem.W.Frag) (C : Addr) : Sp := fun vs H Q _ => ∃ a v vars P m n x rest ks, vs = [.ref a.p, v] ∧ PkAt K C H a vars P m n ∧ PFew P ∧ TrAt K H v (.tup (.str x :: rest)) ∧ stepKinds x = some ks ∧ fitsT rest ks = true ∧ knowsS vars P rest ks = true ∧
  ∀ L H', Same H H' → PrsAt K H' L (slotsS P x rest ks) → Q (.ref L) H'
abbrev nPSlots : List Str := ["self", "step", "pairs", "part", "kind"]
theorem scPSlots : FnScope nPSlots ["self", "step"] (defScope sPSlots) := ⟨rfl, rfl, rfl, by decide +kernel, rfl, by decide +kernel, by decide +kernel⟩
section
variable {P : Program} {w : World} {K : PySem.W.Frag} {mg : Str → Option Value} {base : Heap}
theorem ok_pslots {C f fQ : Addr} {fd fdQ : FuncData} (F : Fun K "slots_at" "ProgramCheck.slots_at" sPSlots f fd) (X : TxP K mg C) (U : SKinds K mg) (mL : mg "list" = none) (mZ : mg "zip" = none)
    (GQ : FnOk P w K mg base CX0 1 fQ fdQ ["step"] (spPartsS K)) (bQ : Binds K fdQ ["step"] []) (gQ : mg "parts_of_step" = some (.ref fQ)) (kQ : PySem.W.keepIn K (.ref fQ) = true) : FnOk P w K mg base CX0 2 f fd ["self", "step"] (spPSlots K C) := by
  refine F.ok scPSlots (fun vs H Q E h => ?_) (fun cdv A outer s H vs Q E hr h => ?_)
  · obtain ⟨a, v, vars, PP, m, n, x, rest, ks, rfl, _⟩ := h
    rfl
  · obtain ⟨a, v, vars, PP, m, n, x, rest, ks, rfl, cA, pf, ht, ek, ef, kn, k⟩ := h
    obtain ⟨aK, gK, sK⟩ := U.sk
    have hu := hu_of hr
    refine ⟨_, C8.pss_cut (ps_setLc (i := 2) (own := [("part", 3), ("kind", 4)]) (g := gTup K 2 (gCons (gName 3) (gCons (gName 4) gNil))) (tt := tTest (tOp (rIn K false) (tVar 4) (tC (.ref aK)))) (te := tTup (tCons (tVar 3) (tCons (tVar 4) tNil))) rfl scPSlots.nd rfl rfl (sw_true rfl rfl rfl rfl)
        (pi_list (pe_call GQ hr rfl gQ kQ bQ .nil pass0 (pa_cons (pv 1) pa_nil)))
        (blkOk_by (N := nPSlots) (sc := defScope sPSlots) (by decide +kernel))
        (fun _ _ _ _ _ => by exact pg_tup rfl (pgs_cons (pg_name (i := 3) scPSlots.nd rfl (Or.inl rfl)) (pgs_cons (pg_name (i := 4) scPSlots.nd rfl (Or.inl rfl)) pgs_nil)))
        (fun _ _ _ _ _ => pts_one (by exact pt_cmpR op_in_seq (pv 4) (pe_glob (v := .ref aK) rfl gK rfl) rfl))
        (fun _ _ _ _ _ => by exact pe_tup (pa_cons (pv 3) (pa_cons (pv 4) pa_nil))))
      (pss_cons (ps_if (pt_cmpR op_eq (pe_ix ix_tup (pv 1) pe_int (fun _ _ => rfl)) pe_str (nomark _))
        (pss_one (ps_expr (pe_bm PySem.F.plainAttrs_list PySem.F.slot_list_extend PySem.F.type_list_extend mt_extend (pv 2)
          (pa_cons (pe_listZipM rfl (by rfl) mL (by rfl) mZ (pa_cons (pe_ix ix_tup (pv 1) pe_int (fun _ _ => rfl)) (pa_cons (pe_dget hu (pe_fld (pv 0) rfl) (pe_ix ix_tup (pv 1) pe_int (fun _ _ => rfl)) (fun _ _ => rfl)) pa_nil))) pa_nil)))) pss_nil)
      (pss_one (ps_ret (pv 2)))), ?_⟩
    have el : rest.length = ks.length := by
      unfold fitsT at ef
      exact of_decide_eq_true (Bool.and_eq_true_iff.mp ef).1
    have ep : ∀ p ∈ rest.zip ks, partT p.1 p.2 = true := by
      unfold fitsT at ef
      exact List.all_eq_true.mp (Bool.and_eq_true_iff.mp ef).2
    have kf := skinds_few ek
    refine ⟨fun σ H3 => ∃ D, σ = [some (.ref a.p), some v, some (.ref D), none, none] ∧ Same H H3 ∧ H D = none ∧ PrsAt K H3 D ((rest.zip ks).filterMap slotPr), ?_, ?_⟩
    · refine ⟨_, rfl, v, x, rest, ks, rfl, ht, ek, el, fun L ts H1 s1 eL lt at1 => ?_⟩
      have zl : (rest.zip ks).length = ts.length := by rw [List.length_zip]; omega
      refine ⟨L, rfl, ⟨_, SqL.of eL⟩, fun D nD => ?_⟩
      have sD := same_new (o := .lst []) nD
      refine lc_list (K := K) (a := L) (xs := ts.map V.ref) (fun i H2 => Same H1 H2 ∧ PrsAt K H2 D (((rest.zip ks).take i).filterMap slotPr)) ⟨sD, [], upd_same, rfl, fun j T h => by simp at h⟩ (fun i H2 _ ⟨s2, _⟩ => SqL.of (s2 _ _ eL)) ?_ ?_
      · rintro i y H2 hi ⟨s2, us, e2, l2, a2⟩
        rw [List.getElem?_map] at hi
        cases eT : ts[i]? with
        | none => rw [eT] at hi; cases hi
        | some U =>
        rw [eT] at hi
        obtain rfl : V.ref U = y := Option.some.inj hi
        obtain ⟨y', t', k', q1, q2, q3, q4⟩ := at1 i U eT
        have ez : (rest.zip ks)[i]? = some (t', k') := List.getElem?_zip_eq_some.mpr ⟨q1, q2⟩
        have pt := ep _ (List.mem_of_getElem? ez)
        have il : i < ts.length := (List.getElem?_eq_some_iff.mp eT).1
        have ed : (rest.zip ks).take (i + 1) = (rest.zip ks).take i ++ [(t', k')] := by rw [List.take_add_one, ez]; rfl
        have ul : us.length ≤ 10 := by
          rw [l2]
          have := List.length_filterMap_le slotPr ((rest.zip ks).take i)
          rw [List.length_take] at this
          omega
        refine ⟨U, _, rfl, SqT.of (s2 _ _ q4), rfl, _, _, rfl, _, _, rfl, rfl, rfl, ?_⟩
        refine ⟨_, rfl, aK, _, rfl, .inr (sK _), rfl, rfl, _, rfl, ?_⟩
        rw [show (if false = true then !inV (.str k') [.str "context", .str "token", .str "piece"] else inV (.str k') [.str "context", .str "token", .str "piece"]) = slotK3 k' from inV_three _ _ _ _]
        cases hs : slotK3 k' with
        | true =>
          have hk : k' = "variable" ∨ k' = "name" ∨ k' = "piece" ∨ k' = "token" ∨ k' = "context" := by
            unfold slotK3 at hs
            rcases Bool.or_eq_true_iff.mp hs with hs | hs
            · rcases Bool.or_eq_true_iff.mp hs with hs | hs
              · exact .inr (.inr (.inr (.inr (of_decide_eq_true hs))))
              · exact .inr (.inr (.inr (.inl (of_decide_eq_true hs))))
            · exact .inr (.inr (.inl (of_decide_eq_true hs)))
          obtain ⟨z, rfl⟩ := part_str pt hk
          cases q3 with
          | str _ hz =>
          refine iteT ⟨_, rfl, _, rfl, (by show 2 ≤ sizeLine; decide), fun q nq => ?_⟩
          have sq := same_new (o := .tup [.str z, .str k']) nq
          have e3 := sq _ _ e2
          have nD1 := ne_of_none e2 nq
          have eF : ((rest.zip ks).take (i + 1)).filterMap slotPr = ((rest.zip ks).take i).filterMap slotPr ++ [(z, k')] := by
            rw [ed, List.filterMap_append]
            have : slotPr (.str z, k') = some (z, k') := by show (if slotK3 k' = true then some (z, k') else none) = _; rw [if_pos hs]
            simp [this]
          refine ⟨us.map V.ref, e3, small1000 (by rw [List.length_map]; omega), fun b o e => ?_, us ++ [q], ?_, ?_, fun j T hj => ?_⟩
          · rw [upd_ne (ne_of_none e nD)]
            exact sq _ _ (s2 b o e)
          · rw [upd_same, List.map_append]
            rfl
          · rw [eF, List.length_append, List.length_append, l2]
            rfl
          · rw [eF]
            by_cases hl : j < us.length
            · rw [List.getElem?_append_left hl] at hj
              obtain ⟨e, h1, h2⟩ := a2 j T hj
              exact ⟨e, by rw [List.getElem?_append_left (by omega)]; exact h1, sqt_updL e3 (sqt_same sq h2)⟩
            · have jl : j < (us ++ [q]).length := (List.getElem?_eq_some_iff.mp hj).1
              rw [List.length_append] at jl
              have ej : j = us.length := by simp only [List.length_cons, List.length_nil] at jl; omega
              subst ej
              rw [List.getElem?_append_right (Nat.le_refl _), Nat.sub_self] at hj
              obtain rfl : q = T := Option.some.inj hj
              refine ⟨(z, k'), ?_, sqt_updL e3 (SqT.of upd_same)⟩
              rw [l2, List.getElem?_append_right (Nat.le_refl _), Nat.sub_self]
              rfl
        | false =>
          have eF : ((rest.zip ks).take (i + 1)).filterMap slotPr = ((rest.zip ks).take i).filterMap slotPr := by
            rw [ed, List.filterMap_append]
            have : slotPr (t', k') = none := by
              cases t' with
              | str z => show (if slotK3 k' = true then some (z, k') else none) = _; rw [if_neg (by rw [hs]; exact Bool.false_ne_true)]
              | _ => rfl
            simp [this]
          refine iteF ⟨s2, ?_⟩
          rw [eF]
          exact ⟨us, e2, l2, a2⟩
      · rintro H2 ⟨s2, pr⟩
        have e : (rest.zip ks).take (ts.map V.ref).length = rest.zip ks := by rw [List.length_map, ← zl, List.take_length]
        rw [e] at pr
        exact ⟨D, rfl, s1.trans s2, s1.free nD, pr⟩
    rintro σ H3 ⟨D, rfl, s3, nD0, pr3⟩
    have c3 := cA.same s3
    obtain ⟨⟨dx, ob⟩, ⟨kvs, eq, dp⟩, dc, sv, ne⟩ := id c3
    have ty := ht.same s3
    cases ty with
    | @tup sa sxs _ hsa tsx =>
    cases tsx with
    | @cons y0 ys _ _ h0 tr =>
    cases h0 with
    | str _ hx =>
    refine ⟨_, rfl, sa, _, 0, _, rfl, rfl, hsa, at_of (j := 0) rfl rfl, rfl, _, rfl, ?_⟩
    rw [eq_txt]
    by_cases hm : x = "make"
    · subst hm
      rw [decide_eq_true rfl]
      obtain ⟨r0, nm, us, kz, rfl, hus, hz, hl⟩ := know_args ek ef kn
      cases tr with
      | cons t0 tr =>
      cases tr with
      | cons t1 tr =>
      cases tr with
      | cons t2 tr =>
      cases t1 with
      | str _ hnm =>
      cases t2 with
      | @tup ua uvs _ hua tua =>
      rcases dp.get nm with ⟨g1, _⟩ | ⟨kz', l, g1, g2, g3⟩
      · rw [g1] at hz; cases hz
      rw [hz] at g1
      obtain rfl := Option.some.inj g1
      have ul := tua.len
      have k2 := pf nm kz hz
      obtain ⟨us3, e3, l3, a3⟩ := pr3
      have eA := names_texts tua hus
      refine iteT ⟨_, rfl, .inl ⟨rfl, _, SqL.of e3⟩, _, rfl, sa, _, 3, _, rfl, rfl, hsa, at_of (j := 3) rfl rfl, ?_⟩
      refine ⟨_, rfl, a.p, C, dx, _, _, rfl, ob, X.cl, X.nP, pfs_p a n, _, rfl, sa, _, 2, _, rfl, rfl, hsa, at_of (j := 2) rfl rfl, a.q, _, rfl, g2 ▸ DGet.k (k := Sum.inr nm) eq, ?_⟩
      refine ⟨ua, l, uvs, _, rfl, hua, SqL.of g3, by rw [List.length_map]; omega, by omega, fun L2 ts2 H4 s4 nL2 eL2 lt2 at2 => ?_⟩
      have e4 := s4 _ _ e3
      have el3 : us3.length ≤ 10 := by
        rw [l3]
        have := List.length_filterMap_le slotPr (([r0, .str nm, .tup us] : List Tr).zip ks)
        rw [List.length_zip] at this
        simp only [List.length_cons, List.length_nil] at this
        omega
      refine ⟨D, L2, _, _, rfl, rfl, e4, eL2, ?_, ?_⟩
      · rw [List.length_map, List.length_map, sizeLine_eq]
        omega
      have tl : (texts us).length = uvs.length := by rw [eA, List.length_map]
      have nDL : D ≠ L2 := ne_of_none e3 nL2
      have eS : slotsS PP "make" [r0, .str nm, .tup us] ks = (([r0, .str nm, .tup us] : List Tr).zip ks).filterMap slotPr ++ (texts us).zip kz := by
        unfold slotsS
        rw [if_pos rfl]
        show _ ++ (texts us).zip ((pget PP nm).getD []) = _
        rw [hz]
        rfl
      refine ⟨_, rfl, k D _ (fun b o e => ?_) ⟨us3 ++ ts2, by rw [upd_same, List.map_append], ?_, fun j T hj => ?_⟩⟩
      · rw [upd_ne (ne_of_none e nD0)]
        exact s4 _ _ (s3 b o e)
      · rw [eS, List.length_append, List.length_append, l3, lt2, List.length_zip]
        omega
      · rw [eS]
        by_cases hlt : j < us3.length
        · rw [List.getElem?_append_left hlt] at hj
          obtain ⟨e, h1, h2⟩ := a3 j T hj
          exact ⟨e, by rw [List.getElem?_append_left (by omega)]; exact h1, sqt_updL e4 (sqt_same s4 h2)⟩
        · rw [List.getElem?_append_right (by omega)] at hj
          obtain ⟨u1, u2, w1, w2, w3⟩ := at2 _ T hj
          rw [eA, List.getElem?_map] at w1
          rw [List.getElem?_map] at w2
          cases g1 : (texts us)[j - us3.length]? with
          | none => rw [g1] at w1; cases w1
          | some z1 =>
          cases g2 : kz[j - us3.length]? with
          | none => rw [g2] at w2; cases w2
          | some z2 =>
          rw [g1] at w1
          rw [g2] at w2
          obtain rfl : V.str z1 = u1 := Option.some.inj w1
          obtain rfl : V.str z2 = u2 := Option.some.inj w2
          refine ⟨(z1, z2), ?_, sqt_updL e4 (SqT.of w3)⟩
          rw [List.getElem?_append_right (by omega), ← l3]
          exact List.getElem?_zip_eq_some.mpr ⟨g1, g2⟩
    · rw [decide_eq_false hm]
      refine iteF ⟨_, rfl, k D H3 s3 ?_⟩
      have e : slotsS PP x rest ks = (rest.zip ks).filterMap slotPr := by
        unfold slotsS
        rw [if_neg hm, List.append_nil]
      rw [e]
      exact pr3
end
end BK

set_option Elab.async false
set_option maxRecDepth 100000
set_option maxHeartbeats 4000000
set_option linter.unusedVariables false
/-! ProgramCheck.takes. -/
namespace BK
open PySem PySem.Spec PyProof.Rows L2 RZ ET
def spPTakes (K : PySem.W.Frag) (C : Addr) : Sp := fun vs H Q _ => ∃ a v vars P c t, vs = [.ref a.p, v] ∧ PkAt K C H a vars P c.1 c.2 ∧ PFew P ∧ TrAt K H v t ∧ thinT t = true ∧ (takesS vars P t c).2.1.length ≤ 900 ∧
  ∀ H', PkAt K C H' a vars P (takesS vars P t c).2.1 (takesS vars P t c).2.2 → ButP a H H' → Q (.bl (takesS vars P t c).1) H'
abbrev nPTakes : List Str := ["self", "step", "slot", "kind"]
theorem scPTakes : FnScope nPTakes ["self", "step"] (defScope sPTakes) := ⟨rfl, rfl, rfl, by decide +kernel, rfl, by decide +kernel, by decide +kernel⟩
theorem thin_short {t : Tr} (h : thinT t = true) : shortT t := by
  cases t with
  | tup ts =>
    intro u hu us e
    subst e
    have := (thin_tup (thins_mem (thin_tup h).2 _ hu)).1
    omega
  | _ => trivial
theorem takes_no {vars : List Str} {P : List (Str × List Str)} {t : Tr} (c : Ck) (h : stepT t = false) : takesS vars P t c = (false, c) := by
  unfold takesS
  split
  · rename_i x rest
    have h : (match stepKinds x with
      | some ks => fitsT rest ks
      | none => false) = false := h
    cases e : stepKinds x with
    | none => rfl
    | some ks =>
      rw [e] at h
      have h : fitsT rest ks = false := h
      simp only
      rw [if_neg fun q => by rw [h] at q; cases q.1]
  · rfl
theorem takes_eq {vars : List Str} {P : List (Str × List Str)} {x : Str} {rest : List Tr} {ks : List Str} (c : Ck) (ek : stepKinds x = some ks) (ef : fitsT rest ks = true) : takesS vars P (.tup (.str x :: rest)) c =
    if knowsS vars P rest ks = true then ((setL (slotsS P x rest ks) c.1).1, ((setL (slotsS P x rest ks) c.1).2, if x = "step" ∨ x = "close" then c.2 + 1 else c.2)) else (false, c) := by
  show (match stepKinds x with
    | some ks => if fitsT rest ks = true ∧ knowsS vars P rest ks = true then _ else (false, c)
    | none => (false, c)) = _
  rw [ek]
  simp only
  by_cases h : knowsS vars P rest ks = true
  · rw [if_pos h, if_pos ⟨ef, h⟩]
  · rw [if_neg h, if_neg fun q => h q.2]
section
variable {K : PySem.W.Frag} {C : Addr} {H : Hp} {a : PA_} {vars : List Str} {P : List (Str × List Str)} {m m' : Km} {n n' : Nat}
theorem PkAt.calls (c : PkAt K C H a vars P m n) {dx : Addr} (h : H a.p = some (.ins C dx (pfs a n))) : PkAt K C (upd H a.p (.ins C dx (pfs a n'))) a vars P m n' ∧ ButP a H (upd H a.p (.ins C dx (pfs a n'))) := by
  have b : ButP a H (upd H a.p (.ins C dx (pfs a n'))) := fun b o e h1 _ => by rw [upd_ne h1]; exact e
  obtain ⟨q, v⟩ := c.qkeep b
  refine ⟨⟨⟨dx, upd_same⟩, q, ?_, v, c.ne⟩, b⟩
  rw [upd_ne c.pd.symm]
  exact c.dc
theorem PkAt.kinds (c : PkAt K C H a vars P m n) : PkAt K C (upd H a.d (.dK (kk m'))) a vars P m' n ∧ ButP a H (upd H a.d (.dK (kk m'))) := by
  have b : ButP a H (upd H a.d (.dK (kk m'))) := fun b o e _ h2 => by rw [upd_ne h2]; exact e
  obtain ⟨q, v⟩ := c.qkeep b
  obtain ⟨dx, ob⟩ := c.ob
  refine ⟨⟨⟨dx, ?_⟩, q, upd_same, v, c.ne⟩, b⟩
  rw [upd_ne c.pd]
  exact ob
end
theorem PrsAt.butP {K : PySem.W.Frag} {C : Addr} {H H' : Hp} {a : PA_} {vars : List Str} {P : List (Str × List Str)} {m : Km} {n : Nat} {L : Addr} {ps : List (Str × Str)} (h : PrsAt K H L ps) (b : ButP a H H') (c : PkAt K C H a vars P m n) : PrsAt K H' L ps := by
  obtain ⟨ts, e, l, at_⟩ := h
  obtain ⟨dx, ob⟩ := c.ob
  exact ⟨ts, b _ _ e (ne_of e ob (by intro z; cases z)) (ne_of e c.dc (by intro z; cases z)), l, fun j T hj => let ⟨z, q1, q2⟩ := at_ j T hj; ⟨z, q1, b.tup c q2⟩⟩
section
variable {P : Program} {w : World} {K : PySem.W.Frag} {mg : Str → Option Value} {base : Heap}
theorem ok_ptakes {C f fS fK fL : Addr} {fd fdS fdK fdL : FuncData} (F : Fun K "takes" "ProgramCheck.takes" sPTakes f fd) (X : TxP K mg C)
    (GS : FnOk P w K mg base CX0 5 fS fdS ["thing"] (spIsStep K)) (bS : Binds K fdS ["thing"] []) (gS : mg "is_step" = some (.ref fS)) (kS : PySem.W.keepIn K (.ref fS) = true)
    (GK : FnOk P w K mg base CX0 2 fK fdK ["self", "step"] (spPKnows K C)) (bK : Binds K fdK ["self", "step"] []) (mK : Meth K C "knows" fK)
    (GL : FnOk P w K mg base CX0 2 fL fdL ["self", "step"] (spPSlots K C)) (bL : Binds K fdL ["self", "step"] []) (mL : Meth K C "slots_at" fL) :
    FnOk P w K mg base CX0 6 f fd ["self", "step"] (spPTakes K C) := by
  refine F.ok scPTakes (fun vs H Q E h => ?_) (fun cdv A outer s H vs Q E hr h => ?_)
  · obtain ⟨a, v, vars, PP, c, t, rfl, _⟩ := h
    rfl
  · obtain ⟨a, v, vars, PP, c, t, rfl, cA, pf, ht, th, cl, k⟩ := h
    have hr2 : Room 2 _ := hr.mono (by decide)
    refine ⟨_, C8.pss_cut (ps_if (PW.pt (pw_or (pt_not (pt_val (pe_call GS hr rfl gS kS bS .nil pass0 (pa_cons (pv 1) pa_nil))))
        (pw_or1 (pt_not (pt_val (pe_meth (pv 0) X.cl mK GK hr2 bK .nil pass0 (pa_cons (pv 1) pa_nil))))))) (pss_one (ps_ret pe_bl)) pss_nil)
      (C8.pss_cut (ps_if (pt_cmpR op_in_seq (pe_ix ix_tup (pv 1) pe_int (fun _ _ => rfl)) (pe_tup (pa_cons pe_str (pa_cons pe_str pa_nil))) rfl) (pss_one (ps_fldaug (pv 0) pe_int in_add)) pss_nil)
      (pss_cons (ps_for PassesOwn.never rfl (pi_list (pe_meth (pv 0) X.cl mL GL hr2 bL .nil pass0 (pa_cons (pv 1) pa_nil)))
          (pg_tup rfl (pgs_cons (pg_name (i := 2) scPTakes.nd rfl (Or.inl rfl)) (pgs_cons (pg_name (i := 3) scPTakes.nd rfl (Or.inl rfl)) pgs_nil)))
          (pss_one (ps_if (pt_cmpR op_ne (pe_dsetd (pe_fld (pv 0) rfl) (pv 2) (pv 3) ⟨rfl, rfl, rfl, rfl⟩) (pv 3) (nomark _)) (pss_one (ps_ret pe_bl)) pss_nil)))
      (pss_one (ps_ret pe_bl)))), ?_⟩
    obtain ⟨⟨dx, ob⟩, _, dc, sv, ne⟩ := id cA
    -- is it a step that is known
    refine ⟨fun σ H1 => ∃ x rest ks, t = .tup (.str x :: rest) ∧ stepKinds x = some ks ∧ fitsT rest ks = true ∧ knowsS vars PP rest ks = true ∧ σ = [some (.ref a.p), some v, none, none] ∧ Same H H1, ?_, ?_⟩
    · have bad : ∀ H1, Same H H1 → takesS vars PP t c = (false, c) → Q (.bl false) H1 := fun H1 s1 e => by
        have q := k H1 (by rw [e]; exact cA.same s1) (ButP.of s1)
        rw [e] at q
        exact q
      refine ⟨_, rfl, v, t, rfl, ht, thin_short th, fun H1 s1 => ⟨_, rfl, ?_⟩⟩
      cases es : stepT t with
      | false => exact iteT (bad H1 s1 (takes_no c es))
      | true =>
        obtain ⟨x, rest, ks, rfl, ek, ef⟩ := step_shape es
        refine iteF ⟨_, rfl, a.p, dx, _, rfl, s1 _ _ ob, pfs_no a _ (by decide +kernel) (by decide +kernel) (by decide +kernel) (by decide +kernel), _, rfl, a, v, vars, PP, c.1, c.2, x, rest, ks, rfl, cA.same s1, ht.same s1, ek, ef, fun H2 s2 => ⟨_, rfl, ?_⟩⟩
        cases ekn : knowsS vars PP rest ks with
        | false => exact iteT (bad H2 (s1.trans s2) (by rw [takes_eq c ek ef, ekn, if_neg Bool.false_ne_true]))
        | true => exact iteF ⟨x, rest, ks, rfl, ek, ef, ekn, rfl, s1.trans s2⟩
    rintro σ H1 ⟨x, rest, ks, rfl, ek, ef, kn, rfl, s1⟩
    have c1 := cA.same s1
    have ht1 := ht.same s1
    have eT := takes_eq (vars := vars) (P := PP) c ek ef
    rw [kn, if_pos rfl] at eT
    rw [eT] at k cl
    have cl : (setL (slotsS PP x rest ks) c.1).2.length ≤ 900 := cl
    -- the calls are counted
    refine ⟨fun σ H2 => σ = [some (.ref a.p), some v, none, none] ∧ PkAt K C H2 a vars PP c.1 (if x = "step" ∨ x = "close" then c.2 + 1 else c.2) ∧ ButP a H H2, ?_, ?_⟩
    · have ty := ht1
      cases ty with
      | @tup sa sxs _ hsa tsx =>
      cases tsx with
      | @cons y0 ys _ _ h0 tr =>
      cases h0 with
      | str _ hx =>
      refine ⟨_, rfl, sa, _, 0, _, rfl, rfl, hsa, at_of (j := 0) rfl rfl, (by show 2 ≤ sizeLine; decide), fun tp ntp => ?_⟩
      have s2 := same_new (o := .tup [.str "step", .str "close"]) ntp
      have c2 := c1.same s2
      obtain ⟨⟨dx2, ob2⟩, _⟩ := id c2
      refine ⟨tp, _, rfl, .inr (SqT.of upd_same), rfl, rfl, _, rfl, ?_⟩
      rw [show (if false = true then !inV (.str x) [.str "step", .str "close"] else inV (.str x) [.str "step", .str "close"]) = (decide (x = "step") || decide (x = "close")) from inV_two _ _ _]
      by_cases hx2 : x = "step" ∨ x = "close"
      · rw [if_pos hx2]
        have e : (decide (x = "step") || decide (x = "close")) = true := by
          rcases hx2 with h | h
          · rw [decide_eq_true h]; rfl
          · rw [decide_eq_true h, Bool.or_true]
        rw [e]
        obtain ⟨p1, p2⟩ := c2.calls (n' := c.2 + 1) ob2
        refine iteT ⟨_, rfl, a.p, C, dx2, _, _, rfl, ob2, X.cl, X.nC, pfs_c a c.2, _, _, rfl, rfl, dx2, _, ob2, (show 4 < 1000 by decide), rfl, p1, ((ButP.of s1).trans (ButP.of s2)).trans p2⟩
      · rw [if_neg hx2]
        have e : (decide (x = "step") || decide (x = "close")) = false := by
          rw [decide_eq_false fun h => hx2 (.inl h), decide_eq_false fun h => hx2 (.inr h)]; rfl
        rw [e]
        exact iteF ⟨rfl, c2, (ButP.of s1).trans (ButP.of s2)⟩
    rintro σ H2 ⟨rfl, c2, b2⟩
    have ht2 := ht.butP b2 cA c2
    generalize (if x = "step" ∨ x = "close" then c.2 + 1 else c.2) = nc at c2 k
    obtain ⟨⟨dx2, ob2⟩, _⟩ := id c2
    refine ⟨_, rfl, a.p, dx2, _, rfl, ob2, pfs_no a _ (by decide +kernel) (by decide +kernel) (by decide +kernel) (by decide +kernel), _, rfl, a, v, vars, PP, c.1, nc, x, rest, ks, rfl, c2, pf, ht2, ek, ef, kn, fun L H3 s3 pr => ?_⟩
    have c3 := c2.same s3
    have b3 := b2.trans (ButP.of s3)
    obtain ⟨ts, eL, lt, at1⟩ := id pr
    refine ⟨L, rfl, ⟨_, SqL.of eL⟩, for_list (K := K) (a := L) (xs := ts.map V.ref) (fun i σ H4 => ∃ (v2 v3 : Option V) (mi : Km), σ = [some (.ref a.p), some v, v2, v3] ∧ PkAt K C H4 a vars PP mi nc ∧ ButP a H3 H4 ∧ setL (slotsS PP x rest ks) c.1 = setL ((slotsS PP x rest ks).drop i) mi)
      ⟨none, none, c.1, rfl, c3, ButP.refl _ _, rfl⟩ (fun i σ H4 _ ⟨_, _, mi, _, c4, b4, _⟩ => b4.lst c3 (SqL.of eL)) ?_ ?_⟩
    · rintro i y σ H4 hi ⟨v2, v3, mi, rfl, c4, b4, e4⟩
      rw [List.getElem?_map] at hi
      cases eU : ts[i]? with
      | none => rw [eU] at hi; cases hi
      | some U =>
      rw [eU] at hi
      obtain rfl : V.ref U = y := Option.some.inj hi
      obtain ⟨⟨z, k'⟩, q1, q2⟩ := at1 i U eU
      have il : i < (slotsS PP x rest ks).length := (List.getElem?_eq_some_iff.mp q1).1
      have ed : (slotsS PP x rest ks).drop i = (z, k') :: (slotsS PP x rest ks).drop (i + 1) := by
        rw [List.drop_eq_getElem_cons il]
        congr 1
        exact Option.some.inj ((List.getElem?_eq_getElem il).symm.trans q1)
      rw [ed] at e4
      have eq : setL (slotsS PP x rest ks) c.1 = (match kget mi z with
          | none => setL ((slotsS PP x rest ks).drop (i + 1)) (mi ++ [(z, k')])
          | some k2 => if k2 = k' then setL ((slotsS PP x rest ks).drop (i + 1)) mi else (false, mi)) := e4
      have ml : mi.length ≤ 900 := by
        have := setL_len ((z, k') :: (slotsS PP x rest ks).drop (i + 1)) mi
        rw [← e4] at this
        omega
      obtain ⟨⟨dx4, ob4⟩, _, dc4, _⟩ := id c4
      refine ⟨U, _, rfl, b4.tup c3 q2, rfl, _, _, rfl, _, _, rfl, rfl, ?_⟩
      refine ⟨_, rfl, a.p, C, dx4, _, _, rfl, ob4, X.cl, X.nK, pfs_k a nc, a.d, rfl, .inl ⟨_, .inl dc4⟩, _, rfl, _, rfl, kk mi, .inr z, dc4, rfl, small1000 (by rw [kk_len]; omega), fun w hw => ?_, fun hno => ?_⟩
      · rw [valV_kk] at hw
        cases eg : kget mi z with
        | none => rw [eg] at hw; cases hw
        | some k2 =>
          rw [eg] at hw eq
          obtain rfl : V.str k2 = w := Option.some.inj hw
          refine ⟨_, rfl, rfl, _, rfl, ?_⟩
          rw [show decide (V.str k2 = V.str k') = decide (k2 = k') from eq_txt _ _]
          by_cases h2 : k2 = k'
          · rw [decide_eq_true h2]
            exact iteF ⟨_, _, mi, rfl, c4, b4, eq.trans (if_pos h2)⟩
          · rw [decide_eq_false h2]
            have e5 : setL (slotsS PP x rest ks) c.1 = (false, mi) := eq.trans (if_neg h2)
            refine iteT ?_
            have q := k H4 (by rw [e5]; exact c4) (b3.trans b4)
            rw [e5] at q
            exact q
      · rw [valV_kk] at hno
        cases eg : kget mi z with
        | some k2 => rw [eg] at hno; cases hno
        | none =>
          rw [eg] at eq
          rw [putK_kk eg]
          refine ⟨_, rfl, rfl, _, rfl, ?_⟩
          rw [show decide (V.str k' = V.str k') = true from decide_eq_true rfl]
          obtain ⟨p1, p2⟩ := c4.kinds (m' := mi ++ [(z, k')])
          exact iteF ⟨_, _, mi ++ [(z, k')], rfl, p1, b4.trans p2, eq⟩
    · rintro σ H4 ⟨v2, v3, mi, rfl, c4, b4, e4⟩
      have e0 : (slotsS PP x rest ks).drop (ts.map V.ref).length = [] := by rw [List.length_map, lt, List.drop_length]
      rw [e0] at e4
      have e5 : setL (slotsS PP x rest ks) c.1 = (true, mi) := e4
      have q := k H4 (by rw [e5]; exact c4) (b3.trans b4)
      rw [e5] at q
      exact q
end
end BK

set_option Elab.async false
set_option maxRecDepth 100000
set_option maxHeartbeats 4000000
set_option linter.unusedVariables false
/-! ProgramCheck.fault_in. -/
namespace BK
open PySem PySem.Spec PyProof.Rows L2 RZ ET
def spPFault (K : PySem.W.Frag) (C : Addr) (d : Nat) : Sp := fun vs H Q _ => ∃ a v vars P c ts, vs = [.ref a.p, v, .int (13 - (d : Int))] ∧ PkAt K C H a vars P c.1 c.2 ∧ PFew P ∧ TrAt K H v (.tup ts) ∧ thinTs ts = true ∧ (progD vars P d ts c).2.1.length ≤ 900 ∧ d ≤ 13 ∧
  ∀ H', PkAt K C H' a vars P (progD vars P d ts c).2.1 (progD vars P d ts c).2.2 → ButP a H H' → ((progD vars P d ts c).1 = none → Q .non H') ∧ ∀ w t, (progD vars P d ts c).1 = some w → SqT K H' t (wayV w) → Q (.ref t) H'
def spPRec (K : PySem.W.Frag) (C : Addr) : Nat → Sp
  | 0 => fun _ _ _ _ => False
  | d + 1 => spPFault K C d
abbrev nPFault : List Str := ["self", "program", "deep", "number", "step", "fault"]
theorem scPFault : FnScope nPFault ["self", "program", "deep"] (defScope sPFault) := ⟨rfl, rfl, rfl, by decide +kernel, rfl, by decide +kernel, by decide +kernel⟩
section
variable {vars : List Str} {P : List (Str × List Str)} {rec : List Tr → Ck → Fl} {t : Tr} {r : List Tr} {i : Nat} {c c' : Ck}
theorem progF_no (h : takesS vars P t c = (false, c')) : progF vars P rec false (t :: r) i c = (some [i], c') := by
  unfold progF
  rw [if_neg Bool.false_ne_true, h]
theorem progF_yes (h : takesS vars P t c = (true, c')) : progF vars P rec false (t :: r) i c = (match rec (progT t) c' with
      | (some w, c2) => (some (i :: 0 :: w), c2)
      | (none, c2) => progF vars P rec false r (i + 1) c2) := by
  conv => lhs; unfold progF
  rw [if_neg Bool.false_ne_true, h]
  all_goals rfl
theorem progF_takes (hr : ∀ b c, c.1.length ≤ (rec b c).2.1.length) : (takesS vars P t c).2.1.length ≤ (progF vars P rec false (t :: r) i c).2.1.length := by
  cases e : takesS vars P t c with
  | mk b c' =>
  cases b with
  | false => rw [progF_no e]; exact Nat.le_refl _
  | true =>
    rw [progF_yes e]
    have h2 := hr (progT t) c'
    split
    · rename_i w c2 e2
      rw [e2] at h2
      exact h2
    · rename_i c2 e2
      rw [e2] at h2
      exact Nat.le_trans h2 (progF_len vars P rec false hr r (i + 1) c2)
theorem progF_rec (hr : ∀ b c, c.1.length ≤ (rec b c).2.1.length) (e : takesS vars P t c = (true, c')) : (rec (progT t) c').2.1.length ≤ (progF vars P rec false (t :: r) i c).2.1.length := by
  rw [progF_yes e]
  split
  · rename_i w c2 e2
    rw [e2]; exact Nat.le_refl _
  · rename_i c2 e2
    rw [e2]
    exact progF_len vars P rec false hr r (i + 1) c2
end
section
variable {P : Program} {w : World} {K : PySem.W.Frag} {mg : Str → Option Value} {base : Heap}
theorem ok_pfault_step {C f fT fB : Addr} {fd fdT fdB : FuncData} (F : Fun K "fault_in" "ProgramCheck.fault_in" sPFault f fd) (X : TxP K mg C) (mE : mg "enumerate" = none) (mM : ∃ t, mg "MOST_DEEP" = some (.int 12 t))
    (GT : FnOk P w K mg base CX0 6 fT fdT ["self", "step"] (spPTakes K C)) (bT : Binds K fdT ["self", "step"] []) (mT : Meth K C "takes" fT)
    (GB : FnOk P w K mg base CX0 1 fB fdB ["step"] (spProgOf K)) (bB : Binds K fdB ["step"] []) (gB : mg "program_of" = some (.ref fB)) (kB : PySem.W.keepIn K (.ref fB) = true)
    (bF : Binds K fd ["self", "program", "deep"] []) (mF : Meth K C "fault_in" f) (d : Nat)
    (GR : FnOk P w K mg base CX0 (6 + d) f fd ["self", "program", "deep"] (spPRec K C d)) : FnOk P w K mg base CX0 (6 + d + 1) f fd ["self", "program", "deep"] (spPFault K C d) := by
  refine F.ok scPFault (fun vs H Q E h => ?_) (fun cdv A outer s H vs Q E hr h => ?_)
  · obtain ⟨a, v, vars, PP, c, ts, rfl, _⟩ := h
    rfl
  · obtain ⟨a, v, vars, PP, c, ts, rfl, cA, pf, ht, th, cl, dl, k⟩ := h
    obtain ⟨t1, gM⟩ := mM
    have hr6 : Room 6 _ := hr.mono (by omega)
    have hr1 : Room 1 _ := hr.mono (by omega)
    refine ⟨_, pss_cons (ps_for PassesOwn.never rfl (pi_enumT (by rfl) mE (pa_cons (pv 1) pa_nil))
        (pg_tup rfl (pgs_cons (pg_name (i := 3) scPFault.nd rfl (Or.inl rfl)) (pgs_cons (pg_name (i := 4) scPFault.nd rfl (Or.inl rfl)) pgs_nil)))
        (C8.pss_cut (ps_if (PW.pt (pw_or (pt_cmpR op_gt (pv 2) (pe_glob (v := .int 12) rfl gM ⟨_, rfl⟩) rfl)
            (pw_or1 (pt_not (pt_val (pe_meth (pv 0) X.cl mT GT hr6 bT .nil pass0 (pa_cons (pv 4) pa_nil))))))) (pss_one (ps_ret (pe_tup (pa_cons (pv 3) pa_nil)))) pss_nil)
        (pss_cons (ps_set (i := 5) scPFault.nd rfl (Or.inl rfl) (pe_meth (pv 0) X.cl mF GR hr bF .nil pass0 (pa_cons (pe_call GB hr1 rfl gB kB bB .nil pass0 (pa_cons (pv 4) pa_nil)) (pa_cons (pe_op op_add (pv 2) pe_int) pa_nil))))
        (pss_one (ps_if (pt_cmp (pc_notN (pv 5))) (pss_one (ps_ret (pe_op op_catA (pe_tup (pa_cons (pv 3) (pa_cons pe_int pa_nil))) (pv 5)))) pss_nil)))))
      (pss_one (ps_ret pe_non)), ?_⟩
    rw [progD_eq] at k cl
    cases ht with
    | @tup b xs _ h tr =>
    have xl := tr.len
    refine ⟨_, rfl, b, xs, rfl, h, for_it (walk_enumT (K := K) (a := b) (xs := xs)) (fun i σ H2 => ∃ (v3 v4 v5 : Option V) (c2 : Ck), σ = [some (.ref a.p), some (.ref b), some (.int (13 - (d : Int))), v3, v4, v5] ∧ PkAt K C H2 a vars PP c2.1 c2.2 ∧ ButP a H H2 ∧
        progF vars PP (recP vars PP d) (overP d) ts 0 c = progF vars PP (recP vars PP d) (overP d) (ts.drop i) i c2)
      ⟨none, none, none, c, rfl, cA, ButP.refl _ _, rfl⟩ (fun i σ H2 _ ⟨_, _, _, c2, _, _, b2, _⟩ => b2.tup cA h) ?_ ?_⟩
    · rintro i y σ H2 H3 hi ⟨v3, v4, v5, c2, rfl, k2, b2, e2⟩ ⟨T, xi, y', rfl, nT, rfl, q1, q2⟩
      obtain rfl : V.int (i : Nat) = xi := Option.some.inj q1
      have q2 : xs[i]? = some y' := q2
      have sT := same_new (o := .tup [.int (i : Nat), y']) nT
      obtain ⟨t, q3, _⟩ := tr.get q2
      have il : i < ts.length := (List.getElem?_eq_some_iff.mp q3).1
      have tht : thinT t = true := thins_mem th t (List.mem_of_getElem? q3)
      have ed : ts.drop i = t :: ts.drop (i + 1) := by
        rw [List.drop_eq_getElem_cons il]
        congr 1
        exact Option.some.inj ((List.getElem?_eq_getElem il).symm.trans q3)
      rw [ed] at e2
      have k3 := k2.same sT
      have b3 := b2.trans (ButP.of sT)
      have getY : ∀ {H' : Hp} {c' : Ck}, PkAt K C H' a vars PP c'.1 c'.2 → ButP a H H' → TrAt K H' y' t := fun {H' c'} kc bc => by
        obtain ⟨t', q4, ty⟩ := TrAll.get (tr.butP bc cA kc) q2
        obtain rfl : t = t' := Option.some.inj (q3.symm.trans q4)
        exact ty
      refine ⟨T, _, rfl, SqT.of upd_same, rfl, _, _, rfl, _, _, rfl, rfl, ?_⟩
      generalize upd H2 T (.tup [.int (i : Nat), y']) = H3 at k3 b3 sT ⊢
      cases d with
      | zero =>
        refine ⟨fun σ H4 => False, ?_, fun σ H4 z => z.elim⟩
        have e6 : progF vars PP (recP vars PP 0) (overP 0) ts 0 c = (some [i], c2) := e2
        rw [e6] at k
        refine ⟨_, rfl, _, _, rfl, rfl, _, rfl, ?_⟩
        refine iteT ⟨_, rfl, (by show 1 ≤ sizeLine; decide), fun p np => ?_⟩
        have sp := same_new (o := .tup [.int (i : Nat)]) np
        exact (k _ (k3.same sp) (b3.trans (ButP.of sp))).2 [i] p rfl (SqT.of upd_same)
      | succ d =>
      have e2 : progF vars PP (recP vars PP (d + 1)) (overP (d + 1)) ts 0 c = progF vars PP (progD vars PP d) false (t :: ts.drop (i + 1)) i c2 := e2
      have c2l : (takesS vars PP t c2).2.1.length ≤ 900 := by
        have := progF_takes (vars := vars) (P := PP) (rec := progD vars PP d) (t := t) (r := ts.drop (i + 1)) (i := i) (c := c2) (progD_len vars PP d)
        rw [← e2] at this
        exact Nat.le_trans this cl
      refine ⟨fun σ H5 => ∃ c5 : Ck, σ = [some (.ref a.p), some (.ref b), some (.int (13 - ((d + 1 : Nat) : Int))), some (.int (i : Nat)), some y', v5] ∧ takesS vars PP t c2 = (true, c5) ∧ PkAt K C H5 a vars PP c5.1 c5.2 ∧ ButP a H H5, ?_, ?_⟩
      · obtain ⟨⟨dx, ob⟩, _⟩ := id k3
        refine ⟨_, rfl, _, _, rfl, rfl, _, rfl, ?_⟩
        have eo : decide ((13 : Int) - ((d + 1 : Nat) : Int) > 12) = false := decide_eq_false (by omega)
        rw [eo]
        refine iteF ⟨_, rfl, a.p, dx, _, rfl, ob, pfs_no a _ (by decide +kernel) (by decide +kernel) (by decide +kernel) (by decide +kernel), _, rfl, a, y', vars, PP, c2, t, rfl, k3, pf, getY k3 b3, tht, c2l, fun H5 k5 b5 => ⟨_, rfl, ?_⟩⟩
        have b35 := b3.trans b5
        cases e5 : takesS vars PP t c2 with
        | mk bt c5 =>
        rw [e5] at k5
        cases bt with
        | true => exact iteF ⟨c5, rfl, rfl, k5, b35⟩
        | false =>
          have e6 : progF vars PP (recP vars PP (d + 1)) (overP (d + 1)) ts 0 c = (some [i], c5) := e2.trans (progF_no e5)
          rw [e6] at k
          refine iteT ⟨_, rfl, (by show 1 ≤ sizeLine; decide), fun p np => ?_⟩
          have sp := same_new (o := .tup [.int (i : Nat)]) np
          exact (k _ (k5.same sp) (b35.trans (ButP.of sp))).2 [i] p rfl (SqT.of upd_same)
      rintro σ H5 ⟨c5, rfl, e5, k5, b5⟩
      obtain ⟨x, rest, ks, rfl, ek, ef, _⟩ := takes_step e5
      have es : stepT (.tup (.str x :: rest)) = true := by
        show (match stepKinds x with
          | some ks => fitsT rest ks
          | none => false) = true
        rw [ek]
        exact ef
      obtain ⟨⟨dx, ob⟩, _⟩ := id k5
      have crl : (progD vars PP d (progT (.tup (.str x :: rest))) c5).2.1.length ≤ 900 := by
        have := progF_rec (vars := vars) (P := PP) (rec := progD vars PP d) (r := ts.drop (i + 1)) (i := i) (progD_len vars PP d) e5
        rw [← e2] at this
        exact Nat.le_trans this cl
      refine ⟨_, rfl, a.p, dx, _, rfl, ob, pfs_no a _ (by decide +kernel) (by decide +kernel) (by decide +kernel) (by decide +kernel), _, rfl, y', _, rfl, getY k5 b5, es, fun u H6 s6 tu => ?_⟩
      have k6 := k5.same s6
      have b6 := b5.trans (ButP.of s6)
      refine ⟨_, rfl, _, _, rfl, rfl, a, u, vars, PP, c5, progT (.tup (.str x :: rest)), ?_, k6, pf, tu, progT_thin tht, crl, by omega, fun H7 k7 b7 => ?_⟩
      · have : (13 : Int) - ((d + 1 : Nat) : Int) + 1 = 13 - (d : Int) := by omega
        show [V.ref a.p, u, V.int (13 - ((d + 1 : Nat) : Int) + 1)] = _
        rw [this]
      have b67 := b6.trans b7
      cases e7 : progD vars PP d (progT (.tup (.str x :: rest))) c5 with
      | mk rr c7 =>
      rw [e7] at k7
      have e8 := e2.trans (progF_yes e5)
      rw [e7] at e8
      refine ⟨fun er => ?_, fun w t4 er ht4 => ?_⟩
      · have er : rr = none := er
        subst er
        exact ⟨_, rfl, _, rfl, iteF ⟨_, _, _, c7, rfl, k7, b67, e8⟩⟩
      · have er : rr = some w := er
        subst er
        have e8 : progF vars PP (recP vars PP (d + 1)) (overP (d + 1)) ts 0 c = (some (i :: 0 :: w), c7) := e8
        rw [e8] at k
        have wl := progD_way vars PP d _ c5 w (by rw [e7])
        refine ⟨_, rfl, _, rfl, iteT ⟨_, rfl, (by show 2 ≤ sizeLine; decide), fun p np => ⟨_, rfl, ?_⟩⟩⟩
        have sp := same_new (o := .tup [.int (i : Nat), .int 0]) np
        have e0 : wayV (i :: 0 :: w) = [.int (i : Nat), .int 0] ++ wayV w := rfl
        refine ⟨p, t4, [.int (i : Nat), .int 0], wayV w, rfl, rfl, SqT.of upd_same, sqt_same sp ht4, ?_, fun e => (by cases e), fun _ e => ?_, fun _ _ q nq => ?_⟩
        · rw [way_len, sizeLine_eq]
          simp only [List.length_cons, List.length_nil]
          omega
        · refine (k _ (k7.same sp) (b67.trans (ButP.of sp))).2 _ p rfl ?_
          rw [e0, e, List.append_nil]
          exact SqT.of upd_same
        · have sq := same_new (o := .tup ([.int (i : Nat), .int 0] ++ wayV w)) nq
          exact (k _ ((k7.same sp).same sq) ((b67.trans (ButP.of sp)).trans (ButP.of sq))).2 _ q rfl (SqT.of upd_same)
    · rintro σ H2 ⟨v3, v4, v5, c2, rfl, k2, b2, e2⟩
      have e0 : ts.drop xs.length = [] := by rw [xl, List.drop_length]
      rw [e0] at e2
      have e2 : progF vars PP (recP vars PP d) (overP d) ts 0 c = (none, c2) := e2
      rw [e2] at k
      exact (k H2 k2 b2).1 rfl
theorem ok_pfault {C f fT fB : Addr} {fd fdT fdB : FuncData} (F : Fun K "fault_in" "ProgramCheck.fault_in" sPFault f fd) (X : TxP K mg C) (mE : mg "enumerate" = none) (mM : ∃ t, mg "MOST_DEEP" = some (.int 12 t))
    (GT : FnOk P w K mg base CX0 6 fT fdT ["self", "step"] (spPTakes K C)) (bT : Binds K fdT ["self", "step"] []) (mT : Meth K C "takes" fT)
    (GB : FnOk P w K mg base CX0 1 fB fdB ["step"] (spProgOf K)) (bB : Binds K fdB ["step"] []) (gB : mg "program_of" = some (.ref fB)) (kB : PySem.W.keepIn K (.ref fB) = true)
    (bF : Binds K fd ["self", "program", "deep"] []) (mF : Meth K C "fault_in" f) : ∀ d, FnOk P w K mg base CX0 (6 + d + 1) f fd ["self", "program", "deep"] (spPFault K C d)
  | 0 => ok_pfault_step F X mE mM GT bT mT GB bB gB kB bF mF 0 (fn_false fun _ => trivial)
  | d + 1 => ok_pfault_step F X mE mM GT bT mT GB bB gB kB bF mF (d + 1) (ok_pfault F X mE mM GT bT mT GB bB gB kB bF mF d)
end
end BK

set_option Elab.async false
set_option maxRecDepth 100000
set_option maxHeartbeats 4000000
set_option linter.unusedVariables false
/-! checked, need_program. -/
namespace BK
open PySem PySem.Spec PyProof.Rows L2 RZ ET
abbrev sChecked : Stmt := top 50
abbrev sNeedP : Stmt := top 51
abbrev sBadPInit : Stmt := inClass (top 3) 0
theorem scChecked : FnScope ["book", "thing", "check", "place"] ["book", "thing"] (defScope sChecked) := ⟨rfl, rfl, rfl, by decide +kernel, rfl, by decide +kernel, by decide +kernel⟩
theorem scNeedP : FnScope ["book", "thing"] ["book", "thing"] (defScope sNeedP) := ⟨rfl, rfl, rfl, by decide +kernel, rfl, by decide +kernel, by decide +kernel⟩
theorem scBadPInit : FnScope ["self", "place"] ["self", "place"] (defScope sBadPInit) := ⟨rfl, rfl, rfl, by decide +kernel, rfl, by decide +kernel, by decide +kernel⟩
def varsB : Tr → List Str
  | .tup [.tup vs, .tup _] => texts vs
  | _ => []
def piecesB : Tr → List (Str × List Str)
  | .tup [.tup _, .tup ps] => ps.map parP
  | _ => []
theorem pieces_none {vars : List Str} : ∀ {ts : List Tr} {i : Nat} {ns : List Str}, piecesL vars ts i ns = none → (∀ p ∈ ts, tripleT p = true) ∧ (∀ p ∈ ts, wordS p ∉ ns) ∧ (ts.map wordS).Nodup
  | [], _, _, _ => ⟨fun _ h => (by cases h), fun _ h => (by cases h), List.nodup_nil⟩
  | t :: r, i, ns, h => by
    have h : (if tripleT t = true ∧ wordS t ∉ ns then (match (faultD vars 5 (blockOf t) [] (kindsP (paramsOf t), 0)).1 with
      | some w => some (Place.way i w)
      | none => piecesL vars r (i + 1) (ns ++ [wordS t])) else some (.at_ i)) = none := h
    by_cases hc : tripleT t = true ∧ wordS t ∉ ns
    · rw [if_pos hc] at h
      cases e : (faultD vars 5 (blockOf t) [] (kindsP (paramsOf t), 0)).1 with
      | some w => rw [e] at h; cases h
      | none =>
        rw [e] at h
        obtain ⟨h1, h2, h3⟩ := pieces_none h
        refine ⟨fun p hp => ?_, fun p hp => ?_, ?_⟩
        · rcases List.mem_cons.mp hp with rfl | hp
          · exact hc.1
          · exact h1 p hp
        · rcases List.mem_cons.mp hp with rfl | hp
          · exact hc.2
          · exact fun q => h2 p hp (List.mem_append_left _ q)
        · rw [List.map_cons, List.nodup_cons]
          refine ⟨fun q => ?_, h3⟩
          obtain ⟨p, hp, e2⟩ := List.mem_map.mp q
          exact h2 p hp (List.mem_append_right _ (by rw [e2]; exact List.mem_cons_self))
    · rw [if_neg hc] at h
      cases h
theorem texts_str : ∀ {ts : List Tr}, ts.all nameT = true → ts = (texts ts).map Tr.str
  | [], _ => rfl
  | t :: r, h => by
    rw [List.all_cons, Bool.and_eq_true] at h
    obtain ⟨s, rfl⟩ := name_str h.1
    show Tr.str s :: r = Tr.str s :: (texts r).map Tr.str
    rw [← texts_str h.2]
theorem book_shape {bt : Tr} (h : faultT bt = none) : ∃ ps, bt = .tup [.tup ((varsB bt).map Tr.str), .tup ps] ∧ piecesB bt = ps.map parP ∧ ps.length ≤ 6 ∧ (∀ p ∈ ps, tripleT p = true) ∧ (ps.map wordS).Nodup := by
  unfold faultT at h
  split at h
  · rename_i vs ps
    split at h
    · cases h
    · rename_i n6
      split at h
      · rename_i q
        obtain ⟨h1, _, h3⟩ := pieces_none h
        refine ⟨ps, ?_, rfl, by omega, h1, h3⟩
        have e := texts_str (ts := vs) (Bool.and_eq_true_iff.mp q.2.2).1
        show Tr.tup [.tup vs, .tup ps] = .tup [.tup ((texts vs).map Tr.str), .tup ps]
        rw [← e]
      · cases h
  · cases h
theorem few_pieces {ps : List Tr} (h : ∀ p ∈ ps, tripleT p = true) : PFew (ps.map parP) := fun s ks e => by
  unfold pget at e
  cases q : (ps.map parP).find? fun e => decide (e.1 = s) with
  | none => rw [q] at e; cases e
  | some z =>
    rw [q] at e
    obtain rfl : z.2 = ks := Option.some.inj e
    obtain ⟨p, hp, rfl⟩ := List.mem_map.mp (List.mem_of_find?_eq_some q)
    obtain ⟨n, prm, bts, rfl, hprm⟩ := triple_shape (h p hp)
    cases prm with
    | tup qs =>
      show ((qs.filterMap pairKm).map (·.2)).length ≤ 2
      rw [List.length_map]
      exact Nat.le_trans (List.length_filterMap_le _ _) (params_split hprm).1
    | _ => cases hprm
/-- what a call of checked may do: the error's class, its place -/
def spChecked (K : PySem.W.Frag) (C CB CP : Addr) : Sp := fun vs H Q E => ∃ bv v bt t, vs = [bv, v] ∧ TrAt K H bv bt ∧ TrAt K H v t ∧ thinT t = true ∧
  (faultT bt = none → ∀ ts, t = .tup ts → (progD (varsB bt) (piecesB bt) 13 ts ([], 0)).2.1.length ≤ 900) ∧
  (faultT bt = none → faultP (varsB bt) (piecesB bt) t = none → ∀ (a : PA_) (m : Km) (n : Nat) (H' : Hp), Same H H' → H a.p = none → PkAt K C H' a (varsB bt) (piecesB bt) m n → Q (.ref a.p) H') ∧
  (∀ p, faultT bt = some p → ∀ pv d H', Same H H' → H d = none → H' d = some (.xd [("place", pv)]) → TrAt K H' pv (placeT p) → E (.ref CB) (some d) H') ∧
  (faultT bt = none → ∀ w, faultP (varsB bt) (piecesB bt) t = some w → ∀ pv d H', Same H H' → H d = none → H' d = some (.xd [("place", pv)]) → TrAt K H' pv (.tup (intsT w)) → E (.ref CP) (some d) H')
def spNeedP (K : PySem.W.Frag) (CB CP : Addr) : Sp := fun vs H Q E => ∃ bv v bt t, vs = [bv, v] ∧ TrAt K H bv bt ∧ TrAt K H v t ∧ thinT t = true ∧
  (faultT bt = none → ∀ ts, t = .tup ts → (progD (varsB bt) (piecesB bt) 13 ts ([], 0)).2.1.length ≤ 900) ∧
  (faultT bt = none → faultP (varsB bt) (piecesB bt) t = none → ∀ H', Same H H' → Q v H') ∧
  (∀ p, faultT bt = some p → ∀ pv d H', Same H H' → H d = none → H' d = some (.xd [("place", pv)]) → TrAt K H' pv (placeT p) → E (.ref CB) (some d) H') ∧
  (faultT bt = none → ∀ w, faultP (varsB bt) (piecesB bt) t = some w → ∀ pv d H', Same H H' → H d = none → H' d = some (.xd [("place", pv)]) → TrAt K H' pv (.tup (intsT w)) → E (.ref CP) (some d) H')
section
variable {P : Program} {w : World} {K : PySem.W.Frag} {mg : Str → Option Value} {base : Heap}
theorem ok_badPInit {C f : Addr} {fd : FuncData} (F : Fun K "__init__" "BadProgram.__init__" sBadPInit f fd) (T : OexC K C) (np : PySem.W.findIn K (.ref C) "place" = some none) : FnOk P w K mg base CX0 1 f fd ["self", "place"] (spBadI K C) := by
  refine F.ok scBadPInit (fun vs H Q E h => ?_) (fun cdv A outer s H vs Q E hr h => ?_)
  · obtain ⟨a, v, rfl, _⟩ := h
    rfl
  · obtain ⟨a, v, rfl, ha, k⟩ := h
    refine ⟨_, pss_one (ps_ost (pv 0) (pv 1)), ?_⟩
    exact ⟨_, rfl, _, rfl, a, C, rfl, T, np, .inl ⟨ha, fun dx nd ne => k dx nd ne⟩⟩
theorem raised_same {H1 : Hp} {b d : Addr} {o1 o2 o3 o4 : HO} (nb : H1 b = none) (nd : H1 d = none) : Same H1 (upd (del (upd (upd (upd H1 b o1) d o2) b o3) b) d o4) := fun c o ec => by
  have h1 := ne_of_none ec nb
  have h2 := ne_of_none ec nd
  rw [upd_ne h2, del_ne h1, upd_ne h1, upd_ne h2, upd_ne h1]
  exact ec
theorem ok_checked {C CB CP f fN fI fF fE : Addr} {fd fdN fdI fdF fdE : FuncData} (F : Fun K "checked" "checked" sChecked f fd) (X : TxP K mg C) (mI : mg "isinstance" = none) (mT : mg "tuple" = none)
    (GN : FnOk P w K mg base (L2.CX P w) 17 fN fdN ["thing"] (spNeed K CB)) (bN : Binds K fdN ["thing"] []) (gN : mg "need_book" = some (.ref fN)) (kN : PySem.W.keepIn K (.ref fN) = true)
    (M : Mk K C fI) (GI : FnOk P w K mg base CX0 2 fI fdI ["self", "book"] (spPInit K C)) (bI : Binds K fdI ["self", "book"] [])
    (GF : FnOk P w K mg base CX0 20 fF fdF ["self", "program", "deep"] (spPFault K C 13)) (bF : Binds K fdF ["self", "program", "deep"] []) (mF : Meth K C "fault_in" fF)
    (T : OexC K CP) (gP : mg "BadProgram" = some (.ref CP)) (iC : PySem.W.findIn K (.ref CP) "__init__" = some (some (.ref fE))) (tI : PySem.W.typeIn K (.ref fE) = some (.type "function")) (GE : FnOk P w K mg base CX0 1 fE fdE ["self", "place"] (spBadI K CP)) (bE : Binds K fdE ["self", "place"] []) :
    FnOk P w K mg base (L2.CX P w) 21 f fd ["book", "thing"] (spChecked K C CB CP) := by
  refine F.okX scChecked (fun vs H Q E h => ?_) (fun cdv A outer s H vs Q E hr h => ?_)
  · obtain ⟨bv, v, bt, t, rfl, _⟩ := h
    rfl
  · obtain ⟨bv, v, bt, t, rfl, hb, ht, th, cl, k1, k2, k3⟩ := h
    have hr17 : Room 17 _ := hr.mono (by decide)
    have hr3 : Room 3 _ := hr.mono (by decide)
    have hr2 : Room 2 _ := hr.mono (by decide)
    refine ⟨_, C8.pss_cut (ps_set (i := 2) scChecked.nd rfl (Or.inl rfl) (pe_make M GI hr3 rfl X.mgC bI .nil pass0 (pa_cons (pe_call GN hr17 rfl gN kN bN .nil (E := E) (passes_call (takes_of rfl rfl rfl rfl) (fun _ _ _ _ h => h)) (pa_cons (pv 0) pa_nil)) pa_nil)))
      (C8.pss_cut (ps_if (pt_not (pt_val (pe_callB call_isi (by rfl) mI boot_isinstance (pa_cons (pv 1) (pa_cons (pe_bltn (v := .ty "tuple") (u := .type "tuple") (by rfl) mT (by decide +kernel) rfl) pa_nil)))))
          (pss_one (ps_raise rfl (takes_of rfl rfl rfl rfl) (pmk_oex T iC tI GE hr2 bE .nil pass0 (by rfl) gP (pa_cons (pe_tup pa_nil) pa_nil)))) pss_nil)
      (pss_cons (ps_set (i := 3) scChecked.nd rfl (Or.inl rfl) (pe_meth (pv 2) X.cl mF GF hr bF .nil pass0 (pa_cons (pv 1) (pa_cons pe_int pa_nil))))
      (pss_cons (ps_if (pt_cmp (pc_notN (pv 3))) (pss_one (ps_raise rfl (takes_of rfl rfl rfl rfl) (pmk_oex T iC tI GE hr2 bE .nil pass0 (by rfl) gP (pa_cons (pv 3) pa_nil)))) pss_nil)
      (pss_one (ps_ret (pv 2)))))), ?_⟩
    refine ⟨fun σ H1 => faultT bt = none ∧ ∃ a : PA_, σ = [some bv, some v, some (.ref a.p), none] ∧ Same H H1 ∧ H a.p = none ∧ H a.d = none ∧ PkAt K C H1 a (varsB bt) (piecesB bt) [] 0, ?_, ?_⟩
    · refine ⟨_, rfl, bv, bt, rfl, hb, fun e H1 s1 => fun x dx nx ndx nxd => ?_, fun p e pv d H1 s1 nd ed tp => k2 p e pv d H1 s1 nd ed tp⟩
      obtain ⟨ps, eb, eP, l6, htr, hnd⟩ := book_shape e
      have s2 : Same H1 (upd (upd H1 dx (.own x)) x (.ins C dx [])) := fun b o e => by
        rw [upd_ne (ne_of_none e nx), upd_ne (ne_of_none e ndx)]
        exact e
      have tb := hb.same (s1.trans s2)
      rw [eb] at tb
      refine ⟨x, dx, bv, varsB bt, ps, rfl, upd_same, tb, htr, hnd, by omega, fun a H3 ea hd0 cA kp => ?_⟩
      subst ea
      rw [← eP] at cA
      exact ⟨rfl, e, a, rfl, fun b o eb => kp b o (s2 b o (s1 b o eb)) (ne_of_none (s1 _ _ eb) nx), s1.free nx, (s1.trans s2).free hd0, cA⟩
    rintro σ H1 ⟨e, a, rfl, s1, na, nda, c1⟩
    refine ⟨fun σ H2 => σ = [some bv, some v, some (.ref a.p), none] ∧ H1 = H2 ∧ ∃ ts, t = .tup ts, ?_, ?_⟩
    · have ht1 := ht.same s1
      refine ⟨_, rfl, v, .ty "tuple", .type (tyT t), .type "tuple", isTup t, rfl, .ty "tuple", ht1.ty, k_tup K t, _, rfl, ?_⟩
      cases et : isTup t with
      | true =>
        refine iteF ⟨rfl, rfl, ?_⟩
        cases t with
        | tup ts => exact ⟨ts, rfl⟩
        | _ => cases et
      | false =>
        have ef : faultP (varsB bt) (piecesB bt) t = some [] := by
          cases t with
          | tup ts => cases et
          | _ => rfl
        refine iteT ⟨Nat.zero_le _, fun p np => ⟨(show 1 ≤ 1000 by decide), fun b nb => ⟨b, .ref p, rfl, upd_same, fun d nd ne => ⟨rfl, d, _, upd_same, by rw [upd_ne ne, upd_same], ?_, ?_⟩⟩⟩⟩
        · rw [upd_ne ne] at nd; exact nd
        · rw [upd_ne ne] at nd
          have sp := same_new (o := .tup []) np
          have sr := raised_same (o1 := exo b CP none) (o2 := exd d [("place", .ref p)]) (o3 := exo b CP (some d)) (o4 := .xd [("place", .ref p)]) nb nd
          exact k3 e [] ef (.ref p) d _ ((s1.trans sp).trans sr) ((s1.trans sp).free nd) upd_same (.tup (sqt_same sr (SqT.of upd_same)) .nil)
    rintro σ H2 ⟨rfl, rfl, ts, rfl⟩
    obtain ⟨⟨dx, ob⟩, _⟩ := id c1
    obtain ⟨ps, eb, eP, l6, htr, hnd⟩ := book_shape e
    refine ⟨_, rfl, a.p, dx, _, rfl, ob, pfs_no a _ (by decide +kernel) (by decide +kernel) (by decide +kernel) (by decide +kernel), _, rfl, a, v, varsB bt, piecesB bt, ([], 0), ts, ?_, c1, by rw [eP]; exact few_pieces htr, ht.same s1, (thin_tup th).2, cl e ts rfl, Nat.le_refl _, fun H3 c3 b3 => ?_⟩
    · show [V.ref a.p, v, V.int 0] = [V.ref a.p, v, V.int (13 - ((13 : Nat) : Int))]
      rw [show (13 : Int) - ((13 : Nat) : Int) = 0 from rfl]
    have s3 : Same H H3 := fun b o eb => b3 b o (s1 b o eb) (ne_of_none eb na) (ne_of_none eb nda)
    refine ⟨fun er => ?_, fun w t4 er h4 => ?_⟩
    · exact ⟨_, rfl, _, rfl, iteF ⟨_, rfl, k1 e er a _ _ H3 s3 na c3⟩⟩
    · refine ⟨_, rfl, _, rfl, iteT ⟨_, rfl, (show 1 ≤ 1000 by decide), fun b nb => ⟨b, .ref t4, rfl, upd_same, fun d nd ne => ⟨rfl, d, _, upd_same, by rw [upd_ne ne, upd_same], ?_, ?_⟩⟩⟩⟩
      · rw [upd_ne ne] at nd; exact nd
      · rw [upd_ne ne] at nd
        have sr := raised_same (o1 := exo b CP none) (o2 := exd d [("place", .ref t4)]) (o3 := exo b CP (some d)) (o4 := .xd [("place", .ref t4)]) nb nd
        exact k3 e w er (.ref t4) d _ (s3.trans sr) (s3.free nd) upd_same (.tup (sqt_same sr h4) (wayV_tr w))
theorem ok_needP {C CB CP f fC : Addr} {fd fdC : FuncData} (F : Fun K "need_program" "need_program" sNeedP f fd)
    (GC : FnOk P w K mg base (L2.CX P w) 21 fC fdC ["book", "thing"] (spChecked K C CB CP)) (bC : Binds K fdC ["book", "thing"] []) (gC : mg "checked" = some (.ref fC)) (kC : PySem.W.keepIn K (.ref fC) = true) :
    FnOk P w K mg base (L2.CX P w) 22 f fd ["book", "thing"] (spNeedP K CB CP) := by
  refine F.okX scNeedP (fun vs H Q E h => ?_) (fun cdv A outer s H vs Q E hr h => ?_)
  · obtain ⟨bv, v, bt, t, rfl, _⟩ := h
    rfl
  · obtain ⟨bv, v, bt, t, rfl, hb, ht, th, cl, k1, k2, k3⟩ := h
    refine ⟨_, pss_cons (ps_expr (pe_call GC hr rfl gC kC bC .nil (E := E) (passes_call (takes_of rfl rfl rfl rfl) (fun _ _ _ _ h => h)) (pa_cons (pv 0) (pa_cons (pv 1) pa_nil)))) (pss_one (ps_ret (pv 1))), ?_⟩
    exact ⟨_, rfl, _, rfl, bv, v, bt, t, rfl, hb, ht, th, cl, fun e ef a m n H' s' na cA => ⟨_, rfl, k1 e ef H' s'⟩, k2, k3⟩
end
end BK

set_option Elab.async false
set_option maxRecDepth 100000
set_option maxHeartbeats 8000000
set_option linter.unusedSimpArgs false
set_option linter.unusedVariables false
/-! steps of each form, right and wrong: evaluated -/
namespace BK
open PySem PySem.Spec PyProof.Rows L2
theorem sk_set : stepKinds ("set" : Str) = some [("variable" : Str), ("value" : Str)] := by decide +kernel
theorem sk_hold : stepKinds ("hold" : Str) = some [("token" : Str), ("variable" : Str), ("value" : Str)] := by decide +kernel
theorem sk_reset : stepKinds ("reset" : Str) = some [("token" : Str)] := by decide +kernel
theorem sk_drop : stepKinds ("drop" : Str) = some [("variable" : Str)] := by decide +kernel
theorem sk_show : stepKinds ("show" : Str) = some [("variable" : Str)] := by decide +kernel
theorem sk_copy : stepKinds ("copy" : Str) = some [("context" : Str)] := by decide +kernel
theorem sk_within : stepKinds ("within" : Str) = some [("context" : Str), ("block" : Str)] := by decide +kernel
theorem sk_guard : stepKinds ("guard" : Str) = some [("block" : Str)] := by decide +kernel
theorem sk_make : stepKinds ("make" : Str) = some [("piece" : Str), ("name" : Str), ("args" : Str)] := by decide +kernel
theorem sk_step : stepKinds ("step" : Str) = some [("piece" : Str)] := by decide +kernel
theorem sk_close : stepKinds ("close" : Str) = some [("piece" : Str)] := by decide +kernel
theorem sk_Set : stepKinds ("Set" : Str) = none := by decide +kernel
theorem sk_empty : stepKinds ("" : Str) = none := by decide +kernel
theorem sk_if : stepKinds ("if" : Str) = none := by decide +kernel
theorem sk_with : stepKinds ("with" : Str) = none := by decide +kernel
theorem sk_loop : stepKinds ("loop" : Str) = none := by decide +kernel
theorem sk_leave : stepKinds ("leave" : Str) = none := by decide +kernel
theorem sk_yield : stepKinds ("yield" : Str) = none := by decide +kernel
theorem sk_fail : stepKinds ("fail" : Str) = none := by decide +kernel
theorem sk_play : stepKinds ("play" : Str) = none := by decide +kernel
theorem sp_variable (t : Tr) : partT t "variable" = nameT t := rfl
theorem sp_token (t : Tr) : partT t "token" = nameT t := rfl
theorem sp_context (t : Tr) : partT t "context" = nameT t := rfl
theorem sp_piece (t : Tr) : partT t "piece" = nameT t := rfl
theorem sp_name (t : Tr) : partT t "name" = nameT t := rfl
theorem sp_block (t : Tr) : partT t "block" = isTup t := rfl
theorem sp_args (t : Tr) : partT t "args" = argsT t := rfl
theorem sp_value (t : Tr) : partT t "value" = numT 9999 t := rfl
theorem s3_context : slotK3 "context" = true := by decide
theorem s3_token : slotK3 "token" = true := by decide
theorem s3_piece : slotK3 "piece" = true := by decide
theorem s3_variable : slotK3 "variable" = false := by decide
theorem s3_value : slotK3 "value" = false := by decide
theorem s3_block : slotK3 "block" = false := by decide
theorem s3_name : slotK3 "name" = false := by decide
theorem s3_args : slotK3 "args" = false := by decide
theorem slp_int (i : Int) (k : Str) : slotPr (.int i, k) = none := rfl
theorem slp_tup (ts : List Tr) (k : Str) : slotPr (.tup ts, k) = none := rfl
theorem ns_nine : nameS "abcdefghi" = false := by decide +kernel
theorem ns_empty : nameS "" = false := by decide +kernel
theorem ns_A : nameS "A" = false := by decide +kernel
theorem kget_snoc {m : Km} {s z k : Str} (h : kget m z = none) : kget (m ++ [(z, k)]) s = if z = s then some k else kget m s := by
  unfold kget at h ⊢
  rw [List.find?_append]
  by_cases e : z = s
  · subst e
    rw [if_pos rfl]
    cases q : m.find? fun e => decide (e.1 = z) with
    | none => simp
    | some p => rw [q] at h; cases h
  · rw [if_neg e]
    cases q : m.find? fun e => decide (e.1 = s) with
    | none => simp [e]
    | some p => simp
/-- the kinds so far: c a context, t a token, g a piece; new is none yet -/
structure K3 (c t g new : Str) (km : Km) : Prop where
  kc : kget km c = some ("context" : Str)
  kt : kget km t = some ("token" : Str)
  kg : kget km g = some ("piece" : Str)
  kn : kget km new = none
/-- a step, and what is within it; d: what may be within -/
def one13 (vars : List Str) (P : List (Str × List Str)) (d : Nat) (t : Tr) (c : Ck) : Fl := match takesS vars P t c with
  | (false, c') => (some [], c')
  | (true, c') => match progD vars P d (progT t) c' with
    | (some w, c2) => (some (0 :: w), c2)
    | (none, c2) => (none, c2)
theorem progF_one (vars : List Str) (P : List (Str × List Str)) (d : Nat) (t : Tr) (r : List Tr) (i : Nat) (c : Ck) : progF vars P (progD vars P d) false (t :: r) i c = match one13 vars P d t c with
  | (some w, c2) => (some (i :: w), c2)
  | (none, c2) => progF vars P (progD vars P d) false r (i + 1) c2 := by
  unfold one13
  conv => lhs; unfold progF
  rw [if_neg Bool.false_ne_true]
  cases e : takesS vars P t c with
  | mk b c' =>
  cases b with
  | false => all_goals rfl
  | true =>
    dsimp only
    cases e2 : progD vars P d (progT t) c' with
    | mk x c2 => cases x <;> rfl
/-- the names of a script -/
structure Nms (x y c t g none new p q r : Str) : Prop where
  hx : nameS x = true
  hy : nameS y = true
  hc : nameS c = true
  ht : nameS t = true
  hg : nameS g = true
  hn : nameS none = true
  hw : nameS new = true
  hp : nameS p = true
  hq : nameS q = true
  hr : nameS r = true
  nx : ¬ none = x
  ny : ¬ none = y
  np : ¬ p = none
  nq : ¬ q = none
  nr : ¬ r = none
  pq : ¬ p = q
  pr : ¬ p = r
  qr : ¬ q = r
  wc : ¬ new = c
  wt : ¬ new = t
  wg : ¬ new = g
abbrev P3 (p q r : Str) : List (Str × List Str) := [(p, []), (q, ["context", "token"]), (r, ["context", "context"])]
end BK
namespace BK
open PySem PySem.Spec PyProof.Rows L2
def cGood0 (x y c t g none new p q r : Str) : List Tr := [(.tup [(.str "set"), (.str x), (.int 0)]),
  (.tup [(.str "set"), (.str y), (.int 9999)]),
  (.tup [(.str "hold"), (.str t), (.str x), (.int 9999)]),
  (.tup [(.str "reset"), (.str t)]),
  (.tup [(.str "drop"), (.str x)]),
  (.tup [(.str "show"), (.str y)])]
def cGood1 (x y c t g none new p q r : Str) : List Tr := [(.tup [(.str "copy"), (.str c)]),
  (.tup [(.str "within"), (.str c), (.tup [])]),
  (.tup [(.str "within"), (.str c), (.tup [(.tup [(.str "show"), (.str x)]), (.tup [(.str "close"), (.str g)])])]),
  (.tup [(.str "guard"), (.tup [])])]
def cGood2 (x y c t g none new p q r : Str) : List Tr := [(.tup [(.str "guard"), (.tup [(.tup [(.str "guard"), (.tup [(.tup [(.str "reset"), (.str t)])])]), (.tup [(.str "step"), (.str g)])])]),
  (.tup [(.str "make"), (.str g), (.str p), (.tup [])]),
  (.tup [(.str "make"), (.str g), (.str q), (.tup [(.str c), (.str t)])])]
def cGood3 (x y c t g none new p q r : Str) : List Tr := [(.tup [(.str "make"), (.str g), (.str r), (.tup [(.str c), (.str c)])]),
  (.tup [(.str "make"), (.str g), (.str r), (.tup [(.str c), (.str new)])]),
  (.tup [(.str "make"), (.str new), (.str p), (.tup [])])]
def cGood4 (x y c t g none new p q r : Str) : List Tr := [(.tup [(.str "step"), (.str g)]),
  (.tup [(.str "close"), (.str g)]),
  (.tup [(.str "step"), (.str new)]),
  (.tup [(.str "hold"), (.str new), (.str y), (.int 0)])]
def allGood (x y c t g none new p q r : Str) : List Tr := ((((cGood0 x y c t g none new p q r) ++ cGood1 x y c t g none new p q r) ++ cGood2 x y c t g none new p q r) ++ cGood3 x y c t g none new p q r) ++ cGood4 x y c t g none new p q r
def cWrong0 (x y c t g none new p q r : Str) : List Tr := [.non,
  (.int 5),
  (.str "set"),
  (.tup []),
  .lst,
  .dct,
  (.tup [(.str "")]),
  (.tup [(.str "Set"), (.str x), (.int 0)]),
  .lst,
  (.tup [(.tup [(.str "show"), (.str x)])]),
  (.tup [.non]),
  (.tup [(.str "set")])]
def cWrong1 (x y c t g none new p q r : Str) : List Tr := [(.tup [(.str "set"), (.str x)]),
  (.tup [(.str "set"), (.str x), (.int 10000)]),
  (.tup [(.str "set"), (.str x), (.int (-1))]),
  (.tup [(.str "set"), (.str x), (.bl true)]),
  (.tup [(.str "set"), (.str x), .non]),
  (.tup [(.str "set"), (.str x), (.str y)])]
def cWrong2 (x y c t g none new p q r : Str) : List Tr := [(.tup [(.str "set"), (.str none), (.int 0)]),
  (.tup [(.str "set"), (.str x), (.int 0), (.int 0)]),
  (.tup [(.str "set"), (.int 0), (.str x)]),
  (.tup [(.str "set"), (.str x), (.str "5")]),
  (.tup [(.str "hold"), (.str t), (.str x)])]
def cWrong3 (x y c t g none new p q r : Str) : List Tr := [(.tup [(.str "hold"), (.str t), (.str x), (.str y)]),
  (.tup [(.str "hold"), (.str c), (.str x), (.int 5)]),
  (.tup [(.str "hold"), (.str g), (.str x), (.int 5)]),
  (.tup [(.str "hold"), (.str t), (.str none), (.int 5)]),
  (.tup [(.str "hold"), (.str t), (.str x), (.int 10000)])]
def cWrong4 (x y c t g none new p q r : Str) : List Tr := [(.tup [(.str "hold"), (.str ""), (.str x), (.int 5)]),
  (.tup [(.str "hold"), (.int 5), (.str x), (.int 5)])]
def cWrong5 (x y c t g none new p q r : Str) : List Tr := [(.tup [(.str "reset"), (.str c)]),
  (.tup [(.str "reset"), (.str g)]),
  (.tup [(.str "reset")]),
  (.tup [(.str "reset"), (.str "abcdefghi")]),
  (.tup [(.str "reset"), .non]),
  (.tup [(.str "reset"), (.str t), (.str t)])]
def cWrong6 (x y c t g none new p q r : Str) : List Tr := [(.tup [(.str "drop"), (.str none)]),
  (.tup [(.str "drop")]),
  (.tup [(.str "show"), (.str none)]),
  (.tup [(.str "show"), (.int 5)]),
  (.tup [(.str "show"), (.str x), (.str x)]),
  (.tup [(.str "copy"), (.str t)]),
  (.tup [(.str "copy"), (.str g)])]
def cWrong7 (x y c t g none new p q r : Str) : List Tr := [(.tup [(.str "copy")]),
  (.tup [(.str "copy"), (.str "A")]),
  (.tup [(.str "copy"), (.tup [(.str c)])]),
  (.tup [(.str "step"), (.str c)]),
  (.tup [(.str "step"), (.str t)]),
  (.tup [(.str "step")]),
  (.tup [(.str "step"), (.str g), (.str g)])]
def cWrong8 (x y c t g none new p q r : Str) : List Tr := [(.tup [(.str "step"), (.int 5)]),
  (.tup [(.str "close"), (.str c)]),
  (.tup [(.str "close"), (.str t)]),
  (.tup [(.str "close")]),
  (.tup [(.str "close"), .non]),
  (.tup [(.str "if"), (.str x), (.int 0), (.tup []), (.tup [])])]
def cWrong9 (x y c t g none new p q r : Str) : List Tr := [(.tup [(.str "with"), (.str x), (.int 0), (.tup [])]),
  (.tup [(.str "loop"), (.tup [(.tup [(.str "yield")])])]),
  (.tup [(.str "leave")]),
  (.tup [(.str "yield")]),
  (.tup [(.str "fail")]),
  (.tup [(.str "play"), (.str g)])]
def allWrong (x y c t g none new p q r : Str) : List Tr := (((((((((cWrong0 x y c t g none new p q r) ++ cWrong1 x y c t g none new p q r) ++ cWrong2 x y c t g none new p q r) ++ cWrong3 x y c t g none new p q r) ++ cWrong4 x y c t g none new p q r) ++ cWrong5 x y c t g none new p q r) ++ cWrong6 x y c t g none new p q r) ++ cWrong7 x y c t g none new p q r) ++ cWrong8 x y c t g none new p q r) ++ cWrong9 x y c t g none new p q r
def cMade0 (x y c t g none new p q r : Str) : List Tr := [(.tup [(.str "within"), (.str t), (.tup [])]),
  (.tup [(.str "within"), (.str g), (.tup [])]),
  (.tup [(.str "within"), (.str c)]),
  (.tup [(.str "within"), (.str c), .lst]),
  (.tup [(.str "within"), (.str c), .non]),
  (.tup [(.str "guard")])]
def cMade1 (x y c t g none new p q r : Str) : List Tr := [(.tup [(.str "within"), (.tup []), (.str c)]),
  (.tup [(.str "within"), (.str c), (.tup []), (.tup [])]),
  (.tup [(.str "guard"), (.tup []), (.tup [])]),
  (.tup [(.str "guard"), .lst]),
  (.tup [(.str "guard"), .non])]
def cMade2 (x y c t g none new p q r : Str) : List Tr := [(.tup [(.str "guard"), (.str "show")]),
  (.tup [(.str "make"), (.str g), (.str none), (.tup [])]),
  (.tup [(.str "make"), (.str g), (.str p)]),
  (.tup [(.str "make"), (.str g), (.str p), (.tup [(.str c)])]),
  (.tup [(.str "make"), (.str g), (.str q), (.tup [(.str c)])])]
def cMade3 (x y c t g none new p q r : Str) : List Tr := [(.tup [(.str "make"), (.str g), (.str q), (.tup [])]),
  (.tup [(.str "make"), (.str g), (.str q), (.tup [(.str c), (.str t), (.str t)])]),
  (.tup [(.str "make"), (.str g), (.str q), (.tup [(.str t), (.str c)])]),
  (.tup [(.str "make"), (.str g), (.str q), (.tup [(.str c), (.str g)])])]
def cMade4 (x y c t g none new p q r : Str) : List Tr := [(.tup [(.str "make"), (.str g), (.str q), (.tup [(.str g), (.str t)])]),
  (.tup [(.str "make"), (.str c), (.str p), (.tup [])]),
  (.tup [(.str "make"), (.str t), (.str q), (.tup [(.str c), (.str t)])]),
  (.tup [(.str "make"), (.str g), (.str q), .lst])]
def cMade5 (x y c t g none new p q r : Str) : List Tr := [(.tup [(.str "make"), (.str g), (.str q), (.tup [(.str c), (.int 5)])]),
  (.tup [(.str "make"), (.str g), (.str q), (.tup [(.str c), (.str "")])]),
  (.tup [(.str "make"), (.int 5), (.str p), (.tup [])]),
  (.tup [(.str "make"), (.str g), .non, (.tup [])])]
def cMade6 (x y c t g none new p q r : Str) : List Tr := [(.tup [(.str "make"), (.str g), .lst, (.tup [])]),
  (.tup [(.str "make"), (.str g), (.tup [(.str p)]), (.tup [])]),
  (.tup [(.str "make"), (.str p), (.str g), (.tup []), (.tup [])]),
  (.tup [(.str "make"), (.str new), (.str r), (.tup [(.str new), (.str c)])])]
def cMade7 (x y c t g none new p q r : Str) : List Tr := [(.tup [(.str "make"), (.str new), (.str r), (.tup [(.str c), (.str new)])]),
  (.tup [(.str "make"), (.str g), (.str q), (.tup [(.str new), (.str new)])]),
  (.tup [(.str "make"), (.str g), (.str p), .non]),
  (.tup [(.str "make"), (.str g), (.str p), (.str "")])]
def allMade (x y c t g none new p q r : Str) : List Tr := (((((((cMade0 x y c t g none new p q r) ++ cMade1 x y c t g none new p q r) ++ cMade2 x y c t g none new p q r) ++ cMade3 x y c t g none new p q r) ++ cMade4 x y c t g none new p q r) ++ cMade5 x y c t g none new p q r) ++ cMade6 x y c t g none new p q r) ++ cMade7 x y c t g none new p q r
def cWith0 (x y c t g none new p q r : Str) : List Tr := [(.tup [(.tup [(.str "within"), (.str c), (.tup [(.tup [(.str "show"), (.str x)]), (.tup [(.str "yield")])])]), (.tup [(.int 0), (.int 1)])])]
def cWith1 (x y c t g none new p q r : Str) : List Tr := [(.tup [(.tup [(.str "guard"), (.tup [(.tup [(.str "guard"), (.tup [(.tup [(.str "show"), (.str none)])])])])]), (.tup [(.int 0), (.int 0), (.int 0), (.int 0)])])]
def cWith2 (x y c t g none new p q r : Str) : List Tr := [(.tup [(.tup [(.str "guard"), (.tup [(.tup [(.str "within"), (.str c), (.tup [(.tup [(.str "step"), (.str g)]), (.tup [(.str "reset"), (.str c)]), .non])])])]), (.tup [(.int 0), (.int 0), (.int 0), (.int 1)])])]
def cWith3 (x y c t g none new p q r : Str) : List Tr := [(.tup [(.tup [(.str "within"), (.str c), (.tup [(.tup [(.str "within"), (.str t), (.tup [(.tup [(.str "show"), (.str none)])])])])]), (.tup [(.int 0), (.int 0)])])]
def cWith4 (x y c t g none new p q r : Str) : List Tr := [(.tup [(.tup [(.str "guard"), (.tup [(.tup [(.str "make"), (.str new), (.str p), (.tup [])]), (.tup [(.str "copy"), (.str new)])])]), (.tup [(.int 0), (.int 1)])])]
def cWith5 (x y c t g none new p q r : Str) : List Tr := [(.tup [(.tup [(.str "guard"), (.tup [.non])]), (.tup [(.int 0), (.int 0)])]),
  (.tup [(.tup [(.str "guard"), (.tup [(.tup []), (.tup [(.str "show"), (.str x)])])]), (.tup [(.int 0), (.int 0)])])]
def allWith (x y c t g none new p q r : Str) : List Tr := (((((cWith0 x y c t g none new p q r) ++ cWith1 x y c t g none new p q r) ++ cWith2 x y c t g none new p q r) ++ cWith3 x y c t g none new p q r) ++ cWith4 x y c t g none new p q r) ++ cWith5 x y c t g none new p q r
end BK
namespace BK
open PySem PySem.Spec PyProof.Rows L2
section
variable {x y c t g none new p q r : Str}
theorem evGood0 (N : Nms x y c t g none new p q r) {km : Km} (K : K3 c t g new km) (n d : Nat) : ∀ one ∈ cGood0 x y c t g none new p q r, (one13 [x, y] (P3 p q r) (d + 4) one (km, n)).1 = Option.none ∧ (one13 [x, y] (P3 p q r) (d + 4) one (km, n)).2.1.length ≤ km.length + 6 := by
  intro one h
  simp only [cGood0, List.mem_cons, List.not_mem_nil, or_false] at h
  rcases h with rfl | rfl | rfl | rfl | rfl | rfl
  all_goals simp (decide := true) [one13, takesS, sk_set, sk_hold, sk_reset, sk_drop, sk_show, sk_copy, sk_within, sk_guard, sk_make, sk_step, sk_close, sk_Set, sk_empty, sk_if, sk_with, sk_loop, sk_leave, sk_yield, sk_fail, sk_play, fitsT, sp_variable, sp_token, sp_context, sp_piece, sp_name, sp_block, sp_args, sp_value, isTup, argsT, numT, nameT, N.hx, N.hy, N.hc, N.ht, N.hg, N.hn, N.hw, N.hp, N.hq, N.hr, N.nx, N.ny, N.np, N.nq, N.nr, N.pq, N.pr, N.qr, N.wc, N.wt, N.wg, s3_context, s3_token, s3_piece, s3_variable, s3_value, s3_block, s3_name, s3_args, ns_nine, ns_empty, ns_A, knowsS, okP, strIn, keyIn, plen, pget, P3, tupTs, texts, slotsS, slotPr, slp_int, slp_tup, List.filterMap_cons, List.filterMap_nil, parsOf, argsOf, setL, K.kc, K.kt, K.kg, K.kn, kget_snoc K.kn, progT, progD, progF]
theorem evGood1 (N : Nms x y c t g none new p q r) {km : Km} (K : K3 c t g new km) (n d : Nat) : ∀ one ∈ cGood1 x y c t g none new p q r, (one13 [x, y] (P3 p q r) (d + 4) one (km, n)).1 = Option.none ∧ (one13 [x, y] (P3 p q r) (d + 4) one (km, n)).2.1.length ≤ km.length + 6 := by
  intro one h
  simp only [cGood1, List.mem_cons, List.not_mem_nil, or_false] at h
  rcases h with rfl | rfl | rfl | rfl
  all_goals simp (decide := true) [one13, takesS, sk_set, sk_hold, sk_reset, sk_drop, sk_show, sk_copy, sk_within, sk_guard, sk_make, sk_step, sk_close, sk_Set, sk_empty, sk_if, sk_with, sk_loop, sk_leave, sk_yield, sk_fail, sk_play, fitsT, sp_variable, sp_token, sp_context, sp_piece, sp_name, sp_block, sp_args, sp_value, isTup, argsT, numT, nameT, N.hx, N.hy, N.hc, N.ht, N.hg, N.hn, N.hw, N.hp, N.hq, N.hr, N.nx, N.ny, N.np, N.nq, N.nr, N.pq, N.pr, N.qr, N.wc, N.wt, N.wg, s3_context, s3_token, s3_piece, s3_variable, s3_value, s3_block, s3_name, s3_args, ns_nine, ns_empty, ns_A, knowsS, okP, strIn, keyIn, plen, pget, P3, tupTs, texts, slotsS, slotPr, slp_int, slp_tup, List.filterMap_cons, List.filterMap_nil, parsOf, argsOf, setL, K.kc, K.kt, K.kg, K.kn, kget_snoc K.kn, progT, progD, progF]
theorem evGood2 (N : Nms x y c t g none new p q r) {km : Km} (K : K3 c t g new km) (n d : Nat) : ∀ one ∈ cGood2 x y c t g none new p q r, (one13 [x, y] (P3 p q r) (d + 4) one (km, n)).1 = Option.none ∧ (one13 [x, y] (P3 p q r) (d + 4) one (km, n)).2.1.length ≤ km.length + 6 := by
  intro one h
  simp only [cGood2, List.mem_cons, List.not_mem_nil, or_false] at h
  rcases h with rfl | rfl | rfl
  all_goals simp (decide := true) [one13, takesS, sk_set, sk_hold, sk_reset, sk_drop, sk_show, sk_copy, sk_within, sk_guard, sk_make, sk_step, sk_close, sk_Set, sk_empty, sk_if, sk_with, sk_loop, sk_leave, sk_yield, sk_fail, sk_play, fitsT, sp_variable, sp_token, sp_context, sp_piece, sp_name, sp_block, sp_args, sp_value, isTup, argsT, numT, nameT, N.hx, N.hy, N.hc, N.ht, N.hg, N.hn, N.hw, N.hp, N.hq, N.hr, N.nx, N.ny, N.np, N.nq, N.nr, N.pq, N.pr, N.qr, N.wc, N.wt, N.wg, s3_context, s3_token, s3_piece, s3_variable, s3_value, s3_block, s3_name, s3_args, ns_nine, ns_empty, ns_A, knowsS, okP, strIn, keyIn, plen, pget, P3, tupTs, texts, slotsS, slotPr, slp_int, slp_tup, List.filterMap_cons, List.filterMap_nil, parsOf, argsOf, setL, K.kc, K.kt, K.kg, K.kn, kget_snoc K.kn, progT, progD, progF]
theorem evGood3 (N : Nms x y c t g none new p q r) {km : Km} (K : K3 c t g new km) (n d : Nat) : ∀ one ∈ cGood3 x y c t g none new p q r, (one13 [x, y] (P3 p q r) (d + 4) one (km, n)).1 = Option.none ∧ (one13 [x, y] (P3 p q r) (d + 4) one (km, n)).2.1.length ≤ km.length + 6 := by
  intro one h
  simp only [cGood3, List.mem_cons, List.not_mem_nil, or_false] at h
  rcases h with rfl | rfl | rfl
  all_goals simp (decide := true) [one13, takesS, sk_set, sk_hold, sk_reset, sk_drop, sk_show, sk_copy, sk_within, sk_guard, sk_make, sk_step, sk_close, sk_Set, sk_empty, sk_if, sk_with, sk_loop, sk_leave, sk_yield, sk_fail, sk_play, fitsT, sp_variable, sp_token, sp_context, sp_piece, sp_name, sp_block, sp_args, sp_value, isTup, argsT, numT, nameT, N.hx, N.hy, N.hc, N.ht, N.hg, N.hn, N.hw, N.hp, N.hq, N.hr, N.nx, N.ny, N.np, N.nq, N.nr, N.pq, N.pr, N.qr, N.wc, N.wt, N.wg, s3_context, s3_token, s3_piece, s3_variable, s3_value, s3_block, s3_name, s3_args, ns_nine, ns_empty, ns_A, knowsS, okP, strIn, keyIn, plen, pget, P3, tupTs, texts, slotsS, slotPr, slp_int, slp_tup, List.filterMap_cons, List.filterMap_nil, parsOf, argsOf, setL, K.kc, K.kt, K.kg, K.kn, kget_snoc K.kn, progT, progD, progF]
theorem evGood4 (N : Nms x y c t g none new p q r) {km : Km} (K : K3 c t g new km) (n d : Nat) : ∀ one ∈ cGood4 x y c t g none new p q r, (one13 [x, y] (P3 p q r) (d + 4) one (km, n)).1 = Option.none ∧ (one13 [x, y] (P3 p q r) (d + 4) one (km, n)).2.1.length ≤ km.length + 6 := by
  intro one h
  simp only [cGood4, List.mem_cons, List.not_mem_nil, or_false] at h
  rcases h with rfl | rfl | rfl | rfl
  all_goals simp (decide := true) [one13, takesS, sk_set, sk_hold, sk_reset, sk_drop, sk_show, sk_copy, sk_within, sk_guard, sk_make, sk_step, sk_close, sk_Set, sk_empty, sk_if, sk_with, sk_loop, sk_leave, sk_yield, sk_fail, sk_play, fitsT, sp_variable, sp_token, sp_context, sp_piece, sp_name, sp_block, sp_args, sp_value, isTup, argsT, numT, nameT, N.hx, N.hy, N.hc, N.ht, N.hg, N.hn, N.hw, N.hp, N.hq, N.hr, N.nx, N.ny, N.np, N.nq, N.nr, N.pq, N.pr, N.qr, N.wc, N.wt, N.wg, s3_context, s3_token, s3_piece, s3_variable, s3_value, s3_block, s3_name, s3_args, ns_nine, ns_empty, ns_A, knowsS, okP, strIn, keyIn, plen, pget, P3, tupTs, texts, slotsS, slotPr, slp_int, slp_tup, List.filterMap_cons, List.filterMap_nil, parsOf, argsOf, setL, K.kc, K.kt, K.kg, K.kn, kget_snoc K.kn, progT, progD, progF]
theorem evWrong0 (N : Nms x y c t g none new p q r) {km : Km} (K : K3 c t g new km) (n d : Nat) : ∀ one ∈ cWrong0 x y c t g none new p q r, (one13 [x, y] (P3 p q r) (d + 4) one (km, n)).1 = some [] ∧ (one13 [x, y] (P3 p q r) (d + 4) one (km, n)).2.1.length ≤ km.length + 6 := by
  intro one h
  simp only [cWrong0, List.mem_cons, List.not_mem_nil, or_false] at h
  rcases h with rfl | rfl | rfl | rfl | rfl | rfl | rfl | rfl | rfl | rfl | rfl | rfl
  all_goals simp (decide := true) [one13, takesS, sk_set, sk_hold, sk_reset, sk_drop, sk_show, sk_copy, sk_within, sk_guard, sk_make, sk_step, sk_close, sk_Set, sk_empty, sk_if, sk_with, sk_loop, sk_leave, sk_yield, sk_fail, sk_play, fitsT, sp_variable, sp_token, sp_context, sp_piece, sp_name, sp_block, sp_args, sp_value, isTup, argsT, numT, nameT, N.hx, N.hy, N.hc, N.ht, N.hg, N.hn, N.hw, N.hp, N.hq, N.hr, N.nx, N.ny, N.np, N.nq, N.nr, N.pq, N.pr, N.qr, N.wc, N.wt, N.wg, s3_context, s3_token, s3_piece, s3_variable, s3_value, s3_block, s3_name, s3_args, ns_nine, ns_empty, ns_A, knowsS, okP, strIn, keyIn, plen, pget, P3, tupTs, texts, slotsS, slotPr, slp_int, slp_tup, List.filterMap_cons, List.filterMap_nil, parsOf, argsOf, setL, K.kc, K.kt, K.kg, K.kn, kget_snoc K.kn, progT, progD, progF]
theorem evWrong1 (N : Nms x y c t g none new p q r) {km : Km} (K : K3 c t g new km) (n d : Nat) : ∀ one ∈ cWrong1 x y c t g none new p q r, (one13 [x, y] (P3 p q r) (d + 4) one (km, n)).1 = some [] ∧ (one13 [x, y] (P3 p q r) (d + 4) one (km, n)).2.1.length ≤ km.length + 6 := by
  intro one h
  simp only [cWrong1, List.mem_cons, List.not_mem_nil, or_false] at h
  rcases h with rfl | rfl | rfl | rfl | rfl | rfl
  all_goals simp (decide := true) [one13, takesS, sk_set, sk_hold, sk_reset, sk_drop, sk_show, sk_copy, sk_within, sk_guard, sk_make, sk_step, sk_close, sk_Set, sk_empty, sk_if, sk_with, sk_loop, sk_leave, sk_yield, sk_fail, sk_play, fitsT, sp_variable, sp_token, sp_context, sp_piece, sp_name, sp_block, sp_args, sp_value, isTup, argsT, numT, nameT, N.hx, N.hy, N.hc, N.ht, N.hg, N.hn, N.hw, N.hp, N.hq, N.hr, N.nx, N.ny, N.np, N.nq, N.nr, N.pq, N.pr, N.qr, N.wc, N.wt, N.wg, s3_context, s3_token, s3_piece, s3_variable, s3_value, s3_block, s3_name, s3_args, ns_nine, ns_empty, ns_A, knowsS, okP, strIn, keyIn, plen, pget, P3, tupTs, texts, slotsS, slotPr, slp_int, slp_tup, List.filterMap_cons, List.filterMap_nil, parsOf, argsOf, setL, K.kc, K.kt, K.kg, K.kn, kget_snoc K.kn, progT, progD, progF]
theorem evWrong2 (N : Nms x y c t g none new p q r) {km : Km} (K : K3 c t g new km) (n d : Nat) : ∀ one ∈ cWrong2 x y c t g none new p q r, (one13 [x, y] (P3 p q r) (d + 4) one (km, n)).1 = some [] ∧ (one13 [x, y] (P3 p q r) (d + 4) one (km, n)).2.1.length ≤ km.length + 6 := by
  intro one h
  simp only [cWrong2, List.mem_cons, List.not_mem_nil, or_false] at h
  rcases h with rfl | rfl | rfl | rfl | rfl
  all_goals simp (decide := true) [one13, takesS, sk_set, sk_hold, sk_reset, sk_drop, sk_show, sk_copy, sk_within, sk_guard, sk_make, sk_step, sk_close, sk_Set, sk_empty, sk_if, sk_with, sk_loop, sk_leave, sk_yield, sk_fail, sk_play, fitsT, sp_variable, sp_token, sp_context, sp_piece, sp_name, sp_block, sp_args, sp_value, isTup, argsT, numT, nameT, N.hx, N.hy, N.hc, N.ht, N.hg, N.hn, N.hw, N.hp, N.hq, N.hr, N.nx, N.ny, N.np, N.nq, N.nr, N.pq, N.pr, N.qr, N.wc, N.wt, N.wg, s3_context, s3_token, s3_piece, s3_variable, s3_value, s3_block, s3_name, s3_args, ns_nine, ns_empty, ns_A, knowsS, okP, strIn, keyIn, plen, pget, P3, tupTs, texts, slotsS, slotPr, slp_int, slp_tup, List.filterMap_cons, List.filterMap_nil, parsOf, argsOf, setL, K.kc, K.kt, K.kg, K.kn, kget_snoc K.kn, progT, progD, progF]
theorem evWrong3 (N : Nms x y c t g none new p q r) {km : Km} (K : K3 c t g new km) (n d : Nat) : ∀ one ∈ cWrong3 x y c t g none new p q r, (one13 [x, y] (P3 p q r) (d + 4) one (km, n)).1 = some [] ∧ (one13 [x, y] (P3 p q r) (d + 4) one (km, n)).2.1.length ≤ km.length + 6 := by
  intro one h
  simp only [cWrong3, List.mem_cons, List.not_mem_nil, or_false] at h
  rcases h with rfl | rfl | rfl | rfl | rfl
  all_goals simp (decide := true) [one13, takesS, sk_set, sk_hold, sk_reset, sk_drop, sk_show, sk_copy, sk_within, sk_guard, sk_make, sk_step, sk_close, sk_Set, sk_empty, sk_if, sk_with, sk_loop, sk_leave, sk_yield, sk_fail, sk_play, fitsT, sp_variable, sp_token, sp_context, sp_piece, sp_name, sp_block, sp_args, sp_value, isTup, argsT, numT, nameT, N.hx, N.hy, N.hc, N.ht, N.hg, N.hn, N.hw, N.hp, N.hq, N.hr, N.nx, N.ny, N.np, N.nq, N.nr, N.pq, N.pr, N.qr, N.wc, N.wt, N.wg, s3_context, s3_token, s3_piece, s3_variable, s3_value, s3_block, s3_name, s3_args, ns_nine, ns_empty, ns_A, knowsS, okP, strIn, keyIn, plen, pget, P3, tupTs, texts, slotsS, slotPr, slp_int, slp_tup, List.filterMap_cons, List.filterMap_nil, parsOf, argsOf, setL, K.kc, K.kt, K.kg, K.kn, kget_snoc K.kn, progT, progD, progF]
theorem evWrong4 (N : Nms x y c t g none new p q r) {km : Km} (K : K3 c t g new km) (n d : Nat) : ∀ one ∈ cWrong4 x y c t g none new p q r, (one13 [x, y] (P3 p q r) (d + 4) one (km, n)).1 = some [] ∧ (one13 [x, y] (P3 p q r) (d + 4) one (km, n)).2.1.length ≤ km.length + 6 := by
  intro one h
  simp only [cWrong4, List.mem_cons, List.not_mem_nil, or_false] at h
  rcases h with rfl | rfl
  all_goals simp (decide := true) [one13, takesS, sk_set, sk_hold, sk_reset, sk_drop, sk_show, sk_copy, sk_within, sk_guard, sk_make, sk_step, sk_close, sk_Set, sk_empty, sk_if, sk_with, sk_loop, sk_leave, sk_yield, sk_fail, sk_play, fitsT, sp_variable, sp_token, sp_context, sp_piece, sp_name, sp_block, sp_args, sp_value, isTup, argsT, numT, nameT, N.hx, N.hy, N.hc, N.ht, N.hg, N.hn, N.hw, N.hp, N.hq, N.hr, N.nx, N.ny, N.np, N.nq, N.nr, N.pq, N.pr, N.qr, N.wc, N.wt, N.wg, s3_context, s3_token, s3_piece, s3_variable, s3_value, s3_block, s3_name, s3_args, ns_nine, ns_empty, ns_A, knowsS, okP, strIn, keyIn, plen, pget, P3, tupTs, texts, slotsS, slotPr, slp_int, slp_tup, List.filterMap_cons, List.filterMap_nil, parsOf, argsOf, setL, K.kc, K.kt, K.kg, K.kn, kget_snoc K.kn, progT, progD, progF]
theorem evWrong5 (N : Nms x y c t g none new p q r) {km : Km} (K : K3 c t g new km) (n d : Nat) : ∀ one ∈ cWrong5 x y c t g none new p q r, (one13 [x, y] (P3 p q r) (d + 4) one (km, n)).1 = some [] ∧ (one13 [x, y] (P3 p q r) (d + 4) one (km, n)).2.1.length ≤ km.length + 6 := by
  intro one h
  simp only [cWrong5, List.mem_cons, List.not_mem_nil, or_false] at h
  rcases h with rfl | rfl | rfl | rfl | rfl | rfl
  all_goals simp (decide := true) [one13, takesS, sk_set, sk_hold, sk_reset, sk_drop, sk_show, sk_copy, sk_within, sk_guard, sk_make, sk_step, sk_close, sk_Set, sk_empty, sk_if, sk_with, sk_loop, sk_leave, sk_yield, sk_fail, sk_play, fitsT, sp_variable, sp_token, sp_context, sp_piece, sp_name, sp_block, sp_args, sp_value, isTup, argsT, numT, nameT, N.hx, N.hy, N.hc, N.ht, N.hg, N.hn, N.hw, N.hp, N.hq, N.hr, N.nx, N.ny, N.np, N.nq, N.nr, N.pq, N.pr, N.qr, N.wc, N.wt, N.wg, s3_context, s3_token, s3_piece, s3_variable, s3_value, s3_block, s3_name, s3_args, ns_nine, ns_empty, ns_A, knowsS, okP, strIn, keyIn, plen, pget, P3, tupTs, texts, slotsS, slotPr, slp_int, slp_tup, List.filterMap_cons, List.filterMap_nil, parsOf, argsOf, setL, K.kc, K.kt, K.kg, K.kn, kget_snoc K.kn, progT, progD, progF]
theorem evWrong6 (N : Nms x y c t g none new p q r) {km : Km} (K : K3 c t g new km) (n d : Nat) : ∀ one ∈ cWrong6 x y c t g none new p q r, (one13 [x, y] (P3 p q r) (d + 4) one (km, n)).1 = some [] ∧ (one13 [x, y] (P3 p q r) (d + 4) one (km, n)).2.1.length ≤ km.length + 6 := by
  intro one h
  simp only [cWrong6, List.mem_cons, List.not_mem_nil, or_false] at h
  rcases h with rfl | rfl | rfl | rfl | rfl | rfl | rfl
  all_goals simp (decide := true) [one13, takesS, sk_set, sk_hold, sk_reset, sk_drop, sk_show, sk_copy, sk_within, sk_guard, sk_make, sk_step, sk_close, sk_Set, sk_empty, sk_if, sk_with, sk_loop, sk_leave, sk_yield, sk_fail, sk_play, fitsT, sp_variable, sp_token, sp_context, sp_piece, sp_name, sp_block, sp_args, sp_value, isTup, argsT, numT, nameT, N.hx, N.hy, N.hc, N.ht, N.hg, N.hn, N.hw, N.hp, N.hq, N.hr, N.nx, N.ny, N.np, N.nq, N.nr, N.pq, N.pr, N.qr, N.wc, N.wt, N.wg, s3_context, s3_token, s3_piece, s3_variable, s3_value, s3_block, s3_name, s3_args, ns_nine, ns_empty, ns_A, knowsS, okP, strIn, keyIn, plen, pget, P3, tupTs, texts, slotsS, slotPr, slp_int, slp_tup, List.filterMap_cons, List.filterMap_nil, parsOf, argsOf, setL, K.kc, K.kt, K.kg, K.kn, kget_snoc K.kn, progT, progD, progF]
theorem evWrong7 (N : Nms x y c t g none new p q r) {km : Km} (K : K3 c t g new km) (n d : Nat) : ∀ one ∈ cWrong7 x y c t g none new p q r, (one13 [x, y] (P3 p q r) (d + 4) one (km, n)).1 = some [] ∧ (one13 [x, y] (P3 p q r) (d + 4) one (km, n)).2.1.length ≤ km.length + 6 := by
  intro one h
  simp only [cWrong7, List.mem_cons, List.not_mem_nil, or_false] at h
  rcases h with rfl | rfl | rfl | rfl | rfl | rfl | rfl
  all_goals simp (decide := true) [one13, takesS, sk_set, sk_hold, sk_reset, sk_drop, sk_show, sk_copy, sk_within, sk_guard, sk_make, sk_step, sk_close, sk_Set, sk_empty, sk_if, sk_with, sk_loop, sk_leave, sk_yield, sk_fail, sk_play, fitsT, sp_variable, sp_token, sp_context, sp_piece, sp_name, sp_block, sp_args, sp_value, isTup, argsT, numT, nameT, N.hx, N.hy, N.hc, N.ht, N.hg, N.hn, N.hw, N.hp, N.hq, N.hr, N.nx, N.ny, N.np, N.nq, N.nr, N.pq, N.pr, N.qr, N.wc, N.wt, N.wg, s3_context, s3_token, s3_piece, s3_variable, s3_value, s3_block, s3_name, s3_args, ns_nine, ns_empty, ns_A, knowsS, okP, strIn, keyIn, plen, pget, P3, tupTs, texts, slotsS, slotPr, slp_int, slp_tup, List.filterMap_cons, List.filterMap_nil, parsOf, argsOf, setL, K.kc, K.kt, K.kg, K.kn, kget_snoc K.kn, progT, progD, progF]
theorem evWrong8 (N : Nms x y c t g none new p q r) {km : Km} (K : K3 c t g new km) (n d : Nat) : ∀ one ∈ cWrong8 x y c t g none new p q r, (one13 [x, y] (P3 p q r) (d + 4) one (km, n)).1 = some [] ∧ (one13 [x, y] (P3 p q r) (d + 4) one (km, n)).2.1.length ≤ km.length + 6 := by
  intro one h
  simp only [cWrong8, List.mem_cons, List.not_mem_nil, or_false] at h
  rcases h with rfl | rfl | rfl | rfl | rfl | rfl
  all_goals simp (decide := true) [one13, takesS, sk_set, sk_hold, sk_reset, sk_drop, sk_show, sk_copy, sk_within, sk_guard, sk_make, sk_step, sk_close, sk_Set, sk_empty, sk_if, sk_with, sk_loop, sk_leave, sk_yield, sk_fail, sk_play, fitsT, sp_variable, sp_token, sp_context, sp_piece, sp_name, sp_block, sp_args, sp_value, isTup, argsT, numT, nameT, N.hx, N.hy, N.hc, N.ht, N.hg, N.hn, N.hw, N.hp, N.hq, N.hr, N.nx, N.ny, N.np, N.nq, N.nr, N.pq, N.pr, N.qr, N.wc, N.wt, N.wg, s3_context, s3_token, s3_piece, s3_variable, s3_value, s3_block, s3_name, s3_args, ns_nine, ns_empty, ns_A, knowsS, okP, strIn, keyIn, plen, pget, P3, tupTs, texts, slotsS, slotPr, slp_int, slp_tup, List.filterMap_cons, List.filterMap_nil, parsOf, argsOf, setL, K.kc, K.kt, K.kg, K.kn, kget_snoc K.kn, progT, progD, progF]
theorem evWrong9 (N : Nms x y c t g none new p q r) {km : Km} (K : K3 c t g new km) (n d : Nat) : ∀ one ∈ cWrong9 x y c t g none new p q r, (one13 [x, y] (P3 p q r) (d + 4) one (km, n)).1 = some [] ∧ (one13 [x, y] (P3 p q r) (d + 4) one (km, n)).2.1.length ≤ km.length + 6 := by
  intro one h
  simp only [cWrong9, List.mem_cons, List.not_mem_nil, or_false] at h
  rcases h with rfl | rfl | rfl | rfl | rfl | rfl
  all_goals simp (decide := true) [one13, takesS, sk_set, sk_hold, sk_reset, sk_drop, sk_show, sk_copy, sk_within, sk_guard, sk_make, sk_step, sk_close, sk_Set, sk_empty, sk_if, sk_with, sk_loop, sk_leave, sk_yield, sk_fail, sk_play, fitsT, sp_variable, sp_token, sp_context, sp_piece, sp_name, sp_block, sp_args, sp_value, isTup, argsT, numT, nameT, N.hx, N.hy, N.hc, N.ht, N.hg, N.hn, N.hw, N.hp, N.hq, N.hr, N.nx, N.ny, N.np, N.nq, N.nr, N.pq, N.pr, N.qr, N.wc, N.wt, N.wg, s3_context, s3_token, s3_piece, s3_variable, s3_value, s3_block, s3_name, s3_args, ns_nine, ns_empty, ns_A, knowsS, okP, strIn, keyIn, plen, pget, P3, tupTs, texts, slotsS, slotPr, slp_int, slp_tup, List.filterMap_cons, List.filterMap_nil, parsOf, argsOf, setL, K.kc, K.kt, K.kg, K.kn, kget_snoc K.kn, progT, progD, progF]
theorem evMade0 (N : Nms x y c t g none new p q r) {km : Km} (K : K3 c t g new km) (n d : Nat) : ∀ one ∈ cMade0 x y c t g none new p q r, (one13 [x, y] (P3 p q r) (d + 4) one (km, n)).1 = some [] ∧ (one13 [x, y] (P3 p q r) (d + 4) one (km, n)).2.1.length ≤ km.length + 6 := by
  intro one h
  simp only [cMade0, List.mem_cons, List.not_mem_nil, or_false] at h
  rcases h with rfl | rfl | rfl | rfl | rfl | rfl
  all_goals simp (decide := true) [one13, takesS, sk_set, sk_hold, sk_reset, sk_drop, sk_show, sk_copy, sk_within, sk_guard, sk_make, sk_step, sk_close, sk_Set, sk_empty, sk_if, sk_with, sk_loop, sk_leave, sk_yield, sk_fail, sk_play, fitsT, sp_variable, sp_token, sp_context, sp_piece, sp_name, sp_block, sp_args, sp_value, isTup, argsT, numT, nameT, N.hx, N.hy, N.hc, N.ht, N.hg, N.hn, N.hw, N.hp, N.hq, N.hr, N.nx, N.ny, N.np, N.nq, N.nr, N.pq, N.pr, N.qr, N.wc, N.wt, N.wg, s3_context, s3_token, s3_piece, s3_variable, s3_value, s3_block, s3_name, s3_args, ns_nine, ns_empty, ns_A, knowsS, okP, strIn, keyIn, plen, pget, P3, tupTs, texts, slotsS, slotPr, slp_int, slp_tup, List.filterMap_cons, List.filterMap_nil, parsOf, argsOf, setL, K.kc, K.kt, K.kg, K.kn, kget_snoc K.kn, progT, progD, progF]
theorem evMade1 (N : Nms x y c t g none new p q r) {km : Km} (K : K3 c t g new km) (n d : Nat) : ∀ one ∈ cMade1 x y c t g none new p q r, (one13 [x, y] (P3 p q r) (d + 4) one (km, n)).1 = some [] ∧ (one13 [x, y] (P3 p q r) (d + 4) one (km, n)).2.1.length ≤ km.length + 6 := by
  intro one h
  simp only [cMade1, List.mem_cons, List.not_mem_nil, or_false] at h
  rcases h with rfl | rfl | rfl | rfl | rfl
  all_goals simp (decide := true) [one13, takesS, sk_set, sk_hold, sk_reset, sk_drop, sk_show, sk_copy, sk_within, sk_guard, sk_make, sk_step, sk_close, sk_Set, sk_empty, sk_if, sk_with, sk_loop, sk_leave, sk_yield, sk_fail, sk_play, fitsT, sp_variable, sp_token, sp_context, sp_piece, sp_name, sp_block, sp_args, sp_value, isTup, argsT, numT, nameT, N.hx, N.hy, N.hc, N.ht, N.hg, N.hn, N.hw, N.hp, N.hq, N.hr, N.nx, N.ny, N.np, N.nq, N.nr, N.pq, N.pr, N.qr, N.wc, N.wt, N.wg, s3_context, s3_token, s3_piece, s3_variable, s3_value, s3_block, s3_name, s3_args, ns_nine, ns_empty, ns_A, knowsS, okP, strIn, keyIn, plen, pget, P3, tupTs, texts, slotsS, slotPr, slp_int, slp_tup, List.filterMap_cons, List.filterMap_nil, parsOf, argsOf, setL, K.kc, K.kt, K.kg, K.kn, kget_snoc K.kn, progT, progD, progF]
theorem evMade2 (N : Nms x y c t g none new p q r) {km : Km} (K : K3 c t g new km) (n d : Nat) : ∀ one ∈ cMade2 x y c t g none new p q r, (one13 [x, y] (P3 p q r) (d + 4) one (km, n)).1 = some [] ∧ (one13 [x, y] (P3 p q r) (d + 4) one (km, n)).2.1.length ≤ km.length + 6 := by
  intro one h
  simp only [cMade2, List.mem_cons, List.not_mem_nil, or_false] at h
  rcases h with rfl | rfl | rfl | rfl | rfl
  all_goals simp (decide := true) [one13, takesS, sk_set, sk_hold, sk_reset, sk_drop, sk_show, sk_copy, sk_within, sk_guard, sk_make, sk_step, sk_close, sk_Set, sk_empty, sk_if, sk_with, sk_loop, sk_leave, sk_yield, sk_fail, sk_play, fitsT, sp_variable, sp_token, sp_context, sp_piece, sp_name, sp_block, sp_args, sp_value, isTup, argsT, numT, nameT, N.hx, N.hy, N.hc, N.ht, N.hg, N.hn, N.hw, N.hp, N.hq, N.hr, N.nx, N.ny, N.np, N.nq, N.nr, N.pq, N.pr, N.qr, N.wc, N.wt, N.wg, s3_context, s3_token, s3_piece, s3_variable, s3_value, s3_block, s3_name, s3_args, ns_nine, ns_empty, ns_A, knowsS, okP, strIn, keyIn, plen, pget, P3, tupTs, texts, slotsS, slotPr, slp_int, slp_tup, List.filterMap_cons, List.filterMap_nil, parsOf, argsOf, setL, K.kc, K.kt, K.kg, K.kn, kget_snoc K.kn, progT, progD, progF]
theorem evMade3 (N : Nms x y c t g none new p q r) {km : Km} (K : K3 c t g new km) (n d : Nat) : ∀ one ∈ cMade3 x y c t g none new p q r, (one13 [x, y] (P3 p q r) (d + 4) one (km, n)).1 = some [] ∧ (one13 [x, y] (P3 p q r) (d + 4) one (km, n)).2.1.length ≤ km.length + 6 := by
  intro one h
  simp only [cMade3, List.mem_cons, List.not_mem_nil, or_false] at h
  rcases h with rfl | rfl | rfl | rfl
  all_goals simp (decide := true) [one13, takesS, sk_set, sk_hold, sk_reset, sk_drop, sk_show, sk_copy, sk_within, sk_guard, sk_make, sk_step, sk_close, sk_Set, sk_empty, sk_if, sk_with, sk_loop, sk_leave, sk_yield, sk_fail, sk_play, fitsT, sp_variable, sp_token, sp_context, sp_piece, sp_name, sp_block, sp_args, sp_value, isTup, argsT, numT, nameT, N.hx, N.hy, N.hc, N.ht, N.hg, N.hn, N.hw, N.hp, N.hq, N.hr, N.nx, N.ny, N.np, N.nq, N.nr, N.pq, N.pr, N.qr, N.wc, N.wt, N.wg, s3_context, s3_token, s3_piece, s3_variable, s3_value, s3_block, s3_name, s3_args, ns_nine, ns_empty, ns_A, knowsS, okP, strIn, keyIn, plen, pget, P3, tupTs, texts, slotsS, slotPr, slp_int, slp_tup, List.filterMap_cons, List.filterMap_nil, parsOf, argsOf, setL, K.kc, K.kt, K.kg, K.kn, kget_snoc K.kn, progT, progD, progF]
theorem evMade4 (N : Nms x y c t g none new p q r) {km : Km} (K : K3 c t g new km) (n d : Nat) : ∀ one ∈ cMade4 x y c t g none new p q r, (one13 [x, y] (P3 p q r) (d + 4) one (km, n)).1 = some [] ∧ (one13 [x, y] (P3 p q r) (d + 4) one (km, n)).2.1.length ≤ km.length + 6 := by
  intro one h
  simp only [cMade4, List.mem_cons, List.not_mem_nil, or_false] at h
  rcases h with rfl | rfl | rfl | rfl
  all_goals simp (decide := true) [one13, takesS, sk_set, sk_hold, sk_reset, sk_drop, sk_show, sk_copy, sk_within, sk_guard, sk_make, sk_step, sk_close, sk_Set, sk_empty, sk_if, sk_with, sk_loop, sk_leave, sk_yield, sk_fail, sk_play, fitsT, sp_variable, sp_token, sp_context, sp_piece, sp_name, sp_block, sp_args, sp_value, isTup, argsT, numT, nameT, N.hx, N.hy, N.hc, N.ht, N.hg, N.hn, N.hw, N.hp, N.hq, N.hr, N.nx, N.ny, N.np, N.nq, N.nr, N.pq, N.pr, N.qr, N.wc, N.wt, N.wg, s3_context, s3_token, s3_piece, s3_variable, s3_value, s3_block, s3_name, s3_args, ns_nine, ns_empty, ns_A, knowsS, okP, strIn, keyIn, plen, pget, P3, tupTs, texts, slotsS, slotPr, slp_int, slp_tup, List.filterMap_cons, List.filterMap_nil, parsOf, argsOf, setL, K.kc, K.kt, K.kg, K.kn, kget_snoc K.kn, progT, progD, progF]
theorem evMade5 (N : Nms x y c t g none new p q r) {km : Km} (K : K3 c t g new km) (n d : Nat) : ∀ one ∈ cMade5 x y c t g none new p q r, (one13 [x, y] (P3 p q r) (d + 4) one (km, n)).1 = some [] ∧ (one13 [x, y] (P3 p q r) (d + 4) one (km, n)).2.1.length ≤ km.length + 6 := by
  intro one h
  simp only [cMade5, List.mem_cons, List.not_mem_nil, or_false] at h
  rcases h with rfl | rfl | rfl | rfl
  all_goals simp (decide := true) [one13, takesS, sk_set, sk_hold, sk_reset, sk_drop, sk_show, sk_copy, sk_within, sk_guard, sk_make, sk_step, sk_close, sk_Set, sk_empty, sk_if, sk_with, sk_loop, sk_leave, sk_yield, sk_fail, sk_play, fitsT, sp_variable, sp_token, sp_context, sp_piece, sp_name, sp_block, sp_args, sp_value, isTup, argsT, numT, nameT, N.hx, N.hy, N.hc, N.ht, N.hg, N.hn, N.hw, N.hp, N.hq, N.hr, N.nx, N.ny, N.np, N.nq, N.nr, N.pq, N.pr, N.qr, N.wc, N.wt, N.wg, s3_context, s3_token, s3_piece, s3_variable, s3_value, s3_block, s3_name, s3_args, ns_nine, ns_empty, ns_A, knowsS, okP, strIn, keyIn, plen, pget, P3, tupTs, texts, slotsS, slotPr, slp_int, slp_tup, List.filterMap_cons, List.filterMap_nil, parsOf, argsOf, setL, K.kc, K.kt, K.kg, K.kn, kget_snoc K.kn, progT, progD, progF]
theorem evMade6 (N : Nms x y c t g none new p q r) {km : Km} (K : K3 c t g new km) (n d : Nat) : ∀ one ∈ cMade6 x y c t g none new p q r, (one13 [x, y] (P3 p q r) (d + 4) one (km, n)).1 = some [] ∧ (one13 [x, y] (P3 p q r) (d + 4) one (km, n)).2.1.length ≤ km.length + 6 := by
  intro one h
  simp only [cMade6, List.mem_cons, List.not_mem_nil, or_false] at h
  rcases h with rfl | rfl | rfl | rfl
  all_goals simp (decide := true) [one13, takesS, sk_set, sk_hold, sk_reset, sk_drop, sk_show, sk_copy, sk_within, sk_guard, sk_make, sk_step, sk_close, sk_Set, sk_empty, sk_if, sk_with, sk_loop, sk_leave, sk_yield, sk_fail, sk_play, fitsT, sp_variable, sp_token, sp_context, sp_piece, sp_name, sp_block, sp_args, sp_value, isTup, argsT, numT, nameT, N.hx, N.hy, N.hc, N.ht, N.hg, N.hn, N.hw, N.hp, N.hq, N.hr, N.nx, N.ny, N.np, N.nq, N.nr, N.pq, N.pr, N.qr, N.wc, N.wt, N.wg, s3_context, s3_token, s3_piece, s3_variable, s3_value, s3_block, s3_name, s3_args, ns_nine, ns_empty, ns_A, knowsS, okP, strIn, keyIn, plen, pget, P3, tupTs, texts, slotsS, slotPr, slp_int, slp_tup, List.filterMap_cons, List.filterMap_nil, parsOf, argsOf, setL, K.kc, K.kt, K.kg, K.kn, kget_snoc K.kn, progT, progD, progF]
theorem evMade7 (N : Nms x y c t g none new p q r) {km : Km} (K : K3 c t g new km) (n d : Nat) : ∀ one ∈ cMade7 x y c t g none new p q r, (one13 [x, y] (P3 p q r) (d + 4) one (km, n)).1 = some [] ∧ (one13 [x, y] (P3 p q r) (d + 4) one (km, n)).2.1.length ≤ km.length + 6 := by
  intro one h
  simp only [cMade7, List.mem_cons, List.not_mem_nil, or_false] at h
  rcases h with rfl | rfl | rfl | rfl
  all_goals simp (decide := true) [one13, takesS, sk_set, sk_hold, sk_reset, sk_drop, sk_show, sk_copy, sk_within, sk_guard, sk_make, sk_step, sk_close, sk_Set, sk_empty, sk_if, sk_with, sk_loop, sk_leave, sk_yield, sk_fail, sk_play, fitsT, sp_variable, sp_token, sp_context, sp_piece, sp_name, sp_block, sp_args, sp_value, isTup, argsT, numT, nameT, N.hx, N.hy, N.hc, N.ht, N.hg, N.hn, N.hw, N.hp, N.hq, N.hr, N.nx, N.ny, N.np, N.nq, N.nr, N.pq, N.pr, N.qr, N.wc, N.wt, N.wg, s3_context, s3_token, s3_piece, s3_variable, s3_value, s3_block, s3_name, s3_args, ns_nine, ns_empty, ns_A, knowsS, okP, strIn, keyIn, plen, pget, P3, tupTs, texts, slotsS, slotPr, slp_int, slp_tup, List.filterMap_cons, List.filterMap_nil, parsOf, argsOf, setL, K.kc, K.kt, K.kg, K.kn, kget_snoc K.kn, progT, progD, progF]
theorem evWith0 (N : Nms x y c t g none new p q r) : ∀ pr ∈ cWith0 x y c t g none new p q r, ∃ one w, pr = .tup [one, .tup (intsT w)] ∧ w.length ≤ 10 ∧ (∀ z ∈ w, z ≤ 100) ∧ thinT one = true ∧ ∀ {km : Km}, K3 c t g new km → ∀ n d, (one13 [x, y] (P3 p q r) (d + 4) one (km, n)).1 = some w ∧ (one13 [x, y] (P3 p q r) (d + 4) one (km, n)).2.1.length ≤ km.length + 6 := by
  intro pr h
  simp only [cWith0, List.mem_cons, List.not_mem_nil, or_false] at h
  rcases h with rfl
  · refine ⟨_, [0, 1], rfl, by decide, by decide, rfl, fun K n d => ?_⟩
    simp (decide := true) [one13, takesS, sk_set, sk_hold, sk_reset, sk_drop, sk_show, sk_copy, sk_within, sk_guard, sk_make, sk_step, sk_close, sk_Set, sk_empty, sk_if, sk_with, sk_loop, sk_leave, sk_yield, sk_fail, sk_play, fitsT, sp_variable, sp_token, sp_context, sp_piece, sp_name, sp_block, sp_args, sp_value, isTup, argsT, numT, nameT, N.hx, N.hy, N.hc, N.ht, N.hg, N.hn, N.hw, N.hp, N.hq, N.hr, N.nx, N.ny, N.np, N.nq, N.nr, N.pq, N.pr, N.qr, N.wc, N.wt, N.wg, s3_context, s3_token, s3_piece, s3_variable, s3_value, s3_block, s3_name, s3_args, ns_nine, ns_empty, ns_A, knowsS, okP, strIn, keyIn, plen, pget, P3, tupTs, texts, slotsS, slotPr, slp_int, slp_tup, List.filterMap_cons, List.filterMap_nil, parsOf, argsOf, setL, K.kc, K.kt, K.kg, K.kn, kget_snoc K.kn, progT, progD, progF]
theorem evWith1 (N : Nms x y c t g none new p q r) : ∀ pr ∈ cWith1 x y c t g none new p q r, ∃ one w, pr = .tup [one, .tup (intsT w)] ∧ w.length ≤ 10 ∧ (∀ z ∈ w, z ≤ 100) ∧ thinT one = true ∧ ∀ {km : Km}, K3 c t g new km → ∀ n d, (one13 [x, y] (P3 p q r) (d + 4) one (km, n)).1 = some w ∧ (one13 [x, y] (P3 p q r) (d + 4) one (km, n)).2.1.length ≤ km.length + 6 := by
  intro pr h
  simp only [cWith1, List.mem_cons, List.not_mem_nil, or_false] at h
  rcases h with rfl
  · refine ⟨_, [0, 0, 0, 0], rfl, by decide, by decide, rfl, fun K n d => ?_⟩
    simp (decide := true) [one13, takesS, sk_set, sk_hold, sk_reset, sk_drop, sk_show, sk_copy, sk_within, sk_guard, sk_make, sk_step, sk_close, sk_Set, sk_empty, sk_if, sk_with, sk_loop, sk_leave, sk_yield, sk_fail, sk_play, fitsT, sp_variable, sp_token, sp_context, sp_piece, sp_name, sp_block, sp_args, sp_value, isTup, argsT, numT, nameT, N.hx, N.hy, N.hc, N.ht, N.hg, N.hn, N.hw, N.hp, N.hq, N.hr, N.nx, N.ny, N.np, N.nq, N.nr, N.pq, N.pr, N.qr, N.wc, N.wt, N.wg, s3_context, s3_token, s3_piece, s3_variable, s3_value, s3_block, s3_name, s3_args, ns_nine, ns_empty, ns_A, knowsS, okP, strIn, keyIn, plen, pget, P3, tupTs, texts, slotsS, slotPr, slp_int, slp_tup, List.filterMap_cons, List.filterMap_nil, parsOf, argsOf, setL, K.kc, K.kt, K.kg, K.kn, kget_snoc K.kn, progT, progD, progF]
theorem evWith2 (N : Nms x y c t g none new p q r) : ∀ pr ∈ cWith2 x y c t g none new p q r, ∃ one w, pr = .tup [one, .tup (intsT w)] ∧ w.length ≤ 10 ∧ (∀ z ∈ w, z ≤ 100) ∧ thinT one = true ∧ ∀ {km : Km}, K3 c t g new km → ∀ n d, (one13 [x, y] (P3 p q r) (d + 4) one (km, n)).1 = some w ∧ (one13 [x, y] (P3 p q r) (d + 4) one (km, n)).2.1.length ≤ km.length + 6 := by
  intro pr h
  simp only [cWith2, List.mem_cons, List.not_mem_nil, or_false] at h
  rcases h with rfl
  · refine ⟨_, [0, 0, 0, 1], rfl, by decide, by decide, rfl, fun K n d => ?_⟩
    simp (decide := true) [one13, takesS, sk_set, sk_hold, sk_reset, sk_drop, sk_show, sk_copy, sk_within, sk_guard, sk_make, sk_step, sk_close, sk_Set, sk_empty, sk_if, sk_with, sk_loop, sk_leave, sk_yield, sk_fail, sk_play, fitsT, sp_variable, sp_token, sp_context, sp_piece, sp_name, sp_block, sp_args, sp_value, isTup, argsT, numT, nameT, N.hx, N.hy, N.hc, N.ht, N.hg, N.hn, N.hw, N.hp, N.hq, N.hr, N.nx, N.ny, N.np, N.nq, N.nr, N.pq, N.pr, N.qr, N.wc, N.wt, N.wg, s3_context, s3_token, s3_piece, s3_variable, s3_value, s3_block, s3_name, s3_args, ns_nine, ns_empty, ns_A, knowsS, okP, strIn, keyIn, plen, pget, P3, tupTs, texts, slotsS, slotPr, slp_int, slp_tup, List.filterMap_cons, List.filterMap_nil, parsOf, argsOf, setL, K.kc, K.kt, K.kg, K.kn, kget_snoc K.kn, progT, progD, progF]
theorem evWith3 (N : Nms x y c t g none new p q r) : ∀ pr ∈ cWith3 x y c t g none new p q r, ∃ one w, pr = .tup [one, .tup (intsT w)] ∧ w.length ≤ 10 ∧ (∀ z ∈ w, z ≤ 100) ∧ thinT one = true ∧ ∀ {km : Km}, K3 c t g new km → ∀ n d, (one13 [x, y] (P3 p q r) (d + 4) one (km, n)).1 = some w ∧ (one13 [x, y] (P3 p q r) (d + 4) one (km, n)).2.1.length ≤ km.length + 6 := by
  intro pr h
  simp only [cWith3, List.mem_cons, List.not_mem_nil, or_false] at h
  rcases h with rfl
  · refine ⟨_, [0, 0], rfl, by decide, by decide, rfl, fun K n d => ?_⟩
    simp (decide := true) [one13, takesS, sk_set, sk_hold, sk_reset, sk_drop, sk_show, sk_copy, sk_within, sk_guard, sk_make, sk_step, sk_close, sk_Set, sk_empty, sk_if, sk_with, sk_loop, sk_leave, sk_yield, sk_fail, sk_play, fitsT, sp_variable, sp_token, sp_context, sp_piece, sp_name, sp_block, sp_args, sp_value, isTup, argsT, numT, nameT, N.hx, N.hy, N.hc, N.ht, N.hg, N.hn, N.hw, N.hp, N.hq, N.hr, N.nx, N.ny, N.np, N.nq, N.nr, N.pq, N.pr, N.qr, N.wc, N.wt, N.wg, s3_context, s3_token, s3_piece, s3_variable, s3_value, s3_block, s3_name, s3_args, ns_nine, ns_empty, ns_A, knowsS, okP, strIn, keyIn, plen, pget, P3, tupTs, texts, slotsS, slotPr, slp_int, slp_tup, List.filterMap_cons, List.filterMap_nil, parsOf, argsOf, setL, K.kc, K.kt, K.kg, K.kn, kget_snoc K.kn, progT, progD, progF]
theorem evWith4 (N : Nms x y c t g none new p q r) : ∀ pr ∈ cWith4 x y c t g none new p q r, ∃ one w, pr = .tup [one, .tup (intsT w)] ∧ w.length ≤ 10 ∧ (∀ z ∈ w, z ≤ 100) ∧ thinT one = true ∧ ∀ {km : Km}, K3 c t g new km → ∀ n d, (one13 [x, y] (P3 p q r) (d + 4) one (km, n)).1 = some w ∧ (one13 [x, y] (P3 p q r) (d + 4) one (km, n)).2.1.length ≤ km.length + 6 := by
  intro pr h
  simp only [cWith4, List.mem_cons, List.not_mem_nil, or_false] at h
  rcases h with rfl
  · refine ⟨_, [0, 1], rfl, by decide, by decide, rfl, fun K n d => ?_⟩
    simp (decide := true) [one13, takesS, sk_set, sk_hold, sk_reset, sk_drop, sk_show, sk_copy, sk_within, sk_guard, sk_make, sk_step, sk_close, sk_Set, sk_empty, sk_if, sk_with, sk_loop, sk_leave, sk_yield, sk_fail, sk_play, fitsT, sp_variable, sp_token, sp_context, sp_piece, sp_name, sp_block, sp_args, sp_value, isTup, argsT, numT, nameT, N.hx, N.hy, N.hc, N.ht, N.hg, N.hn, N.hw, N.hp, N.hq, N.hr, N.nx, N.ny, N.np, N.nq, N.nr, N.pq, N.pr, N.qr, N.wc, N.wt, N.wg, s3_context, s3_token, s3_piece, s3_variable, s3_value, s3_block, s3_name, s3_args, ns_nine, ns_empty, ns_A, knowsS, okP, strIn, keyIn, plen, pget, P3, tupTs, texts, slotsS, slotPr, slp_int, slp_tup, List.filterMap_cons, List.filterMap_nil, parsOf, argsOf, setL, K.kc, K.kt, K.kg, K.kn, kget_snoc K.kn, progT, progD, progF]
theorem evWith5 (N : Nms x y c t g none new p q r) : ∀ pr ∈ cWith5 x y c t g none new p q r, ∃ one w, pr = .tup [one, .tup (intsT w)] ∧ w.length ≤ 10 ∧ (∀ z ∈ w, z ≤ 100) ∧ thinT one = true ∧ ∀ {km : Km}, K3 c t g new km → ∀ n d, (one13 [x, y] (P3 p q r) (d + 4) one (km, n)).1 = some w ∧ (one13 [x, y] (P3 p q r) (d + 4) one (km, n)).2.1.length ≤ km.length + 6 := by
  intro pr h
  simp only [cWith5, List.mem_cons, List.not_mem_nil, or_false] at h
  rcases h with rfl | rfl
  · refine ⟨_, [0, 0], rfl, by decide, by decide, rfl, fun K n d => ?_⟩
    simp (decide := true) [one13, takesS, sk_set, sk_hold, sk_reset, sk_drop, sk_show, sk_copy, sk_within, sk_guard, sk_make, sk_step, sk_close, sk_Set, sk_empty, sk_if, sk_with, sk_loop, sk_leave, sk_yield, sk_fail, sk_play, fitsT, sp_variable, sp_token, sp_context, sp_piece, sp_name, sp_block, sp_args, sp_value, isTup, argsT, numT, nameT, N.hx, N.hy, N.hc, N.ht, N.hg, N.hn, N.hw, N.hp, N.hq, N.hr, N.nx, N.ny, N.np, N.nq, N.nr, N.pq, N.pr, N.qr, N.wc, N.wt, N.wg, s3_context, s3_token, s3_piece, s3_variable, s3_value, s3_block, s3_name, s3_args, ns_nine, ns_empty, ns_A, knowsS, okP, strIn, keyIn, plen, pget, P3, tupTs, texts, slotsS, slotPr, slp_int, slp_tup, List.filterMap_cons, List.filterMap_nil, parsOf, argsOf, setL, K.kc, K.kt, K.kg, K.kn, kget_snoc K.kn, progT, progD, progF]
  · refine ⟨_, [0, 0], rfl, by decide, by decide, rfl, fun K n d => ?_⟩
    simp (decide := true) [one13, takesS, sk_set, sk_hold, sk_reset, sk_drop, sk_show, sk_copy, sk_within, sk_guard, sk_make, sk_step, sk_close, sk_Set, sk_empty, sk_if, sk_with, sk_loop, sk_leave, sk_yield, sk_fail, sk_play, fitsT, sp_variable, sp_token, sp_context, sp_piece, sp_name, sp_block, sp_args, sp_value, isTup, argsT, numT, nameT, N.hx, N.hy, N.hc, N.ht, N.hg, N.hn, N.hw, N.hp, N.hq, N.hr, N.nx, N.ny, N.np, N.nq, N.nr, N.pq, N.pr, N.qr, N.wc, N.wt, N.wg, s3_context, s3_token, s3_piece, s3_variable, s3_value, s3_block, s3_name, s3_args, ns_nine, ns_empty, ns_A, knowsS, okP, strIn, keyIn, plen, pget, P3, tupTs, texts, slotsS, slotPr, slp_int, slp_tup, List.filterMap_cons, List.filterMap_nil, parsOf, argsOf, setL, K.kc, K.kt, K.kg, K.kn, kget_snoc K.kn, progT, progD, progF]
end
end BK

set_option Elab.async false
set_option maxRecDepth 100000
set_option maxHeartbeats 4000000
set_option linter.unusedSimpArgs false
/-! small data -/
namespace BK
open PySem PySem.Spec PyProof.Rows L2 SW
theorem mem_alpha : ∀ i : Fin 123, 97 ≤ i.1 → i.1 ∈ alpha.cps.toList := by decide +kernel
theorem alpha_le : ∀ c ∈ BK.alpha.cps.toList, c ≤ 122 := by decide +kernel
theorem nm_name {z : Str} (h : isNm z) : nameS z = true := by
  unfold isNm isNmB at h
  unfold nameS
  rw [Bool.and_eq_true, Bool.and_eq_true] at h ⊢
  obtain ⟨⟨h1, h2⟩, h3⟩ := h
  refine ⟨⟨h1, h2⟩, ?_⟩
  rw [List.all_eq_true] at h3 ⊢
  intro c hc
  have q := h3 c hc
  rw [Bool.and_eq_true] at q
  have q1 := of_decide_eq_true q.1
  have q2 := of_decide_eq_true q.2
  exact decide_eq_true (mem_alpha ⟨c, by omega⟩ q1)
theorem name_len {z : Str} (h : nameS z = true) : z.length ≤ 8 := by
  unfold nameS at h
  rw [Bool.and_eq_true, Bool.and_eq_true] at h
  exact of_decide_eq_true h.1.2
theorem name_line {z : Str} (h : nameS z = true) : z.length ≤ sizeLine := by
  have := name_len h
  rw [sizeLine_eq]
  omega
def strOk (s : Str) : Bool := s.cps.toList.all (fun c => decide (c ≤ 122)) && decide (s.length ≤ 100)
theorem da_str (s : Str) : dataT (.str s) = strOk s := rfl
theorem name_ok {z : Str} (h : nameS z = true) : strOk z = true := by
  have l := name_len h
  unfold nameS at h
  unfold strOk
  rw [Bool.and_eq_true, Bool.and_eq_true] at h
  rw [Bool.and_eq_true]
  refine ⟨?_, decide_eq_true (by omega)⟩
  rw [List.all_eq_true]
  intro c hc
  exact decide_eq_true (alpha_le c (of_decide_eq_true (List.all_eq_true.mp h.2 c hc)))
theorem da_int (i : Int) : dataT (.int i) = decide (i.natAbs < 10 ^ 60) := rfl
theorem da_tup (ts : List Tr) : dataT (.tup ts) = dataTs ts := rfl
theorem da_nil : dataTs [] = true := rfl
theorem da_cons (t : Tr) (r : List Tr) : dataTs (t :: r) = (dataT t && dataTs r) := rfl
theorem datas_app : ∀ (xs ys : List Tr), dataTs (xs ++ ys) = (dataTs xs && dataTs ys)
  | [], ys => rfl
  | t :: r, ys => by
    show (dataT t && dataTs (r ++ ys)) = (dataT t && dataTs r && dataTs ys)
    rw [datas_app r ys, Bool.and_assoc]
theorem sizs_app : ∀ (xs ys : List Tr), sizTs (xs ++ ys) = sizTs xs + sizTs ys
  | [], ys => (Nat.zero_add _).symm
  | t :: r, ys => by
    show sizT t + 1 + sizTs (r ++ ys) = sizT t + 1 + sizTs r + sizTs ys
    rw [sizs_app r ys]
    omega
theorem deps_app : ∀ (xs ys : List Tr), depTs (xs ++ ys) = max (depTs xs) (depTs ys)
  | [], ys => (Nat.zero_max _).symm
  | t :: r, ys => by
    show max (depT t) (depTs (r ++ ys)) = max (max (depT t) (depTs r)) (depTs ys)
    rw [deps_app r ys, Nat.max_assoc]
/-- a list of at most so many, each small -/
theorem all_small {D S : Nat} : ∀ (ts : List Tr) (n : Nat), ts.length ≤ n → (∀ t ∈ ts, dataT t = true ∧ depT t ≤ D ∧ sizT t ≤ S) → dataTs ts = true ∧ depTs ts ≤ D ∧ sizTs ts ≤ (S + 1) * n
  | [], n, _, _ => ⟨rfl, Nat.zero_le _, Nat.zero_le _⟩
  | t :: r, 0, h, _ => absurd h (by simp)
  | t :: r, n + 1, hl, h => by
    obtain ⟨h1, h2, h3⟩ := h t List.mem_cons_self
    obtain ⟨a1, a2, a3⟩ := all_small r n (Nat.le_of_succ_le_succ hl) fun z hz => h z (List.mem_cons_of_mem _ hz)
    refine ⟨?_, ?_, ?_⟩
    · show (dataT t && dataTs r) = true
      rw [h1, a1]
      rfl
    · exact Nat.max_le.mpr ⟨h2, a2⟩
    · show sizT t + 1 + sizTs r ≤ (S + 1) * (n + 1)
      rw [Nat.mul_succ]
      omega
theorem int_small {n : Nat} (h : n ≤ 1000) : (n : Int).natAbs < 10 ^ 60 := by
  rw [Int.natAbs_natCast]
  have : (1000 : Nat) < 10 ^ 60 := by decide +kernel
  omega
theorem ints_small (w : List Nat) (hl : w.length ≤ 50) (h : ∀ n ∈ w, n ≤ 1000) : dataTs (intsT w) = true ∧ depTs (intsT w) ≤ 0 ∧ sizTs (intsT w) ≤ 1 * 50 :=
  all_small (S := 0) _ _ (by unfold intsT; rw [List.length_map]; exact hl) fun t ht => by
    obtain ⟨n, hn, rfl⟩ := List.mem_map.mp ht
    exact ⟨decide_eq_true (int_small (h n hn)), Nat.le_refl _, Nat.le_refl _⟩
end BK

set_option Elab.async false
set_option maxRecDepth 100000
set_option maxHeartbeats 4000000
set_option linter.unusedSimpArgs false
set_option linter.unusedVariables false
/-! programs around one step -/
namespace BK
open PySem PySem.Spec PyProof.Rows L2
def showS (x : Str) : Tr := .tup [.str "show", .str x]
def dropS (x : Str) : Tr := .tup [.str "drop", .str x]
def copyS (c : Str) : Tr := .tup [.str "copy", .str c]
def resetS (t : Str) : Tr := .tup [.str "reset", .str t]
def stepS (g : Str) : Tr := .tup [.str "step", .str g]
def guardS (ts : List Tr) : Tr := .tup [.str "guard", .tup ts]
def withinS (c : Str) (ts : List Tr) : Tr := .tup [.str "within", .str c, .tup ts]
/-- only these have kinds so far -/
structure Ok3 (c t g new : Str) (km : Km) : Prop where
  c0 : kget km c = none ∨ kget km c = some ("context" : Str)
  t0 : kget km t = none ∨ kget km t = some ("token" : Str)
  g0 : kget km g = none ∨ kget km g = some ("piece" : Str)
  n0 : kget km new = none
theorem put1 {z k : Str} {km : Km} (h : kget km z = none ∨ kget km z = some k) : ∃ km', setL [(z, k)] km = (true, km') ∧ kget km' z = some k ∧ (∀ u, u ≠ z → kget km' u = kget km u) ∧ km'.length ≤ km.length + 1 := by
  rcases h with h | h
  · refine ⟨km ++ [(z, k)], ?_, ?_, fun u hu => ?_, by simp⟩
    · simp only [setL, h]
    · rw [kget_snoc h, if_pos rfl]
    · rw [kget_snoc h, if_neg fun e => hu e.symm]
  · refine ⟨km, ?_, h, fun _ _ => rfl, Nat.le_succ _⟩
    simp only [setL, h, if_true]
section
variable {x y c t g new : Str} {vars : List Str} {P : List (Str × List Str)} {km km' : Km} {n d : Nat}
theorem ta_show (hx : nameS x = true) (hv : x ∈ vars) (k : Ck) : takesS vars P (showS x) k = (true, k) := by
  simp (decide := true) [showS, takesS, sk_show, fitsT, sp_variable, nameT, hx, knowsS, okP, strIn, hv, slotsS, slotPr, s3_variable, List.filterMap_cons, List.filterMap_nil, setL]
theorem ta_drop (hx : nameS x = true) (hv : x ∈ vars) (k : Ck) : takesS vars P (dropS x) k = (true, k) := by
  simp (decide := true) [dropS, takesS, sk_drop, fitsT, sp_variable, nameT, hx, knowsS, okP, strIn, hv, slotsS, slotPr, s3_variable, List.filterMap_cons, List.filterMap_nil, setL]
theorem ta_copy (hc : nameS c = true) (h : setL [(c, "context")] km = (true, km')) : takesS vars P (copyS c) (km, n) = (true, (km', n)) := by
  simp (decide := true) [copyS, takesS, sk_copy, fitsT, sp_context, nameT, hc, knowsS, okP, slotsS, slotPr, s3_context, List.filterMap_cons, List.filterMap_nil, h]
theorem ta_reset (hc : nameS t = true) (h : setL [(t, "token")] km = (true, km')) : takesS vars P (resetS t) (km, n) = (true, (km', n)) := by
  simp (decide := true) [resetS, takesS, sk_reset, fitsT, sp_token, nameT, hc, knowsS, okP, slotsS, slotPr, s3_token, List.filterMap_cons, List.filterMap_nil, h]
theorem ta_step (hc : nameS g = true) (h : setL [(g, "piece")] km = (true, km')) : takesS vars P (stepS g) (km, n) = (true, (km', n + 1)) := by
  simp (decide := true) [stepS, takesS, sk_step, fitsT, sp_piece, nameT, hc, knowsS, okP, slotsS, slotPr, s3_piece, List.filterMap_cons, List.filterMap_nil, h]
theorem ta_guard (ts : List Tr) (k : Ck) : takesS vars P (guardS ts) k = (true, k) := by
  simp (decide := true) [guardS, takesS, sk_guard, fitsT, sp_block, isTup, knowsS, okP, slotsS, slotPr, slp_tup, List.filterMap_cons, List.filterMap_nil, setL]
theorem ta_within (hc : nameS c = true) (ts : List Tr) (h : setL [(c, "context")] km = (true, km')) : takesS vars P (withinS c ts) (km, n) = (true, (km', n)) := by
  simp (decide := true) [withinS, takesS, sk_within, fitsT, sp_context, sp_block, isTup, nameT, hc, knowsS, okP, slotsS, slotPr, slp_tup, s3_context, List.filterMap_cons, List.filterMap_nil, h]
theorem pr_show : progT (showS x) = [] := by simp (decide := true) [showS, progT, sk_show]
theorem pr_drop : progT (dropS x) = [] := by simp (decide := true) [dropS, progT, sk_drop]
theorem pr_copy : progT (copyS x) = [] := by simp (decide := true) [copyS, progT, sk_copy]
theorem pr_reset : progT (resetS x) = [] := by simp (decide := true) [resetS, progT, sk_reset]
theorem pr_step : progT (stepS x) = [] := by simp (decide := true) [stepS, progT, sk_step]
theorem pr_guard (ts : List Tr) : progT (guardS ts) = ts := by simp (decide := true) [guardS, progT, sk_guard, tupTs]
theorem pr_within (ts : List Tr) : progT (withinS c ts) = ts := by simp (decide := true) [withinS, progT, sk_within, tupTs]
theorem progD_nil : ∀ (d : Nat) (k : Ck), progD vars P d [] k = (none, k)
  | 0, _ => rfl
  | _ + 1, _ => rfl
theorem progF_go {t : Tr} {r : List Tr} {i : Nat} {k k' k2 : Ck} (h : takesS vars P t k = (true, k')) (h2 : progD vars P d (progT t) k' = (none, k2)) : progF vars P (progD vars P d) false (t :: r) i k = progF vars P (progD vars P d) false r (i + 1) k2 := by
  rw [progF_one]
  unfold one13
  simp only [h, h2]
theorem progF_in {t : Tr} {r : List Tr} {i : Nat} {k k' k2 : Ck} {w : List Nat} (h : takesS vars P t k = (true, k')) (h2 : progD vars P d (progT t) k' = (some w, k2)) : progF vars P (progD vars P d) false (t :: r) i k = (some (i :: 0 :: w), k2) := by
  rw [progF_one]
  unfold one13
  simp only [h, h2]
theorem progF_shows (hx : nameS x = true) (hv : x ∈ vars) (r : List Tr) (k : Ck) : ∀ (b i : Nat), progF vars P (progD vars P d) false (List.replicate b (showS x) ++ r) i k = progF vars P (progD vars P d) false r (i + b) k
  | 0, i => rfl
  | b + 1, i => by
    rw [List.replicate_succ, List.cons_append, progF_go (ta_show hx hv k) (by rw [pr_show]; exact progD_nil _ _), progF_shows hx hv r k b (i + 1)]
    congr 1
    omega
theorem progF_drops (hx : nameS x = true) (hv : x ∈ vars) (k : Ck) : ∀ (b i : Nat), progF vars P (progD vars P d) false (List.replicate b (dropS x)) i k = (none, k)
  | 0, i => rfl
  | b + 1, i => by
    rw [List.replicate_succ, progF_go (ta_drop hx hv k) (by rw [pr_drop]; exact progD_nil _ _), progF_drops hx hv k b (i + 1)]
/-- the program whose answer is r wherever only c, t, g have kinds -/
def Ans (vars : List Str) (P : List (Str × List Str)) (c t g new : Str) (d : Nat) (prog : List Tr) (r : Option (List Nat)) (L : Nat) : Prop :=
  ∀ km n, Ok3 c t g new km → ∃ k', progD vars P d prog (km, n) = (r, k') ∧ k'.1.length ≤ km.length + L
theorem ok_put_c (hct : ¬ c = t) (hcg : ¬ c = g) (hw : ¬ new = c) (h : Ok3 c t g new km) : ∃ km', setL [(c, "context")] km = (true, km') ∧ Ok3 c t g new km' ∧ km'.length ≤ km.length + 1 ∧ kget km' c = some ("context" : Str) := by
  obtain ⟨km', e, h1, h2, l⟩ := put1 h.c0
  exact ⟨km', e, ⟨.inr h1, by rw [h2 t fun q => hct q.symm]; exact h.t0, by rw [h2 g fun q => hcg q.symm]; exact h.g0, by rw [h2 new hw]; exact h.n0⟩, l, h1⟩
theorem ok_put_t (hct : ¬ c = t) (htg : ¬ t = g) (hw : ¬ new = t) (h : Ok3 c t g new km) : ∃ km', setL [(t, "token")] km = (true, km') ∧ Ok3 c t g new km' ∧ km'.length ≤ km.length + 1 ∧ kget km' t = some ("token" : Str) ∧ kget km' c = kget km c := by
  obtain ⟨km', e, h1, h2, l⟩ := put1 h.t0
  exact ⟨km', e, ⟨by rw [h2 c hct]; exact h.c0, .inr h1, by rw [h2 g fun q => htg q.symm]; exact h.g0, by rw [h2 new hw]; exact h.n0⟩, l, h1, h2 c hct⟩
theorem ok_put_g (hcg : ¬ c = g) (htg : ¬ t = g) (hw : ¬ new = g) (h : Ok3 c t g new km) : ∃ km', setL [(g, "piece")] km = (true, km') ∧ Ok3 c t g new km' ∧ km'.length ≤ km.length + 1 ∧ kget km' g = some ("piece" : Str) ∧ kget km' c = kget km c ∧ kget km' t = kget km t := by
  obtain ⟨km', e, h1, h2, l⟩ := put1 h.g0
  exact ⟨km', e, ⟨by rw [h2 c hcg]; exact h.c0, by rw [h2 t htg]; exact h.t0, .inr h1, by rw [h2 new hw]; exact h.n0⟩, l, h1, h2 c hcg, h2 t htg⟩
end
/-- the slots are different names -/
structure Slots (c t g new : Str) : Prop where
  hc : nameS c = true
  ht : nameS t = true
  hg : nameS g = true
  ct : ¬ c = t
  cg : ¬ c = g
  tg : ¬ t = g
  wc : ¬ new = c
  wt : ¬ new = t
  wg : ¬ new = g
def headS (c t g : Str) : List Tr := [copyS c, resetS t, stepS g]
def baseS (x c t g : Str) (b : Nat) (one : Tr) (k : Nat) : List Tr := headS c t g ++ List.replicate b (showS x) ++ [one] ++ List.replicate k (dropS x)
def wrapS (c g : Str) (isg : Bool) (at_ : Nat) (prog : List Tr) : List Tr := List.replicate at_ (stepS g) ++ [if isg = true then guardS prog else withinS c prog]
def wrapsS (c g : Str) (prog : List Tr) (ws : List (Bool × Nat)) : List Tr := ws.foldl (fun p e => wrapS c g e.1 e.2 p) prog
def wayW (w : List Nat) (ws : List (Bool × Nat)) : List Nat := ws.foldl (fun p e => e.2 :: 0 :: p) w
def nest1 (c : Str) (isg : Bool) (one : Tr) : Tr := if isg = true then guardS [one] else withinS c [one]
def nestS (c : Str) (one : Tr) (bs : List Bool) : Tr := bs.foldl (fun p e => nest1 c e p) one
section
variable {x y c t g new : Str} {vars : List Str} {P : List (Str × List Str)} {d L : Nat} {one : Tr} {prog : List Tr} {r : Option (List Nat)} {w : List Nat}
theorem base_go (S : Slots c t g new) (hx : nameS x = true) (hv : x ∈ vars) {km : Km} {n : Nat} (h : Ok3 c t g new km) (b : Nat) (one : Tr) (k : Nat) : ∃ km3 n3, K3 c t g new km3 ∧ km3.length ≤ km.length + 3 ∧
    progD vars P (d + 1) (baseS x c t g b one k) (km, n) = progF vars P (progD vars P d) false (one :: List.replicate k (dropS x)) (3 + b) (km3, n3) := by
  obtain ⟨m1, e1, o1, l1, g1⟩ := ok_put_c S.ct S.cg S.wc h
  obtain ⟨m2, e2, o2, l2, g2, g2c⟩ := ok_put_t S.ct S.tg S.wt o1
  obtain ⟨m3, e3, o3, l3, g3, g3c, g3t⟩ := ok_put_g S.cg S.tg S.wg o2
  refine ⟨m3, n + 1, ⟨by rw [g3c, g2c]; exact g1, by rw [g3t]; exact g2, g3, o3.n0⟩, by omega, ?_⟩
  show progF vars P (progD vars P d) false (baseS x c t g b one k) 0 (km, n) = _
  unfold baseS headS
  rw [List.append_assoc, List.append_assoc, List.cons_append, List.cons_append, List.cons_append, List.nil_append]
  rw [progF_go (ta_copy S.hc e1) (by rw [pr_copy]; exact progD_nil _ _), progF_go (ta_reset S.ht e2) (by rw [pr_reset]; exact progD_nil _ _), progF_go (ta_step S.hg e3) (by rw [pr_step]; exact progD_nil _ _)]
  rw [progF_shows hx hv]
  rfl
theorem base_bad (S : Slots c t g new) (hx : nameS x = true) (hv : x ∈ vars) (h : ∀ km n, K3 c t g new km → (one13 vars P d one (km, n)).1 = some w ∧ (one13 vars P d one (km, n)).2.1.length ≤ km.length + 6) (b k : Nat) :
    Ans vars P c t g new (d + 1) (baseS x c t g b one k) (some ((3 + b) :: w)) 9 := fun km n o => by
  obtain ⟨m3, n3, k3, l3, e⟩ := base_go (P := P) (d := d) (n := n) S hx hv o b one k
  obtain ⟨h1, h2⟩ := h m3 n3 k3
  rw [e, progF_one]
  cases q : one13 vars P d one (m3, n3) with
  | mk a c2 =>
  rw [q] at h1 h2
  have h1 : a = some w := h1
  subst h1
  have h2 : c2.1.length ≤ m3.length + 6 := h2
  exact ⟨c2, rfl, by omega⟩
theorem base_good (S : Slots c t g new) (hx : nameS x = true) (hv : x ∈ vars) (h : ∀ km n, K3 c t g new km → (one13 vars P d one (km, n)).1 = none ∧ (one13 vars P d one (km, n)).2.1.length ≤ km.length + 6) (b k : Nat) :
    Ans vars P c t g new (d + 1) (baseS x c t g b one k) none 9 := fun km n o => by
  obtain ⟨m3, n3, k3, l3, e⟩ := base_go (P := P) (d := d) (n := n) S hx hv o b one k
  obtain ⟨h1, h2⟩ := h m3 n3 k3
  rw [e, progF_one]
  cases q : one13 vars P d one (m3, n3) with
  | mk a c2 =>
  rw [q] at h1 h2
  have h1 : a = none := h1
  subst h1
  have h2 : c2.1.length ≤ m3.length + 6 := h2
  simp only
  rw [progF_drops hx hv]
  exact ⟨c2, rfl, by omega⟩
theorem in_ans (S : Slots c t g new) (A : Ans vars P c t g new d prog r L) (isg : Bool) {km : Km} {n : Nat} (o : Ok3 c t g new km) (i : Nat) :
    ∃ k', progF vars P (progD vars P d) false [if isg = true then guardS prog else withinS c prog] i (km, n) = (r.map (fun w => i :: 0 :: w), k') ∧ k'.1.length ≤ km.length + (L + 1) := by
  cases isg with
  | true =>
    obtain ⟨k', e, l⟩ := A km n o
    rw [if_pos rfl]
    refine ⟨k', ?_, by omega⟩
    cases r with
    | none => rw [progF_go (ta_guard prog _) (by rw [pr_guard]; exact e)]; rfl
    | some w => rw [progF_in (ta_guard prog _) (by rw [pr_guard]; exact e)]; rfl
  | false =>
    obtain ⟨m1, e1, o1, l1, _⟩ := ok_put_c S.ct S.cg S.wc o
    obtain ⟨k', e, l⟩ := A m1 n o1
    rw [if_neg Bool.false_ne_true]
    refine ⟨k', ?_, by omega⟩
    cases r with
    | none => rw [progF_go (ta_within S.hc prog e1) (by rw [pr_within]; exact e)]; rfl
    | some w => rw [progF_in (ta_within S.hc prog e1) (by rw [pr_within]; exact e)]; rfl
theorem wrap_ans (S : Slots c t g new) (A : Ans vars P c t g new d prog r L) (isg : Bool) {at_ : Nat} (ha : at_ ≤ 1) : Ans vars P c t g new (d + 1) (wrapS c g isg at_ prog) (r.map fun w => at_ :: 0 :: w) (L + 2) := fun km n o => by
  show ∃ k', progF vars P (progD vars P d) false (wrapS c g isg at_ prog) 0 (km, n) = _ ∧ _
  have e01 : at_ = 0 ∨ at_ = 1 := by omega
  rcases e01 with rfl | rfl
  · obtain ⟨k', e, l⟩ := in_ans (n := n) S A isg o 0
    exact ⟨k', e, by omega⟩
  · obtain ⟨m3, e3, o3, l3, _⟩ := ok_put_g S.cg S.tg S.wg o
    obtain ⟨k', e, l⟩ := in_ans (n := n + 1) S A isg o3 1
    refine ⟨k', ?_, by omega⟩
    show progF vars P (progD vars P d) false (stepS g :: [if isg = true then guardS prog else withinS c prog]) 0 (km, n) = _
    rw [progF_go (ta_step S.hg e3) (by rw [pr_step]; exact progD_nil _ _)]
    exact e
theorem wraps_ans (S : Slots c t g new) : ∀ (ws : List (Bool × Nat)) {d L : Nat} {prog : List Tr} {r : Option (List Nat)}, Ans vars P c t g new d prog r L → (∀ e ∈ ws, e.2 ≤ 1) → Ans vars P c t g new (d + ws.length) (wrapsS c g prog ws) (r.map fun w => wayW w ws) (L + 2 * ws.length)
  | [], d, L, prog, r, A, _ => by
    have e : (r.map fun w => wayW w []) = r := by cases r <;> rfl
    rw [e]
    exact A
  | e :: ws, d, L, prog, r, A, h => by
    have A1 := wrap_ans S A e.1 (h e List.mem_cons_self)
    have A2 := wraps_ans S ws A1 fun z hz => h z (List.mem_cons_of_mem _ hz)
    have e1 : (Option.map (fun w => wayW w ws) (Option.map (fun w => e.2 :: 0 :: w) r)) = r.map fun w => wayW w (e :: ws) := by cases r <;> rfl
    rw [e1] at A2
    have e2 : d + (e :: ws).length = d + 1 + ws.length := by rw [List.length_cons]; omega
    have e3 : L + 2 * (e :: ws).length = L + 2 + 2 * ws.length := by rw [List.length_cons]; omega
    rw [e2, e3]
    exact A2
theorem nest_ans (S : Slots c t g new) : ∀ (bs : List Bool) {d L : Nat} {one : Tr} {r : Option (List Nat)}, Ans vars P c t g new d [one] r L → Ans vars P c t g new (d + bs.length) [nestS c one bs] (r.map fun w => List.replicate (2 * bs.length) 0 ++ w) (L + bs.length)
  | [], d, L, one, r, A => by
    have e : (r.map fun w => List.replicate (2 * ([] : List Bool).length) 0 ++ w) = r := by cases r <;> rfl
    rw [e]
    exact A
  | e :: bs, d, L, one, r, A => by
    have A1 : Ans vars P c t g new (d + 1) [nest1 c e one] (r.map fun w => 0 :: 0 :: w) (L + 1) := fun km n o => in_ans (n := n) S A e o 0
    have A2 := nest_ans S bs A1
    have e1 : (Option.map (fun w => List.replicate (2 * bs.length) 0 ++ w) (Option.map (fun w => 0 :: 0 :: w) r)) = r.map fun w => List.replicate (2 * (e :: bs).length) 0 ++ w := by
      cases r with
      | none => rfl
      | some w =>
        show some (List.replicate (2 * bs.length) 0 ++ 0 :: 0 :: w) = some (List.replicate (2 * (e :: bs).length) 0 ++ w)
        congr 1
        rw [List.length_cons, show 2 * (bs.length + 1) = 2 * bs.length + 1 + 1 by omega, List.replicate_succ', List.replicate_succ']
        simp
    rw [e1] at A2
    have e2 : d + (e :: bs).length = d + 1 + bs.length := by rw [List.length_cons]; omega
    have e3 : L + (e :: bs).length = L + 1 + bs.length := by rw [List.length_cons]; omega
    rw [e2, e3]
    exact A2
theorem last_show (hx : nameS x = true) (hv : x ∈ vars) : Ans vars P c t g new (d + 1) [showS x] none 0 := fun km n _ => ⟨(km, n), by
  show progF vars P (progD vars P d) false [showS x] 0 (km, n) = _
  rw [progF_go (ta_show hx hv _) (by rw [pr_show]; exact progD_nil _ _)]
  rfl, Nat.le_refl _⟩
theorem last_guard : Ans vars P c t g new (d + 1) [guardS []] none 0 := fun km n _ => ⟨(km, n), by
  show progF vars P (progD vars P d) false [guardS []] 0 (km, n) = _
  rw [progF_go (ta_guard _ _) (by rw [pr_guard]; exact progD_nil _ _)]
  rfl, Nat.le_refl _⟩
def makeS (g p : Str) : Tr := .tup [.str "make", .str g, .str p, .tup []]
theorem last_make {p : Str} (S : Slots c t g new) (hp : nameS p = true) (hP : pget P p = some []) : Ans vars P c t g new (d + 1) [makeS g p] none 1 := fun km n o => by
  obtain ⟨m3, e3, o3, l3, _⟩ := ok_put_g S.cg S.tg S.wg o
  have ta : takesS vars P (makeS g p) (km, n) = (true, (m3, n)) := by
    simp (decide := true) [makeS, takesS, sk_make, fitsT, sp_piece, sp_name, sp_args, argsT, nameT, S.hg, hp, knowsS, okP, strIn, keyIn, plen, hP, tupTs, slotsS, slotPr, slp_tup, s3_piece, s3_name, List.filterMap_cons, List.filterMap_nil, parsOf, argsOf, texts, e3]
  have pr : progT (makeS g p) = [] := by simp (decide := true) [makeS, progT, sk_make]
  refine ⟨(m3, n), ?_, l3⟩
  show progF vars P (progD vars P d) false [makeS g p] 0 (km, n) = _
  rw [progF_go ta (by rw [pr]; exact progD_nil _ _)]
  rfl
theorem last_over (one : Tr) : Ans vars P c t g new 0 [one] (some [0]) 0 := fun km n _ => ⟨(km, n), rfl, Nat.le_refl _⟩
theorem ok_empty : Ok3 c t g new [] := ⟨.inl rfl, .inl rfl, .inl rfl, rfl⟩
end
/-- what is asked of a program and its place -/
structure DueP (vars : List Str) (P : List (Str × List Str)) (t pl : Tr) : Prop where
  thin : thinT t = true
  len : ∀ ts, t = .tup ts → (progD vars P 13 ts ([], 0)).2.1.length ≤ 900
  ans : (faultP vars P t = none ∧ pl = .non ∧ ReprOk t) ∨ ∃ w, faultP vars P t = some w ∧ pl = .tup (intsT w) ∧ ReprOk (.tup (intsT w))
section
variable {x y c t g new : Str} {vars : List Str} {P : List (Str × List Str)} {d L : Nat} {prog : List Tr} {w : List Nat}
theorem re_ints (hl : w.length ≤ 50) (h : ∀ n ∈ w, n ≤ 1000) : ReprOk (.tup (intsT w)) := by
  obtain ⟨a, b, c⟩ := ints_small w hl h
  refine ⟨a, ?_, ?_⟩
  · show depTs (intsT w) + 1 ≤ 50
    omega
  · show sizTs (intsT w) ≤ 400
    omega
theorem due_none (A : Ans vars P c t g new 13 prog none L) (hL : L ≤ 900) (ht : thinT (.tup prog) = true) (hr : ReprOk (.tup prog)) : DueP vars P (.tup prog) .non := by
  obtain ⟨k', e, l⟩ := A [] 0 ok_empty
  refine ⟨ht, fun ts h => ?_, .inl ⟨?_, rfl, hr⟩⟩
  · cases h
    rw [e]
    exact Nat.le_trans l (by simpa using hL)
  · show (progD vars P 13 prog ([], 0)).1 = none
    rw [e]
theorem due_some (A : Ans vars P c t g new 13 prog (some w) L) (hL : L ≤ 900) (ht : thinT (.tup prog) = true) (hl : w.length ≤ 50) (h : ∀ n ∈ w, n ≤ 1000) : DueP vars P (.tup prog) (.tup (intsT w)) := by
  obtain ⟨k', e, l⟩ := A [] 0 ok_empty
  refine ⟨ht, fun ts h => ?_, .inr ⟨w, ?_, rfl, re_ints hl h⟩⟩
  · cases h
    rw [e]
    exact Nat.le_trans l (by simpa using hL)
  · show (progD vars P 13 prog ([], 0)).1 = some w
    rw [e]
end
end BK

set_option Elab.async false
set_option maxRecDepth 100000
set_option maxHeartbeats 4000000
set_option linter.unusedVariables false
/-! _law_due_right. -/
namespace BK
open PySem PySem.Spec PyProof.Rows L2 RZ ET
/-- what repr asks of t -/
theorem repr_one {ts : List Tr} (h : ReprOk (.tup ts)) : (pdT (.tup ts)).showable = true ∧ (pdT (.tup ts)).hasDict = false ∧ (pdT (.tup ts)).depth ≤ 60 ∧ (pdT (.tup ts)).shown.length ≤ sizeLine := by
  refine ⟨pd_show _ h.da, pd_noDict _, ?_, ?_⟩
  · rw [pd_depth]
    have := h.de
    omega
  · have := PyData.shown_le 100 (by decide) _ (pd_leaves _ h.da)
    have w := pd_weight _ h.da
    have s := h.si
    rw [sizeLine_eq]
    omega
/-- what repr asks of [t] -/
theorem repr_list1 {t : Tr} (h : ReprOk t) : (PyData.list [pdT t]).showable = true ∧ (PyData.list [pdT t]).hasDict = false ∧ (PyData.list [pdT t]).depth ≤ 60 ∧ (PyData.list [pdT t]).shown.length ≤ sizeLine := by
  refine ⟨by simp only [PyData.showable, PyData.showableAll, pd_show t h.da, Bool.and_self], by simp only [PyData.hasDict, PyData.hasDictAll, pd_noDict t, Bool.or_self], ?_, ?_⟩
  · simp only [PyData.depth, PyData.depthAll, pd_depth]
    have := h.de
    omega
  · have l : PyData.leavesShort 100 (.list [pdT t]) = true := by simp only [PyData.leavesShort, PyData.leavesShortAll, pd_leaves t h.da, Bool.and_self]
    have := PyData.shown_le 100 (by decide) _ l
    have w := pd_weight t h.da
    have s := h.si
    simp only [PyData.weight, PyData.weightAll] at this
    rw [sizeLine_eq]
    omega
abbrev sDueP : Stmt := top 58
abbrev nDueP : List Str := ["book", "thing", "place", "found", "caught", "e", "others"]
theorem scDueP : FnScope nDueP ["book", "thing", "place"] (defScope sDueP) := ⟨rfl, rfl, rfl, by decide +kernel, rfl, by decide +kernel, by decide +kernel⟩
def spDueP (K : PySem.W.Frag) : Sp := fun vs H Q _ => ∃ bv tv pl bt t plt, vs = [bv, tv, pl] ∧ TrAt K H bv bt ∧ faultT bt = none ∧ TrAt K H tv t ∧ TrAt K H pl plt ∧ DueP (varsB bt) (piecesB bt) t plt ∧ ∀ H', Same H H' → Q (.bl true) H'
/-- the classes of errors that the law names -/
structure ErrsP (K : PySem.W.Frag) (mg : Str → Option Value) (CB CP CQ CT CF CS : Addr) : Prop where
  gB : mg "BadBook" = some (.ref CB)
  gP : mg "BadProgram" = some (.ref CP)
  gQ : mg "BadQuestion" = some (.ref CQ)
  gT : mg "BadText" = some (.ref CT)
  gF : mg "Fails" = some (.ref CF)
  gS : mg "StepwhereError" = some (.ref CS)
  exP : PySem.W.exmAny K (.ref CP) [.ref CB, .ref CP, .ref CQ, .ref CT] = some true
  exB : PySem.W.exmAny K (.ref CB) [.ref CB, .ref CP, .ref CQ, .ref CT] = some true
  k4 : PySem.W.kitAny K (.ref CP) [.ref CB, .ref CQ, .ref CT, .ref CF] = some false
  kP : PySem.W.kitOne K (.ref CP) (.ref CP) = some true
  kS : PySem.W.kitOne K (.ref CP) (.ref CS) = some true
  kV : PySem.W.kitOne K (.ref CP) (.type "ValueError") = some true
  kB : PySem.W.kitOne K (.ref CB) (.ref CB) = some true
  k5 : PySem.W.kitAny K (.ref CB) [.ref CP, .ref CQ, .ref CT, .ref CF] = some false
section
variable {P : Program} {w : World} {K : PySem.W.Frag} {mg : Str → Option Value} {base : Heap}
theorem ok_dueP {f fN CB CP CQ CT CF CS : Addr} {fdN : FuncData} {oc kV doc pm ct cdv : Value} {od an : Option Addr} {osl : Array (Option Value)} (lk : K.lookup f = some ⟨oc, od, .func (PySem.W.fnOf "_law_due_right" "_law_due_right" (defArgs sDueP) (defBody sDueP) (defScope sDueP) .none kV doc pm an cdv ct), osl⟩)
    (hcd : PySem.W.codeIn K cdv "_law_due_right" = true) (Er : ErrsP K mg CB CP CQ CT CF CS) (R : ErrF K CP) (I : IsFacts K CP)
    (GN : FnOk P w K mg base (L2.CX P w) 22 fN fdN ["book", "thing"] (spNeedP K CB CP)) (bN : Binds K fdN ["book", "thing"] []) (gN : mg "need_program" = some (.ref fN)) (kN : PySem.W.keepIn K (.ref fN) = true)
    (mR : mg "repr" = none) (mI : mg "isinstance" = none) (mV : mg "ValueError" = none) :
    FnG P w K mg base 23 f (PySem.W.fnOf "_law_due_right" "_law_due_right" (defArgs sDueP) (defBody sDueP) (defScope sDueP) .none kV doc pm an cdv ct) ["book", "thing", "place"] (spDueP K) := by
  refine fng_of lk hcd scDueP (fun vs H Q E h => ?_) (fun A outer s H vs Q E gd hr h => ?_)
  · obtain ⟨bv, tv, pl, bt, t, plt, rfl, _⟩ := h
    rfl
  · obtain ⟨bv, tv, pl, bt, t, plt, rfl, hb, eb, ht, hp, D, k⟩ := h
    have hr0 : Room 0 _ := hr.mono (by decide)
    have gd' : (A.deeper (envOfC "_law_due_right" (defScope sDueP) s.heap.objs.size f cdv)).guards = some [] := gd
    refine ⟨_, pss_cons (ps_par (i := 3) (j := 4) rfl scDueP.nd rfl rfl (by decide) rfl rfl (pa_cons (pe_lst pa_nil) (pa_cons pe_non pa_nil)) (by rfl))
      (pss_cons (ps_try_keep (X := (cxOf C8.CX0 P w K mg base nDueP "_law_due_right" (defScope sDueP) f cdv A outer s H E).nox) (i := 5) (j := 4) (c1 := .ref CB) (c2 := .ref CP) (c3 := .ref CQ) (c4 := .ref CT)
          (tb := fun W => tDrop (tBM K "list" rAppend (tVar 3) (tCons (tCallS (spNeedP K CB CP) (fun σ cls d H' => W cls d σ H') (tCons (tVar 0) (tCons (tVar 1) tNil))) tNil)))
          (x1 := "BadBook") (x2 := "BadProgram") (x3 := "BadQuestion") (x4 := "BadText") rfl rfl rfl scDueP.nd rfl rfl rfl rfl (by show 5 < 7; decide) (by decide) ⟨by rfl, by decide, .inl Er.gB⟩ ⟨by rfl, by decide, .inl Er.gP⟩ ⟨by rfl, by decide, .inl Er.gQ⟩ ⟨by rfl, by decide, .inl Er.gT⟩ LamX.takes0
          (fun W pn xe tk _ => pss_one (ps_expr (pe_bm PySem.F.plainAttrs_list PySem.F.slot_list_append PySem.F.type_list_append mt_append (pv 3) (pa_cons (by exact (pe_callS GN hr rfl gN kN bN (fun σ => passAt tk σ) (by exact (pa_cons (pv 0) (pa_cons (pv 1) pa_nil))))) pa_nil)))))
      (pss_cons (ps_if (pt_cmp (pc_isN (pv 4))) (pss_one (ps_ret (pe_and (pe_cmp (pc_isN (pv 2)) rfl) (pe_one (pe_cmpR op_eq
          (pe_callB (call_reprD gd' hr0) (by rfl) mR boot_repr (pa_cons (pv 3) pa_nil))
          (pe_callB (call_reprD gd' hr0) (by rfl) mR boot_repr (pa_cons (pe_lst (pa_cons (pv 1) pa_nil)) pa_nil)) (nomark _)))))) pss_nil)
      (C8.pss_cut (ps_set (i := 6) scDueP.nd rfl (Or.inl rfl) (pe_callB (call_isiEOT R I) (by rfl) mI boot_isinstance (pa_cons (pv 4) (pa_cons (pe_tup (pa_cons (pe_glob (v := .ref CB) rfl Er.gB rfl) (pa_cons (pe_glob (v := .ref CQ) rfl Er.gQ rfl) (pa_cons (pe_glob (v := .ref CT) rfl Er.gT rfl) (pa_cons (pe_glob (v := .ref CF) rfl Er.gF rfl) pa_nil))))) pa_nil))))
      (pss_cons (ps_if (PW.pt (pw_or (pt_val (pv 6)) (pw_or (pt_not (pt_val (pe_callB (call_isiEO R I) (by rfl) mI boot_isinstance (pa_cons (pv 4) (pa_cons (pe_glob (v := .ref CP) rfl Er.gP rfl) pa_nil)))))
          (pw_or (pt_not (pt_val (pe_callB (call_isiEO R I) (by rfl) mI boot_isinstance (pa_cons (pv 4) (pa_cons (pe_glob (v := .ref CS) rfl Er.gS rfl) pa_nil)))))
          (pw_or1 (pt_cmp (pc_isN (pv 2)))))))) (pss_one (ps_ret pe_bl)) pss_nil)
      (pss_one (ps_ret (pe_and (pe_callB (call_isiEO R I) (by rfl) mI boot_isinstance (pa_cons (pv 4) (pa_cons (pe_bltn (v := .ty "ValueError") (u := .type "ValueError") (by rfl) mV (by decide +kernel) rfl) pa_nil)))
        (pe_one (pe_cmpR op_eq
          (pe_callB (call_reprD gd' hr0) (by rfl) mR boot_repr (pa_cons (pe_place R (pv 4)) pa_nil))
          (pe_callB (call_reprD gd' hr0) (by rfl) mR boot_repr (pa_cons (pv 2) pa_nil)) (nomark _)))))))))), ?_⟩
    have one : 1 ≤ sizeLine := by decide
    refine ⟨Nat.zero_le _, fun L nL => ⟨_, _, rfl, ?_⟩⟩
    have sL := same_new (o := .lst []) nL
    have eL : (upd H L (.lst [])) L = some (.lst []) := upd_same
    have nL0 := nL
    generalize upd H L (.lst []) = H0 at sL eL ⊢
    refine ⟨_, rfl, .inl ⟨rfl, _, SqL.of eL⟩, _, rfl, _, rfl, bv, tv, bt, t, rfl, hb.same sL, ht.same sL, D.thin, fun _ => D.len, fun _ ef H1 s1 => ?_, fun p ep => (by rw [eb] at ep; cases ep), fun _ ww ef pv d H1 s1 nd ed tp => ⟨true, Er.exP, fun _ _ a na => ?_, fun z => Bool.noConfusion z⟩⟩
    · -- a program
      rcases D.ans with ⟨_, rfl, ro⟩ | ⟨w', e', _⟩
      · cases hp
        refine ⟨L, [], tv, rfl, rfl, s1 _ _ eL, by decide, ?_⟩
        have eL2 : (upd H1 L (.lst ([] ++ [tv]))) L = some (.lst [tv]) := upd_same
        have s2 : Same H (upd H1 L (.lst ([] ++ [tv]))) := fun b o eb => by
          rw [upd_ne (ne_of_none eb nL0)]
          exact s1 _ _ (sL _ _ eb)
        generalize upd H1 L (.lst ([] ++ [tv])) = H2 at eL2 s2 ⊢
        refine ⟨_, rfl, _, rfl, iteT ?_⟩
        refine ⟨_, rfl, true, rfl, iteT ?_⟩
        obtain ⟨a1, a2, a3, a4⟩ := repr_list1 ro
        refine ⟨_, rfl, L, _, rfl, .lst (SqL.of eL2) (.cons ((ht.same s2).dp ro.da) .nil), a1, a2, a3, a4, ?_⟩
        refine ⟨_, rfl, one, fun r nr => ?_⟩
        have s5 := same_new (o := .lst [tv]) nr
        refine ⟨r, .list [pdT t], rfl, .lst (SqL.of upd_same) (.cons ((ht.same (s2.trans s5)).dp ro.da) .nil), a1, a2, a3, a4, rfl, ?_⟩
        have := k _ (s2.trans s5)
        rw [show decide (V.str (PyData.list [pdT t]).shown = V.str (PyData.list [pdT t]).shown) = true from decide_eq_true rfl]
        exact this
      · rw [ef] at e'
        cases e'
    · -- refused
      rcases D.ans with ⟨e', _⟩ | ⟨w', e', rfl, ro⟩
      · rw [ef] at e'; cases e'
      rw [ef] at e'
      obtain rfl := Option.some.inj e'
      obtain ⟨pa, rfl⟩ : ∃ pa, pl = .ref pa := by cases hp; exact ⟨_, rfl⟩
      obtain ⟨qa, rfl⟩ : ∃ qa, pv = .ref qa := by cases tp; exact ⟨_, rfl⟩
      have ea : (upd H1 a (EO a (.ref CP) (some d))) a = some (EO a (.ref CP) (some d)) := upd_same
      have edd : (upd H1 a (EO a (.ref CP) (some d))) d = some (.xd [("place", .ref qa)]) := by
        rw [upd_ne (ne_of_none ed na)]
        exact ed
      have sm := same_new (o := EO a (.ref CP) (some d)) na
      have s2 : Same H (upd H1 a (EO a (.ref CP) (some d))) := (sL.trans s1).trans sm
      have tp2 := tp.same sm
      generalize upd H1 a (EO a (.ref CP) (some d)) = H2 at ea edd s2 tp2 ⊢
      refine ⟨_, rfl, _, rfl, iteF ?_⟩
      refine ⟨fun σ H3 => σ = [some bv, some tv, some (.ref pa), some (.ref L), some (.ref a), none, some (.bl false)] ∧ Same H2 H3, ?_, ?_⟩
      · refine ⟨_, rfl, (by show 4 ≤ sizeLine; decide), fun tq ntq => ?_⟩
        have s3 := same_new (o := .tup [.ref CB, .ref CQ, .ref CT, .ref CF]) ntq
        exact ⟨a, d, tq, _, _, _, false, rfl, upd_same, .cons (.own CB) (.cons (.own CQ) (.cons (.own CT) (.cons (.own CF) .nil))), s3 _ _ ea, s3 _ _ edd, Er.k4, rfl, s3⟩
      rintro σ H3 ⟨rfl, s3⟩
      have ea3 := s3 _ _ ea
      have ed3 := s3 _ _ edd
      refine ⟨_, rfl, _, rfl, iteF ?_⟩
      refine ⟨_, rfl, a, d, _, _, _, true, rfl, .own CP, ea3, ed3, Er.kP, _, rfl, iteF ?_⟩
      refine ⟨_, rfl, a, d, _, _, _, true, rfl, .own CS, ea3, ed3, Er.kS, _, rfl, iteF ?_⟩
      refine ⟨_, rfl, _, rfl, iteF ?_⟩
      refine ⟨_, rfl, a, d, _, _, _, true, rfl, .ty "ValueError", ea3, ed3, Er.kV, _, rfl, iteT ?_⟩
      obtain ⟨a1, a2, a3, a4⟩ := repr_one ro
      refine ⟨_, rfl, a, d, .ref qa, rfl, ea3, ed3, qa, _, rfl, (tp2.same s3).dp ro.da, a1, a2, a3, a4, ?_⟩
      refine ⟨_, rfl, pa, _, rfl, (hp.same (s2.trans s3)).dp ro.da, a1, a2, a3, a4, rfl, ?_⟩
      have := k _ (s2.trans s3)
      rw [show decide (V.str (pdT (.tup (intsT ww))).shown = V.str (pdT (.tup (intsT ww))).shown) = true from decide_eq_true rfl]
      exact this
end
end BK

set_option Elab.async false
set_option maxRecDepth 100000
set_option maxHeartbeats 4000000
set_option linter.unusedSimpArgs false
set_option linter.unusedVariables false
/-! the law's programs: what is asked of them -/
namespace BK
open PySem PySem.Spec PyProof.Rows L2
section
variable {x y c t g none new p q r : Str}
theorem thGood0 : ∀ one ∈ cGood0 x y c t g none new p q r, thinT one = true := by
  intro one h
  simp only [cGood0, List.mem_cons, List.not_mem_nil, or_false] at h
  rcases h with rfl | rfl | rfl | rfl | rfl | rfl <;> rfl
theorem thGood1 : ∀ one ∈ cGood1 x y c t g none new p q r, thinT one = true := by
  intro one h
  simp only [cGood1, List.mem_cons, List.not_mem_nil, or_false] at h
  rcases h with rfl | rfl | rfl | rfl <;> rfl
theorem thGood2 : ∀ one ∈ cGood2 x y c t g none new p q r, thinT one = true := by
  intro one h
  simp only [cGood2, List.mem_cons, List.not_mem_nil, or_false] at h
  rcases h with rfl | rfl | rfl <;> rfl
theorem thGood3 : ∀ one ∈ cGood3 x y c t g none new p q r, thinT one = true := by
  intro one h
  simp only [cGood3, List.mem_cons, List.not_mem_nil, or_false] at h
  rcases h with rfl | rfl | rfl <;> rfl
theorem thGood4 : ∀ one ∈ cGood4 x y c t g none new p q r, thinT one = true := by
  intro one h
  simp only [cGood4, List.mem_cons, List.not_mem_nil, or_false] at h
  rcases h with rfl | rfl | rfl | rfl <;> rfl
theorem thWrong0 : ∀ one ∈ cWrong0 x y c t g none new p q r, thinT one = true := by
  intro one h
  simp only [cWrong0, List.mem_cons, List.not_mem_nil, or_false] at h
  rcases h with rfl | rfl | rfl | rfl | rfl | rfl | rfl | rfl | rfl | rfl | rfl | rfl <;> rfl
theorem thWrong1 : ∀ one ∈ cWrong1 x y c t g none new p q r, thinT one = true := by
  intro one h
  simp only [cWrong1, List.mem_cons, List.not_mem_nil, or_false] at h
  rcases h with rfl | rfl | rfl | rfl | rfl | rfl <;> rfl
theorem thWrong2 : ∀ one ∈ cWrong2 x y c t g none new p q r, thinT one = true := by
  intro one h
  simp only [cWrong2, List.mem_cons, List.not_mem_nil, or_false] at h
  rcases h with rfl | rfl | rfl | rfl | rfl <;> rfl
theorem thWrong3 : ∀ one ∈ cWrong3 x y c t g none new p q r, thinT one = true := by
  intro one h
  simp only [cWrong3, List.mem_cons, List.not_mem_nil, or_false] at h
  rcases h with rfl | rfl | rfl | rfl | rfl <;> rfl
theorem thWrong4 : ∀ one ∈ cWrong4 x y c t g none new p q r, thinT one = true := by
  intro one h
  simp only [cWrong4, List.mem_cons, List.not_mem_nil, or_false] at h
  rcases h with rfl | rfl <;> rfl
theorem thWrong5 : ∀ one ∈ cWrong5 x y c t g none new p q r, thinT one = true := by
  intro one h
  simp only [cWrong5, List.mem_cons, List.not_mem_nil, or_false] at h
  rcases h with rfl | rfl | rfl | rfl | rfl | rfl <;> rfl
theorem thWrong6 : ∀ one ∈ cWrong6 x y c t g none new p q r, thinT one = true := by
  intro one h
  simp only [cWrong6, List.mem_cons, List.not_mem_nil, or_false] at h
  rcases h with rfl | rfl | rfl | rfl | rfl | rfl | rfl <;> rfl
theorem thWrong7 : ∀ one ∈ cWrong7 x y c t g none new p q r, thinT one = true := by
  intro one h
  simp only [cWrong7, List.mem_cons, List.not_mem_nil, or_false] at h
  rcases h with rfl | rfl | rfl | rfl | rfl | rfl | rfl <;> rfl
theorem thWrong8 : ∀ one ∈ cWrong8 x y c t g none new p q r, thinT one = true := by
  intro one h
  simp only [cWrong8, List.mem_cons, List.not_mem_nil, or_false] at h
  rcases h with rfl | rfl | rfl | rfl | rfl | rfl <;> rfl
theorem thWrong9 : ∀ one ∈ cWrong9 x y c t g none new p q r, thinT one = true := by
  intro one h
  simp only [cWrong9, List.mem_cons, List.not_mem_nil, or_false] at h
  rcases h with rfl | rfl | rfl | rfl | rfl | rfl <;> rfl
theorem thMade0 : ∀ one ∈ cMade0 x y c t g none new p q r, thinT one = true := by
  intro one h
  simp only [cMade0, List.mem_cons, List.not_mem_nil, or_false] at h
  rcases h with rfl | rfl | rfl | rfl | rfl | rfl <;> rfl
theorem thMade1 : ∀ one ∈ cMade1 x y c t g none new p q r, thinT one = true := by
  intro one h
  simp only [cMade1, List.mem_cons, List.not_mem_nil, or_false] at h
  rcases h with rfl | rfl | rfl | rfl | rfl <;> rfl
theorem thMade2 : ∀ one ∈ cMade2 x y c t g none new p q r, thinT one = true := by
  intro one h
  simp only [cMade2, List.mem_cons, List.not_mem_nil, or_false] at h
  rcases h with rfl | rfl | rfl | rfl | rfl <;> rfl
theorem thMade3 : ∀ one ∈ cMade3 x y c t g none new p q r, thinT one = true := by
  intro one h
  simp only [cMade3, List.mem_cons, List.not_mem_nil, or_false] at h
  rcases h with rfl | rfl | rfl | rfl <;> rfl
theorem thMade4 : ∀ one ∈ cMade4 x y c t g none new p q r, thinT one = true := by
  intro one h
  simp only [cMade4, List.mem_cons, List.not_mem_nil, or_false] at h
  rcases h with rfl | rfl | rfl | rfl <;> rfl
theorem thMade5 : ∀ one ∈ cMade5 x y c t g none new p q r, thinT one = true := by
  intro one h
  simp only [cMade5, List.mem_cons, List.not_mem_nil, or_false] at h
  rcases h with rfl | rfl | rfl | rfl <;> rfl
theorem thMade6 : ∀ one ∈ cMade6 x y c t g none new p q r, thinT one = true := by
  intro one h
  simp only [cMade6, List.mem_cons, List.not_mem_nil, or_false] at h
  rcases h with rfl | rfl | rfl | rfl <;> rfl
theorem thMade7 : ∀ one ∈ cMade7 x y c t g none new p q r, thinT one = true := by
  intro one h
  simp only [cMade7, List.mem_cons, List.not_mem_nil, or_false] at h
  rcases h with rfl | rfl | rfl | rfl <;> rfl
theorem sm0 (N : Nms x y c t g none new p q r) : ∀ one ∈ cGood0 x y c t g none new p q r, dataT one = true ∧ depT one ≤ 12 ∧ sizT one ≤ 60 := by
  have sx := name_ok N.hx
  have sy := name_ok N.hy
  have sc := name_ok N.hc
  have st := name_ok N.ht
  have sg := name_ok N.hg
  have sp := name_ok N.hp
  have sq := name_ok N.hq
  have sr := name_ok N.hr
  have sw := name_ok N.hw
  intro one h
  simp only [cGood0, List.mem_cons, List.not_mem_nil, or_false] at h
  rcases h with rfl | rfl | rfl | rfl | rfl | rfl
  all_goals refine ⟨by simp (decide := true) only [da_int, da_tup, da_nil, da_cons, da_str, sx, sy, sc, st, sg, sp, sq, sr, sw, Bool.and_self, Bool.and_true, Bool.true_and], Nat.le_of_ble_eq_true rfl, Nat.le_of_ble_eq_true rfl⟩
theorem sm1 (N : Nms x y c t g none new p q r) : ∀ one ∈ cGood1 x y c t g none new p q r, dataT one = true ∧ depT one ≤ 12 ∧ sizT one ≤ 60 := by
  have sx := name_ok N.hx
  have sy := name_ok N.hy
  have sc := name_ok N.hc
  have st := name_ok N.ht
  have sg := name_ok N.hg
  have sp := name_ok N.hp
  have sq := name_ok N.hq
  have sr := name_ok N.hr
  have sw := name_ok N.hw
  intro one h
  simp only [cGood1, List.mem_cons, List.not_mem_nil, or_false] at h
  rcases h with rfl | rfl | rfl | rfl
  all_goals refine ⟨by simp (decide := true) only [da_int, da_tup, da_nil, da_cons, da_str, sx, sy, sc, st, sg, sp, sq, sr, sw, Bool.and_self, Bool.and_true, Bool.true_and], Nat.le_of_ble_eq_true rfl, Nat.le_of_ble_eq_true rfl⟩
theorem sm2 (N : Nms x y c t g none new p q r) : ∀ one ∈ cGood2 x y c t g none new p q r, dataT one = true ∧ depT one ≤ 12 ∧ sizT one ≤ 60 := by
  have sx := name_ok N.hx
  have sy := name_ok N.hy
  have sc := name_ok N.hc
  have st := name_ok N.ht
  have sg := name_ok N.hg
  have sp := name_ok N.hp
  have sq := name_ok N.hq
  have sr := name_ok N.hr
  have sw := name_ok N.hw
  intro one h
  simp only [cGood2, List.mem_cons, List.not_mem_nil, or_false] at h
  rcases h with rfl | rfl | rfl
  all_goals refine ⟨by simp (decide := true) only [da_int, da_tup, da_nil, da_cons, da_str, sx, sy, sc, st, sg, sp, sq, sr, sw, Bool.and_self, Bool.and_true, Bool.true_and], Nat.le_of_ble_eq_true rfl, Nat.le_of_ble_eq_true rfl⟩
theorem sm3 (N : Nms x y c t g none new p q r) : ∀ one ∈ cGood3 x y c t g none new p q r, dataT one = true ∧ depT one ≤ 12 ∧ sizT one ≤ 60 := by
  have sx := name_ok N.hx
  have sy := name_ok N.hy
  have sc := name_ok N.hc
  have st := name_ok N.ht
  have sg := name_ok N.hg
  have sp := name_ok N.hp
  have sq := name_ok N.hq
  have sr := name_ok N.hr
  have sw := name_ok N.hw
  intro one h
  simp only [cGood3, List.mem_cons, List.not_mem_nil, or_false] at h
  rcases h with rfl | rfl | rfl
  all_goals refine ⟨by simp (decide := true) only [da_int, da_tup, da_nil, da_cons, da_str, sx, sy, sc, st, sg, sp, sq, sr, sw, Bool.and_self, Bool.and_true, Bool.true_and], Nat.le_of_ble_eq_true rfl, Nat.le_of_ble_eq_true rfl⟩
theorem sm4 (N : Nms x y c t g none new p q r) : ∀ one ∈ cGood4 x y c t g none new p q r, dataT one = true ∧ depT one ≤ 12 ∧ sizT one ≤ 60 := by
  have sx := name_ok N.hx
  have sy := name_ok N.hy
  have sc := name_ok N.hc
  have st := name_ok N.ht
  have sg := name_ok N.hg
  have sp := name_ok N.hp
  have sq := name_ok N.hq
  have sr := name_ok N.hr
  have sw := name_ok N.hw
  intro one h
  simp only [cGood4, List.mem_cons, List.not_mem_nil, or_false] at h
  rcases h with rfl | rfl | rfl | rfl
  all_goals refine ⟨by simp (decide := true) only [da_int, da_tup, da_nil, da_cons, da_str, sx, sy, sc, st, sg, sp, sq, sr, sw, Bool.and_self, Bool.and_true, Bool.true_and], Nat.le_of_ble_eq_true rfl, Nat.le_of_ble_eq_true rfl⟩
theorem good_all (N : Nms x y c t g none new p q r) {km : Km} (K : K3 c t g new km) (n d : Nat) : ∀ one ∈ allGood x y c t g none new p q r, (one13 [x, y] (P3 p q r) (d + 4) one (km, n)).1 = Option.none ∧ (one13 [x, y] (P3 p q r) (d + 4) one (km, n)).2.1.length ≤ km.length + 6 := by
  intro one h
  simp only [allGood, List.mem_append] at h
  rcases h with (((h | h) | h) | h) | h
  · exact evGood0 N K n d one h
  · exact evGood1 N K n d one h
  · exact evGood2 N K n d one h
  · exact evGood3 N K n d one h
  · exact evGood4 N K n d one h
theorem good_small13 (N : Nms x y c t g none new p q r) : ∀ one ∈ allGood x y c t g none new p q r, (dataT one = true ∧ depT one ≤ 12 ∧ sizT one ≤ 60) ∧ thinT one = true := by
  intro one h
  simp only [allGood, List.mem_append] at h
  rcases h with (((h | h) | h) | h) | h
  · exact ⟨sm0 N one h, thGood0 one h⟩
  · exact ⟨sm1 N one h, thGood1 one h⟩
  · exact ⟨sm2 N one h, thGood2 one h⟩
  · exact ⟨sm3 N one h, thGood3 one h⟩
  · exact ⟨sm4 N one h, thGood4 one h⟩
theorem wrong_all (N : Nms x y c t g none new p q r) : ∀ one ∈ allWrong x y c t g none new p q r, (∀ {km : Km}, K3 c t g new km → ∀ n d, (one13 [x, y] (P3 p q r) (d + 4) one (km, n)).1 = some [] ∧ (one13 [x, y] (P3 p q r) (d + 4) one (km, n)).2.1.length ≤ km.length + 6) ∧ thinT one = true := by
  intro one h
  simp only [allWrong, List.mem_append] at h
  rcases h with ((((((((h | h) | h) | h) | h) | h) | h) | h) | h) | h
  · exact ⟨fun K n d => evWrong0 N K n d one h, thWrong0 one h⟩
  · exact ⟨fun K n d => evWrong1 N K n d one h, thWrong1 one h⟩
  · exact ⟨fun K n d => evWrong2 N K n d one h, thWrong2 one h⟩
  · exact ⟨fun K n d => evWrong3 N K n d one h, thWrong3 one h⟩
  · exact ⟨fun K n d => evWrong4 N K n d one h, thWrong4 one h⟩
  · exact ⟨fun K n d => evWrong5 N K n d one h, thWrong5 one h⟩
  · exact ⟨fun K n d => evWrong6 N K n d one h, thWrong6 one h⟩
  · exact ⟨fun K n d => evWrong7 N K n d one h, thWrong7 one h⟩
  · exact ⟨fun K n d => evWrong8 N K n d one h, thWrong8 one h⟩
  · exact ⟨fun K n d => evWrong9 N K n d one h, thWrong9 one h⟩
theorem made_all (N : Nms x y c t g none new p q r) : ∀ one ∈ allMade x y c t g none new p q r, (∀ {km : Km}, K3 c t g new km → ∀ n d, (one13 [x, y] (P3 p q r) (d + 4) one (km, n)).1 = some [] ∧ (one13 [x, y] (P3 p q r) (d + 4) one (km, n)).2.1.length ≤ km.length + 6) ∧ thinT one = true := by
  intro one h
  simp only [allMade, List.mem_append] at h
  rcases h with ((((((h | h) | h) | h) | h) | h) | h) | h
  · exact ⟨fun K n d => evMade0 N K n d one h, thMade0 one h⟩
  · exact ⟨fun K n d => evMade1 N K n d one h, thMade1 one h⟩
  · exact ⟨fun K n d => evMade2 N K n d one h, thMade2 one h⟩
  · exact ⟨fun K n d => evMade3 N K n d one h, thMade3 one h⟩
  · exact ⟨fun K n d => evMade4 N K n d one h, thMade4 one h⟩
  · exact ⟨fun K n d => evMade5 N K n d one h, thMade5 one h⟩
  · exact ⟨fun K n d => evMade6 N K n d one h, thMade6 one h⟩
  · exact ⟨fun K n d => evMade7 N K n d one h, thMade7 one h⟩
theorem with_all (N : Nms x y c t g none new p q r) : ∀ pr ∈ allWith x y c t g none new p q r, ∃ one w, pr = .tup [one, .tup (intsT w)] ∧ w.length ≤ 10 ∧ (∀ z ∈ w, z ≤ 100) ∧ thinT one = true ∧ ∀ {km : Km}, K3 c t g new km → ∀ n d, (one13 [x, y] (P3 p q r) (d + 4) one (km, n)).1 = some w ∧ (one13 [x, y] (P3 p q r) (d + 4) one (km, n)).2.1.length ≤ km.length + 6 := by
  intro pr h
  simp only [allWith, List.mem_append] at h
  rcases h with ((((h | h) | h) | h) | h) | h
  · exact evWith0 N pr h
  · exact evWith1 N pr h
  · exact evWith2 N pr h
  · exact evWith3 N pr h
  · exact evWith4 N pr h
  · exact evWith5 N pr h
end
def putS (x c t g : Str) (b : Nat) (one : Tr) (k : Nat) (ws : List (Bool × Nat)) : List Tr := wrapsS c g (baseS x c t g b one k) ws
section
variable {x c t g : Str} {one : Tr} {b k : Nat}
theorem base_mem {u : Tr} (h : u ∈ baseS x c t g b one k) : u = copyS c ∨ u = resetS t ∨ u = stepS g ∨ u = showS x ∨ u = one ∨ u = dropS x := by
  unfold baseS headS at h
  simp only [List.mem_append, List.mem_cons, List.not_mem_nil, or_false] at h
  rcases h with ((h | h) | h) | h
  · rcases h with h | h | h
    · exact .inl h
    · exact .inr (.inl h)
    · exact .inr (.inr (.inl h))
  · exact .inr (.inr (.inr (.inl (List.eq_of_mem_replicate h))))
  · exact .inr (.inr (.inr (.inr (.inl h))))
  · exact .inr (.inr (.inr (.inr (.inr (List.eq_of_mem_replicate h)))))
theorem base_len (hb : b ≤ 3) (hk : k ≤ 2) : (baseS x c t g b one k).length ≤ 9 := by
  unfold baseS headS
  simp only [List.length_append, List.length_replicate, List.length_cons, List.length_nil]
  omega
theorem base_thin (hb : b ≤ 3) (hk : k ≤ 2) (ho : thinT one = true) : thinT (.tup (baseS x c t g b one k)) = true := by
  have l := base_len (x := x) (c := c) (t := t) (g := g) (one := one) hb hk
  show (decide _ && thinTs _) = true
  rw [decide_eq_true (by omega), Bool.true_and]
  refine thins_of fun u hu => ?_
  rcases base_mem hu with rfl | rfl | rfl | rfl | rfl | rfl
  · rfl
  · rfl
  · rfl
  · rfl
  · exact ho
  · rfl
theorem wrap_thin {prog : List Tr} (isg : Bool) {a : Nat} (ha : a ≤ 1) (h : thinT (.tup prog) = true) : thinT (.tup (wrapS c g isg a prog)) = true := by
  have q : thinT (if isg = true then guardS prog else withinS c prog) = true := by
    cases isg with
    | true => show (decide ((2 : Nat) ≤ 1000) && (true && (thinT (.tup prog) && true))) = true; rw [h]; rfl
    | false => show (decide ((3 : Nat) ≤ 1000) && (true && (true && (thinT (.tup prog) && true)))) = true; rw [h]; rfl
  unfold wrapS
  have e : a = 0 ∨ a = 1 := by omega
  rcases e with rfl | rfl
  · show (decide ((1 : Nat) ≤ 1000) && (thinT _ && true)) = true
    rw [q]; rfl
  · show (decide ((2 : Nat) ≤ 1000) && (thinT (stepS g) && (thinT _ && true))) = true
    rw [q]; rfl
theorem wraps_thin : ∀ (ws : List (Bool × Nat)) {prog : List Tr}, (∀ e ∈ ws, e.2 ≤ 1) → thinT (.tup prog) = true → thinT (.tup (wrapsS c g prog ws)) = true
  | [], _, _, h => h
  | e :: ws, _, hw, h => wraps_thin ws (fun z hz => hw z (List.mem_cons_of_mem _ hz)) (wrap_thin e.1 (hw e List.mem_cons_self) h)
theorem base_re (hx : nameS x = true) (hc : nameS c = true) (ht : nameS t = true) (hg : nameS g = true) (hb : b ≤ 3) (hk : k ≤ 2) (h : dataT one = true ∧ depT one ≤ 12 ∧ sizT one ≤ 60) : dataTs (baseS x c t g b one k) = true ∧ depTs (baseS x c t g b one k) ≤ 12 ∧ sizTs (baseS x c t g b one k) ≤ 100 := by
  have sx : dataT (.str x) = true := by rw [da_str]; exact name_ok hx
  have sc : dataT (.str c) = true := by rw [da_str]; exact name_ok hc
  have st : dataT (.str t) = true := by rw [da_str]; exact name_ok ht
  have sg : dataT (.str g) = true := by rw [da_str]; exact name_ok hg
  have h2 : ∀ (a : Str) (z : Str), dataT (.str a) = true → dataT (.str z) = true → dataT (.tup [.str a, .str z]) = true := fun a z ha hz => by
    show (dataT (.str a) && (dataT (.str z) && true)) = true
    rw [ha, hz]; rfl
  have r1 := all_small (D := 0 + 1) (S := 2) (List.replicate b (showS x)) b (by rw [List.length_replicate]; exact Nat.le_refl _) fun u hu => by
    rw [List.eq_of_mem_replicate hu]
    exact ⟨h2 _ _ (by decide +kernel) sx, Nat.le_of_ble_eq_true rfl, Nat.le_of_ble_eq_true rfl⟩
  have r2 := all_small (D := 0 + 1) (S := 2) (List.replicate k (dropS x)) k (by rw [List.length_replicate]; exact Nat.le_refl _) fun u hu => by
    rw [List.eq_of_mem_replicate hu]
    exact ⟨h2 _ _ (by decide +kernel) sx, Nat.le_of_ble_eq_true rfl, Nat.le_of_ble_eq_true rfl⟩
  obtain ⟨a1, a2, a3⟩ := r1
  obtain ⟨b1, b2, b3⟩ := r2
  have hd : dataTs (headS c t g) = true := by
    show (dataT (copyS c) && (dataT (resetS t) && (dataT (stepS g) && true))) = true
    rw [show dataT (copyS c) = true from h2 _ _ (by decide +kernel) sc, show dataT (resetS t) = true from h2 _ _ (by decide +kernel) st, show dataT (stepS g) = true from h2 _ _ (by decide +kernel) sg]
    rfl
  have hdd : depTs (headS c t g) = 1 := rfl
  have hds : sizTs (headS c t g) = 9 := rfl
  unfold baseS
  rw [datas_app, datas_app, datas_app, deps_app, deps_app, deps_app, sizs_app, sizs_app, sizs_app, hd, a1, b1, hdd, hds]
  refine ⟨?_, ?_, ?_⟩
  · show (true && true && (dataT one && true) && true) = true
    rw [h.1]; rfl
  · show max (max (max 1 _) (max (depT one) 0)) _ ≤ 12
    have := h.2.1
    omega
  · show 9 + _ + (sizT one + 1 + 0) + _ ≤ 100
    have := h.2.2
    omega
theorem wrap_re {prog : List Tr} {D S : Nat} (hc : nameS c = true) (hg : nameS g = true) (isg : Bool) {a : Nat} (ha : a ≤ 1) (h : dataTs prog = true ∧ depTs prog ≤ D ∧ sizTs prog ≤ S) : dataTs (wrapS c g isg a prog) = true ∧ depTs (wrapS c g isg a prog) ≤ D + 2 ∧ sizTs (wrapS c g isg a prog) ≤ S + 9 := by
  have sc : dataT (.str c) = true := by rw [da_str]; exact name_ok hc
  have sg : dataT (.str g) = true := by rw [da_str]; exact name_ok hg
  have hst : dataT (stepS g) = true := by
    show (dataT (.str "step") && (dataT (.str g) && true)) = true
    rw [sg]; decide +kernel
  have q : dataT (if isg = true then guardS prog else withinS c prog) = true ∧ depT (if isg = true then guardS prog else withinS c prog) ≤ D + 2 ∧ sizT (if isg = true then guardS prog else withinS c prog) ≤ S + 3 := by
    obtain ⟨h1, h2, h3⟩ := h
    cases isg with
    | true =>
      refine ⟨?_, ?_, ?_⟩
      · show (dataT (.str "guard") && (dataTs prog && true)) = true
        rw [h1]; decide +kernel
      · show max 0 (max (depTs prog + 1) 0) + 1 ≤ D + 2
        omega
      · show 0 + 1 + (sizTs prog + 1 + 0) ≤ S + 3
        omega
    | false =>
      refine ⟨?_, ?_, ?_⟩
      · show (dataT (.str "within") && (dataT (.str c) && (dataTs prog && true))) = true
        rw [h1, sc]; decide +kernel
      · show max 0 (max 0 (max (depTs prog + 1) 0)) + 1 ≤ D + 2
        omega
      · show 0 + 1 + (0 + 1 + (sizTs prog + 1 + 0)) ≤ S + 3
        omega
  obtain ⟨q1, q2, q3⟩ := q
  unfold wrapS
  have e : a = 0 ∨ a = 1 := by omega
  rcases e with rfl | rfl
  · refine ⟨?_, ?_, ?_⟩
    · show (dataT _ && true) = true
      rw [q1]; rfl
    · show max (depT _) 0 ≤ D + 2
      omega
    · show sizT _ + 1 + 0 ≤ S + 9
      omega
  · refine ⟨?_, ?_, ?_⟩
    · show (dataT (stepS g) && (dataT _ && true)) = true
      rw [q1, hst]; rfl
    · show max 1 (max (depT _) 0) ≤ D + 2
      omega
    · show 2 + 1 + (sizT _ + 1 + 0) ≤ S + 9
      omega
theorem wraps_re (hc : nameS c = true) (hg : nameS g = true) : ∀ (ws : List (Bool × Nat)) {prog : List Tr} {D S : Nat}, (∀ e ∈ ws, e.2 ≤ 1) → dataTs prog = true ∧ depTs prog ≤ D ∧ sizTs prog ≤ S → dataTs (wrapsS c g prog ws) = true ∧ depTs (wrapsS c g prog ws) ≤ D + 2 * ws.length ∧ sizTs (wrapsS c g prog ws) ≤ S + 9 * ws.length
  | [], _, _, _, _, h => h
  | e :: ws, prog, D, S, hw, h => by
    have := wraps_re hc hg ws (fun z hz => hw z (List.mem_cons_of_mem _ hz)) (wrap_re hc hg e.1 (hw e List.mem_cons_self) h)
    rw [List.length_cons]
    exact ⟨this.1, Nat.le_trans this.2.1 (by omega), Nat.le_trans this.2.2 (by omega)⟩
theorem wayW_len : ∀ (ws : List (Bool × Nat)) (w : List Nat), (wayW w ws).length = w.length + 2 * ws.length
  | [], _ => rfl
  | e :: ws, w => by
    show (wayW (e.2 :: 0 :: w) ws).length = _
    rw [wayW_len ws]
    simp only [List.length_cons]
    omega
theorem wayW_few : ∀ (ws : List (Bool × Nat)) (w : List Nat), (∀ e ∈ ws, e.2 ≤ 1) → (∀ n ∈ w, n ≤ 1000) → ∀ n ∈ wayW w ws, n ≤ 1000
  | [], _, _, h => h
  | e :: ws, w, hw, h => wayW_few ws _ (fun z hz => hw z (List.mem_cons_of_mem _ hz)) fun n hn => by
    rcases List.mem_cons.mp hn with rfl | hn
    · have := hw e List.mem_cons_self
      omega
    · rcases List.mem_cons.mp hn with rfl | hn
      · omega
      · exact h n hn
end
section
variable {x y c t g none new p q r : Str} {one : Tr} {b k : Nat} {ws : List (Bool × Nat)} {w : List Nat}
theorem put_good (N : Nms x y c t g none new p q r) (S : Slots c t g new) (hb : b ≤ 3) (hk : k ≤ 2) (hl : ws.length ≤ 2) (hw : ∀ e ∈ ws, e.2 ≤ 1) (h : one ∈ allGood x y c t g none new p q r) : DueP [x, y] (P3 p q r) (.tup (putS x c t g b one k ws)) .non := by
  obtain ⟨sm, th⟩ := good_small13 N one h
  have A := wraps_ans S ws (base_good (vars := [x, y]) (P := P3 p q r) (d := (8 - ws.length) + 4) S N.hx (by simp) (fun km n K => good_all N K n _ one h) b k) hw
  have e : 8 - ws.length + 4 + 1 + ws.length = 13 := by omega
  rw [e] at A
  have rr := wraps_re N.hc N.hg ws hw (base_re (x := x) (t := t) N.hx N.hc N.ht N.hg hb hk sm)
  refine due_none A (by omega) (wraps_thin ws hw (base_thin hb hk th)) ⟨rr.1, ?_, ?_⟩
  · show depTs (wrapsS c g (baseS x c t g b one k) ws) + 1 ≤ 50
    omega
  · show sizTs (wrapsS c g (baseS x c t g b one k) ws) ≤ 400
    omega
theorem put_bad (N : Nms x y c t g none new p q r) (S : Slots c t g new) (hb : b ≤ 3) (hk : k ≤ 2) (hl : ws.length ≤ 2) (hw : ∀ e ∈ ws, e.2 ≤ 1) (th : thinT one = true) (w10 : w.length ≤ 10) (ws100 : ∀ z ∈ w, z ≤ 100)
    (h : ∀ {km : Km}, K3 c t g new km → ∀ n d, (one13 [x, y] (P3 p q r) (d + 4) one (km, n)).1 = some w ∧ (one13 [x, y] (P3 p q r) (d + 4) one (km, n)).2.1.length ≤ km.length + 6) : DueP [x, y] (P3 p q r) (.tup (putS x c t g b one k ws)) (.tup (intsT (wayW ((3 + b) :: w) ws))) := by
  have A := wraps_ans S ws (base_bad (vars := [x, y]) (P := P3 p q r) (d := (8 - ws.length) + 4) S N.hx (by simp) (fun km n K => h K n _) b k) hw
  have e : 8 - ws.length + 4 + 1 + ws.length = 13 := by omega
  rw [e] at A
  refine due_some (w := wayW ((3 + b) :: w) ws) A (by omega) (wraps_thin ws hw (base_thin hb hk th)) ?_ ?_
  · rw [wayW_len, List.length_cons]
    omega
  · refine wayW_few ws _ hw fun n hn => ?_
    rcases List.mem_cons.mp hn with rfl | hn
    · omega
    · have := ws100 n hn
      omega
end
end BK

set_option Elab.async false
set_option maxRecDepth 100000
set_option maxHeartbeats 1000000
set_option linter.unusedVariables false
/-! expressions that make trees. -/
namespace BK
open PySem PySem.Spec PyProof.Rows L2
/-- the names of a script, and where the law's own dict has its parts -/
structure O13 where
  x : Str
  y : Str
  c : Str
  t : Str
  g : Str
  new : Str
  none : Str
  p : Str
  q : Str
  r : Str
  pl : Addr
  hv : V
  bv : V
def yieldB : Tr := .tup [.tup [.str "yield"]]
/-- the law's book -/
def bookT (N : O13) : Tr := .tup [.tup [.str N.x, .str N.y], .tup [.tup [.str N.p, .tup [], yieldB], .tup [.str N.q, .tup [.tup [.str "a", .str "context"], .tup [.str "b", .str "token"]], yieldB], .tup [.str N.r, .tup [.tup [.str "b", .str "context"], .tup [.str "a", .str "context"]], yieldB]]]
def ownL (N : O13) : List (Key × V) := [(.inr "x", .str N.x), (.inr "y", .str N.y), (.inr "c", .str N.c), (.inr "t", .str N.t), (.inr "g", .str N.g), (.inr "new", .str N.new), (.inr "pieces", .ref N.pl), (.inr "head", N.hv), (.inr "none", .str N.none), (.inr "book", N.bv)]
section
variable {N : O13}
theorem on_x : valV (ownL N) (.inr "x") = some (.str N.x) := by with_unfolding_all rfl
theorem on_y : valV (ownL N) (.inr "y") = some (.str N.y) := by with_unfolding_all rfl
theorem on_c : valV (ownL N) (.inr "c") = some (.str N.c) := by with_unfolding_all rfl
theorem on_t : valV (ownL N) (.inr "t") = some (.str N.t) := by with_unfolding_all rfl
theorem on_g : valV (ownL N) (.inr "g") = some (.str N.g) := by with_unfolding_all rfl
theorem on_new : valV (ownL N) (.inr "new") = some (.str N.new) := by with_unfolding_all rfl
theorem on_pieces : valV (ownL N) (.inr "pieces") = some (.ref N.pl) := by with_unfolding_all rfl
theorem on_head : valV (ownL N) (.inr "head") = some N.hv := by with_unfolding_all rfl
theorem on_none : valV (ownL N) (.inr "none") = some (.str N.none) := by with_unfolding_all rfl
theorem on_book : valV (ownL N) (.inr "book") = some N.bv := by with_unfolding_all rfl
end
/-- what the law's own dict says -/
structure OwnH (K : PySem.W.Frag) (H : Hp) (o : Addr) (N : O13) : Prop where
  od : H o = some (.dK (ownL N))
  pd : H N.pl = some (.lst ([N.p, N.q, N.r].map V.str))
  ht : TrAt K H N.hv (.tup (headS N.c N.t N.g))
  bt : TrAt K H N.bv (bookT N)
  lx : N.x.length ≤ sizeLine
  ly : N.y.length ≤ sizeLine
  lc : N.c.length ≤ sizeLine
  lt : N.t.length ≤ sizeLine
  lg : N.g.length ≤ sizeLine
  lw : N.new.length ≤ sizeLine
  ln : N.none.length ≤ sizeLine
  lp : N.p.length ≤ sizeLine
  lq : N.q.length ≤ sizeLine
  lr : N.r.length ≤ sizeLine
theorem OwnH.same {K : PySem.W.Frag} {H H' : Hp} {o : Addr} {N : O13} (O : OwnH K H o N) (e : Same H H') : OwnH K H' o N := { O with od := e _ _ O.od, pd := e _ _ O.pd, ht := O.ht.same e, bt := O.bt.same e }
/-- the slots that hold trees, and the law's own dict in the first one -/
structure Go (K : PySem.W.Frag) (L : List (Nat × Tr)) (N : O13) (σ : L2.St) (H : Hp) : Prop where
  g : Gt K L σ H
  ow : ∃ o, σ[0]? = some (some (.ref o)) ∧ OwnH K H o N
theorem Go.same {K : PySem.W.Frag} {L : List (Nat × Tr)} {N : O13} {σ : L2.St} {H H' : Hp} (G : Go K L N σ H) (e : Same H H') : Go K L N σ H' := ⟨G.g.same e, let ⟨o, h1, h2⟩ := G.ow; ⟨o, h1, h2.same e⟩⟩
def ETo (X : Cx) (L : List (Nat × Tr)) (N : O13) (e : Expr) (t : Tr) : Prop := ∃ te : TE, PE X e te ∧ ∀ σ H Q, Go X.K L N σ H → (∀ v H', Same H H' → TrAt X.K H' v t → Q v H') → te σ H Q
def EAo (X : Cx) (L : List (Nat × Tr)) (N : O13) (es : List Expr) (ts : List Tr) : Prop := ∃ ta : TA, PA X es ta ∧ ∀ σ H Q, Go X.K L N σ H → (∀ vs H', Same H H' → TrAll X.K H' vs ts → Q vs H') → ta σ H Q
/-- a new list of trees -/
def ELo (X : Cx) (L : List (Nat × Tr)) (N : O13) (e : Expr) (ts : List Tr) : Prop := ∃ te : TE, PE X e te ∧ ∀ σ H Q, Go X.K L N σ H → (∀ a vs H', Same H H' → H a = none → H' a = some (.lst vs) → TrAll X.K H' vs ts → Q (.ref a) H') → te σ H Q
section
variable {X : Cx} {L : List (Nat × Tr)} {N : O13}
theorem eo_var {i : Nat} {x : Str} {pos : Pos} {t : Tr} (h : PE X (.Name x pos) (tVar i)) (m : (i, t) ∈ L) : ETo X L N (.Name x pos) t := ⟨_, h, fun σ H Q g k => by
  obtain ⟨v, h1, h2⟩ := g.g _ m
  exact ⟨v, h1, k v H (fun _ _ e => e) h2⟩⟩
theorem eo_str {s : Str} {j : Nat} {pos : Pos} (h : s.length ≤ sizeLine := by decide +kernel) : ETo X L N (.Constant (.str s) j pos) (.str s) := ⟨_, pe_str, fun _ H _ _ k => k _ H (fun _ _ e => e) (.str s h)⟩
theorem eo_int {i : Int} {j : Nat} {pos : Pos} : ETo X L N (.Constant (.int i) j pos) (.int i) := ⟨_, pe_int, fun _ H _ _ k => k _ H (fun _ _ e => e) (.int i)⟩
theorem eo_neg {i : Int} {j : Nat} {pos pos' : Pos} : ETo X L N (.UnaryOp .USub (.Constant (.int i) j pos) pos') (.int (-i)) := ⟨_, pe_un un_neg pe_int, fun _ H _ _ k => ⟨i, rfl, k _ H (fun _ _ e => e) (.int (-i))⟩⟩
theorem eo_bl {b : Bool} {j : Nat} {pos : Pos} : ETo X L N (.Constant (.bool b) j pos) (.bl b) := ⟨_, pe_bl, fun _ H _ _ k => k _ H (fun _ _ e => e) (.bl b)⟩
theorem eo_non {j : Nat} {pos : Pos} : ETo X L N (.Constant .none j pos) .non := ⟨_, pe_non, fun _ H _ _ k => k _ H (fun _ _ e => e) .non⟩
theorem eb_nil : EAo X L N [] [] := ⟨_, pa_nil, fun _ H _ _ k => k _ H (fun _ _ e => e) .nil⟩
theorem eb_cons {e : Expr} {es : List Expr} {t : Tr} {ts : List Tr} (h : ETo X L N e t) (r : EAo X L N es ts) (hs : starEach (e :: es) X.env = (false, eval e X.env) :: starEach es X.env := by rfl) : EAo X L N (e :: es) (t :: ts) := by
  obtain ⟨te, p, q⟩ := h
  obtain ⟨ta, p2, q2⟩ := r
  exact ⟨_, pa_cons p p2 hs, fun σ H Q g k => q σ H _ g fun v H1 s1 h1 => q2 σ H1 _ (g.same s1) fun vs H2 s2 h2 => k _ H2 (s1.trans s2) (.cons (h1.same s2) h2)⟩
theorem eo_tup {es : List Expr} {k : Nat} {pos : Pos} {ts : List Tr} (h : EAo X L N es ts) (hl : es.length ≤ 1000 := by exact Nat.le_of_ble_eq_true rfl) (hl2 : ts.length = es.length := by rfl) : ETo X L N (.Tuple es k pos) (.tup ts) := by
  obtain ⟨ta, p, q⟩ := h
  refine ⟨_, pe_tup p, fun σ H Q g k => q σ H _ g fun vs H1 s1 h1 => ⟨?_, fun p np => k _ _ (s1.trans (same_new np)) (.tup (SqT.of upd_same) (h1.same (same_new np)))⟩⟩
  rw [h1.len, hl2, sizeLine_eq]
  omega
theorem eo_lst {es : List Expr} {pos : Pos} {ts : List Tr} (h : EAo X L N es ts) (hl : es.length ≤ 1000 := by exact Nat.le_of_ble_eq_true rfl) (hl2 : ts.length = es.length := by rfl) : ETo X L N (.List es pos) .lst := by
  obtain ⟨ta, p, q⟩ := h
  refine ⟨_, pe_lst p, fun σ H Q g k => q σ H _ g fun vs H1 s1 h1 => ⟨?_, fun p np => k _ _ (s1.trans (same_new np)) (.lst (SqL.of upd_same))⟩⟩
  rw [h1.len, hl2, sizeLine_eq]
  omega
theorem eo_dct {pos : Pos} : ETo X L N (.Dict [] [] pos) .dct := ⟨_, pe_dnewK, fun _ _ _ _ k => fun p np => k _ _ (same_new np) (.dct upd_same)⟩
theorem eo_cat {a b : Expr} {pos : Pos} {xs ys : List Tr} (h1 : ETo X L N a (.tup xs)) (h2 : ETo X L N b (.tup ys)) (l1 : xs.length ≤ 1000 := by exact Nat.le_of_ble_eq_true rfl) (l2 : ys.length ≤ 1000 := by exact Nat.le_of_ble_eq_true rfl) : ETo X L N (.BinOp a .Add b pos) (.tup (xs ++ ys)) := by
  obtain ⟨ta, p1, q1⟩ := h1
  obtain ⟨tb, p2, q2⟩ := h2
  refine ⟨_, pe_op op_catA p1 p2, fun σ H Q g k => q1 σ H _ g fun v H1 s1 t1 => q2 σ H1 _ (g.same s1) fun u H2 s2 t2 => ?_⟩
  have t1 := t1.same s2
  have s12 := s1.trans s2
  cases t1 with
  | @tup aa vs _ ha ta' =>
  cases t2 with
  | @tup bb us _ hb tb' =>
  have e1 := ta'.len
  have e2 := tb'.len
  refine ⟨aa, bb, vs, us, rfl, rfl, ha, hb, by rw [sizeLine_eq]; omega, fun e => ?_, fun _ e => ?_, fun _ _ p np => ?_⟩
  · subst e
    cases ta'
    exact k _ _ s12 (.tup hb tb')
  · subst e
    cases tb'
    rw [List.append_nil] at k
    exact k _ _ s12 (.tup ha ta')
  · have app : ∀ {vs us : List V} {xs ys : List Tr} {H : Hp}, TrAll X.K H vs xs → TrAll X.K H us ys → TrAll X.K H (vs ++ us) (xs ++ ys) := fun {vs us xs ys H} h1 h2 => by
      induction vs generalizing xs with
      | nil => cases h1; exact h2
      | cons v r ih => cases h1 with | cons a b => exact .cons a (ih b)
    exact k _ _ (s12.trans (same_new np)) (.tup (SqT.of upd_same) ((app ta' tb').same (same_new np)))
theorem eo_disp {es : List Expr} {pos : Pos} {ts : List Tr} (h : EAo X L N es ts) (hl : es.length ≤ 1000 := by exact Nat.le_of_ble_eq_true rfl) (hl2 : ts.length = es.length := by rfl) : ELo X L N (.List es pos) ts := by
  obtain ⟨ta, p, q⟩ := h
  refine ⟨_, pe_lst p, fun σ H Q g k => q σ H _ g fun vs H1 s1 h1 => ⟨?_, fun p np => k p vs _ (s1.trans (same_new np)) (s1.free np) upd_same (h1.same (same_new np))⟩⟩
  rw [h1.len, hl2, sizeLine_eq]
  omega
end
/-- some = some + [..] -/
theorem some_cat13 {X : Cx} {L : List (Nat × Tr)} {N : O13} {i : Nat} {te : TE} {us ts : List Tr} {σ : L2.St} {H0 H : Hp} {a : Addr} {vs : List V} {Q : VK} (r : ∀ σ H Q, Go X.K L N σ H → (∀ a vs H', Same H H' → H a = none → H' a = some (.lst vs) → TrAll X.K H' vs us → Q (.ref a) H') → te σ H Q)
    (g : Go X.K L N σ H) (hσ : σ[i]? = some (some (.ref a))) (s : Same H0 H) (e : H a = some (.lst vs)) (tr : TrAll X.K H vs ts) (lt : ts.length ≤ 500) (lu : us.length ≤ 500)
    (k : ∀ p ws H', Same H0 H' → Same H H' → H0 p = none → H' p = some (.lst ws) → TrAll X.K H' ws (ts ++ us) → Q (.ref p) H') : tOp rCat (tVar i) te σ H Q := by
  refine ⟨.ref a, hσ, r σ H _ g fun b ws H1 s1 nb eb tb => ?_⟩
  have e1 := s1 _ _ e
  have l1 := tr.len
  have l2 := tb.len
  refine ⟨a, b, vs, ws, rfl, rfl, e1, eb, by rw [sizeLine_eq]; omega, fun p np => ?_⟩
  have s2 := same_new (o := .lst (vs ++ ws)) np
  exact k p _ _ ((s.trans s1).trans s2) (s1.trans s2) ((s.trans s1).free np) upd_same (((tr.same s1).app tb).same s2)
/-- some.append(..) -/
theorem some_app13 {X : Cx} {L : List (Nat × Tr)} {N : O13} {i : Nat} {te : TE} {u : Tr} {ts : List Tr} {σ : L2.St} {H0 H : Hp} {a : Addr} {vs : List V} {Q : VK} (r : ∀ σ H Q, Go X.K L N σ H → (∀ v H', Same H H' → TrAt X.K H' v u → Q v H') → te σ H Q)
    (g : Go X.K L N σ H) (hσ : σ[i]? = some (some (.ref a))) (s : Same H0 H) (na : H0 a = none) (e : H a = some (.lst vs)) (tr : TrAll X.K H vs ts) (lt : ts.length ≤ 500)
    (k : ∀ ws H', Same H0 H' → H' a = some (.lst ws) → TrAll X.K H' ws (ts ++ [u]) → (∀ v t, TrAt X.K H v t → TrAt X.K H' v t) → Q .non H') : tBM X.K "list" rAppend (tVar i) (tCons te tNil) σ H Q := by
  refine ⟨.ref a, hσ, .inl ⟨rfl, _, SqL.of e⟩, r σ H _ g fun v H1 s1 t1 => ?_⟩
  have e1 := s1 _ _ e
  have l1 := tr.len
  refine ⟨a, vs, v, rfl, rfl, e1, by rw [sizeLine_eq]; omega, ?_⟩
  refine k (vs ++ [v]) _ (fun b o eb => ?_) upd_same (((tr.same s1).updL e1).app (.cons (t1.updL e1) .nil)) fun v t h => (h.same s1).updL e1
  rw [upd_ne (ne_of_none eb na)]
  exact s1 _ _ (s _ _ eb)
section
variable {X : Cx} {L : List (Nat × Tr)} {N : O13}
/-- own["new"] -/
theorem eo_new {e : Expr} {j : Nat} {pos pos' : Pos} (hu : X.A.units + 1 < cLine) (h : PE X e (tVar 0)) (hs : NoSl (.Constant (.str "new") j pos) := by exact fun _ _ => rfl) : ETo X L N (.Subscript e (.Constant (.str "new") j pos) pos') (.str N.new) := ⟨_, pe_dget hu h pe_str hs, fun σ H Q G k => by
  obtain ⟨o, h1, O⟩ := G.ow
  exact ⟨_, h1, o, _, rfl, on_new ▸ DGet.k (k := Sum.inr "new") O.od, k _ H (fun _ _ e => e) (.str _ O.lw)⟩⟩
/-- own["pieces"][0] -/
theorem eo_piece0 {e : Expr} {j j2 : Nat} {pos pos' pos2 pos3 : Pos} (hu : X.A.units + 1 < cLine) (h : PE X e (tVar 0)) (hs : NoSl (.Constant (.str "pieces") j pos) := by exact fun _ _ => rfl) (hi : PlainIx (.Constant (.int 0) j2 pos2) := by exact fun _ _ => rfl) :
    ETo X L N (.Subscript (.Subscript e (.Constant (.str "pieces") j pos) pos') (.Constant (.int 0) j2 pos2) pos3) (.str N.p) := ⟨_, pe_ix ix_list (pe_dget hu h pe_str hs) pe_int hi, fun σ H Q G k => by
  obtain ⟨o, h1, O⟩ := G.ow
  exact ⟨_, h1, o, _, rfl, on_pieces ▸ DGet.k (k := Sum.inr "pieces") O.od, N.pl, _, 0, .str N.p, rfl, rfl, SqL.of O.pd, rfl, k _ H (fun _ _ e => e) (.str _ O.lp)⟩⟩
end
end BK

set_option Elab.async false
set_option maxRecDepth 100000
set_option maxHeartbeats 8000000
set_option linter.unusedVariables false
namespace BK
open PySem PySem.Spec PyProof.Rows L2
abbrev sLGood : Stmt := top 59
abbrev nLGood : List Str := ["own", "x", "y", "c", "t", "g", "p", "q", "r", "some"]
theorem scLGood : FnScope nLGood ["own"] (defScope sLGood) := ⟨rfl, rfl, rfl, by decide +kernel, rfl, by decide +kernel, by decide +kernel⟩
abbrev LLGood (N : O13) : List (Nat × Tr) := [(1, .str N.x), (2, .str N.y), (3, .str N.c), (4, .str N.t), (5, .str N.g), (6, .str N.p), (7, .str N.q), (8, .str N.r)]
def spLGood (K : PySem.W.Frag) : Sp := fun vs H Q _ => ∃ o N, vs = [.ref o] ∧ OwnH K H o N ∧ ∀ a ws H', Same H H' → H a = none → H' a = some (.lst ws) → TrAll K H' ws (allGood N.x N.y N.c N.t N.g N.none N.new N.p N.q N.r) → Q (.ref a) H'
section
variable {P : Program} {w : World} {K : PySem.W.Frag} {mg : Str → Option Value} {base : Heap}
theorem okLGood {f : Addr} {fd : FuncData} (F : Fun K "_law_good" "_law_good" sLGood f fd) : FnOk P w K mg base CX0 1 f fd ["own"] (spLGood K) := by
  refine F.ok scLGood (fun vs H Q E h => ?_) (fun cdv A outer s H vs Q E hr h => ?_)
  · obtain ⟨o, N, rfl, _⟩ := h
    rfl
  · obtain ⟨o, N, rfl, O, k⟩ := h
    have hu := hu_of hr
    have d0 : ELo (cxOf CX0 P w K mg base nLGood "_law_good" (defScope sLGood) f cdv A outer s H E).nox (LLGood N) N (valueOf (stAt sLGood 2)) (cGood0 N.x N.y N.c N.t N.g N.none N.new N.p N.q N.r) := eo_disp (eb_cons (eo_tup (eb_cons eo_str (eb_cons (eo_var (pv 1) (.head _)) (eb_cons eo_int eb_nil)))) (eb_cons (eo_tup (eb_cons eo_str (eb_cons (eo_var (pv 2) (.tail _ (.head _))) (eb_cons eo_int eb_nil)))) (eb_cons (eo_tup (eb_cons eo_str (eb_cons (eo_var (pv 4) (.tail _ (.tail _ (.tail _ (.head _))))) (eb_cons (eo_var (pv 1) (.head _)) (eb_cons eo_int eb_nil))))) (eb_cons (eo_tup (eb_cons eo_str (eb_cons (eo_var (pv 4) (.tail _ (.tail _ (.tail _ (.head _))))) eb_nil))) (eb_cons (eo_tup (eb_cons eo_str (eb_cons (eo_var (pv 1) (.head _)) eb_nil))) (eb_cons (eo_tup (eb_cons eo_str (eb_cons (eo_var (pv 2) (.tail _ (.head _))) eb_nil))) eb_nil))))))
    obtain ⟨te0, p0, r0⟩ := d0
    have d1 : ELo (cxOf CX0 P w K mg base nLGood "_law_good" (defScope sLGood) f cdv A outer s H E).nox (LLGood N) N (rightOf (valueOf (stAt sLGood 3))) (cGood1 N.x N.y N.c N.t N.g N.none N.new N.p N.q N.r) := eo_disp (eb_cons (eo_tup (eb_cons eo_str (eb_cons (eo_var (pv 3) (.tail _ (.tail _ (.head _)))) eb_nil))) (eb_cons (eo_tup (eb_cons eo_str (eb_cons (eo_var (pv 3) (.tail _ (.tail _ (.head _)))) (eb_cons (eo_tup eb_nil) eb_nil)))) (eb_cons (eo_tup (eb_cons eo_str (eb_cons (eo_var (pv 3) (.tail _ (.tail _ (.head _)))) (eb_cons (eo_tup (eb_cons (eo_tup (eb_cons eo_str (eb_cons (eo_var (pv 1) (.head _)) eb_nil))) (eb_cons (eo_tup (eb_cons eo_str (eb_cons (eo_var (pv 5) (.tail _ (.tail _ (.tail _ (.tail _ (.head _)))))) eb_nil))) eb_nil))) eb_nil)))) (eb_cons (eo_tup (eb_cons eo_str (eb_cons (eo_tup eb_nil) eb_nil))) eb_nil))))
    obtain ⟨te1, p1, r1⟩ := d1
    have d2 : ELo (cxOf CX0 P w K mg base nLGood "_law_good" (defScope sLGood) f cdv A outer s H E).nox (LLGood N) N (rightOf (valueOf (stAt sLGood 4))) (cGood2 N.x N.y N.c N.t N.g N.none N.new N.p N.q N.r) := eo_disp (eb_cons (eo_tup (eb_cons eo_str (eb_cons (eo_tup (eb_cons (eo_tup (eb_cons eo_str (eb_cons (eo_tup (eb_cons (eo_tup (eb_cons eo_str (eb_cons (eo_var (pv 4) (.tail _ (.tail _ (.tail _ (.head _))))) eb_nil))) eb_nil)) eb_nil))) (eb_cons (eo_tup (eb_cons eo_str (eb_cons (eo_var (pv 5) (.tail _ (.tail _ (.tail _ (.tail _ (.head _)))))) eb_nil))) eb_nil))) eb_nil))) (eb_cons (eo_tup (eb_cons eo_str (eb_cons (eo_var (pv 5) (.tail _ (.tail _ (.tail _ (.tail _ (.head _)))))) (eb_cons (eo_var (pv 6) (.tail _ (.tail _ (.tail _ (.tail _ (.tail _ (.head _))))))) (eb_cons (eo_tup eb_nil) eb_nil))))) (eb_cons (eo_tup (eb_cons eo_str (eb_cons (eo_var (pv 5) (.tail _ (.tail _ (.tail _ (.tail _ (.head _)))))) (eb_cons (eo_var (pv 7) (.tail _ (.tail _ (.tail _ (.tail _ (.tail _ (.tail _ (.head _)))))))) (eb_cons (eo_tup (eb_cons (eo_var (pv 3) (.tail _ (.tail _ (.head _)))) (eb_cons (eo_var (pv 4) (.tail _ (.tail _ (.tail _ (.head _))))) eb_nil))) eb_nil))))) eb_nil)))
    obtain ⟨te2, p2, r2⟩ := d2
    have d3 : ELo (cxOf CX0 P w K mg base nLGood "_law_good" (defScope sLGood) f cdv A outer s H E).nox (LLGood N) N (rightOf (valueOf (stAt sLGood 5))) (cGood3 N.x N.y N.c N.t N.g N.none N.new N.p N.q N.r) := eo_disp (eb_cons (eo_tup (eb_cons eo_str (eb_cons (eo_var (pv 5) (.tail _ (.tail _ (.tail _ (.tail _ (.head _)))))) (eb_cons (eo_var (pv 8) (.tail _ (.tail _ (.tail _ (.tail _ (.tail _ (.tail _ (.tail _ (.head _))))))))) (eb_cons (eo_tup (eb_cons (eo_var (pv 3) (.tail _ (.tail _ (.head _)))) (eb_cons (eo_var (pv 3) (.tail _ (.tail _ (.head _)))) eb_nil))) eb_nil))))) (eb_cons (eo_tup (eb_cons eo_str (eb_cons (eo_var (pv 5) (.tail _ (.tail _ (.tail _ (.tail _ (.head _)))))) (eb_cons (eo_var (pv 8) (.tail _ (.tail _ (.tail _ (.tail _ (.tail _ (.tail _ (.tail _ (.head _))))))))) (eb_cons (eo_tup (eb_cons (eo_var (pv 3) (.tail _ (.tail _ (.head _)))) (eb_cons (eo_new hu (pv 0)) eb_nil))) eb_nil))))) (eb_cons (eo_tup (eb_cons eo_str (eb_cons (eo_new hu (pv 0)) (eb_cons (eo_var (pv 6) (.tail _ (.tail _ (.tail _ (.tail _ (.tail _ (.head _))))))) (eb_cons (eo_tup eb_nil) eb_nil))))) eb_nil)))
    obtain ⟨te3, p3, r3⟩ := d3
    have d4 : ELo (cxOf CX0 P w K mg base nLGood "_law_good" (defScope sLGood) f cdv A outer s H E).nox (LLGood N) N (rightOf (valueOf (stAt sLGood 6))) (cGood4 N.x N.y N.c N.t N.g N.none N.new N.p N.q N.r) := eo_disp (eb_cons (eo_tup (eb_cons eo_str (eb_cons (eo_var (pv 5) (.tail _ (.tail _ (.tail _ (.tail _ (.head _)))))) eb_nil))) (eb_cons (eo_tup (eb_cons eo_str (eb_cons (eo_var (pv 5) (.tail _ (.tail _ (.tail _ (.tail _ (.head _)))))) eb_nil))) (eb_cons (eo_tup (eb_cons eo_str (eb_cons (eo_new hu (pv 0)) eb_nil))) (eb_cons (eo_tup (eb_cons eo_str (eb_cons (eo_new hu (pv 0)) (eb_cons (eo_var (pv 2) (.tail _ (.head _))) (eb_cons eo_int eb_nil))))) eb_nil))))
    obtain ⟨te4, p4, r4⟩ := d4
    refine ⟨_, (C8.pss_cut (ps_asg (pe_tup (pa_cons (pe_dget hu (pv 0) pe_str (fun _ _ => rfl)) (pa_cons (pe_dget hu (pv 0) pe_str (fun _ _ => rfl)) (pa_cons (pe_dget hu (pv 0) pe_str (fun _ _ => rfl)) (pa_cons (pe_dget hu (pv 0) pe_str (fun _ _ => rfl)) (pa_cons (pe_dget hu (pv 0) pe_str (fun _ _ => rfl)) pa_nil)))))) (pg_tup rfl (pgs_cons (pg_name (i := 1) scLGood.nd rfl (Or.inl rfl)) (pgs_cons (pg_name (i := 2) scLGood.nd rfl (Or.inl rfl)) (pgs_cons (pg_name (i := 3) scLGood.nd rfl (Or.inl rfl)) (pgs_cons (pg_name (i := 4) scLGood.nd rfl (Or.inl rfl)) (pgs_cons (pg_name (i := 5) scLGood.nd rfl (Or.inl rfl)) pgs_nil)))))))
      (C8.pss_cut (ps_asg (pe_dget hu (pv 0) pe_str (fun _ _ => rfl)) (pg_unl rfl (pgs_cons (pg_name (i := 6) scLGood.nd rfl (Or.inl rfl)) (pgs_cons (pg_name (i := 7) scLGood.nd rfl (Or.inl rfl)) (pgs_cons (pg_name (i := 8) scLGood.nd rfl (Or.inl rfl)) pgs_nil)))))
      (C8.pss_cut (ps_set (i := 9) scLGood.nd rfl (Or.inl rfl) p0)
      (C8.pss_cut (ps_set (i := 9) scLGood.nd rfl (Or.inl rfl) (pe_op op_cat (pv 9) p1))
      (C8.pss_cut (ps_set (i := 9) scLGood.nd rfl (Or.inl rfl) (pe_op op_cat (pv 9) p2))
      (C8.pss_cut (ps_set (i := 9) scLGood.nd rfl (Or.inl rfl) (pe_op op_cat (pv 9) p3))
      (pss_one (ps_ret (pe_op op_cat (pv 9) p4))))))))), ?_⟩
    have s0 : Same H H := fun _ _ e => e
    have OH := O.same s0
    refine ⟨fun σ H1 => σ = [some (.ref o), some (.str N.x), some (.str N.y), some (.str N.c), some (.str N.t), some (.str N.g), none, none, none, none] ∧ Same H H1, ?_, ?_⟩
    · refine ⟨_, rfl, o, _, rfl, on_x ▸ DGet.k (k := Sum.inr "x") OH.od, ?_⟩
      refine ⟨_, rfl, o, _, rfl, on_y ▸ DGet.k (k := Sum.inr "y") OH.od, ?_⟩
      refine ⟨_, rfl, o, _, rfl, on_c ▸ DGet.k (k := Sum.inr "c") OH.od, ?_⟩
      refine ⟨_, rfl, o, _, rfl, on_t ▸ DGet.k (k := Sum.inr "t") OH.od, ?_⟩
      refine ⟨_, rfl, o, _, rfl, on_g ▸ DGet.k (k := Sum.inr "g") OH.od, ?_⟩
      exact ⟨(by show 5 ≤ sizeLine; decide), fun p np => ⟨p, _, rfl, SqT.of upd_same, rfl, _, _, rfl, _, _, rfl, _, _, rfl, _, _, rfl, _, _, rfl, rfl, rfl, same_new np⟩⟩
    rintro σ H1 ⟨rfl, sxH1⟩
    have sH1 := s0.trans sxH1
    have OH1 := O.same sH1
    refine ⟨fun σ H2 => H1 = H2 ∧ σ = [some (.ref o), some (.str N.x), some (.str N.y), some (.str N.c), some (.str N.t), some (.str N.g), some (.str N.p), some (.str N.q), some (.str N.r), none], ?_, ?_⟩
    · refine ⟨_, rfl, o, _, rfl, on_pieces ▸ DGet.k (k := Sum.inr "pieces") OH1.od, ?_⟩
      exact ⟨N.pl, _, rfl, SqL.of OH1.pd, rfl, _, _, rfl, _, _, rfl, _, _, rfl, rfl, rfl, rfl⟩
    rintro σ H2 ⟨rfl, rfl⟩
    have OO := O.same sH1
    have g : Go K (LLGood N) N [some (.ref o), some (.str N.x), some (.str N.y), some (.str N.c), some (.str N.t), some (.str N.g), some (.str N.p), some (.str N.q), some (.str N.r), none] H1 := ⟨fun pp hp => by
      simp only [LLGood, List.mem_cons, List.not_mem_nil, or_false] at hp
      rcases hp with rfl | rfl | rfl | rfl | rfl | rfl | rfl | rfl
      · exact ⟨_, rfl, .str _ O.lx⟩
      · exact ⟨_, rfl, .str _ O.ly⟩
      · exact ⟨_, rfl, .str _ O.lc⟩
      · exact ⟨_, rfl, .str _ O.lt⟩
      · exact ⟨_, rfl, .str _ O.lg⟩
      · exact ⟨_, rfl, .str _ O.lp⟩
      · exact ⟨_, rfl, .str _ O.lq⟩
      · exact ⟨_, rfl, .str _ O.lr⟩,
      o, rfl, O.same sH1⟩
    refine ⟨fun σ H3 => ∃ (a : Addr) (vs : List V), σ = [some (.ref o), some (.str N.x), some (.str N.y), some (.str N.c), some (.str N.t), some (.str N.g), some (.str N.p), some (.str N.q), some (.str N.r), some (.ref a)] ∧ Same H H3 ∧ H a = none ∧ H3 a = some (.lst vs) ∧ TrAll K H3 vs (cGood0 N.x N.y N.c N.t N.g N.none N.new N.p N.q N.r), ?_, ?_⟩
    · refine r0 _ _ _ g fun a vs G sg na ea ta => ⟨a, vs, rfl, sH1.trans sg, sH1.free na, ea, ta⟩
    rintro σ H3 ⟨a, vs, rfl, tH3, na, e, tr⟩
    have g : Go K (LLGood N) N [some (.ref o), some (.str N.x), some (.str N.y), some (.str N.c), some (.str N.t), some (.str N.g), some (.str N.p), some (.str N.q), some (.str N.r), some (.ref a)] H3 := ⟨fun pp hp => by
      simp only [LLGood, List.mem_cons, List.not_mem_nil, or_false] at hp
      rcases hp with rfl | rfl | rfl | rfl | rfl | rfl | rfl | rfl
      · exact ⟨_, rfl, .str _ O.lx⟩
      · exact ⟨_, rfl, .str _ O.ly⟩
      · exact ⟨_, rfl, .str _ O.lc⟩
      · exact ⟨_, rfl, .str _ O.lt⟩
      · exact ⟨_, rfl, .str _ O.lg⟩
      · exact ⟨_, rfl, .str _ O.lp⟩
      · exact ⟨_, rfl, .str _ O.lq⟩
      · exact ⟨_, rfl, .str _ O.lr⟩,
      o, rfl, O.same tH3⟩
    refine ⟨fun σ H4 => ∃ (a : Addr) (vs : List V), σ = [some (.ref o), some (.str N.x), some (.str N.y), some (.str N.c), some (.str N.t), some (.str N.g), some (.str N.p), some (.str N.q), some (.str N.r), some (.ref a)] ∧ Same H H4 ∧ H a = none ∧ H4 a = some (.lst vs) ∧ TrAll K H4 vs ((cGood0 N.x N.y N.c N.t N.g N.none N.new N.p N.q N.r) ++ cGood1 N.x N.y N.c N.t N.g N.none N.new N.p N.q N.r), ?_, ?_⟩
    · refine some_cat13 (X := (cxOf CX0 P w K mg base nLGood "_law_good" (defScope sLGood) f cdv A outer s H E).nox) r1 g (by rfl) tH3 e tr (Nat.le_of_ble_eq_true rfl) (Nat.le_of_ble_eq_true rfl) fun p ws H9 s9 _ n9 e9 t9 => ⟨p, ws, rfl, s9, n9, e9, t9⟩
    rintro σ H4 ⟨a, vs, rfl, tH4, na, e, tr⟩
    have g : Go K (LLGood N) N [some (.ref o), some (.str N.x), some (.str N.y), some (.str N.c), some (.str N.t), some (.str N.g), some (.str N.p), some (.str N.q), some (.str N.r), some (.ref a)] H4 := ⟨fun pp hp => by
      simp only [LLGood, List.mem_cons, List.not_mem_nil, or_false] at hp
      rcases hp with rfl | rfl | rfl | rfl | rfl | rfl | rfl | rfl
      · exact ⟨_, rfl, .str _ O.lx⟩
      · exact ⟨_, rfl, .str _ O.ly⟩
      · exact ⟨_, rfl, .str _ O.lc⟩
      · exact ⟨_, rfl, .str _ O.lt⟩
      · exact ⟨_, rfl, .str _ O.lg⟩
      · exact ⟨_, rfl, .str _ O.lp⟩
      · exact ⟨_, rfl, .str _ O.lq⟩
      · exact ⟨_, rfl, .str _ O.lr⟩,
      o, rfl, O.same tH4⟩
    refine ⟨fun σ H5 => ∃ (a : Addr) (vs : List V), σ = [some (.ref o), some (.str N.x), some (.str N.y), some (.str N.c), some (.str N.t), some (.str N.g), some (.str N.p), some (.str N.q), some (.str N.r), some (.ref a)] ∧ Same H H5 ∧ H a = none ∧ H5 a = some (.lst vs) ∧ TrAll K H5 vs (((cGood0 N.x N.y N.c N.t N.g N.none N.new N.p N.q N.r) ++ cGood1 N.x N.y N.c N.t N.g N.none N.new N.p N.q N.r) ++ cGood2 N.x N.y N.c N.t N.g N.none N.new N.p N.q N.r), ?_, ?_⟩
    · refine some_cat13 (X := (cxOf CX0 P w K mg base nLGood "_law_good" (defScope sLGood) f cdv A outer s H E).nox) r2 g (by rfl) tH4 e tr (Nat.le_of_ble_eq_true rfl) (Nat.le_of_ble_eq_true rfl) fun p ws H9 s9 _ n9 e9 t9 => ⟨p, ws, rfl, s9, n9, e9, t9⟩
    rintro σ H5 ⟨a, vs, rfl, tH5, na, e, tr⟩
    have g : Go K (LLGood N) N [some (.ref o), some (.str N.x), some (.str N.y), some (.str N.c), some (.str N.t), some (.str N.g), some (.str N.p), some (.str N.q), some (.str N.r), some (.ref a)] H5 := ⟨fun pp hp => by
      simp only [LLGood, List.mem_cons, List.not_mem_nil, or_false] at hp
      rcases hp with rfl | rfl | rfl | rfl | rfl | rfl | rfl | rfl
      · exact ⟨_, rfl, .str _ O.lx⟩
      · exact ⟨_, rfl, .str _ O.ly⟩
      · exact ⟨_, rfl, .str _ O.lc⟩
      · exact ⟨_, rfl, .str _ O.lt⟩
      · exact ⟨_, rfl, .str _ O.lg⟩
      · exact ⟨_, rfl, .str _ O.lp⟩
      · exact ⟨_, rfl, .str _ O.lq⟩
      · exact ⟨_, rfl, .str _ O.lr⟩,
      o, rfl, O.same tH5⟩
    refine ⟨fun σ H6 => ∃ (a : Addr) (vs : List V), σ = [some (.ref o), some (.str N.x), some (.str N.y), some (.str N.c), some (.str N.t), some (.str N.g), some (.str N.p), some (.str N.q), some (.str N.r), some (.ref a)] ∧ Same H H6 ∧ H a = none ∧ H6 a = some (.lst vs) ∧ TrAll K H6 vs ((((cGood0 N.x N.y N.c N.t N.g N.none N.new N.p N.q N.r) ++ cGood1 N.x N.y N.c N.t N.g N.none N.new N.p N.q N.r) ++ cGood2 N.x N.y N.c N.t N.g N.none N.new N.p N.q N.r) ++ cGood3 N.x N.y N.c N.t N.g N.none N.new N.p N.q N.r), ?_, ?_⟩
    · refine some_cat13 (X := (cxOf CX0 P w K mg base nLGood "_law_good" (defScope sLGood) f cdv A outer s H E).nox) r3 g (by rfl) tH5 e tr (Nat.le_of_ble_eq_true rfl) (Nat.le_of_ble_eq_true rfl) fun p ws H9 s9 _ n9 e9 t9 => ⟨p, ws, rfl, s9, n9, e9, t9⟩
    rintro σ H6 ⟨a, vs, rfl, tH6, na, e, tr⟩
    have g : Go K (LLGood N) N [some (.ref o), some (.str N.x), some (.str N.y), some (.str N.c), some (.str N.t), some (.str N.g), some (.str N.p), some (.str N.q), some (.str N.r), some (.ref a)] H6 := ⟨fun pp hp => by
      simp only [LLGood, List.mem_cons, List.not_mem_nil, or_false] at hp
      rcases hp with rfl | rfl | rfl | rfl | rfl | rfl | rfl | rfl
      · exact ⟨_, rfl, .str _ O.lx⟩
      · exact ⟨_, rfl, .str _ O.ly⟩
      · exact ⟨_, rfl, .str _ O.lc⟩
      · exact ⟨_, rfl, .str _ O.lt⟩
      · exact ⟨_, rfl, .str _ O.lg⟩
      · exact ⟨_, rfl, .str _ O.lp⟩
      · exact ⟨_, rfl, .str _ O.lq⟩
      · exact ⟨_, rfl, .str _ O.lr⟩,
      o, rfl, O.same tH6⟩
    refine some_cat13 (X := (cxOf CX0 P w K mg base nLGood "_law_good" (defScope sLGood) f cdv A outer s H E).nox) r4 g (by rfl) tH6 e tr (Nat.le_of_ble_eq_true rfl) (Nat.le_of_ble_eq_true rfl) fun p ws H9 s9 _ n9 e9 t9 => k p ws H9 s9 n9 e9 t9
end
end BK

set_option Elab.async false
set_option maxRecDepth 100000
set_option maxHeartbeats 8000000
set_option linter.unusedVariables false
namespace BK
open PySem PySem.Spec PyProof.Rows L2
abbrev sLWrong : Stmt := top 60
abbrev nLWrong : List Str := ["own", "x", "y", "c", "t", "g", "none", "some"]
theorem scLWrong : FnScope nLWrong ["own"] (defScope sLWrong) := ⟨rfl, rfl, rfl, by decide +kernel, rfl, by decide +kernel, by decide +kernel⟩
abbrev LLWrong (N : O13) : List (Nat × Tr) := [(1, .str N.x), (2, .str N.y), (3, .str N.c), (4, .str N.t), (5, .str N.g), (6, .str N.none)]
def spLWrong (K : PySem.W.Frag) : Sp := fun vs H Q _ => ∃ o N, vs = [.ref o] ∧ OwnH K H o N ∧ ∀ a ws H', Same H H' → H a = none → H' a = some (.lst ws) → TrAll K H' ws (allWrong N.x N.y N.c N.t N.g N.none N.new N.p N.q N.r) → Q (.ref a) H'
section
variable {P : Program} {w : World} {K : PySem.W.Frag} {mg : Str → Option Value} {base : Heap}
theorem okLWrong {f : Addr} {fd : FuncData} (F : Fun K "_law_wrong" "_law_wrong" sLWrong f fd) : FnOk P w K mg base CX0 1 f fd ["own"] (spLWrong K) := by
  refine F.ok scLWrong (fun vs H Q E h => ?_) (fun cdv A outer s H vs Q E hr h => ?_)
  · obtain ⟨o, N, rfl, _⟩ := h
    rfl
  · obtain ⟨o, N, rfl, O, k⟩ := h
    have hu := hu_of hr
    have d0 : ELo (cxOf CX0 P w K mg base nLWrong "_law_wrong" (defScope sLWrong) f cdv A outer s H E).nox (LLWrong N) N (valueOf (stAt sLWrong 2)) (cWrong0 N.x N.y N.c N.t N.g N.none N.new N.p N.q N.r) := eo_disp (eb_cons eo_non (eb_cons eo_int (eb_cons eo_str (eb_cons (eo_tup eb_nil) (eb_cons (eo_lst eb_nil) (eb_cons eo_dct (eb_cons (eo_tup (eb_cons eo_str eb_nil)) (eb_cons (eo_tup (eb_cons eo_str (eb_cons (eo_var (pv 1) (.head _)) (eb_cons eo_int eb_nil)))) (eb_cons (eo_lst (eb_cons eo_str (eb_cons (eo_var (pv 1) (.head _)) eb_nil))) (eb_cons (eo_tup (eb_cons (eo_tup (eb_cons eo_str (eb_cons (eo_var (pv 1) (.head _)) eb_nil))) eb_nil)) (eb_cons (eo_tup (eb_cons eo_non eb_nil)) (eb_cons (eo_tup (eb_cons eo_str eb_nil)) eb_nil))))))))))))
    obtain ⟨te0, p0, r0⟩ := d0
    have d1 : ELo (cxOf CX0 P w K mg base nLWrong "_law_wrong" (defScope sLWrong) f cdv A outer s H E).nox (LLWrong N) N (rightOf (valueOf (stAt sLWrong 3))) (cWrong1 N.x N.y N.c N.t N.g N.none N.new N.p N.q N.r) := eo_disp (eb_cons (eo_tup (eb_cons eo_str (eb_cons (eo_var (pv 1) (.head _)) eb_nil))) (eb_cons (eo_tup (eb_cons eo_str (eb_cons (eo_var (pv 1) (.head _)) (eb_cons eo_int eb_nil)))) (eb_cons (eo_tup (eb_cons eo_str (eb_cons (eo_var (pv 1) (.head _)) (eb_cons eo_neg eb_nil)))) (eb_cons (eo_tup (eb_cons eo_str (eb_cons (eo_var (pv 1) (.head _)) (eb_cons eo_bl eb_nil)))) (eb_cons (eo_tup (eb_cons eo_str (eb_cons (eo_var (pv 1) (.head _)) (eb_cons eo_non eb_nil)))) (eb_cons (eo_tup (eb_cons eo_str (eb_cons (eo_var (pv 1) (.head _)) (eb_cons (eo_var (pv 2) (.tail _ (.head _))) eb_nil)))) eb_nil))))))
    obtain ⟨te1, p1, r1⟩ := d1
    have d2 : ELo (cxOf CX0 P w K mg base nLWrong "_law_wrong" (defScope sLWrong) f cdv A outer s H E).nox (LLWrong N) N (rightOf (valueOf (stAt sLWrong 4))) (cWrong2 N.x N.y N.c N.t N.g N.none N.new N.p N.q N.r) := eo_disp (eb_cons (eo_tup (eb_cons eo_str (eb_cons (eo_var (pv 6) (.tail _ (.tail _ (.tail _ (.tail _ (.tail _ (.head _))))))) (eb_cons eo_int eb_nil)))) (eb_cons (eo_tup (eb_cons eo_str (eb_cons (eo_var (pv 1) (.head _)) (eb_cons eo_int (eb_cons eo_int eb_nil))))) (eb_cons (eo_tup (eb_cons eo_str (eb_cons eo_int (eb_cons (eo_var (pv 1) (.head _)) eb_nil)))) (eb_cons (eo_tup (eb_cons eo_str (eb_cons (eo_var (pv 1) (.head _)) (eb_cons eo_str eb_nil)))) (eb_cons (eo_tup (eb_cons eo_str (eb_cons (eo_var (pv 4) (.tail _ (.tail _ (.tail _ (.head _))))) (eb_cons (eo_var (pv 1) (.head _)) eb_nil)))) eb_nil)))))
    obtain ⟨te2, p2, r2⟩ := d2
    have d3 : ELo (cxOf CX0 P w K mg base nLWrong "_law_wrong" (defScope sLWrong) f cdv A outer s H E).nox (LLWrong N) N (rightOf (valueOf (stAt sLWrong 5))) (cWrong3 N.x N.y N.c N.t N.g N.none N.new N.p N.q N.r) := eo_disp (eb_cons (eo_tup (eb_cons eo_str (eb_cons (eo_var (pv 4) (.tail _ (.tail _ (.tail _ (.head _))))) (eb_cons (eo_var (pv 1) (.head _)) (eb_cons (eo_var (pv 2) (.tail _ (.head _))) eb_nil))))) (eb_cons (eo_tup (eb_cons eo_str (eb_cons (eo_var (pv 3) (.tail _ (.tail _ (.head _)))) (eb_cons (eo_var (pv 1) (.head _)) (eb_cons eo_int eb_nil))))) (eb_cons (eo_tup (eb_cons eo_str (eb_cons (eo_var (pv 5) (.tail _ (.tail _ (.tail _ (.tail _ (.head _)))))) (eb_cons (eo_var (pv 1) (.head _)) (eb_cons eo_int eb_nil))))) (eb_cons (eo_tup (eb_cons eo_str (eb_cons (eo_var (pv 4) (.tail _ (.tail _ (.tail _ (.head _))))) (eb_cons (eo_var (pv 6) (.tail _ (.tail _ (.tail _ (.tail _ (.tail _ (.head _))))))) (eb_cons eo_int eb_nil))))) (eb_cons (eo_tup (eb_cons eo_str (eb_cons (eo_var (pv 4) (.tail _ (.tail _ (.tail _ (.head _))))) (eb_cons (eo_var (pv 1) (.head _)) (eb_cons eo_int eb_nil))))) eb_nil)))))
    obtain ⟨te3, p3, r3⟩ := d3
    have d4 : ELo (cxOf CX0 P w K mg base nLWrong "_law_wrong" (defScope sLWrong) f cdv A outer s H E).nox (LLWrong N) N (rightOf (valueOf (stAt sLWrong 6))) (cWrong4 N.x N.y N.c N.t N.g N.none N.new N.p N.q N.r) := eo_disp (eb_cons (eo_tup (eb_cons eo_str (eb_cons eo_str (eb_cons (eo_var (pv 1) (.head _)) (eb_cons eo_int eb_nil))))) (eb_cons (eo_tup (eb_cons eo_str (eb_cons eo_int (eb_cons (eo_var (pv 1) (.head _)) (eb_cons eo_int eb_nil))))) eb_nil))
    obtain ⟨te4, p4, r4⟩ := d4
    have d5 : ELo (cxOf CX0 P w K mg base nLWrong "_law_wrong" (defScope sLWrong) f cdv A outer s H E).nox (LLWrong N) N (rightOf (valueOf (stAt sLWrong 7))) (cWrong5 N.x N.y N.c N.t N.g N.none N.new N.p N.q N.r) := eo_disp (eb_cons (eo_tup (eb_cons eo_str (eb_cons (eo_var (pv 3) (.tail _ (.tail _ (.head _)))) eb_nil))) (eb_cons (eo_tup (eb_cons eo_str (eb_cons (eo_var (pv 5) (.tail _ (.tail _ (.tail _ (.tail _ (.head _)))))) eb_nil))) (eb_cons (eo_tup (eb_cons eo_str eb_nil)) (eb_cons (eo_tup (eb_cons eo_str (eb_cons eo_str eb_nil))) (eb_cons (eo_tup (eb_cons eo_str (eb_cons eo_non eb_nil))) (eb_cons (eo_tup (eb_cons eo_str (eb_cons (eo_var (pv 4) (.tail _ (.tail _ (.tail _ (.head _))))) (eb_cons (eo_var (pv 4) (.tail _ (.tail _ (.tail _ (.head _))))) eb_nil)))) eb_nil))))))
    obtain ⟨te5, p5, r5⟩ := d5
    have d6 : ELo (cxOf CX0 P w K mg base nLWrong "_law_wrong" (defScope sLWrong) f cdv A outer s H E).nox (LLWrong N) N (rightOf (valueOf (stAt sLWrong 8))) (cWrong6 N.x N.y N.c N.t N.g N.none N.new N.p N.q N.r) := eo_disp (eb_cons (eo_tup (eb_cons eo_str (eb_cons (eo_var (pv 6) (.tail _ (.tail _ (.tail _ (.tail _ (.tail _ (.head _))))))) eb_nil))) (eb_cons (eo_tup (eb_cons eo_str eb_nil)) (eb_cons (eo_tup (eb_cons eo_str (eb_cons (eo_var (pv 6) (.tail _ (.tail _ (.tail _ (.tail _ (.tail _ (.head _))))))) eb_nil))) (eb_cons (eo_tup (eb_cons eo_str (eb_cons eo_int eb_nil))) (eb_cons (eo_tup (eb_cons eo_str (eb_cons (eo_var (pv 1) (.head _)) (eb_cons (eo_var (pv 1) (.head _)) eb_nil)))) (eb_cons (eo_tup (eb_cons eo_str (eb_cons (eo_var (pv 4) (.tail _ (.tail _ (.tail _ (.head _))))) eb_nil))) (eb_cons (eo_tup (eb_cons eo_str (eb_cons (eo_var (pv 5) (.tail _ (.tail _ (.tail _ (.tail _ (.head _)))))) eb_nil))) eb_nil)))))))
    obtain ⟨te6, p6, r6⟩ := d6
    have d7 : ELo (cxOf CX0 P w K mg base nLWrong "_law_wrong" (defScope sLWrong) f cdv A outer s H E).nox (LLWrong N) N (rightOf (valueOf (stAt sLWrong 9))) (cWrong7 N.x N.y N.c N.t N.g N.none N.new N.p N.q N.r) := eo_disp (eb_cons (eo_tup (eb_cons eo_str eb_nil)) (eb_cons (eo_tup (eb_cons eo_str (eb_cons eo_str eb_nil))) (eb_cons (eo_tup (eb_cons eo_str (eb_cons (eo_tup (eb_cons (eo_var (pv 3) (.tail _ (.tail _ (.head _)))) eb_nil)) eb_nil))) (eb_cons (eo_tup (eb_cons eo_str (eb_cons (eo_var (pv 3) (.tail _ (.tail _ (.head _)))) eb_nil))) (eb_cons (eo_tup (eb_cons eo_str (eb_cons (eo_var (pv 4) (.tail _ (.tail _ (.tail _ (.head _))))) eb_nil))) (eb_cons (eo_tup (eb_cons eo_str eb_nil)) (eb_cons (eo_tup (eb_cons eo_str (eb_cons (eo_var (pv 5) (.tail _ (.tail _ (.tail _ (.tail _ (.head _)))))) (eb_cons (eo_var (pv 5) (.tail _ (.tail _ (.tail _ (.tail _ (.head _)))))) eb_nil)))) eb_nil)))))))
    obtain ⟨te7, p7, r7⟩ := d7
    have d8 : ELo (cxOf CX0 P w K mg base nLWrong "_law_wrong" (defScope sLWrong) f cdv A outer s H E).nox (LLWrong N) N (rightOf (valueOf (stAt sLWrong 10))) (cWrong8 N.x N.y N.c N.t N.g N.none N.new N.p N.q N.r) := eo_disp (eb_cons (eo_tup (eb_cons eo_str (eb_cons eo_int eb_nil))) (eb_cons (eo_tup (eb_cons eo_str (eb_cons (eo_var (pv 3) (.tail _ (.tail _ (.head _)))) eb_nil))) (eb_cons (eo_tup (eb_cons eo_str (eb_cons (eo_var (pv 4) (.tail _ (.tail _ (.tail _ (.head _))))) eb_nil))) (eb_cons (eo_tup (eb_cons eo_str eb_nil)) (eb_cons (eo_tup (eb_cons eo_str (eb_cons eo_non eb_nil))) (eb_cons (eo_tup (eb_cons eo_str (eb_cons (eo_var (pv 1) (.head _)) (eb_cons eo_int (eb_cons (eo_tup eb_nil) (eb_cons (eo_tup eb_nil) eb_nil)))))) eb_nil))))))
    obtain ⟨te8, p8, r8⟩ := d8
    have d9 : ELo (cxOf CX0 P w K mg base nLWrong "_law_wrong" (defScope sLWrong) f cdv A outer s H E).nox (LLWrong N) N (rightOf (valueOf (stAt sLWrong 11))) (cWrong9 N.x N.y N.c N.t N.g N.none N.new N.p N.q N.r) := eo_disp (eb_cons (eo_tup (eb_cons eo_str (eb_cons (eo_var (pv 1) (.head _)) (eb_cons eo_int (eb_cons (eo_tup eb_nil) eb_nil))))) (eb_cons (eo_tup (eb_cons eo_str (eb_cons (eo_tup (eb_cons (eo_tup (eb_cons eo_str eb_nil)) eb_nil)) eb_nil))) (eb_cons (eo_tup (eb_cons eo_str eb_nil)) (eb_cons (eo_tup (eb_cons eo_str eb_nil)) (eb_cons (eo_tup (eb_cons eo_str eb_nil)) (eb_cons (eo_tup (eb_cons eo_str (eb_cons (eo_var (pv 5) (.tail _ (.tail _ (.tail _ (.tail _ (.head _)))))) eb_nil))) eb_nil))))))
    obtain ⟨te9, p9, r9⟩ := d9
    refine ⟨_, (C8.pss_cut (ps_par3 (i := 1) (j := 2) (l := 3) rfl scLWrong.nd rfl rfl rfl (by decide) (by decide) (by decide) rfl rfl rfl (pa_cons (pe_dget hu (pv 0) pe_str (fun _ _ => rfl)) (pa_cons (pe_dget hu (pv 0) pe_str (fun _ _ => rfl)) (pa_cons (pe_dget hu (pv 0) pe_str (fun _ _ => rfl)) pa_nil))) (by rfl))
      (C8.pss_cut (ps_par3 (i := 4) (j := 5) (l := 6) rfl scLWrong.nd rfl rfl rfl (by decide) (by decide) (by decide) rfl rfl rfl (pa_cons (pe_dget hu (pv 0) pe_str (fun _ _ => rfl)) (pa_cons (pe_dget hu (pv 0) pe_str (fun _ _ => rfl)) (pa_cons (pe_dget hu (pv 0) pe_str (fun _ _ => rfl)) pa_nil))) (by rfl))
      (C8.pss_cut (ps_set (i := 7) scLWrong.nd rfl (Or.inl rfl) p0)
      (C8.pss_cut (ps_set (i := 7) scLWrong.nd rfl (Or.inl rfl) (pe_op op_cat (pv 7) p1))
      (C8.pss_cut (ps_set (i := 7) scLWrong.nd rfl (Or.inl rfl) (pe_op op_cat (pv 7) p2))
      (C8.pss_cut (ps_set (i := 7) scLWrong.nd rfl (Or.inl rfl) (pe_op op_cat (pv 7) p3))
      (C8.pss_cut (ps_set (i := 7) scLWrong.nd rfl (Or.inl rfl) (pe_op op_cat (pv 7) p4))
      (C8.pss_cut (ps_set (i := 7) scLWrong.nd rfl (Or.inl rfl) (pe_op op_cat (pv 7) p5))
      (C8.pss_cut (ps_set (i := 7) scLWrong.nd rfl (Or.inl rfl) (pe_op op_cat (pv 7) p6))
      (C8.pss_cut (ps_set (i := 7) scLWrong.nd rfl (Or.inl rfl) (pe_op op_cat (pv 7) p7))
      (C8.pss_cut (ps_set (i := 7) scLWrong.nd rfl (Or.inl rfl) (pe_op op_cat (pv 7) p8))
      (pss_one (ps_ret (pe_op op_cat (pv 7) p9)))))))))))))), ?_⟩
    have s0 : Same H H := fun _ _ e => e
    have OH := O.same s0
    refine ⟨fun σ H1 => H = H1 ∧ σ = [some (.ref o), some (.str N.x), some (.str N.y), some (.str N.c), none, none, none, none], ?_, ?_⟩
    · refine ⟨_, rfl, o, _, rfl, on_x ▸ DGet.k (k := Sum.inr "x") OH.od, ?_⟩
      refine ⟨_, rfl, o, _, rfl, on_y ▸ DGet.k (k := Sum.inr "y") OH.od, ?_⟩
      refine ⟨_, rfl, o, _, rfl, on_c ▸ DGet.k (k := Sum.inr "c") OH.od, ?_⟩
      exact ⟨_, _, _, rfl, rfl, rfl⟩
    rintro σ H1 ⟨rfl, rfl⟩
    have OH := O.same s0
    refine ⟨fun σ H2 => H = H2 ∧ σ = [some (.ref o), some (.str N.x), some (.str N.y), some (.str N.c), some (.str N.t), some (.str N.g), some (.str N.none), none], ?_, ?_⟩
    · refine ⟨_, rfl, o, _, rfl, on_t ▸ DGet.k (k := Sum.inr "t") OH.od, ?_⟩
      refine ⟨_, rfl, o, _, rfl, on_g ▸ DGet.k (k := Sum.inr "g") OH.od, ?_⟩
      refine ⟨_, rfl, o, _, rfl, on_none ▸ DGet.k (k := Sum.inr "none") OH.od, ?_⟩
      exact ⟨_, _, _, rfl, rfl, rfl⟩
    rintro σ H2 ⟨rfl, rfl⟩
    have OO := O.same s0
    have g : Go K (LLWrong N) N [some (.ref o), some (.str N.x), some (.str N.y), some (.str N.c), some (.str N.t), some (.str N.g), some (.str N.none), none] H := ⟨fun pp hp => by
      simp only [LLWrong, List.mem_cons, List.not_mem_nil, or_false] at hp
      rcases hp with rfl | rfl | rfl | rfl | rfl | rfl
      · exact ⟨_, rfl, .str _ O.lx⟩
      · exact ⟨_, rfl, .str _ O.ly⟩
      · exact ⟨_, rfl, .str _ O.lc⟩
      · exact ⟨_, rfl, .str _ O.lt⟩
      · exact ⟨_, rfl, .str _ O.lg⟩
      · exact ⟨_, rfl, .str _ O.ln⟩,
      o, rfl, O.same s0⟩
    refine ⟨fun σ H3 => ∃ (a : Addr) (vs : List V), σ = [some (.ref o), some (.str N.x), some (.str N.y), some (.str N.c), some (.str N.t), some (.str N.g), some (.str N.none), some (.ref a)] ∧ Same H H3 ∧ H a = none ∧ H3 a = some (.lst vs) ∧ TrAll K H3 vs (cWrong0 N.x N.y N.c N.t N.g N.none N.new N.p N.q N.r), ?_, ?_⟩
    · refine r0 _ _ _ g fun a vs G sg na ea ta => ⟨a, vs, rfl, s0.trans sg, s0.free na, ea, ta⟩
    rintro σ H3 ⟨a, vs, rfl, tH3, na, e, tr⟩
    have g : Go K (LLWrong N) N [some (.ref o), some (.str N.x), some (.str N.y), some (.str N.c), some (.str N.t), some (.str N.g), some (.str N.none), some (.ref a)] H3 := ⟨fun pp hp => by
      simp only [LLWrong, List.mem_cons, List.not_mem_nil, or_false] at hp
      rcases hp with rfl | rfl | rfl | rfl | rfl | rfl
      · exact ⟨_, rfl, .str _ O.lx⟩
      · exact ⟨_, rfl, .str _ O.ly⟩
      · exact ⟨_, rfl, .str _ O.lc⟩
      · exact ⟨_, rfl, .str _ O.lt⟩
      · exact ⟨_, rfl, .str _ O.lg⟩
      · exact ⟨_, rfl, .str _ O.ln⟩,
      o, rfl, O.same tH3⟩
    refine ⟨fun σ H4 => ∃ (a : Addr) (vs : List V), σ = [some (.ref o), some (.str N.x), some (.str N.y), some (.str N.c), some (.str N.t), some (.str N.g), some (.str N.none), some (.ref a)] ∧ Same H H4 ∧ H a = none ∧ H4 a = some (.lst vs) ∧ TrAll K H4 vs ((cWrong0 N.x N.y N.c N.t N.g N.none N.new N.p N.q N.r) ++ cWrong1 N.x N.y N.c N.t N.g N.none N.new N.p N.q N.r), ?_, ?_⟩
    · refine some_cat13 (X := (cxOf CX0 P w K mg base nLWrong "_law_wrong" (defScope sLWrong) f cdv A outer s H E).nox) r1 g (by rfl) tH3 e tr (Nat.le_of_ble_eq_true rfl) (Nat.le_of_ble_eq_true rfl) fun p ws H9 s9 _ n9 e9 t9 => ⟨p, ws, rfl, s9, n9, e9, t9⟩
    rintro σ H4 ⟨a, vs, rfl, tH4, na, e, tr⟩
    have g : Go K (LLWrong N) N [some (.ref o), some (.str N.x), some (.str N.y), some (.str N.c), some (.str N.t), some (.str N.g), some (.str N.none), some (.ref a)] H4 := ⟨fun pp hp => by
      simp only [LLWrong, List.mem_cons, List.not_mem_nil, or_false] at hp
      rcases hp with rfl | rfl | rfl | rfl | rfl | rfl
      · exact ⟨_, rfl, .str _ O.lx⟩
      · exact ⟨_, rfl, .str _ O.ly⟩
      · exact ⟨_, rfl, .str _ O.lc⟩
      · exact ⟨_, rfl, .str _ O.lt⟩
      · exact ⟨_, rfl, .str _ O.lg⟩
      · exact ⟨_, rfl, .str _ O.ln⟩,
      o, rfl, O.same tH4⟩
    refine ⟨fun σ H5 => ∃ (a : Addr) (vs : List V), σ = [some (.ref o), some (.str N.x), some (.str N.y), some (.str N.c), some (.str N.t), some (.str N.g), some (.str N.none), some (.ref a)] ∧ Same H H5 ∧ H a = none ∧ H5 a = some (.lst vs) ∧ TrAll K H5 vs (((cWrong0 N.x N.y N.c N.t N.g N.none N.new N.p N.q N.r) ++ cWrong1 N.x N.y N.c N.t N.g N.none N.new N.p N.q N.r) ++ cWrong2 N.x N.y N.c N.t N.g N.none N.new N.p N.q N.r), ?_, ?_⟩
    · refine some_cat13 (X := (cxOf CX0 P w K mg base nLWrong "_law_wrong" (defScope sLWrong) f cdv A outer s H E).nox) r2 g (by rfl) tH4 e tr (Nat.le_of_ble_eq_true rfl) (Nat.le_of_ble_eq_true rfl) fun p ws H9 s9 _ n9 e9 t9 => ⟨p, ws, rfl, s9, n9, e9, t9⟩
    rintro σ H5 ⟨a, vs, rfl, tH5, na, e, tr⟩
    have g : Go K (LLWrong N) N [some (.ref o), some (.str N.x), some (.str N.y), some (.str N.c), some (.str N.t), some (.str N.g), some (.str N.none), some (.ref a)] H5 := ⟨fun pp hp => by
      simp only [LLWrong, List.mem_cons, List.not_mem_nil, or_false] at hp
      rcases hp with rfl | rfl | rfl | rfl | rfl | rfl
      · exact ⟨_, rfl, .str _ O.lx⟩
      · exact ⟨_, rfl, .str _ O.ly⟩
      · exact ⟨_, rfl, .str _ O.lc⟩
      · exact ⟨_, rfl, .str _ O.lt⟩
      · exact ⟨_, rfl, .str _ O.lg⟩
      · exact ⟨_, rfl, .str _ O.ln⟩,
      o, rfl, O.same tH5⟩
    refine ⟨fun σ H6 => ∃ (a : Addr) (vs : List V), σ = [some (.ref o), some (.str N.x), some (.str N.y), some (.str N.c), some (.str N.t), some (.str N.g), some (.str N.none), some (.ref a)] ∧ Same H H6 ∧ H a = none ∧ H6 a = some (.lst vs) ∧ TrAll K H6 vs ((((cWrong0 N.x N.y N.c N.t N.g N.none N.new N.p N.q N.r) ++ cWrong1 N.x N.y N.c N.t N.g N.none N.new N.p N.q N.r) ++ cWrong2 N.x N.y N.c N.t N.g N.none N.new N.p N.q N.r) ++ cWrong3 N.x N.y N.c N.t N.g N.none N.new N.p N.q N.r), ?_, ?_⟩
    · refine some_cat13 (X := (cxOf CX0 P w K mg base nLWrong "_law_wrong" (defScope sLWrong) f cdv A outer s H E).nox) r3 g (by rfl) tH5 e tr (Nat.le_of_ble_eq_true rfl) (Nat.le_of_ble_eq_true rfl) fun p ws H9 s9 _ n9 e9 t9 => ⟨p, ws, rfl, s9, n9, e9, t9⟩
    rintro σ H6 ⟨a, vs, rfl, tH6, na, e, tr⟩
    have g : Go K (LLWrong N) N [some (.ref o), some (.str N.x), some (.str N.y), some (.str N.c), some (.str N.t), some (.str N.g), some (.str N.none), some (.ref a)] H6 := ⟨fun pp hp => by
      simp only [LLWrong, List.mem_cons, List.not_mem_nil, or_false] at hp
      rcases hp with rfl | rfl | rfl | rfl | rfl | rfl
      · exact ⟨_, rfl, .str _ O.lx⟩
      · exact ⟨_, rfl, .str _ O.ly⟩
      · exact ⟨_, rfl, .str _ O.lc⟩
      · exact ⟨_, rfl, .str _ O.lt⟩
      · exact ⟨_, rfl, .str _ O.lg⟩
      · exact ⟨_, rfl, .str _ O.ln⟩,
      o, rfl, O.same tH6⟩
    refine ⟨fun σ H7 => ∃ (a : Addr) (vs : List V), σ = [some (.ref o), some (.str N.x), some (.str N.y), some (.str N.c), some (.str N.t), some (.str N.g), some (.str N.none), some (.ref a)] ∧ Same H H7 ∧ H a = none ∧ H7 a = some (.lst vs) ∧ TrAll K H7 vs (((((cWrong0 N.x N.y N.c N.t N.g N.none N.new N.p N.q N.r) ++ cWrong1 N.x N.y N.c N.t N.g N.none N.new N.p N.q N.r) ++ cWrong2 N.x N.y N.c N.t N.g N.none N.new N.p N.q N.r) ++ cWrong3 N.x N.y N.c N.t N.g N.none N.new N.p N.q N.r) ++ cWrong4 N.x N.y N.c N.t N.g N.none N.new N.p N.q N.r), ?_, ?_⟩
    · refine some_cat13 (X := (cxOf CX0 P w K mg base nLWrong "_law_wrong" (defScope sLWrong) f cdv A outer s H E).nox) r4 g (by rfl) tH6 e tr (Nat.le_of_ble_eq_true rfl) (Nat.le_of_ble_eq_true rfl) fun p ws H9 s9 _ n9 e9 t9 => ⟨p, ws, rfl, s9, n9, e9, t9⟩
    rintro σ H7 ⟨a, vs, rfl, tH7, na, e, tr⟩
    have g : Go K (LLWrong N) N [some (.ref o), some (.str N.x), some (.str N.y), some (.str N.c), some (.str N.t), some (.str N.g), some (.str N.none), some (.ref a)] H7 := ⟨fun pp hp => by
      simp only [LLWrong, List.mem_cons, List.not_mem_nil, or_false] at hp
      rcases hp with rfl | rfl | rfl | rfl | rfl | rfl
      · exact ⟨_, rfl, .str _ O.lx⟩
      · exact ⟨_, rfl, .str _ O.ly⟩
      · exact ⟨_, rfl, .str _ O.lc⟩
      · exact ⟨_, rfl, .str _ O.lt⟩
      · exact ⟨_, rfl, .str _ O.lg⟩
      · exact ⟨_, rfl, .str _ O.ln⟩,
      o, rfl, O.same tH7⟩
    refine ⟨fun σ H8 => ∃ (a : Addr) (vs : List V), σ = [some (.ref o), some (.str N.x), some (.str N.y), some (.str N.c), some (.str N.t), some (.str N.g), some (.str N.none), some (.ref a)] ∧ Same H H8 ∧ H a = none ∧ H8 a = some (.lst vs) ∧ TrAll K H8 vs ((((((cWrong0 N.x N.y N.c N.t N.g N.none N.new N.p N.q N.r) ++ cWrong1 N.x N.y N.c N.t N.g N.none N.new N.p N.q N.r) ++ cWrong2 N.x N.y N.c N.t N.g N.none N.new N.p N.q N.r) ++ cWrong3 N.x N.y N.c N.t N.g N.none N.new N.p N.q N.r) ++ cWrong4 N.x N.y N.c N.t N.g N.none N.new N.p N.q N.r) ++ cWrong5 N.x N.y N.c N.t N.g N.none N.new N.p N.q N.r), ?_, ?_⟩
    · refine some_cat13 (X := (cxOf CX0 P w K mg base nLWrong "_law_wrong" (defScope sLWrong) f cdv A outer s H E).nox) r5 g (by rfl) tH7 e tr (Nat.le_of_ble_eq_true rfl) (Nat.le_of_ble_eq_true rfl) fun p ws H9 s9 _ n9 e9 t9 => ⟨p, ws, rfl, s9, n9, e9, t9⟩
    rintro σ H8 ⟨a, vs, rfl, tH8, na, e, tr⟩
    have g : Go K (LLWrong N) N [some (.ref o), some (.str N.x), some (.str N.y), some (.str N.c), some (.str N.t), some (.str N.g), some (.str N.none), some (.ref a)] H8 := ⟨fun pp hp => by
      simp only [LLWrong, List.mem_cons, List.not_mem_nil, or_false] at hp
      rcases hp with rfl | rfl | rfl | rfl | rfl | rfl
      · exact ⟨_, rfl, .str _ O.lx⟩
      · exact ⟨_, rfl, .str _ O.ly⟩
      · exact ⟨_, rfl, .str _ O.lc⟩
      · exact ⟨_, rfl, .str _ O.lt⟩
      · exact ⟨_, rfl, .str _ O.lg⟩
      · exact ⟨_, rfl, .str _ O.ln⟩,
      o, rfl, O.same tH8⟩
    refine ⟨fun σ H9 => ∃ (a : Addr) (vs : List V), σ = [some (.ref o), some (.str N.x), some (.str N.y), some (.str N.c), some (.str N.t), some (.str N.g), some (.str N.none), some (.ref a)] ∧ Same H H9 ∧ H a = none ∧ H9 a = some (.lst vs) ∧ TrAll K H9 vs (((((((cWrong0 N.x N.y N.c N.t N.g N.none N.new N.p N.q N.r) ++ cWrong1 N.x N.y N.c N.t N.g N.none N.new N.p N.q N.r) ++ cWrong2 N.x N.y N.c N.t N.g N.none N.new N.p N.q N.r) ++ cWrong3 N.x N.y N.c N.t N.g N.none N.new N.p N.q N.r) ++ cWrong4 N.x N.y N.c N.t N.g N.none N.new N.p N.q N.r) ++ cWrong5 N.x N.y N.c N.t N.g N.none N.new N.p N.q N.r) ++ cWrong6 N.x N.y N.c N.t N.g N.none N.new N.p N.q N.r), ?_, ?_⟩
    · refine some_cat13 (X := (cxOf CX0 P w K mg base nLWrong "_law_wrong" (defScope sLWrong) f cdv A outer s H E).nox) r6 g (by rfl) tH8 e tr (Nat.le_of_ble_eq_true rfl) (Nat.le_of_ble_eq_true rfl) fun p ws H9 s9 _ n9 e9 t9 => ⟨p, ws, rfl, s9, n9, e9, t9⟩
    rintro σ H9 ⟨a, vs, rfl, tH9, na, e, tr⟩
    have g : Go K (LLWrong N) N [some (.ref o), some (.str N.x), some (.str N.y), some (.str N.c), some (.str N.t), some (.str N.g), some (.str N.none), some (.ref a)] H9 := ⟨fun pp hp => by
      simp only [LLWrong, List.mem_cons, List.not_mem_nil, or_false] at hp
      rcases hp with rfl | rfl | rfl | rfl | rfl | rfl
      · exact ⟨_, rfl, .str _ O.lx⟩
      · exact ⟨_, rfl, .str _ O.ly⟩
      · exact ⟨_, rfl, .str _ O.lc⟩
      · exact ⟨_, rfl, .str _ O.lt⟩
      · exact ⟨_, rfl, .str _ O.lg⟩
      · exact ⟨_, rfl, .str _ O.ln⟩,
      o, rfl, O.same tH9⟩
    refine ⟨fun σ H10 => ∃ (a : Addr) (vs : List V), σ = [some (.ref o), some (.str N.x), some (.str N.y), some (.str N.c), some (.str N.t), some (.str N.g), some (.str N.none), some (.ref a)] ∧ Same H H10 ∧ H a = none ∧ H10 a = some (.lst vs) ∧ TrAll K H10 vs ((((((((cWrong0 N.x N.y N.c N.t N.g N.none N.new N.p N.q N.r) ++ cWrong1 N.x N.y N.c N.t N.g N.none N.new N.p N.q N.r) ++ cWrong2 N.x N.y N.c N.t N.g N.none N.new N.p N.q N.r) ++ cWrong3 N.x N.y N.c N.t N.g N.none N.new N.p N.q N.r) ++ cWrong4 N.x N.y N.c N.t N.g N.none N.new N.p N.q N.r) ++ cWrong5 N.x N.y N.c N.t N.g N.none N.new N.p N.q N.r) ++ cWrong6 N.x N.y N.c N.t N.g N.none N.new N.p N.q N.r) ++ cWrong7 N.x N.y N.c N.t N.g N.none N.new N.p N.q N.r), ?_, ?_⟩
    · refine some_cat13 (X := (cxOf CX0 P w K mg base nLWrong "_law_wrong" (defScope sLWrong) f cdv A outer s H E).nox) r7 g (by rfl) tH9 e tr (Nat.le_of_ble_eq_true rfl) (Nat.le_of_ble_eq_true rfl) fun p ws H9 s9 _ n9 e9 t9 => ⟨p, ws, rfl, s9, n9, e9, t9⟩
    rintro σ H10 ⟨a, vs, rfl, tH10, na, e, tr⟩
    have g : Go K (LLWrong N) N [some (.ref o), some (.str N.x), some (.str N.y), some (.str N.c), some (.str N.t), some (.str N.g), some (.str N.none), some (.ref a)] H10 := ⟨fun pp hp => by
      simp only [LLWrong, List.mem_cons, List.not_mem_nil, or_false] at hp
      rcases hp with rfl | rfl | rfl | rfl | rfl | rfl
      · exact ⟨_, rfl, .str _ O.lx⟩
      · exact ⟨_, rfl, .str _ O.ly⟩
      · exact ⟨_, rfl, .str _ O.lc⟩
      · exact ⟨_, rfl, .str _ O.lt⟩
      · exact ⟨_, rfl, .str _ O.lg⟩
      · exact ⟨_, rfl, .str _ O.ln⟩,
      o, rfl, O.same tH10⟩
    refine ⟨fun σ H11 => ∃ (a : Addr) (vs : List V), σ = [some (.ref o), some (.str N.x), some (.str N.y), some (.str N.c), some (.str N.t), some (.str N.g), some (.str N.none), some (.ref a)] ∧ Same H H11 ∧ H a = none ∧ H11 a = some (.lst vs) ∧ TrAll K H11 vs (((((((((cWrong0 N.x N.y N.c N.t N.g N.none N.new N.p N.q N.r) ++ cWrong1 N.x N.y N.c N.t N.g N.none N.new N.p N.q N.r) ++ cWrong2 N.x N.y N.c N.t N.g N.none N.new N.p N.q N.r) ++ cWrong3 N.x N.y N.c N.t N.g N.none N.new N.p N.q N.r) ++ cWrong4 N.x N.y N.c N.t N.g N.none N.new N.p N.q N.r) ++ cWrong5 N.x N.y N.c N.t N.g N.none N.new N.p N.q N.r) ++ cWrong6 N.x N.y N.c N.t N.g N.none N.new N.p N.q N.r) ++ cWrong7 N.x N.y N.c N.t N.g N.none N.new N.p N.q N.r) ++ cWrong8 N.x N.y N.c N.t N.g N.none N.new N.p N.q N.r), ?_, ?_⟩
    · refine some_cat13 (X := (cxOf CX0 P w K mg base nLWrong "_law_wrong" (defScope sLWrong) f cdv A outer s H E).nox) r8 g (by rfl) tH10 e tr (Nat.le_of_ble_eq_true rfl) (Nat.le_of_ble_eq_true rfl) fun p ws H9 s9 _ n9 e9 t9 => ⟨p, ws, rfl, s9, n9, e9, t9⟩
    rintro σ H11 ⟨a, vs, rfl, tH11, na, e, tr⟩
    have g : Go K (LLWrong N) N [some (.ref o), some (.str N.x), some (.str N.y), some (.str N.c), some (.str N.t), some (.str N.g), some (.str N.none), some (.ref a)] H11 := ⟨fun pp hp => by
      simp only [LLWrong, List.mem_cons, List.not_mem_nil, or_false] at hp
      rcases hp with rfl | rfl | rfl | rfl | rfl | rfl
      · exact ⟨_, rfl, .str _ O.lx⟩
      · exact ⟨_, rfl, .str _ O.ly⟩
      · exact ⟨_, rfl, .str _ O.lc⟩
      · exact ⟨_, rfl, .str _ O.lt⟩
      · exact ⟨_, rfl, .str _ O.lg⟩
      · exact ⟨_, rfl, .str _ O.ln⟩,
      o, rfl, O.same tH11⟩
    refine some_cat13 (X := (cxOf CX0 P w K mg base nLWrong "_law_wrong" (defScope sLWrong) f cdv A outer s H E).nox) r9 g (by rfl) tH11 e tr (Nat.le_of_ble_eq_true rfl) (Nat.le_of_ble_eq_true rfl) fun p ws H9 s9 _ n9 e9 t9 => k p ws H9 s9 n9 e9 t9
end
end BK

set_option Elab.async false
set_option maxRecDepth 100000
set_option maxHeartbeats 8000000
set_option linter.unusedVariables false
namespace BK
open PySem PySem.Spec PyProof.Rows L2
abbrev sLMade : Stmt := top 61
abbrev nLMade : List Str := ["own", "c", "t", "g", "none", "new", "p", "q", "r", "some"]
theorem scLMade : FnScope nLMade ["own"] (defScope sLMade) := ⟨rfl, rfl, rfl, by decide +kernel, rfl, by decide +kernel, by decide +kernel⟩
abbrev LLMade (N : O13) : List (Nat × Tr) := [(1, .str N.c), (2, .str N.t), (3, .str N.g), (4, .str N.none), (5, .str N.new), (6, .str N.p), (7, .str N.q), (8, .str N.r)]
def spLMade (K : PySem.W.Frag) : Sp := fun vs H Q _ => ∃ o N, vs = [.ref o] ∧ OwnH K H o N ∧ ∀ a ws H', Same H H' → H a = none → H' a = some (.lst ws) → TrAll K H' ws (allMade N.x N.y N.c N.t N.g N.none N.new N.p N.q N.r) → Q (.ref a) H'
section
variable {P : Program} {w : World} {K : PySem.W.Frag} {mg : Str → Option Value} {base : Heap}
theorem okLMade {f : Addr} {fd : FuncData} (F : Fun K "_law_wrong_made" "_law_wrong_made" sLMade f fd) : FnOk P w K mg base CX0 1 f fd ["own"] (spLMade K) := by
  refine F.ok scLMade (fun vs H Q E h => ?_) (fun cdv A outer s H vs Q E hr h => ?_)
  · obtain ⟨o, N, rfl, _⟩ := h
    rfl
  · obtain ⟨o, N, rfl, O, k⟩ := h
    have hu := hu_of hr
    have d0 : ELo (cxOf CX0 P w K mg base nLMade "_law_wrong_made" (defScope sLMade) f cdv A outer s H E).nox (LLMade N) N (valueOf (stAt sLMade 3)) (cMade0 N.x N.y N.c N.t N.g N.none N.new N.p N.q N.r) := eo_disp (eb_cons (eo_tup (eb_cons eo_str (eb_cons (eo_var (pv 2) (.tail _ (.head _))) (eb_cons (eo_tup eb_nil) eb_nil)))) (eb_cons (eo_tup (eb_cons eo_str (eb_cons (eo_var (pv 3) (.tail _ (.tail _ (.head _)))) (eb_cons (eo_tup eb_nil) eb_nil)))) (eb_cons (eo_tup (eb_cons eo_str (eb_cons (eo_var (pv 1) (.head _)) eb_nil))) (eb_cons (eo_tup (eb_cons eo_str (eb_cons (eo_var (pv 1) (.head _)) (eb_cons (eo_lst eb_nil) eb_nil)))) (eb_cons (eo_tup (eb_cons eo_str (eb_cons (eo_var (pv 1) (.head _)) (eb_cons eo_non eb_nil)))) (eb_cons (eo_tup (eb_cons eo_str eb_nil)) eb_nil))))))
    obtain ⟨te0, p0, r0⟩ := d0
    have d1 : ELo (cxOf CX0 P w K mg base nLMade "_law_wrong_made" (defScope sLMade) f cdv A outer s H E).nox (LLMade N) N (rightOf (valueOf (stAt sLMade 4))) (cMade1 N.x N.y N.c N.t N.g N.none N.new N.p N.q N.r) := eo_disp (eb_cons (eo_tup (eb_cons eo_str (eb_cons (eo_tup eb_nil) (eb_cons (eo_var (pv 1) (.head _)) eb_nil)))) (eb_cons (eo_tup (eb_cons eo_str (eb_cons (eo_var (pv 1) (.head _)) (eb_cons (eo_tup eb_nil) (eb_cons (eo_tup eb_nil) eb_nil))))) (eb_cons (eo_tup (eb_cons eo_str (eb_cons (eo_tup eb_nil) (eb_cons (eo_tup eb_nil) eb_nil)))) (eb_cons (eo_tup (eb_cons eo_str (eb_cons (eo_lst eb_nil) eb_nil))) (eb_cons (eo_tup (eb_cons eo_str (eb_cons eo_non eb_nil))) eb_nil)))))
    obtain ⟨te1, p1, r1⟩ := d1
    have d2 : ELo (cxOf CX0 P w K mg base nLMade "_law_wrong_made" (defScope sLMade) f cdv A outer s H E).nox (LLMade N) N (rightOf (valueOf (stAt sLMade 5))) (cMade2 N.x N.y N.c N.t N.g N.none N.new N.p N.q N.r) := eo_disp (eb_cons (eo_tup (eb_cons eo_str (eb_cons eo_str eb_nil))) (eb_cons (eo_tup (eb_cons eo_str (eb_cons (eo_var (pv 3) (.tail _ (.tail _ (.head _)))) (eb_cons (eo_var (pv 4) (.tail _ (.tail _ (.tail _ (.head _))))) (eb_cons (eo_tup eb_nil) eb_nil))))) (eb_cons (eo_tup (eb_cons eo_str (eb_cons (eo_var (pv 3) (.tail _ (.tail _ (.head _)))) (eb_cons (eo_var (pv 6) (.tail _ (.tail _ (.tail _ (.tail _ (.tail _ (.head _))))))) eb_nil)))) (eb_cons (eo_tup (eb_cons eo_str (eb_cons (eo_var (pv 3) (.tail _ (.tail _ (.head _)))) (eb_cons (eo_var (pv 6) (.tail _ (.tail _ (.tail _ (.tail _ (.tail _ (.head _))))))) (eb_cons (eo_tup (eb_cons (eo_var (pv 1) (.head _)) eb_nil)) eb_nil))))) (eb_cons (eo_tup (eb_cons eo_str (eb_cons (eo_var (pv 3) (.tail _ (.tail _ (.head _)))) (eb_cons (eo_var (pv 7) (.tail _ (.tail _ (.tail _ (.tail _ (.tail _ (.tail _ (.head _)))))))) (eb_cons (eo_tup (eb_cons (eo_var (pv 1) (.head _)) eb_nil)) eb_nil))))) eb_nil)))))
    obtain ⟨te2, p2, r2⟩ := d2
    have d3 : ELo (cxOf CX0 P w K mg base nLMade "_law_wrong_made" (defScope sLMade) f cdv A outer s H E).nox (LLMade N) N (rightOf (valueOf (stAt sLMade 6))) (cMade3 N.x N.y N.c N.t N.g N.none N.new N.p N.q N.r) := eo_disp (eb_cons (eo_tup (eb_cons eo_str (eb_cons (eo_var (pv 3) (.tail _ (.tail _ (.head _)))) (eb_cons (eo_var (pv 7) (.tail _ (.tail _ (.tail _ (.tail _ (.tail _ (.tail _ (.head _)))))))) (eb_cons (eo_tup eb_nil) eb_nil))))) (eb_cons (eo_tup (eb_cons eo_str (eb_cons (eo_var (pv 3) (.tail _ (.tail _ (.head _)))) (eb_cons (eo_var (pv 7) (.tail _ (.tail _ (.tail _ (.tail _ (.tail _ (.tail _ (.head _)))))))) (eb_cons (eo_tup (eb_cons (eo_var (pv 1) (.head _)) (eb_cons (eo_var (pv 2) (.tail _ (.head _))) (eb_cons (eo_var (pv 2) (.tail _ (.head _))) eb_nil)))) eb_nil))))) (eb_cons (eo_tup (eb_cons eo_str (eb_cons (eo_var (pv 3) (.tail _ (.tail _ (.head _)))) (eb_cons (eo_var (pv 7) (.tail _ (.tail _ (.tail _ (.tail _ (.tail _ (.tail _ (.head _)))))))) (eb_cons (eo_tup (eb_cons (eo_var (pv 2) (.tail _ (.head _))) (eb_cons (eo_var (pv 1) (.head _)) eb_nil))) eb_nil))))) (eb_cons (eo_tup (eb_cons eo_str (eb_cons (eo_var (pv 3) (.tail _ (.tail _ (.head _)))) (eb_cons (eo_var (pv 7) (.tail _ (.tail _ (.tail _ (.tail _ (.tail _ (.tail _ (.head _)))))))) (eb_cons (eo_tup (eb_cons (eo_var (pv 1) (.head _)) (eb_cons (eo_var (pv 3) (.tail _ (.tail _ (.head _)))) eb_nil))) eb_nil))))) eb_nil))))
    obtain ⟨te3, p3, r3⟩ := d3
    have d4 : ELo (cxOf CX0 P w K mg base nLMade "_law_wrong_made" (defScope sLMade) f cdv A outer s H E).nox (LLMade N) N (rightOf (valueOf (stAt sLMade 7))) (cMade4 N.x N.y N.c N.t N.g N.none N.new N.p N.q N.r) := eo_disp (eb_cons (eo_tup (eb_cons eo_str (eb_cons (eo_var (pv 3) (.tail _ (.tail _ (.head _)))) (eb_cons (eo_var (pv 7) (.tail _ (.tail _ (.tail _ (.tail _ (.tail _ (.tail _ (.head _)))))))) (eb_cons (eo_tup (eb_cons (eo_var (pv 3) (.tail _ (.tail _ (.head _)))) (eb_cons (eo_var (pv 2) (.tail _ (.head _))) eb_nil))) eb_nil))))) (eb_cons (eo_tup (eb_cons eo_str (eb_cons (eo_var (pv 1) (.head _)) (eb_cons (eo_var (pv 6) (.tail _ (.tail _ (.tail _ (.tail _ (.tail _ (.head _))))))) (eb_cons (eo_tup eb_nil) eb_nil))))) (eb_cons (eo_tup (eb_cons eo_str (eb_cons (eo_var (pv 2) (.tail _ (.head _))) (eb_cons (eo_var (pv 7) (.tail _ (.tail _ (.tail _ (.tail _ (.tail _ (.tail _ (.head _)))))))) (eb_cons (eo_tup (eb_cons (eo_var (pv 1) (.head _)) (eb_cons (eo_var (pv 2) (.tail _ (.head _))) eb_nil))) eb_nil))))) (eb_cons (eo_tup (eb_cons eo_str (eb_cons (eo_var (pv 3) (.tail _ (.tail _ (.head _)))) (eb_cons (eo_var (pv 7) (.tail _ (.tail _ (.tail _ (.tail _ (.tail _ (.tail _ (.head _)))))))) (eb_cons (eo_lst (eb_cons (eo_var (pv 1) (.head _)) (eb_cons (eo_var (pv 2) (.tail _ (.head _))) eb_nil))) eb_nil))))) eb_nil))))
    obtain ⟨te4, p4, r4⟩ := d4
    have d5 : ELo (cxOf CX0 P w K mg base nLMade "_law_wrong_made" (defScope sLMade) f cdv A outer s H E).nox (LLMade N) N (rightOf (valueOf (stAt sLMade 8))) (cMade5 N.x N.y N.c N.t N.g N.none N.new N.p N.q N.r) := eo_disp (eb_cons (eo_tup (eb_cons eo_str (eb_cons (eo_var (pv 3) (.tail _ (.tail _ (.head _)))) (eb_cons (eo_var (pv 7) (.tail _ (.tail _ (.tail _ (.tail _ (.tail _ (.tail _ (.head _)))))))) (eb_cons (eo_tup (eb_cons (eo_var (pv 1) (.head _)) (eb_cons eo_int eb_nil))) eb_nil))))) (eb_cons (eo_tup (eb_cons eo_str (eb_cons (eo_var (pv 3) (.tail _ (.tail _ (.head _)))) (eb_cons (eo_var (pv 7) (.tail _ (.tail _ (.tail _ (.tail _ (.tail _ (.tail _ (.head _)))))))) (eb_cons (eo_tup (eb_cons (eo_var (pv 1) (.head _)) (eb_cons eo_str eb_nil))) eb_nil))))) (eb_cons (eo_tup (eb_cons eo_str (eb_cons eo_int (eb_cons (eo_var (pv 6) (.tail _ (.tail _ (.tail _ (.tail _ (.tail _ (.head _))))))) (eb_cons (eo_tup eb_nil) eb_nil))))) (eb_cons (eo_tup (eb_cons eo_str (eb_cons (eo_var (pv 3) (.tail _ (.tail _ (.head _)))) (eb_cons eo_non (eb_cons (eo_tup eb_nil) eb_nil))))) eb_nil))))
    obtain ⟨te5, p5, r5⟩ := d5
    have d6 : ELo (cxOf CX0 P w K mg base nLMade "_law_wrong_made" (defScope sLMade) f cdv A outer s H E).nox (LLMade N) N (rightOf (valueOf (stAt sLMade 9))) (cMade6 N.x N.y N.c N.t N.g N.none N.new N.p N.q N.r) := eo_disp (eb_cons (eo_tup (eb_cons eo_str (eb_cons (eo_var (pv 3) (.tail _ (.tail _ (.head _)))) (eb_cons (eo_lst eb_nil) (eb_cons (eo_tup eb_nil) eb_nil))))) (eb_cons (eo_tup (eb_cons eo_str (eb_cons (eo_var (pv 3) (.tail _ (.tail _ (.head _)))) (eb_cons (eo_tup (eb_cons (eo_var (pv 6) (.tail _ (.tail _ (.tail _ (.tail _ (.tail _ (.head _))))))) eb_nil)) (eb_cons (eo_tup eb_nil) eb_nil))))) (eb_cons (eo_tup (eb_cons eo_str (eb_cons (eo_var (pv 6) (.tail _ (.tail _ (.tail _ (.tail _ (.tail _ (.head _))))))) (eb_cons (eo_var (pv 3) (.tail _ (.tail _ (.head _)))) (eb_cons (eo_tup eb_nil) (eb_cons (eo_tup eb_nil) eb_nil)))))) (eb_cons (eo_tup (eb_cons eo_str (eb_cons (eo_var (pv 5) (.tail _ (.tail _ (.tail _ (.tail _ (.head _)))))) (eb_cons (eo_var (pv 8) (.tail _ (.tail _ (.tail _ (.tail _ (.tail _ (.tail _ (.tail _ (.head _))))))))) (eb_cons (eo_tup (eb_cons (eo_var (pv 5) (.tail _ (.tail _ (.tail _ (.tail _ (.head _)))))) (eb_cons (eo_var (pv 1) (.head _)) eb_nil))) eb_nil))))) eb_nil))))
    obtain ⟨te6, p6, r6⟩ := d6
    have d7 : ELo (cxOf CX0 P w K mg base nLMade "_law_wrong_made" (defScope sLMade) f cdv A outer s H E).nox (LLMade N) N (rightOf (valueOf (stAt sLMade 10))) (cMade7 N.x N.y N.c N.t N.g N.none N.new N.p N.q N.r) := eo_disp (eb_cons (eo_tup (eb_cons eo_str (eb_cons (eo_var (pv 5) (.tail _ (.tail _ (.tail _ (.tail _ (.head _)))))) (eb_cons (eo_var (pv 8) (.tail _ (.tail _ (.tail _ (.tail _ (.tail _ (.tail _ (.tail _ (.head _))))))))) (eb_cons (eo_tup (eb_cons (eo_var (pv 1) (.head _)) (eb_cons (eo_var (pv 5) (.tail _ (.tail _ (.tail _ (.tail _ (.head _)))))) eb_nil))) eb_nil))))) (eb_cons (eo_tup (eb_cons eo_str (eb_cons (eo_var (pv 3) (.tail _ (.tail _ (.head _)))) (eb_cons (eo_var (pv 7) (.tail _ (.tail _ (.tail _ (.tail _ (.tail _ (.tail _ (.head _)))))))) (eb_cons (eo_tup (eb_cons (eo_var (pv 5) (.tail _ (.tail _ (.tail _ (.tail _ (.head _)))))) (eb_cons (eo_var (pv 5) (.tail _ (.tail _ (.tail _ (.tail _ (.head _)))))) eb_nil))) eb_nil))))) (eb_cons (eo_tup (eb_cons eo_str (eb_cons (eo_var (pv 3) (.tail _ (.tail _ (.head _)))) (eb_cons (eo_var (pv 6) (.tail _ (.tail _ (.tail _ (.tail _ (.tail _ (.head _))))))) (eb_cons eo_non eb_nil))))) (eb_cons (eo_tup (eb_cons eo_str (eb_cons (eo_var (pv 3) (.tail _ (.tail _ (.head _)))) (eb_cons (eo_var (pv 6) (.tail _ (.tail _ (.tail _ (.tail _ (.tail _ (.head _))))))) (eb_cons eo_str eb_nil))))) eb_nil))))
    obtain ⟨te7, p7, r7⟩ := d7
    refine ⟨_, (C8.pss_cut (ps_par3 (i := 1) (j := 2) (l := 3) rfl scLMade.nd rfl rfl rfl (by decide) (by decide) (by decide) rfl rfl rfl (pa_cons (pe_dget hu (pv 0) pe_str (fun _ _ => rfl)) (pa_cons (pe_dget hu (pv 0) pe_str (fun _ _ => rfl)) (pa_cons (pe_dget hu (pv 0) pe_str (fun _ _ => rfl)) pa_nil))) (by rfl))
      (C8.pss_cut (ps_par (i := 4) (j := 5) rfl scLMade.nd rfl rfl (by decide) rfl rfl (pa_cons (pe_dget hu (pv 0) pe_str (fun _ _ => rfl)) (pa_cons (pe_dget hu (pv 0) pe_str (fun _ _ => rfl)) pa_nil)) (by rfl))
      (C8.pss_cut (ps_asg (pe_dget hu (pv 0) pe_str (fun _ _ => rfl)) (pg_unl rfl (pgs_cons (pg_name (i := 6) scLMade.nd rfl (Or.inl rfl)) (pgs_cons (pg_name (i := 7) scLMade.nd rfl (Or.inl rfl)) (pgs_cons (pg_name (i := 8) scLMade.nd rfl (Or.inl rfl)) pgs_nil)))))
      (C8.pss_cut (ps_set (i := 9) scLMade.nd rfl (Or.inl rfl) p0)
      (C8.pss_cut (ps_set (i := 9) scLMade.nd rfl (Or.inl rfl) (pe_op op_cat (pv 9) p1))
      (C8.pss_cut (ps_set (i := 9) scLMade.nd rfl (Or.inl rfl) (pe_op op_cat (pv 9) p2))
      (C8.pss_cut (ps_set (i := 9) scLMade.nd rfl (Or.inl rfl) (pe_op op_cat (pv 9) p3))
      (C8.pss_cut (ps_set (i := 9) scLMade.nd rfl (Or.inl rfl) (pe_op op_cat (pv 9) p4))
      (C8.pss_cut (ps_set (i := 9) scLMade.nd rfl (Or.inl rfl) (pe_op op_cat (pv 9) p5))
      (C8.pss_cut (ps_set (i := 9) scLMade.nd rfl (Or.inl rfl) (pe_op op_cat (pv 9) p6))
      (pss_one (ps_ret (pe_op op_cat (pv 9) p7))))))))))))), ?_⟩
    have s0 : Same H H := fun _ _ e => e
    have OH := O.same s0
    refine ⟨fun σ H1 => H = H1 ∧ σ = [some (.ref o), some (.str N.c), some (.str N.t), some (.str N.g), none, none, none, none, none, none], ?_, ?_⟩
    · refine ⟨_, rfl, o, _, rfl, on_c ▸ DGet.k (k := Sum.inr "c") OH.od, ?_⟩
      refine ⟨_, rfl, o, _, rfl, on_t ▸ DGet.k (k := Sum.inr "t") OH.od, ?_⟩
      refine ⟨_, rfl, o, _, rfl, on_g ▸ DGet.k (k := Sum.inr "g") OH.od, ?_⟩
      exact ⟨_, _, _, rfl, rfl, rfl⟩
    rintro σ H1 ⟨rfl, rfl⟩
    have OH := O.same s0
    refine ⟨fun σ H2 => H = H2 ∧ σ = [some (.ref o), some (.str N.c), some (.str N.t), some (.str N.g), some (.str N.none), some (.str N.new), none, none, none, none], ?_, ?_⟩
    · refine ⟨_, rfl, o, _, rfl, on_none ▸ DGet.k (k := Sum.inr "none") OH.od, ?_⟩
      refine ⟨_, rfl, o, _, rfl, on_new ▸ DGet.k (k := Sum.inr "new") OH.od, ?_⟩
      exact ⟨_, _, rfl, rfl, rfl⟩
    rintro σ H2 ⟨rfl, rfl⟩
    have OH := O.same s0
    refine ⟨fun σ H3 => H = H3 ∧ σ = [some (.ref o), some (.str N.c), some (.str N.t), some (.str N.g), some (.str N.none), some (.str N.new), some (.str N.p), some (.str N.q), some (.str N.r), none], ?_, ?_⟩
    · refine ⟨_, rfl, o, _, rfl, on_pieces ▸ DGet.k (k := Sum.inr "pieces") OH.od, ?_⟩
      exact ⟨N.pl, _, rfl, SqL.of OH.pd, rfl, _, _, rfl, _, _, rfl, _, _, rfl, rfl, rfl, rfl⟩
    rintro σ H3 ⟨rfl, rfl⟩
    have OO := O.same s0
    have g : Go K (LLMade N) N [some (.ref o), some (.str N.c), some (.str N.t), some (.str N.g), some (.str N.none), some (.str N.new), some (.str N.p), some (.str N.q), some (.str N.r), none] H := ⟨fun pp hp => by
      simp only [LLMade, List.mem_cons, List.not_mem_nil, or_false] at hp
      rcases hp with rfl | rfl | rfl | rfl | rfl | rfl | rfl | rfl
      · exact ⟨_, rfl, .str _ O.lc⟩
      · exact ⟨_, rfl, .str _ O.lt⟩
      · exact ⟨_, rfl, .str _ O.lg⟩
      · exact ⟨_, rfl, .str _ O.ln⟩
      · exact ⟨_, rfl, .str _ O.lw⟩
      · exact ⟨_, rfl, .str _ O.lp⟩
      · exact ⟨_, rfl, .str _ O.lq⟩
      · exact ⟨_, rfl, .str _ O.lr⟩,
      o, rfl, O.same s0⟩
    refine ⟨fun σ H4 => ∃ (a : Addr) (vs : List V), σ = [some (.ref o), some (.str N.c), some (.str N.t), some (.str N.g), some (.str N.none), some (.str N.new), some (.str N.p), some (.str N.q), some (.str N.r), some (.ref a)] ∧ Same H H4 ∧ H a = none ∧ H4 a = some (.lst vs) ∧ TrAll K H4 vs (cMade0 N.x N.y N.c N.t N.g N.none N.new N.p N.q N.r), ?_, ?_⟩
    · refine r0 _ _ _ g fun a vs G sg na ea ta => ⟨a, vs, rfl, s0.trans sg, s0.free na, ea, ta⟩
    rintro σ H4 ⟨a, vs, rfl, tH4, na, e, tr⟩
    have g : Go K (LLMade N) N [some (.ref o), some (.str N.c), some (.str N.t), some (.str N.g), some (.str N.none), some (.str N.new), some (.str N.p), some (.str N.q), some (.str N.r), some (.ref a)] H4 := ⟨fun pp hp => by
      simp only [LLMade, List.mem_cons, List.not_mem_nil, or_false] at hp
      rcases hp with rfl | rfl | rfl | rfl | rfl | rfl | rfl | rfl
      · exact ⟨_, rfl, .str _ O.lc⟩
      · exact ⟨_, rfl, .str _ O.lt⟩
      · exact ⟨_, rfl, .str _ O.lg⟩
      · exact ⟨_, rfl, .str _ O.ln⟩
      · exact ⟨_, rfl, .str _ O.lw⟩
      · exact ⟨_, rfl, .str _ O.lp⟩
      · exact ⟨_, rfl, .str _ O.lq⟩
      · exact ⟨_, rfl, .str _ O.lr⟩,
      o, rfl, O.same tH4⟩
    refine ⟨fun σ H5 => ∃ (a : Addr) (vs : List V), σ = [some (.ref o), some (.str N.c), some (.str N.t), some (.str N.g), some (.str N.none), some (.str N.new), some (.str N.p), some (.str N.q), some (.str N.r), some (.ref a)] ∧ Same H H5 ∧ H a = none ∧ H5 a = some (.lst vs) ∧ TrAll K H5 vs ((cMade0 N.x N.y N.c N.t N.g N.none N.new N.p N.q N.r) ++ cMade1 N.x N.y N.c N.t N.g N.none N.new N.p N.q N.r), ?_, ?_⟩
    · refine some_cat13 (X := (cxOf CX0 P w K mg base nLMade "_law_wrong_made" (defScope sLMade) f cdv A outer s H E).nox) r1 g (by rfl) tH4 e tr (Nat.le_of_ble_eq_true rfl) (Nat.le_of_ble_eq_true rfl) fun p ws H9 s9 _ n9 e9 t9 => ⟨p, ws, rfl, s9, n9, e9, t9⟩
    rintro σ H5 ⟨a, vs, rfl, tH5, na, e, tr⟩
    have g : Go K (LLMade N) N [some (.ref o), some (.str N.c), some (.str N.t), some (.str N.g), some (.str N.none), some (.str N.new), some (.str N.p), some (.str N.q), some (.str N.r), some (.ref a)] H5 := ⟨fun pp hp => by
      simp only [LLMade, List.mem_cons, List.not_mem_nil, or_false] at hp
      rcases hp with rfl | rfl | rfl | rfl | rfl | rfl | rfl | rfl
      · exact ⟨_, rfl, .str _ O.lc⟩
      · exact ⟨_, rfl, .str _ O.lt⟩
      · exact ⟨_, rfl, .str _ O.lg⟩
      · exact ⟨_, rfl, .str _ O.ln⟩
      · exact ⟨_, rfl, .str _ O.lw⟩
      · exact ⟨_, rfl, .str _ O.lp⟩
      · exact ⟨_, rfl, .str _ O.lq⟩
      · exact ⟨_, rfl, .str _ O.lr⟩,
      o, rfl, O.same tH5⟩
    refine ⟨fun σ H6 => ∃ (a : Addr) (vs : List V), σ = [some (.ref o), some (.str N.c), some (.str N.t), some (.str N.g), some (.str N.none), some (.str N.new), some (.str N.p), some (.str N.q), some (.str N.r), some (.ref a)] ∧ Same H H6 ∧ H a = none ∧ H6 a = some (.lst vs) ∧ TrAll K H6 vs (((cMade0 N.x N.y N.c N.t N.g N.none N.new N.p N.q N.r) ++ cMade1 N.x N.y N.c N.t N.g N.none N.new N.p N.q N.r) ++ cMade2 N.x N.y N.c N.t N.g N.none N.new N.p N.q N.r), ?_, ?_⟩
    · refine some_cat13 (X := (cxOf CX0 P w K mg base nLMade "_law_wrong_made" (defScope sLMade) f cdv A outer s H E).nox) r2 g (by rfl) tH5 e tr (Nat.le_of_ble_eq_true rfl) (Nat.le_of_ble_eq_true rfl) fun p ws H9 s9 _ n9 e9 t9 => ⟨p, ws, rfl, s9, n9, e9, t9⟩
    rintro σ H6 ⟨a, vs, rfl, tH6, na, e, tr⟩
    have g : Go K (LLMade N) N [some (.ref o), some (.str N.c), some (.str N.t), some (.str N.g), some (.str N.none), some (.str N.new), some (.str N.p), some (.str N.q), some (.str N.r), some (.ref a)] H6 := ⟨fun pp hp => by
      simp only [LLMade, List.mem_cons, List.not_mem_nil, or_false] at hp
      rcases hp with rfl | rfl | rfl | rfl | rfl | rfl | rfl | rfl
      · exact ⟨_, rfl, .str _ O.lc⟩
      · exact ⟨_, rfl, .str _ O.lt⟩
      · exact ⟨_, rfl, .str _ O.lg⟩
      · exact ⟨_, rfl, .str _ O.ln⟩
      · exact ⟨_, rfl, .str _ O.lw⟩
      · exact ⟨_, rfl, .str _ O.lp⟩
      · exact ⟨_, rfl, .str _ O.lq⟩
      · exact ⟨_, rfl, .str _ O.lr⟩,
      o, rfl, O.same tH6⟩
    refine ⟨fun σ H7 => ∃ (a : Addr) (vs : List V), σ = [some (.ref o), some (.str N.c), some (.str N.t), some (.str N.g), some (.str N.none), some (.str N.new), some (.str N.p), some (.str N.q), some (.str N.r), some (.ref a)] ∧ Same H H7 ∧ H a = none ∧ H7 a = some (.lst vs) ∧ TrAll K H7 vs ((((cMade0 N.x N.y N.c N.t N.g N.none N.new N.p N.q N.r) ++ cMade1 N.x N.y N.c N.t N.g N.none N.new N.p N.q N.r) ++ cMade2 N.x N.y N.c N.t N.g N.none N.new N.p N.q N.r) ++ cMade3 N.x N.y N.c N.t N.g N.none N.new N.p N.q N.r), ?_, ?_⟩
    · refine some_cat13 (X := (cxOf CX0 P w K mg base nLMade "_law_wrong_made" (defScope sLMade) f cdv A outer s H E).nox) r3 g (by rfl) tH6 e tr (Nat.le_of_ble_eq_true rfl) (Nat.le_of_ble_eq_true rfl) fun p ws H9 s9 _ n9 e9 t9 => ⟨p, ws, rfl, s9, n9, e9, t9⟩
    rintro σ H7 ⟨a, vs, rfl, tH7, na, e, tr⟩
    have g : Go K (LLMade N) N [some (.ref o), some (.str N.c), some (.str N.t), some (.str N.g), some (.str N.none), some (.str N.new), some (.str N.p), some (.str N.q), some (.str N.r), some (.ref a)] H7 := ⟨fun pp hp => by
      simp only [LLMade, List.mem_cons, List.not_mem_nil, or_false] at hp
      rcases hp with rfl | rfl | rfl | rfl | rfl | rfl | rfl | rfl
      · exact ⟨_, rfl, .str _ O.lc⟩
      · exact ⟨_, rfl, .str _ O.lt⟩
      · exact ⟨_, rfl, .str _ O.lg⟩
      · exact ⟨_, rfl, .str _ O.ln⟩
      · exact ⟨_, rfl, .str _ O.lw⟩
      · exact ⟨_, rfl, .str _ O.lp⟩
      · exact ⟨_, rfl, .str _ O.lq⟩
      · exact ⟨_, rfl, .str _ O.lr⟩,
      o, rfl, O.same tH7⟩
    refine ⟨fun σ H8 => ∃ (a : Addr) (vs : List V), σ = [some (.ref o), some (.str N.c), some (.str N.t), some (.str N.g), some (.str N.none), some (.str N.new), some (.str N.p), some (.str N.q), some (.str N.r), some (.ref a)] ∧ Same H H8 ∧ H a = none ∧ H8 a = some (.lst vs) ∧ TrAll K H8 vs (((((cMade0 N.x N.y N.c N.t N.g N.none N.new N.p N.q N.r) ++ cMade1 N.x N.y N.c N.t N.g N.none N.new N.p N.q N.r) ++ cMade2 N.x N.y N.c N.t N.g N.none N.new N.p N.q N.r) ++ cMade3 N.x N.y N.c N.t N.g N.none N.new N.p N.q N.r) ++ cMade4 N.x N.y N.c N.t N.g N.none N.new N.p N.q N.r), ?_, ?_⟩
    · refine some_cat13 (X := (cxOf CX0 P w K mg base nLMade "_law_wrong_made" (defScope sLMade) f cdv A outer s H E).nox) r4 g (by rfl) tH7 e tr (Nat.le_of_ble_eq_true rfl) (Nat.le_of_ble_eq_true rfl) fun p ws H9 s9 _ n9 e9 t9 => ⟨p, ws, rfl, s9, n9, e9, t9⟩
    rintro σ H8 ⟨a, vs, rfl, tH8, na, e, tr⟩
    have g : Go K (LLMade N) N [some (.ref o), some (.str N.c), some (.str N.t), some (.str N.g), some (.str N.none), some (.str N.new), some (.str N.p), some (.str N.q), some (.str N.r), some (.ref a)] H8 := ⟨fun pp hp => by
      simp only [LLMade, List.mem_cons, List.not_mem_nil, or_false] at hp
      rcases hp with rfl | rfl | rfl | rfl | rfl | rfl | rfl | rfl
      · exact ⟨_, rfl, .str _ O.lc⟩
      · exact ⟨_, rfl, .str _ O.lt⟩
      · exact ⟨_, rfl, .str _ O.lg⟩
      · exact ⟨_, rfl, .str _ O.ln⟩
      · exact ⟨_, rfl, .str _ O.lw⟩
      · exact ⟨_, rfl, .str _ O.lp⟩
      · exact ⟨_, rfl, .str _ O.lq⟩
      · exact ⟨_, rfl, .str _ O.lr⟩,
      o, rfl, O.same tH8⟩
    refine ⟨fun σ H9 => ∃ (a : Addr) (vs : List V), σ = [some (.ref o), some (.str N.c), some (.str N.t), some (.str N.g), some (.str N.none), some (.str N.new), some (.str N.p), some (.str N.q), some (.str N.r), some (.ref a)] ∧ Same H H9 ∧ H a = none ∧ H9 a = some (.lst vs) ∧ TrAll K H9 vs ((((((cMade0 N.x N.y N.c N.t N.g N.none N.new N.p N.q N.r) ++ cMade1 N.x N.y N.c N.t N.g N.none N.new N.p N.q N.r) ++ cMade2 N.x N.y N.c N.t N.g N.none N.new N.p N.q N.r) ++ cMade3 N.x N.y N.c N.t N.g N.none N.new N.p N.q N.r) ++ cMade4 N.x N.y N.c N.t N.g N.none N.new N.p N.q N.r) ++ cMade5 N.x N.y N.c N.t N.g N.none N.new N.p N.q N.r), ?_, ?_⟩
    · refine some_cat13 (X := (cxOf CX0 P w K mg base nLMade "_law_wrong_made" (defScope sLMade) f cdv A outer s H E).nox) r5 g (by rfl) tH8 e tr (Nat.le_of_ble_eq_true rfl) (Nat.le_of_ble_eq_true rfl) fun p ws H9 s9 _ n9 e9 t9 => ⟨p, ws, rfl, s9, n9, e9, t9⟩
    rintro σ H9 ⟨a, vs, rfl, tH9, na, e, tr⟩
    have g : Go K (LLMade N) N [some (.ref o), some (.str N.c), some (.str N.t), some (.str N.g), some (.str N.none), some (.str N.new), some (.str N.p), some (.str N.q), some (.str N.r), some (.ref a)] H9 := ⟨fun pp hp => by
      simp only [LLMade, List.mem_cons, List.not_mem_nil, or_false] at hp
      rcases hp with rfl | rfl | rfl | rfl | rfl | rfl | rfl | rfl
      · exact ⟨_, rfl, .str _ O.lc⟩
      · exact ⟨_, rfl, .str _ O.lt⟩
      · exact ⟨_, rfl, .str _ O.lg⟩
      · exact ⟨_, rfl, .str _ O.ln⟩
      · exact ⟨_, rfl, .str _ O.lw⟩
      · exact ⟨_, rfl, .str _ O.lp⟩
      · exact ⟨_, rfl, .str _ O.lq⟩
      · exact ⟨_, rfl, .str _ O.lr⟩,
      o, rfl, O.same tH9⟩
    refine ⟨fun σ H10 => ∃ (a : Addr) (vs : List V), σ = [some (.ref o), some (.str N.c), some (.str N.t), some (.str N.g), some (.str N.none), some (.str N.new), some (.str N.p), some (.str N.q), some (.str N.r), some (.ref a)] ∧ Same H H10 ∧ H a = none ∧ H10 a = some (.lst vs) ∧ TrAll K H10 vs (((((((cMade0 N.x N.y N.c N.t N.g N.none N.new N.p N.q N.r) ++ cMade1 N.x N.y N.c N.t N.g N.none N.new N.p N.q N.r) ++ cMade2 N.x N.y N.c N.t N.g N.none N.new N.p N.q N.r) ++ cMade3 N.x N.y N.c N.t N.g N.none N.new N.p N.q N.r) ++ cMade4 N.x N.y N.c N.t N.g N.none N.new N.p N.q N.r) ++ cMade5 N.x N.y N.c N.t N.g N.none N.new N.p N.q N.r) ++ cMade6 N.x N.y N.c N.t N.g N.none N.new N.p N.q N.r), ?_, ?_⟩
    · refine some_cat13 (X := (cxOf CX0 P w K mg base nLMade "_law_wrong_made" (defScope sLMade) f cdv A outer s H E).nox) r6 g (by rfl) tH9 e tr (Nat.le_of_ble_eq_true rfl) (Nat.le_of_ble_eq_true rfl) fun p ws H9 s9 _ n9 e9 t9 => ⟨p, ws, rfl, s9, n9, e9, t9⟩
    rintro σ H10 ⟨a, vs, rfl, tH10, na, e, tr⟩
    have g : Go K (LLMade N) N [some (.ref o), some (.str N.c), some (.str N.t), some (.str N.g), some (.str N.none), some (.str N.new), some (.str N.p), some (.str N.q), some (.str N.r), some (.ref a)] H10 := ⟨fun pp hp => by
      simp only [LLMade, List.mem_cons, List.not_mem_nil, or_false] at hp
      rcases hp with rfl | rfl | rfl | rfl | rfl | rfl | rfl | rfl
      · exact ⟨_, rfl, .str _ O.lc⟩
      · exact ⟨_, rfl, .str _ O.lt⟩
      · exact ⟨_, rfl, .str _ O.lg⟩
      · exact ⟨_, rfl, .str _ O.ln⟩
      · exact ⟨_, rfl, .str _ O.lw⟩
      · exact ⟨_, rfl, .str _ O.lp⟩
      · exact ⟨_, rfl, .str _ O.lq⟩
      · exact ⟨_, rfl, .str _ O.lr⟩,
      o, rfl, O.same tH10⟩
    refine some_cat13 (X := (cxOf CX0 P w K mg base nLMade "_law_wrong_made" (defScope sLMade) f cdv A outer s H E).nox) r7 g (by rfl) tH10 e tr (Nat.le_of_ble_eq_true rfl) (Nat.le_of_ble_eq_true rfl) fun p ws H9 s9 _ n9 e9 t9 => k p ws H9 s9 n9 e9 t9
end
end BK

set_option Elab.async false
set_option maxRecDepth 100000
set_option maxHeartbeats 8000000
set_option linter.unusedVariables false
namespace BK
open PySem PySem.Spec PyProof.Rows L2
abbrev sLWith : Stmt := top 62
abbrev nLWith : List Str := ["own", "x", "c", "t", "g", "none", "some"]
theorem scLWith : FnScope nLWith ["own"] (defScope sLWith) := ⟨rfl, rfl, rfl, by decide +kernel, rfl, by decide +kernel, by decide +kernel⟩
abbrev LLWith (N : O13) : List (Nat × Tr) := [(1, .str N.x), (2, .str N.c), (3, .str N.t), (4, .str N.g), (5, .str N.none)]
def spLWith (K : PySem.W.Frag) : Sp := fun vs H Q _ => ∃ o N, vs = [.ref o] ∧ OwnH K H o N ∧ ∀ a ws H', Same H H' → H a = none → H' a = some (.lst ws) → TrAll K H' ws (allWith N.x N.y N.c N.t N.g N.none N.new N.p N.q N.r) → Q (.ref a) H'
section
variable {P : Program} {w : World} {K : PySem.W.Frag} {mg : Str → Option Value} {base : Heap}
theorem okLWith {f : Addr} {fd : FuncData} (F : Fun K "_law_wrong_within" "_law_wrong_within" sLWith f fd) : FnOk P w K mg base CX0 1 f fd ["own"] (spLWith K) := by
  refine F.ok scLWith (fun vs H Q E h => ?_) (fun cdv A outer s H vs Q E hr h => ?_)
  · obtain ⟨o, N, rfl, _⟩ := h
    rfl
  · obtain ⟨o, N, rfl, O, k⟩ := h
    have hu := hu_of hr
    have d0 : ELo (cxOf CX0 P w K mg base nLWith "_law_wrong_within" (defScope sLWith) f cdv A outer s H E).nox (LLWith N) N (valueOf (stAt sLWith 2)) (cWith0 N.x N.y N.c N.t N.g N.none N.new N.p N.q N.r) := eo_disp (eb_cons (eo_tup (eb_cons (eo_tup (eb_cons eo_str (eb_cons (eo_var (pv 2) (.tail _ (.head _))) (eb_cons (eo_tup (eb_cons (eo_tup (eb_cons eo_str (eb_cons (eo_var (pv 1) (.head _)) eb_nil))) (eb_cons (eo_tup (eb_cons eo_str eb_nil)) eb_nil))) eb_nil)))) (eb_cons (eo_tup (eb_cons eo_int (eb_cons eo_int eb_nil))) eb_nil))) eb_nil)
    obtain ⟨te0, p0, r0⟩ := d0
    have d1 : ETo (cxOf CX0 P w K mg base nLWith "_law_wrong_within" (defScope sLWith) f cdv A outer s H E).nox (LLWith N) N (argOf (valueOf (stAt sLWith 3))) (.tup [(.tup [(.str "guard"), (.tup [(.tup [(.str "guard"), (.tup [(.tup [(.str "show"), (.str N.none)])])])])]), (.tup [(.int 0), (.int 0), (.int 0), (.int 0)])]) := (eo_tup (eb_cons (eo_tup (eb_cons eo_str (eb_cons (eo_tup (eb_cons (eo_tup (eb_cons eo_str (eb_cons (eo_tup (eb_cons (eo_tup (eb_cons eo_str (eb_cons (eo_var (pv 5) (.tail _ (.tail _ (.tail _ (.tail _ (.head _)))))) eb_nil))) eb_nil)) eb_nil))) eb_nil)) eb_nil))) (eb_cons (eo_tup (eb_cons eo_int (eb_cons eo_int (eb_cons eo_int (eb_cons eo_int eb_nil))))) eb_nil)))
    obtain ⟨te1, p1, r1⟩ := d1
    have d2 : ETo (cxOf CX0 P w K mg base nLWith "_law_wrong_within" (defScope sLWith) f cdv A outer s H E).nox (LLWith N) N (argOf (valueOf (stAt sLWith 4))) (.tup [(.tup [(.str "guard"), (.tup [(.tup [(.str "within"), (.str N.c), (.tup [(.tup [(.str "step"), (.str N.g)]), (.tup [(.str "reset"), (.str N.c)]), .non])])])]), (.tup [(.int 0), (.int 0), (.int 0), (.int 1)])]) := (eo_tup (eb_cons (eo_tup (eb_cons eo_str (eb_cons (eo_tup (eb_cons (eo_tup (eb_cons eo_str (eb_cons (eo_var (pv 2) (.tail _ (.head _))) (eb_cons (eo_tup (eb_cons (eo_tup (eb_cons eo_str (eb_cons (eo_var (pv 4) (.tail _ (.tail _ (.tail _ (.head _))))) eb_nil))) (eb_cons (eo_tup (eb_cons eo_str (eb_cons (eo_var (pv 2) (.tail _ (.head _))) eb_nil))) (eb_cons eo_non eb_nil)))) eb_nil)))) eb_nil)) eb_nil))) (eb_cons (eo_tup (eb_cons eo_int (eb_cons eo_int (eb_cons eo_int (eb_cons eo_int eb_nil))))) eb_nil)))
    obtain ⟨te2, p2, r2⟩ := d2
    have d3 : ETo (cxOf CX0 P w K mg base nLWith "_law_wrong_within" (defScope sLWith) f cdv A outer s H E).nox (LLWith N) N (argOf (valueOf (stAt sLWith 5))) (.tup [(.tup [(.str "within"), (.str N.c), (.tup [(.tup [(.str "within"), (.str N.t), (.tup [(.tup [(.str "show"), (.str N.none)])])])])]), (.tup [(.int 0), (.int 0)])]) := (eo_tup (eb_cons (eo_tup (eb_cons eo_str (eb_cons (eo_var (pv 2) (.tail _ (.head _))) (eb_cons (eo_tup (eb_cons (eo_tup (eb_cons eo_str (eb_cons (eo_var (pv 3) (.tail _ (.tail _ (.head _)))) (eb_cons (eo_tup (eb_cons (eo_tup (eb_cons eo_str (eb_cons (eo_var (pv 5) (.tail _ (.tail _ (.tail _ (.tail _ (.head _)))))) eb_nil))) eb_nil)) eb_nil)))) eb_nil)) eb_nil)))) (eb_cons (eo_tup (eb_cons eo_int (eb_cons eo_int eb_nil))) eb_nil)))
    obtain ⟨te3, p3, r3⟩ := d3
    have d4 : ETo (cxOf CX0 P w K mg base nLWith "_law_wrong_within" (defScope sLWith) f cdv A outer s H E).nox (LLWith N) N (argOf (valueOf (stAt sLWith 6))) (.tup [(.tup [(.str "guard"), (.tup [(.tup [(.str "make"), (.str N.new), (.str N.p), (.tup [])]), (.tup [(.str "copy"), (.str N.new)])])]), (.tup [(.int 0), (.int 1)])]) := (eo_tup (eb_cons (eo_tup (eb_cons eo_str (eb_cons (eo_tup (eb_cons (eo_tup (eb_cons eo_str (eb_cons (eo_new hu (pv 0)) (eb_cons (eo_piece0 hu (pv 0)) (eb_cons (eo_tup eb_nil) eb_nil))))) (eb_cons (eo_tup (eb_cons eo_str (eb_cons (eo_new hu (pv 0)) eb_nil))) eb_nil))) eb_nil))) (eb_cons (eo_tup (eb_cons eo_int (eb_cons eo_int eb_nil))) eb_nil)))
    obtain ⟨te4, p4, r4⟩ := d4
    have d5 : ELo (cxOf CX0 P w K mg base nLWith "_law_wrong_within" (defScope sLWith) f cdv A outer s H E).nox (LLWith N) N (rightOf (valueOf (stAt sLWith 7))) (cWith5 N.x N.y N.c N.t N.g N.none N.new N.p N.q N.r) := eo_disp (eb_cons (eo_tup (eb_cons (eo_tup (eb_cons eo_str (eb_cons (eo_tup (eb_cons eo_non eb_nil)) eb_nil))) (eb_cons (eo_tup (eb_cons eo_int (eb_cons eo_int eb_nil))) eb_nil))) (eb_cons (eo_tup (eb_cons (eo_tup (eb_cons eo_str (eb_cons (eo_tup (eb_cons (eo_tup eb_nil) (eb_cons (eo_tup (eb_cons eo_str (eb_cons (eo_var (pv 1) (.head _)) eb_nil))) eb_nil))) eb_nil))) (eb_cons (eo_tup (eb_cons eo_int (eb_cons eo_int eb_nil))) eb_nil))) eb_nil))
    obtain ⟨te5, p5, r5⟩ := d5
    refine ⟨_, (C8.pss_cut (ps_par3 (i := 1) (j := 2) (l := 3) rfl scLWith.nd rfl rfl rfl (by decide) (by decide) (by decide) rfl rfl rfl (pa_cons (pe_dget hu (pv 0) pe_str (fun _ _ => rfl)) (pa_cons (pe_dget hu (pv 0) pe_str (fun _ _ => rfl)) (pa_cons (pe_dget hu (pv 0) pe_str (fun _ _ => rfl)) pa_nil))) (by rfl))
      (C8.pss_cut (ps_par (i := 4) (j := 5) rfl scLWith.nd rfl rfl (by decide) rfl rfl (pa_cons (pe_dget hu (pv 0) pe_str (fun _ _ => rfl)) (pa_cons (pe_dget hu (pv 0) pe_str (fun _ _ => rfl)) pa_nil)) (by rfl))
      (C8.pss_cut (ps_set (i := 6) scLWith.nd rfl (Or.inl rfl) p0)
      (C8.pss_cut (ps_expr (pe_bm PySem.F.plainAttrs_list PySem.F.slot_list_append PySem.F.type_list_append mt_append (pv 6) (pa_cons p1 pa_nil)))
      (C8.pss_cut (ps_expr (pe_bm PySem.F.plainAttrs_list PySem.F.slot_list_append PySem.F.type_list_append mt_append (pv 6) (pa_cons p2 pa_nil)))
      (C8.pss_cut (ps_expr (pe_bm PySem.F.plainAttrs_list PySem.F.slot_list_append PySem.F.type_list_append mt_append (pv 6) (pa_cons p3 pa_nil)))
      (C8.pss_cut (ps_expr (pe_bm PySem.F.plainAttrs_list PySem.F.slot_list_append PySem.F.type_list_append mt_append (pv 6) (pa_cons p4 pa_nil)))
      (pss_one (ps_ret (pe_op op_cat (pv 6) p5)))))))))), ?_⟩
    have s0 : Same H H := fun _ _ e => e
    have OH := O.same s0
    refine ⟨fun σ H1 => H = H1 ∧ σ = [some (.ref o), some (.str N.x), some (.str N.c), some (.str N.t), none, none, none], ?_, ?_⟩
    · refine ⟨_, rfl, o, _, rfl, on_x ▸ DGet.k (k := Sum.inr "x") OH.od, ?_⟩
      refine ⟨_, rfl, o, _, rfl, on_c ▸ DGet.k (k := Sum.inr "c") OH.od, ?_⟩
      refine ⟨_, rfl, o, _, rfl, on_t ▸ DGet.k (k := Sum.inr "t") OH.od, ?_⟩
      exact ⟨_, _, _, rfl, rfl, rfl⟩
    rintro σ H1 ⟨rfl, rfl⟩
    have OH := O.same s0
    refine ⟨fun σ H2 => H = H2 ∧ σ = [some (.ref o), some (.str N.x), some (.str N.c), some (.str N.t), some (.str N.g), some (.str N.none), none], ?_, ?_⟩
    · refine ⟨_, rfl, o, _, rfl, on_g ▸ DGet.k (k := Sum.inr "g") OH.od, ?_⟩
      refine ⟨_, rfl, o, _, rfl, on_none ▸ DGet.k (k := Sum.inr "none") OH.od, ?_⟩
      exact ⟨_, _, rfl, rfl, rfl⟩
    rintro σ H2 ⟨rfl, rfl⟩
    have OO := O.same s0
    have g : Go K (LLWith N) N [some (.ref o), some (.str N.x), some (.str N.c), some (.str N.t), some (.str N.g), some (.str N.none), none] H := ⟨fun pp hp => by
      simp only [LLWith, List.mem_cons, List.not_mem_nil, or_false] at hp
      rcases hp with rfl | rfl | rfl | rfl | rfl
      · exact ⟨_, rfl, .str _ O.lx⟩
      · exact ⟨_, rfl, .str _ O.lc⟩
      · exact ⟨_, rfl, .str _ O.lt⟩
      · exact ⟨_, rfl, .str _ O.lg⟩
      · exact ⟨_, rfl, .str _ O.ln⟩,
      o, rfl, O.same s0⟩
    refine ⟨fun σ H3 => ∃ (a : Addr) (vs : List V), σ = [some (.ref o), some (.str N.x), some (.str N.c), some (.str N.t), some (.str N.g), some (.str N.none), some (.ref a)] ∧ Same H H3 ∧ H a = none ∧ H3 a = some (.lst vs) ∧ TrAll K H3 vs (cWith0 N.x N.y N.c N.t N.g N.none N.new N.p N.q N.r), ?_, ?_⟩
    · refine r0 _ _ _ g fun a vs G sg na ea ta => ⟨a, vs, rfl, s0.trans sg, s0.free na, ea, ta⟩
    rintro σ H3 ⟨a, vs, rfl, tH3, na, e, tr⟩
    have g : Go K (LLWith N) N [some (.ref o), some (.str N.x), some (.str N.c), some (.str N.t), some (.str N.g), some (.str N.none), some (.ref a)] H3 := ⟨fun pp hp => by
      simp only [LLWith, List.mem_cons, List.not_mem_nil, or_false] at hp
      rcases hp with rfl | rfl | rfl | rfl | rfl
      · exact ⟨_, rfl, .str _ O.lx⟩
      · exact ⟨_, rfl, .str _ O.lc⟩
      · exact ⟨_, rfl, .str _ O.lt⟩
      · exact ⟨_, rfl, .str _ O.lg⟩
      · exact ⟨_, rfl, .str _ O.ln⟩,
      o, rfl, O.same tH3⟩
    refine ⟨fun σ H4 => ∃ (a : Addr) (vs : List V), σ = [some (.ref o), some (.str N.x), some (.str N.c), some (.str N.t), some (.str N.g), some (.str N.none), some (.ref a)] ∧ Same H H4 ∧ H a = none ∧ H4 a = some (.lst vs) ∧ TrAll K H4 vs ((cWith0 N.x N.y N.c N.t N.g N.none N.new N.p N.q N.r) ++ cWith1 N.x N.y N.c N.t N.g N.none N.new N.p N.q N.r), ?_, ?_⟩
    · refine some_app13 (X := (cxOf CX0 P w K mg base nLWith "_law_wrong_within" (defScope sLWith) f cdv A outer s H E).nox) r1 g (by rfl) tH3 na e tr (Nat.le_of_ble_eq_true rfl) fun ws H9 s9 e9 t9 _ => ⟨a, ws, rfl, s9, na, e9, t9⟩
    rintro σ H4 ⟨a, vs, rfl, tH4, na, e, tr⟩
    have g : Go K (LLWith N) N [some (.ref o), some (.str N.x), some (.str N.c), some (.str N.t), some (.str N.g), some (.str N.none), some (.ref a)] H4 := ⟨fun pp hp => by
      simp only [LLWith, List.mem_cons, List.not_mem_nil, or_false] at hp
      rcases hp with rfl | rfl | rfl | rfl | rfl
      · exact ⟨_, rfl, .str _ O.lx⟩
      · exact ⟨_, rfl, .str _ O.lc⟩
      · exact ⟨_, rfl, .str _ O.lt⟩
      · exact ⟨_, rfl, .str _ O.lg⟩
      · exact ⟨_, rfl, .str _ O.ln⟩,
      o, rfl, O.same tH4⟩
    refine ⟨fun σ H5 => ∃ (a : Addr) (vs : List V), σ = [some (.ref o), some (.str N.x), some (.str N.c), some (.str N.t), some (.str N.g), some (.str N.none), some (.ref a)] ∧ Same H H5 ∧ H a = none ∧ H5 a = some (.lst vs) ∧ TrAll K H5 vs (((cWith0 N.x N.y N.c N.t N.g N.none N.new N.p N.q N.r) ++ cWith1 N.x N.y N.c N.t N.g N.none N.new N.p N.q N.r) ++ cWith2 N.x N.y N.c N.t N.g N.none N.new N.p N.q N.r), ?_, ?_⟩
    · refine some_app13 (X := (cxOf CX0 P w K mg base nLWith "_law_wrong_within" (defScope sLWith) f cdv A outer s H E).nox) r2 g (by rfl) tH4 na e tr (Nat.le_of_ble_eq_true rfl) fun ws H9 s9 e9 t9 _ => ⟨a, ws, rfl, s9, na, e9, t9⟩
    rintro σ H5 ⟨a, vs, rfl, tH5, na, e, tr⟩
    have g : Go K (LLWith N) N [some (.ref o), some (.str N.x), some (.str N.c), some (.str N.t), some (.str N.g), some (.str N.none), some (.ref a)] H5 := ⟨fun pp hp => by
      simp only [LLWith, List.mem_cons, List.not_mem_nil, or_false] at hp
      rcases hp with rfl | rfl | rfl | rfl | rfl
      · exact ⟨_, rfl, .str _ O.lx⟩
      · exact ⟨_, rfl, .str _ O.lc⟩
      · exact ⟨_, rfl, .str _ O.lt⟩
      · exact ⟨_, rfl, .str _ O.lg⟩
      · exact ⟨_, rfl, .str _ O.ln⟩,
      o, rfl, O.same tH5⟩
    refine ⟨fun σ H6 => ∃ (a : Addr) (vs : List V), σ = [some (.ref o), some (.str N.x), some (.str N.c), some (.str N.t), some (.str N.g), some (.str N.none), some (.ref a)] ∧ Same H H6 ∧ H a = none ∧ H6 a = some (.lst vs) ∧ TrAll K H6 vs ((((cWith0 N.x N.y N.c N.t N.g N.none N.new N.p N.q N.r) ++ cWith1 N.x N.y N.c N.t N.g N.none N.new N.p N.q N.r) ++ cWith2 N.x N.y N.c N.t N.g N.none N.new N.p N.q N.r) ++ cWith3 N.x N.y N.c N.t N.g N.none N.new N.p N.q N.r), ?_, ?_⟩
    · refine some_app13 (X := (cxOf CX0 P w K mg base nLWith "_law_wrong_within" (defScope sLWith) f cdv A outer s H E).nox) r3 g (by rfl) tH5 na e tr (Nat.le_of_ble_eq_true rfl) fun ws H9 s9 e9 t9 _ => ⟨a, ws, rfl, s9, na, e9, t9⟩
    rintro σ H6 ⟨a, vs, rfl, tH6, na, e, tr⟩
    have g : Go K (LLWith N) N [some (.ref o), some (.str N.x), some (.str N.c), some (.str N.t), some (.str N.g), some (.str N.none), some (.ref a)] H6 := ⟨fun pp hp => by
      simp only [LLWith, List.mem_cons, List.not_mem_nil, or_false] at hp
      rcases hp with rfl | rfl | rfl | rfl | rfl
      · exact ⟨_, rfl, .str _ O.lx⟩
      · exact ⟨_, rfl, .str _ O.lc⟩
      · exact ⟨_, rfl, .str _ O.lt⟩
      · exact ⟨_, rfl, .str _ O.lg⟩
      · exact ⟨_, rfl, .str _ O.ln⟩,
      o, rfl, O.same tH6⟩
    refine ⟨fun σ H7 => ∃ (a : Addr) (vs : List V), σ = [some (.ref o), some (.str N.x), some (.str N.c), some (.str N.t), some (.str N.g), some (.str N.none), some (.ref a)] ∧ Same H H7 ∧ H a = none ∧ H7 a = some (.lst vs) ∧ TrAll K H7 vs (((((cWith0 N.x N.y N.c N.t N.g N.none N.new N.p N.q N.r) ++ cWith1 N.x N.y N.c N.t N.g N.none N.new N.p N.q N.r) ++ cWith2 N.x N.y N.c N.t N.g N.none N.new N.p N.q N.r) ++ cWith3 N.x N.y N.c N.t N.g N.none N.new N.p N.q N.r) ++ cWith4 N.x N.y N.c N.t N.g N.none N.new N.p N.q N.r), ?_, ?_⟩
    · refine some_app13 (X := (cxOf CX0 P w K mg base nLWith "_law_wrong_within" (defScope sLWith) f cdv A outer s H E).nox) r4 g (by rfl) tH6 na e tr (Nat.le_of_ble_eq_true rfl) fun ws H9 s9 e9 t9 _ => ⟨a, ws, rfl, s9, na, e9, t9⟩
    rintro σ H7 ⟨a, vs, rfl, tH7, na, e, tr⟩
    have g : Go K (LLWith N) N [some (.ref o), some (.str N.x), some (.str N.c), some (.str N.t), some (.str N.g), some (.str N.none), some (.ref a)] H7 := ⟨fun pp hp => by
      simp only [LLWith, List.mem_cons, List.not_mem_nil, or_false] at hp
      rcases hp with rfl | rfl | rfl | rfl | rfl
      · exact ⟨_, rfl, .str _ O.lx⟩
      · exact ⟨_, rfl, .str _ O.lc⟩
      · exact ⟨_, rfl, .str _ O.lt⟩
      · exact ⟨_, rfl, .str _ O.lg⟩
      · exact ⟨_, rfl, .str _ O.ln⟩,
      o, rfl, O.same tH7⟩
    refine some_cat13 (X := (cxOf CX0 P w K mg base nLWith "_law_wrong_within" (defScope sLWith) f cdv A outer s H E).nox) r5 g (by rfl) tH7 e tr (Nat.le_of_ble_eq_true rfl) (Nat.le_of_ble_eq_true rfl) fun p ws H9 s9 _ n9 e9 t9 => k p ws H9 s9 n9 e9 t9
end
end BK

set_option Elab.async false
set_option maxRecDepth 100000
set_option maxHeartbeats 4000000
set_option linter.unusedVariables false
/-! _law_put, _law_nested. -/
namespace BK
open PySem PySem.Spec PyProof.Rows L2 SW RZ ET
abbrev sPut : Stmt := top 63
abbrev nPut : List Str := ["state", "own", "one", "inner", "before", "place", "program", "k", "is_guard", "at"]
theorem scPut : FnScope nPut ["state", "own", "one", "inner"] (defScope sPut) := ⟨rfl, rfl, rfl, by decide +kernel, rfl, by decide +kernel, by decide +kernel⟩
/-- the law's own dict, where the draws write -/
structure OwnR (K : PySem.W.Frag) (H : Hp) (a : RA) (o : Addr) (N : O13) : Prop where
  h : OwnH K H o N
  oo : SW.Off a o
  op : SW.Off a N.pl
section
variable {K : PySem.W.Frag} {H H' : Hp} {a : RA} {n n' : Nat} {o : Addr} {N : O13}
theorem OwnR.same (O : OwnR K H a o N) (e : Same H H') : OwnR K H' a o N := ⟨O.h.same e, O.oo, O.op⟩
theorem OwnR.rnd (O : OwnR K H a o N) (R : Rnd H a n) (R' : Rnd H' a n') (b : But a H H') : OwnR K H' a o N := ⟨{ O.h with od := b.at O.oo O.h.od, pd := b.at O.op O.h.pd, ht := O.h.ht.rnd R R' b, bt := O.h.bt.rnd R R' b }, O.oo, O.op⟩
end
def spPut13 (K : PySem.W.Frag) : Sp := fun vs H Q _ => ∃ (a : RA) (n : Nat) (o : Addr) (N : O13) (vo : V) (one : Tr) (iv : V) (w : List Nat),
  vs = [.ref a.s, .ref o, vo, iv] ∧ Rnd H a n ∧ n + 1000 ≤ 1000000 ∧ OwnR K H a o N ∧ TrAt K H vo one ∧ TrAt K H iv (.tup (intsT w)) ∧ w.length ≤ 100 ∧
  ∀ (L : Addr) (th pl : V) (b k : Nat) (ws : List (Bool × Nat)) (n' : Nat) (H' : Hp), b ≤ 3 → k ≤ 2 → ws.length ≤ 2 → (∀ e ∈ ws, e.2 ≤ 1) → n' ≤ n + 10 → Rnd H' a n' → But a H H' → H L = none → H' L = some (.lst [th, pl]) →
    TrAt K H' th (.tup (putS N.x N.c N.t N.g b one k ws)) → TrAt K H' pl (.tup (intsT (wayW ((3 + b) :: w) ws))) → Q (.ref L) H'
theorem wraps_snoc {c g : Str} {prog : List Tr} {ws : List (Bool × Nat)} {e : Bool × Nat} : wrapsS c g prog (ws ++ [e]) = wrapS c g e.1 e.2 (wrapsS c g prog ws) := by
  unfold wrapsS
  rw [List.foldl_append]
  rfl
theorem wayW_snoc {w : List Nat} {ws : List (Bool × Nat)} {e : Bool × Nat} : wayW w (ws ++ [e]) = e.2 :: 0 :: wayW w ws := by
  unfold wayW
  rw [List.foldl_append]
  rfl
section
variable {P : Program} {w : World} {K : PySem.W.Frag} {mg : Str → Option Value} {base : Heap}
theorem ok_put13 {f fD : Addr} {fd fdD : FuncData} (F : Fun K "_law_put" "_law_put" sPut f fd) (GD : FnOk P w K mg base CX0 2 fD fdD ["state", "many"] spDraw) (bD : Binds K fdD ["state", "many"] []) (gD : mg "_law_draw" = some (.ref fD)) (kD : PySem.W.keepIn K (.ref fD) = true)
    (mG : mg "range" = none) : FnOk P w K mg base CX0 3 f fd ["state", "own", "one", "inner"] (spPut13 K) := by
  refine F.ok scPut (fun vs H Q E h => ?_) (fun cdv A outer s H vs Q E hr h => ?_)
  · obtain ⟨a, n, o, N, vo, one, iv, w, rfl, _⟩ := h
    rfl
  · obtain ⟨a, n, o, N, vo, one, iv, w, rfl, R, hn, O, hone, hin, hw, k⟩ := h
    have hu := hu_of hr
    refine ⟨_, C8.pss_cut (ps_par (i := 4) (j := 5) rfl scPut.nd rfl rfl (by decide) rfl rfl (pa_cons (pe_call GD hr rfl gD kD bD .nil pass0 (pa_cons (pv 0) (pa_cons pe_int pa_nil))) (pa_cons (pe_tup pa_nil) pa_nil)) (by rfl))
      (C8.pss_cut (ps_set (i := 6) scPut.nd rfl (Or.inl rfl) (pe_op op_catA (pe_op op_catA (pe_op op_catA (pe_dget hu (pv 1) pe_str (fun _ _ => rfl))
          (pe_op op_repA (pe_tup (pa_cons (pe_tup (pa_cons pe_str (pa_cons (pe_dget hu (pv 1) pe_str (fun _ _ => rfl)) pa_nil))) pa_nil)) (pv 4)))
          (pe_tup (pa_cons (pv 2) pa_nil)))
          (pe_op op_repA (pe_tup (pa_cons (pe_tup (pa_cons pe_str (pa_cons (pe_dget hu (pv 1) pe_str (fun _ _ => rfl)) pa_nil))) pa_nil)) (pe_call GD hr rfl gD kD bD .nil pass0 (pa_cons (pv 0) (pa_cons pe_int pa_nil))))))
      (C8.pss_cut (ps_set (i := 5) scPut.nd rfl (Or.inl rfl) (pe_op op_catA (pe_tup (pa_cons (pe_op op_add pe_int (pv 4)) pa_nil)) (pv 3)))
      (C8.pss_cut (ps_for PassesOwn.never rfl (pi_range1 rfl mG (pa_cons (pe_call GD hr rfl gD kD bD .nil pass0 (pa_cons (pv 0) (pa_cons pe_int pa_nil))) pa_nil)) (pg_name (i := 7) scPut.nd rfl (Or.inl rfl))
        (C8.pss_cut (ps_par (i := 8) (j := 9) rfl scPut.nd rfl rfl (by decide) rfl rfl (pa_cons (pe_cmpR op_eq (pe_call GD hr rfl gD kD bD .nil pass0 (pa_cons (pv 0) (pa_cons pe_int pa_nil))) pe_int (nomark _)) (pa_cons (pe_call GD hr rfl gD kD bD .nil pass0 (pa_cons (pv 0) (pa_cons pe_int pa_nil))) pa_nil)) (by rfl))
        (C8.pss_cut (ps_set (i := 6) scPut.nd rfl (Or.inl rfl) (pe_op op_catA
            (pe_op op_repA (pe_tup (pa_cons (pe_tup (pa_cons pe_str (pa_cons (pe_dget hu (pv 1) pe_str (fun _ _ => rfl)) pa_nil))) pa_nil)) (pv 9))
            (pe_tup (pa_cons (pe_ifExp (pt_val (pv 8)) (pe_tup (pa_cons pe_str (pa_cons (pv 6) pa_nil))) (pe_tup (pa_cons pe_str (pa_cons (pe_dget hu (pv 1) pe_str (fun _ _ => rfl)) (pa_cons (pv 6) pa_nil))))) pa_nil))))
        (pss_one (ps_set (i := 5) scPut.nd rfl (Or.inl rfl) (pe_op op_catA (pe_tup (pa_cons (pv 9) (pa_cons pe_int pa_nil))) (pv 5)))))))
      (pss_one (ps_ret (pe_lst (pa_cons (pv 6) (pa_cons (pv 5) pa_nil)))))))), ?_⟩
    have one' : 1 ≤ sizeLine := by decide
    have two' : 2 ≤ sizeLine := by decide
    have three' : 3 ≤ sizeLine := by decide
    -- before
    refine ⟨fun σ H1 => ∃ (b : Nat) (v5 : V), σ = [some (.ref a.s), some (.ref o), some vo, some iv, some (.int (b : Int)), some v5, none, none, none, none] ∧ b ≤ 3 ∧ Rnd H1 a (n + 1) ∧ But a H H1, ?_, ?_⟩
    · refine ⟨_, rfl, a, n, 4, rfl, R, by omega, by decide, by decide, fun r1 H1 h1 h2 R1 b1 => ⟨Nat.zero_le _, fun p np => ⟨_, _, rfl, ?_⟩⟩⟩
      have s1 := same_new (o := .tup []) np
      exact ⟨r1.toNat, .ref p, by rw [Int.toNat_of_nonneg h1]; rfl, by omega, R1.same s1, b1.trans (Same.but s1)⟩
    rintro σ H1 ⟨b, v5, rfl, hb, R1, b1⟩
    have O1 := O.rnd R R1 b1
    have one1 := hone.rnd R R1 b1
    have in1 := hin.rnd R R1 b1
    -- program
    refine ⟨fun σ H2 => ∃ (k2 : Nat) (v6 : V), σ = [some (.ref a.s), some (.ref o), some vo, some iv, some (.int (b : Int)), some v5, some v6, none, none, none] ∧ k2 ≤ 2 ∧ Rnd H2 a (n + 2) ∧ But a H1 H2 ∧ TrAt K H2 v6 (.tup (baseS N.x N.c N.t N.g b one k2)), ?_, ?_⟩
    · refine ⟨_, rfl, o, _, rfl, on_head ▸ DGet.k (k := Sum.inr "head") O1.h.od, ?_⟩
      refine ⟨_, rfl, o, _, rfl, on_x ▸ DGet.k (k := Sum.inr "x") O1.h.od, two', fun p1 np1 => ⟨one', fun p2 np2 => ⟨_, rfl, ?_⟩⟩⟩
      obtain ⟨s1, t1⟩ := new_tr (K := K) np1 (.cons (.str "show" (by decide)) (.cons (.str N.x O.h.lx) .nil))
      generalize upd H1 p1 (.tup [.str "show", .str N.x]) = H2 at s1 t1 np2 ⊢
      obtain ⟨s2, t2⟩ := new_tr np2 (.cons t1 .nil)
      generalize upd H2 p2 (.tup [.ref p1]) = H3 at s2 t2 ⊢
      refine rep_tr t2 (by omega) (by omega) fun v3 H4 s3 t3 => ?_
      have s13 := (s1.trans s2).trans s3
      refine cat_tr (O1.h.ht.same s13) t3 (by show 3 ≤ 1000; decide) (by rw [List.length_replicate]; omega) fun u3 G4 sg tg => ?_
      have s13 := s13.trans sg
      refine ⟨_, rfl, one', fun p4 np4 => ?_⟩
      obtain ⟨s4, t4⟩ := new_tr np4 (.cons (one1.same s13) .nil)
      have tg := tg.same s4
      generalize upd G4 p4 (.tup [vo]) = H5 at s4 t4 tg ⊢
      refine cat_tr tg t4 (by rw [List.length_append, List.length_replicate]; show 3 + _ ≤ 1000; omega) (by simp) fun v5 H6 s5 t5 => ?_
      have s16 := (s13.trans s4).trans s5
      have O6 := O1.same s16
      refine ⟨_, rfl, o, _, rfl, on_x ▸ DGet.k (k := Sum.inr "x") O6.h.od, two', fun p6 np6 => ⟨one', fun p7 np7 => ?_⟩⟩
      obtain ⟨s6, t6⟩ := new_tr (K := K) np6 (.cons (.str "drop" (by decide)) (.cons (.str N.x O.h.lx) .nil))
      generalize upd H6 p6 (.tup [.str "drop", .str N.x]) = H7 at s6 t6 np7 ⊢
      obtain ⟨s7, t7⟩ := new_tr np7 (.cons t6 .nil)
      generalize upd H7 p7 (.tup [.ref p6]) = H8 at s7 t7 ⊢
      have s18 := s16.trans (s6.trans s7)
      have R8 := R1.same s18
      refine ⟨_, rfl, a, n + 1, 3, rfl, R8, by omega, by decide, by decide, fun r3 H9 h1 h2 R9 b9 => ?_⟩
      refine rep_tr (t7.rnd R8 R9 b9) h1 (by omega) fun v10 H10 s10 t10 => ?_
      have t5 := ((t5.same (s6.trans s7)).rnd R8 R9 b9).same s10
      refine cat_tr t5 t10 (by rw [List.length_append, List.length_append, List.length_replicate]; show 3 + _ + 1 ≤ 1000; omega) (by rw [List.length_replicate]; omega) fun v11 H11 s11 t11 => ?_
      refine ⟨r3.toNat, v11, rfl, by omega, (R9.same s10).same s11, ((Same.but s18).trans b9).trans (Same.but (s10.trans s11)), ?_⟩
      have e : (b : Int).toNat = b := Int.toNat_natCast b
      rw [e] at t11
      exact t11
    rintro σ H2 ⟨k2, v6, rfl, hk2, R2, b2, tpr⟩
    have O2 := O1.rnd R1 R2 b2
    have in2 := in1.rnd R1 R2 b2
    -- place
    refine ⟨fun σ H3 => ∃ (v5 : V), σ = [some (.ref a.s), some (.ref o), some vo, some iv, some (.int (b : Int)), some v5, some v6, none, none, none] ∧ Same H2 H3 ∧ TrAt K H3 v5 (.tup (intsT ((3 + b) :: w))), ?_, ?_⟩
    · refine ⟨_, rfl, _, _, rfl, rfl, one', fun p np => ⟨_, rfl, ?_⟩⟩
      have e3 : (3 : Int) + (b : Int) = ((3 + b : Nat) : Int) := by omega
      obtain ⟨s1, t1⟩ := new_tr (K := K) np (.cons (.int ((3 : Int) + (b : Int))) .nil)
      refine cat_tr t1 (in2.same s1) (by simp) (by unfold intsT; rw [List.length_map]; omega) fun v7 G2 s2 t2 => ?_
      rw [e3] at t2
      exact ⟨v7, rfl, s1.trans s2, t2⟩
    rintro σ H3 ⟨v5, rfl, s3, tpl⟩
    have O3 := O2.same s3
    have R3 := R2.same s3
    have tpr3 := tpr.same s3
    -- the blocks around
    refine ⟨fun σ H4 => ∃ (v5 v6 : V) (v7 v8 v9 : Option V) (ws : List (Bool × Nat)) (n4 : Nat), σ = [some (.ref a.s), some (.ref o), some vo, some iv, some (.int (b : Int)), some v5, some v6, v7, v8, v9] ∧ ws.length ≤ 2 ∧ (∀ e ∈ ws, e.2 ≤ 1) ∧ n4 ≤ n + 10 ∧ Rnd H4 a n4 ∧ But a H3 H4 ∧
        TrAt K H4 v6 (.tup (putS N.x N.c N.t N.g b one k2 ws)) ∧ TrAt K H4 v5 (.tup (intsT (wayW ((3 + b) :: w) ws))), ?_, ?_⟩
    · refine ⟨_, rfl, a, n + 2, 3, rfl, R3, by omega, by decide, by decide, fun r H4 h1 h2 R4 b4 => ?_⟩
      refine ⟨r, rfl, by omega, by omega, for_range (lo := 0) (n := r.toNat) (fun i σ H5 => ∃ (v5 v6 : V) (v7 v8 v9 : Option V) (ws : List (Bool × Nat)) (n5 : Nat), σ = [some (.ref a.s), some (.ref o), some vo, some iv, some (.int (b : Int)), some v5, some v6, v7, v8, v9] ∧ ws.length = i ∧ (∀ e ∈ ws, e.2 ≤ 1) ∧ n5 = n + 3 + 2 * i ∧ Rnd H5 a n5 ∧ But a H3 H5 ∧
          TrAt K H5 v6 (.tup (putS N.x N.c N.t N.g b one k2 ws)) ∧ TrAt K H5 v5 (.tup (intsT (wayW ((3 + b) :: w) ws))))
        ⟨v5, v6, none, none, none, [], n + 3, rfl, rfl, (fun e h => by cases h), rfl, R4, b4, tpr3.rnd R3 R4 b4, tpl.rnd R3 R4 b4⟩ ?_ ?_⟩
      · rintro i σ H5 hi ⟨v5, v6, v7, v8, v9, ws, n5, rfl, wl, hws, hn5, R5, b5, t6, t5⟩
        have il : i < 2 := by omega
        have O5 := O3.rnd R3 R5 b5
        refine ⟨fun σ H6 => ∃ (isg : Bool) (at_ : Nat), σ = [some (.ref a.s), some (.ref o), some vo, some iv, some (.int (b : Int)), some v5, some v6, some (.int (0 + (i : Int))), some (.bl isg), some (.int (at_ : Int))] ∧ at_ ≤ 1 ∧ Rnd H6 a (n5 + 2) ∧ But a H5 H6, ?_, ?_⟩
        · refine ⟨_, rfl, a, n5, 2, rfl, R5, by omega, by decide, by decide, fun r1 H6 g1 g2 R6 b6 => ⟨rfl, ?_⟩⟩
          refine ⟨_, rfl, a, n5 + 1, 2, rfl, R6, by omega, by decide, by decide, fun r2 H7 g3 g4 R7 b7 => ⟨_, _, rfl, ?_⟩⟩
          exact ⟨_, r2.toNat, by rw [Int.toNat_of_nonneg g3]; rfl, by omega, R7, b6.trans b7⟩
        rintro σ H6 ⟨isg, at_, rfl, ha, R6, b6⟩
        have O6 := O5.rnd R5 R6 b6
        have t66 := t6.rnd R5 R6 b6
        have t56 := t5.rnd R5 R6 b6
        refine ⟨fun σ H7 => ∃ (v6 : V), σ = [some (.ref a.s), some (.ref o), some vo, some iv, some (.int (b : Int)), some v5, some v6, some (.int (0 + (i : Int))), some (.bl isg), some (.int (at_ : Int))] ∧ Same H6 H7 ∧ TrAt K H7 v6 (.tup (wrapS N.c N.g isg at_ (putS N.x N.c N.t N.g b one k2 ws))), ?_, ?_⟩
        · refine ⟨_, rfl, o, _, rfl, on_g ▸ DGet.k (k := Sum.inr "g") O6.h.od, two', fun p1 np1 => ⟨one', fun p2 np2 => ⟨_, rfl, ?_⟩⟩⟩
          obtain ⟨s1, t1⟩ := new_tr (K := K) np1 (.cons (.str "step" (by decide)) (.cons (.str N.g O.h.lg) .nil))
          generalize upd H6 p1 (.tup [.str "step", .str N.g]) = G1 at s1 t1 np2 ⊢
          obtain ⟨s2, t2⟩ := new_tr np2 (.cons t1 .nil)
          generalize upd G1 p2 (.tup [.ref p1]) = G2 at s2 t2 ⊢
          refine rep_tr t2 (by omega) (by omega) fun u3 G3 s3' t3 => ?_
          have e : (at_ : Int).toNat = at_ := Int.toNat_natCast at_
          rw [e] at t3
          have s13 := (s1.trans s2).trans s3'
          have fin : ∀ (q : V) (G4 : Hp), Same G3 G4 → TrAt K G4 q (if isg = true then guardS (putS N.x N.c N.t N.g b one k2 ws) else withinS N.c (putS N.x N.c N.t N.g b one k2 ws)) → 1 ≤ sizeLine ∧ ∀ p, G4 p = none → rCatA K u3 (.ref p) (upd G4 p (.tup [q])) fun v H7 =>
              ∃ (v6 : V), [some (V.ref a.s), some (.ref o), some vo, some iv, some (.int (b : Int)), some v5, some v, some (.int (0 + (i : Int))), some (.bl isg), some (.int (at_ : Int))] = [some (.ref a.s), some (.ref o), some vo, some iv, some (.int (b : Int)), some v5, some v6, some (.int (0 + (i : Int))), some (.bl isg), some (.int (at_ : Int))] ∧ Same H6 H7 ∧ TrAt K H7 v6 (.tup (wrapS N.c N.g isg at_ (putS N.x N.c N.t N.g b one k2 ws))) := fun q G4 s4 tq => by
            refine ⟨one', fun p np => ?_⟩
            obtain ⟨s5, t5'⟩ := new_tr np (.cons tq .nil)
            refine cat_tr ((t3.same s4).same s5) t5' (by rw [List.length_replicate]; omega) (by simp) fun v8 G8 s8 t8 => ?_
            exact ⟨v8, rfl, ((s13.trans s4).trans s5).trans s8, t8⟩
          refine ⟨_, rfl, _, rfl, ?_⟩
          cases isg with
          | true =>
            refine iteT ⟨_, rfl, two', fun p np => ?_⟩
            obtain ⟨s4, t4⟩ := new_tr (K := K) np (.cons (.str "guard" (by decide)) (.cons (t66.same s13) .nil))
            exact fin _ _ s4 t4
          | false =>
            have O7 := O6.same s13
            refine iteF ⟨_, rfl, o, _, rfl, on_c ▸ DGet.k (k := Sum.inr "c") O7.h.od, _, rfl, three', fun p np => ?_⟩
            obtain ⟨s4, t4⟩ := new_tr (K := K) np (.cons (.str "within" (by decide)) (.cons (.str N.c O.h.lc) (.cons (t66.same s13) .nil)))
            exact fin _ _ s4 t4
        rintro σ H7 ⟨v6', rfl, s7, t7⟩
        have t57 := t56.same s7
        refine ⟨_, rfl, two', fun p np => ⟨_, rfl, ?_⟩⟩
        obtain ⟨s8, t8⟩ := new_tr (K := K) np (.cons (.int (at_ : Int)) (.cons (.int 0) .nil))
        generalize upd H7 p (.tup [.int (at_ : Int), .int 0]) = H8 at s8 t8 ⊢
        refine cat_tr t8 (t57.same s8) (by simp) (by unfold intsT; rw [List.length_map, wayW_len, List.length_cons]; omega) fun v9' H9 s9 t9 => ?_
        have s79 := s7.trans (s8.trans s9)
        refine ⟨v9', v6', _, _, _, ws ++ [(isg, at_)], n5 + 2, rfl, by rw [List.length_append, wl]; rfl, fun e he => ?_, by omega, R6.same s79, (b5.trans b6).trans (Same.but s79), ?_, ?_⟩
        · rcases List.mem_append.mp he with he | he
          · exact hws e he
          · rw [List.mem_singleton.mp he]; exact ha
        · have : putS N.x N.c N.t N.g b one k2 (ws ++ [(isg, at_)]) = wrapS N.c N.g isg at_ (putS N.x N.c N.t N.g b one k2 ws) := wraps_snoc
          rw [this]
          exact t7.same (s8.trans s9)
        · rw [wayW_snoc]
          exact t9
      · rintro σ H5 ⟨v5, v6, v7, v8, v9, ws, n5, rfl, wl, hws, hn5, R5, b5, t6, t5⟩
        exact ⟨v5, v6, v7, v8, v9, ws, n5, rfl, by omega, hws, by omega, R5, b5, t6, t5⟩
    rintro σ H4 ⟨v5, v6, v7, v8, v9, ws, n4, rfl, wl, hws, hn4, R4, b4, t6, t5⟩
    refine ⟨_, rfl, _, rfl, two', fun L nL => ?_⟩
    have sL := same_new (o := .lst [v6, v5]) nL
    have bb : But a H H4 := ((b1.trans b2).trans (Same.but s3)).trans b4
    exact k L v6 v5 b k2 ws n4 _ hb hk2 wl hws hn4 (R4.same sL) (bb.trans (Same.but sL)) (bb.free (R4.off nL) nL) upd_same (t6.same sL) (t5.same sL)
/-! _law_nested -/
abbrev sNest : Stmt := top 64
abbrev nNest : List Str := ["state", "own", "many", "one", "k"]
theorem scNest : FnScope nNest ["state", "own", "many", "one"] (defScope sNest) := ⟨rfl, rfl, rfl, by decide +kernel, rfl, by decide +kernel, by decide +kernel⟩
def spNest (K : PySem.W.Frag) : Sp := fun vs H Q _ => ∃ (a : RA) (n : Nat) (o : Addr) (N : O13) (m : Nat) (vo : V) (one : Tr),
  vs = [.ref a.s, .ref o, .int (m : Int), vo] ∧ Rnd H a n ∧ n + 1000 ≤ 1000000 ∧ OwnR K H a o N ∧ TrAt K H vo one ∧ m ≤ 20 ∧
  ∀ (th : V) (bs : List Bool) (H' : Hp), bs.length = m → Rnd H' a (n + m) → But a H H' → TrAt K H' th (.tup [nestS N.c one bs]) → Q th H'
theorem nest_snoc {c : Str} {one : Tr} {bs : List Bool} {e : Bool} : nestS c one (bs ++ [e]) = nest1 c e (nestS c one bs) := by
  unfold nestS
  rw [List.foldl_append]
  rfl
theorem ok_nest13 {f fD : Addr} {fd fdD : FuncData} (F : Fun K "_law_nested" "_law_nested" sNest f fd) (GD : FnOk P w K mg base CX0 2 fD fdD ["state", "many"] spDraw) (bD : Binds K fdD ["state", "many"] []) (gD : mg "_law_draw" = some (.ref fD)) (kD : PySem.W.keepIn K (.ref fD) = true)
    (mG : mg "range" = none) : FnOk P w K mg base CX0 3 f fd ["state", "own", "many", "one"] (spNest K) := by
  refine F.ok scNest (fun vs H Q E h => ?_) (fun cdv A outer s H vs Q E hr h => ?_)
  · obtain ⟨a, n, o, N, m, vo, one, rfl, _⟩ := h
    rfl
  · obtain ⟨a, n, o, N, m, vo, one, rfl, R, hn, O, hone, hm, k⟩ := h
    have hu := hu_of hr
    refine ⟨_, pss_cons (ps_for PassesOwn.never rfl (pi_range1 rfl mG (pa_cons (pv 2) pa_nil)) (pg_name (i := 4) scNest.nd rfl (Or.inl rfl))
        (pss_one (ps_set (i := 3) scNest.nd rfl (Or.inl rfl) (pe_ifExp (pt_cmpR op_eq (pe_call GD hr rfl gD kD bD .nil pass0 (pa_cons (pv 0) (pa_cons pe_int pa_nil))) pe_int (nomark _))
          (pe_tup (pa_cons pe_str (pa_cons (pe_tup (pa_cons (pv 3) pa_nil)) pa_nil)))
          (pe_tup (pa_cons pe_str (pa_cons (pe_dget hu (pv 1) pe_str (fun _ _ => rfl)) (pa_cons (pe_tup (pa_cons (pv 3) pa_nil)) pa_nil))))))))
      (pss_one (ps_ret (pe_tup (pa_cons (pv 3) pa_nil)))), ?_⟩
    have one' : 1 ≤ sizeLine := by decide
    have two' : 2 ≤ sizeLine := by decide
    have three' : 3 ≤ sizeLine := by decide
    refine ⟨_, rfl, (m : Int), rfl, by omega, by omega, for_range (lo := 0) (n := ((m : Int)).toNat) (fun i σ H1 => ∃ (v3 : V) (v4 : Option V) (bs : List Bool), σ = [some (.ref a.s), some (.ref o), some (.int (m : Int)), some v3, v4] ∧ bs.length = i ∧ Rnd H1 a (n + i) ∧ But a H H1 ∧ TrAt K H1 v3 (nestS N.c one bs))
      ⟨vo, none, [], rfl, rfl, R, But.refl _ _, hone⟩ ?_ ?_⟩
    · rintro i σ H1 hi ⟨v3, v4, bs, rfl, bl, R1, b1, t3⟩
      rw [Int.toNat_natCast] at hi
      refine ⟨_, rfl, a, n + i, 2, rfl, R1, by omega, by decide, by decide, fun r H2 h1 h2 R2 b2 => ⟨rfl, _, rfl, ?_⟩⟩
      have O2 := O.rnd R R2 (b1.trans b2)
      have t32 := t3.rnd R1 R2 b2
      refine ite2 (fun z => ?_) (fun z => ?_)
      · refine ⟨_, rfl, one', fun p1 np1 => ⟨two', fun p2 np2 => ?_⟩⟩
        obtain ⟨s1, t1⟩ := new_tr np1 (.cons t32 .nil)
        generalize upd H2 p1 (.tup [v3]) = G1 at s1 t1 np2 ⊢
        obtain ⟨s2, t2⟩ := new_tr (K := K) np2 (.cons (.str "guard" (by decide)) (.cons t1 .nil))
        refine ⟨_, _, bs ++ [true], rfl, by rw [List.length_append, bl]; rfl, R2.same (s1.trans s2), (b1.trans b2).trans (Same.but (s1.trans s2)), ?_⟩
        rw [nest_snoc]
        exact t2
      · refine ⟨_, rfl, o, _, rfl, on_c ▸ DGet.k (k := Sum.inr "c") O2.h.od, _, rfl, one', fun p1 np1 => ⟨three', fun p2 np2 => ?_⟩⟩
        obtain ⟨s1, t1⟩ := new_tr np1 (.cons t32 .nil)
        generalize upd H2 p1 (.tup [v3]) = G1 at s1 t1 np2 ⊢
        obtain ⟨s2, t2⟩ := new_tr (K := K) np2 (.cons (.str "within" (by decide)) (.cons (.str N.c O.h.lc) (.cons t1 .nil)))
        refine ⟨_, _, bs ++ [false], rfl, by rw [List.length_append, bl]; rfl, R2.same (s1.trans s2), (b1.trans b2).trans (Same.but (s1.trans s2)), ?_⟩
        rw [nest_snoc]
        exact t2
    · rintro σ H1 ⟨v3, v4, bs, rfl, bl, R1, b1, t3⟩
      rw [Int.toNat_natCast] at bl R1
      refine ⟨_, rfl, one', fun p1 np1 => ?_⟩
      obtain ⟨s1, t1⟩ := new_tr np1 (.cons t3 .nil)
      exact k (.ref p1) bs _ bl (R1.same s1) (b1.trans (Same.but s1)) t1
end
end BK

set_option Elab.async false
set_option maxRecDepth 100000
set_option maxHeartbeats 4000000
set_option linter.unusedSimpArgs false
set_option linter.unusedVariables false
/-! what is asked of the law's other programs and books: pure -/
namespace BK
open PySem PySem.Spec PyProof.Rows L2 SW
def setI (x : Str) (i : Int) : Tr := .tup [.str "set", .str x, .int i]
def setB (x : Str) (b : Bool) : Tr := .tup [.str "set", .str x, .bl b]
def holdI (t x : Str) (i : Int) : Tr := .tup [.str "hold", .str t, .str x, .int i]
def holdB (t x : Str) (b : Bool) : Tr := .tup [.str "hold", .str t, .str x, .bl b]
section
variable {x y c t g new : Str} {vars : List Str} {P : List (Str × List Str)} {km km' : Km} {n d : Nat} {i : Int} {b : Bool}
theorem ta_setI (hx : nameS x = true) (hv : x ∈ vars) (h0 : 0 ≤ i) (h1 : i ≤ 9999) (k : Ck) : takesS vars P (setI x i) k = (true, k) := by
  simp (decide := true) [setI, takesS, sk_set, fitsT, sp_variable, sp_value, nameT, numT, h0, h1, hx, knowsS, okP, strIn, hv, slotsS, slotPr, slp_int, s3_variable, s3_value, List.filterMap_cons, List.filterMap_nil, setL]
theorem ta_setB (k : Ck) : takesS vars P (setB x b) k = (false, k) := by
  simp (decide := true) [setB, takesS, sk_set, fitsT, sp_variable, sp_value, nameT, numT]
theorem ta_holdI (ht : nameS t = true) (hx : nameS x = true) (hv : x ∈ vars) (h0 : 0 ≤ i) (h1 : i ≤ 9999) (h : setL [(t, "token")] km = (true, km')) : takesS vars P (holdI t x i) (km, n) = (true, (km', n)) := by
  simp (decide := true) [holdI, takesS, sk_hold, fitsT, sp_variable, sp_token, sp_value, nameT, numT, h0, h1, hx, ht, knowsS, okP, strIn, hv, slotsS, slotPr, slp_int, s3_token, s3_variable, s3_value, List.filterMap_cons, List.filterMap_nil, h]
theorem ta_holdB (k : Ck) : takesS vars P (holdB t x b) k = (false, k) := by
  simp (decide := true) [holdB, takesS, sk_hold, fitsT, sp_variable, sp_token, sp_value, nameT, numT]
theorem pr_setI : progT (setI x i) = [] := by simp (decide := true) [setI, progT, sk_set]
theorem pr_holdI : progT (holdI t x i) = [] := by simp (decide := true) [holdI, progT, sk_hold]
theorem progD_s (b : List Tr) (k : Ck) : progD vars P (d + 1) b k = progF vars P (progD vars P d) false b 0 k := rfl
theorem due_of {prog : List Tr} {w : List Nat} {k : Ck} (e : progD vars P 13 prog ([], 0) = (some w, k)) (hk : k.1.length ≤ 900) (ht : thinT (.tup prog) = true) (hl : w.length ≤ 50) (h : ∀ n ∈ w, n ≤ 1000) : DueP vars P (.tup prog) (.tup (intsT w)) :=
  ⟨ht, fun ts q => by cases q; rw [e]; exact hk, .inr ⟨w, by show (progD vars P 13 prog ([], 0)).1 = _; rw [e], rfl, re_ints hl h⟩⟩
theorem due_no {prog : List Tr} {k : Ck} (e : progD vars P 13 prog ([], 0) = (none, k)) (hk : k.1.length ≤ 900) (ht : thinT (.tup prog) = true) (hr : ReprOk (.tup prog)) : DueP vars P (.tup prog) .non :=
  ⟨ht, fun ts q => by cases q; rw [e]; exact hk, .inl ⟨by show (progD vars P 13 prog ([], 0)).1 = _; rw [e], rfl, hr⟩⟩
theorem truth_right (hx : nameS x = true) (ht : nameS t = true) (hv : x ∈ vars) (hi : i = 0 ∨ i = 1) : DueP vars P (.tup [setI x i, guardS [holdI t x i]]) .non := by
  have h0 : 0 ≤ i := by omega
  have h1 : i ≤ 9999 := by omega
  have e1 : setL [(t, "token")] [] = (true, [(t, ("token" : Str))]) := rfl
  have sx : dataT (.str x) = true := by rw [da_str]; exact name_ok hx
  have st : dataT (.str t) = true := by rw [da_str]; exact name_ok ht
  have si : dataT (.int i) = true := by rcases hi with rfl | rfl <;> decide +kernel
  have e2 : progD vars P 12 [holdI t x i] ([], 0) = (none, ([(t, ("token" : Str))], 0)) := by
    rw [progD_s, progF_go (ta_holdI ht hx hv h0 h1 e1) (by rw [pr_holdI]; exact progD_nil _ _)]
    rfl
  refine due_no (k := ([(t, ("token" : Str))], 0)) ?_ (Nat.le_of_ble_eq_true rfl) rfl ⟨?_, Nat.le_of_ble_eq_true rfl, Nat.le_of_ble_eq_true rfl⟩
  · rw [progD_s, progF_go (ta_setI hx hv h0 h1 _) (by rw [pr_setI]; exact progD_nil _ _), progF_go (ta_guard _ _) (by rw [pr_guard]; exact e2)]
    rfl
  · show ((dataT (.str "set") && (dataT (.str x) && (dataT (.int i) && true))) && ((dataT (.str "guard") && ((dataT (.tup [.str "hold", .str t, .str x, .int i]) && true) && true)) && true)) = true
    have e : dataT (.tup [.str "hold", .str t, .str x, .int i]) = true := by
      show (dataT (.str "hold") && (dataT (.str t) && (dataT (.str x) && (dataT (.int i) && true)))) = true
      rw [sx, st, si]
      decide +kernel
    rw [e, sx, si]
    decide +kernel
theorem truth_bad1 {r : List Tr} (hr : thinTs r = true) (hl : r.length ≤ 5) : DueP vars P (.tup (setB x b :: r)) (.tup (intsT [0])) := by
  refine due_of (k := ([], 0)) ?_ (by decide) ?_ (by decide) (by decide)
  · rw [progD_s, progF_no (ta_setB _)]
  · show (decide ((r.length + 1) ≤ 1000) && (true && thinTs r)) = true
    rw [hr, decide_eq_true (by omega)]
    rfl
theorem truth_bad2 (hx : nameS x = true) (hv : x ∈ vars) (hi : i = 0 ∨ i = 1) : DueP vars P (.tup [setI x i, guardS [holdB t x b]]) (.tup (intsT [1, 0, 0])) := by
  have h0 : 0 ≤ i := by omega
  have h1 : i ≤ 9999 := by omega
  refine due_of (k := ([], 0)) ?_ (by decide) rfl (by decide) (by decide)
  rw [progD_s, progF_go (ta_setI hx hv h0 h1 _) (by rw [pr_setI]; exact progD_nil _ _), progF_in (w := [0]) (k2 := ([], 0)) (ta_guard _ _) ?_]
  rw [pr_guard, progD_s, progF_no (ta_holdB _)]
/-! what is odd -/
/-- no name, no number, no step; its first part is no step -/
structure Odd (u : Tr) : Prop where
  th : thinT u = true
  nm : nameT u = false
  nu : numT 9999 u = false
  st : stepT u = false
  fi : ∀ us, u = .tup us → ∃ a r, us = a :: r ∧ stepT a = false
theorem takes_not {u : Tr} (h : stepT u = false) (k : Ck) : takesS vars P u k = (false, k) := takes_no k h
theorem odd_set1 {u : Tr} (h : Odd u) (k : Ck) : takesS vars P (.tup [.str "set", u, .int 0]) k = (false, k) := by
  simp (decide := true) [takesS, sk_set, fitsT, sp_variable, sp_value, h.nm]
theorem odd_set2 {u : Tr} (h : Odd u) (k : Ck) : takesS vars P (.tup [.str "set", .str x, u]) k = (false, k) := by
  simp (decide := true) [takesS, sk_set, fitsT, sp_variable, sp_value, h.nu]
theorem odd_copy {u : Tr} (h : Odd u) (k : Ck) : takesS vars P (.tup [.str "copy", u]) k = (false, k) := by
  simp (decide := true) [takesS, sk_copy, fitsT, sp_context, h.nm]
theorem odd_make1 {u : Tr} (h : Odd u) (k : Ck) : takesS vars P (.tup [.str "make", .str g, u, .tup []]) k = (false, k) := by
  simp (decide := true) [takesS, sk_make, fitsT, sp_piece, sp_name, sp_args, h.nm]
theorem odd_make2 {u : Tr} (h : Odd u) (k : Ck) : takesS vars P (.tup [.str "make", u, .str g, .tup []]) k = (false, k) := by
  simp (decide := true) [takesS, sk_make, fitsT, sp_piece, sp_name, sp_args, h.nm]
theorem odd_args {u : Tr} {q : Str} (h : Odd u) (k : Ck) : takesS vars P (.tup [.str "make", .str g, .str q, .tup [.str c, u]]) k = (false, k) := by
  simp (decide := true) [takesS, sk_make, fitsT, sp_piece, sp_name, sp_args, argsT, h.nm]
theorem odd_within {u : Tr} (h : isTup u = false) (k : Ck) : takesS vars P (.tup [.str "within", .str c, u]) k = (false, k) := by
  simp (decide := true) [takesS, sk_within, fitsT, sp_context, sp_block, h]
/-- a step behind a show -/
theorem due_second {one : Tr} (hx : nameS x = true) (hv : x ∈ vars) (ho : thinT one = true) (h : ∀ k, takesS vars P one k = (false, k)) : DueP vars P (.tup [showS x, one]) (.tup (intsT [1])) := by
  refine due_of (k := ([], 0)) ?_ (by decide) ?_ (by decide) (by decide)
  · rw [progD_s, progF_go (ta_show hx hv _) (by rw [pr_show]; exact progD_nil _ _), progF_no (h _)]
  · show (decide ((2 : Nat) ≤ 1000) && (true && (thinT one && true))) = true
    rw [ho]; rfl
theorem due_first {one : Tr} {r : List Tr} (ho : thinT (.tup (one :: r)) = true) (h : ∀ k, takesS vars P one k = (false, k)) : DueP vars P (.tup (one :: r)) (.tup (intsT [0])) := by
  refine due_of (k := ([], 0)) ?_ (by decide) ho (by decide) (by decide)
  rw [progD_s, progF_no (h _)]
theorem due_none_tup {u : Tr} (ht : thinT u = true) (h : isTup u = false) : DueP vars P u (.tup (intsT [])) := by
  refine ⟨ht, fun ts q => (by rw [q] at h; cases h), .inr ⟨[], ?_, rfl, re_ints (by decide) (by decide)⟩⟩
  cases u with
  | tup ts => cases h
  | _ => rfl
theorem due_empty13 : DueP vars P (.tup []) .non := due_no (k := ([], 0)) rfl (by decide) rfl ⟨rfl, by decide, by decide⟩
theorem due_within (hc : nameS c = true) {us : List Tr} (h : Odd (.tup us)) : DueP vars P (.tup [withinS c us]) (.tup (intsT [0, 0, 0])) := by
  obtain ⟨a, r, rfl, ha⟩ := h.fi us rfl
  refine due_of (k := ([(c, ("context" : Str))], 0)) ?_ (Nat.le_of_ble_eq_true rfl) ?_ (by decide) (by decide)
  · rw [progD_s, progF_in (w := [0]) (k2 := ([(c, ("context" : Str))], 0)) (ta_within (km' := [(c, ("context" : Str))]) hc _ rfl) ?_]
    rw [pr_within, progD_s, progF_no (takes_not ha _)]
  · show (decide ((1 : Nat) ≤ 1000) && ((decide ((3 : Nat) ≤ 1000) && (true && (true && (thinT (.tup (a :: r)) && true)))) && true)) = true
    rw [h.th]; rfl
theorem due_guard_in (hx : nameS x = true) (hv : x ∈ vars) {us : List Tr} (h : Odd (.tup us)) : DueP vars P (.tup [showS x, guardS us]) (.tup (intsT [1, 0, 0])) := by
  obtain ⟨a, r, rfl, ha⟩ := h.fi us rfl
  refine due_of (k := ([], 0)) ?_ (by decide) ?_ (by decide) (by decide)
  · rw [progD_s, progF_go (ta_show hx hv _) (by rw [pr_show]; exact progD_nil _ _), progF_in (w := [0]) (k2 := ([], 0)) (ta_guard _ _) ?_]
    rw [pr_guard, progD_s, progF_no (takes_not ha _)]
  · show (decide ((2 : Nat) ≤ 1000) && (true && ((decide ((2 : Nat) ≤ 1000) && (true && (thinT (.tup (a :: r)) && true))) && true))) = true
    rw [h.th]; rfl
theorem due_step_copy (hg : nameS g = true) : DueP vars P (.tup [stepS g, copyS g, .non]) (.tup (intsT [1])) := by
  have ta : takesS vars P (copyS g) ([(g, ("piece" : Str))], 1) = (false, ([(g, ("piece" : Str))], 1)) := by
    simp (decide := true) [copyS, takesS, sk_copy, fitsT, sp_context, nameT, hg, knowsS, okP, slotsS, slotPr, s3_context, List.filterMap_cons, List.filterMap_nil, setL, kget]
  refine due_of (k := ([(g, ("piece" : Str))], 1)) ?_ (Nat.le_of_ble_eq_true rfl) rfl (by decide) (by decide)
  rw [progD_s, progF_go (ta_step (km' := [(g, ("piece" : Str))]) hg rfl) (by rw [pr_step]; exact progD_nil _ _), progF_no ta]
end
def deepT : Nat → Tr
  | 0 => .tup []
  | n + 1 => .tup [deepT n]
def wideT : Nat → Tr
  | 0 => .tup [.tup [], .tup []]
  | n + 1 => .tup [wideT n, wideT n]
theorem deep_thin : ∀ n, thinT (deepT n) = true
  | 0 => rfl
  | n + 1 => by
    show (decide ((1 : Nat) ≤ 1000) && (thinT (deepT n) && true)) = true
    rw [deep_thin n]; rfl
theorem wide_thin : ∀ n, thinT (wideT n) = true
  | 0 => rfl
  | n + 1 => by
    show (decide ((2 : Nat) ≤ 1000) && (thinT (wideT n) && (thinT (wideT n) && true))) = true
    rw [wide_thin n]; rfl
theorem deep_step : ∀ n, stepT (deepT n) = false
  | 0 => rfl
  | 1 => rfl
  | _ + 2 => rfl
theorem wide_step : ∀ n, stepT (wideT n) = false
  | 0 => rfl
  | 1 => rfl
  | _ + 2 => rfl
theorem deep_odd (n : Nat) : Odd (deepT (n + 1)) := ⟨deep_thin _, rfl, rfl, deep_step _, fun us e => by
  have e : Tr.tup [deepT n] = .tup us := e
  cases e
  exact ⟨_, _, rfl, deep_step n⟩⟩
theorem wide_odd (n : Nat) : Odd (wideT (n + 1)) := ⟨wide_thin _, rfl, rfl, wide_step _, fun us e => by
  have e : Tr.tup [wideT n, wideT n] = .tup us := e
  cases e
  exact ⟨_, _, rfl, wide_step n⟩⟩
theorem lst_odd : Odd .lst := ⟨rfl, rfl, rfl, rfl, fun us e => by cases e⟩
theorem dct_odd : Odd .dct := ⟨rfl, rfl, rfl, rfl, fun us e => by cases e⟩
theorem pair_odd (n : Nat) : Odd (.tup [deepT (n + 1), .lst]) := ⟨by
  show (decide ((2 : Nat) ≤ 1000) && (thinT (deepT (n + 1)) && (true && true))) = true
  rw [deep_thin]; rfl, rfl, rfl, rfl, fun us e => by
  cases e
  exact ⟨_, _, rfl, deep_step (n + 1)⟩⟩
theorem int_odd {i : Int} (h : 9999 < i) : Odd (.int i) := ⟨rfl, rfl, by
  show (decide (0 ≤ i) && decide (i ≤ 9999)) = false
  rw [decide_eq_false (p := i ≤ 9999) (by omega), Bool.and_false], rfl, fun us e => by cases e⟩
/-! the book -/
theorem ko_yield : kindsOf ("yield" : Str) = some [] := by decide +kernel
theorem block_yield (vars : List Str) (km : Km) : (faultD vars 5 [.tup [.str "yield"]] [] (km, 0)).1 = none := by
  rw [faultD_eq]
  have e : takesT vars (.tup [.str "yield"]) [] km 1 = (true, km) := by
    unfold takesT
    rw [if_neg (by decide)]
    simp only [ko_yield]
    rw [if_pos (by decide)]
    rfl
  show (faultL vars (recF vars 5) [] [.tup [.str "yield"]] 0 (km, 0)).1 = none
  unfold faultL
  rw [e]
  rfl
theorem piece_ok {vars : List Str} {n : Str} {prm : Tr} {r : List Tr} {i : Nat} {ns : List Str} (hn : nameS n = true) (hp : paramsT prm = true) (hm : n ∉ ns) : piecesL vars (.tup [.str n, prm, yieldB] :: r) i ns = piecesL vars r (i + 1) (ns ++ [n]) := by
  have ht : tripleT (.tup [.str n, prm, yieldB]) = true := by
    show (nameS n && paramsT prm && true) = true
    rw [hn, hp]; rfl
  show (if tripleT (.tup [.str n, prm, yieldB]) = true ∧ n ∉ ns then (match (faultD vars 5 [.tup [.str "yield"]] [] (kindsP prm, 0)).1 with
      | some w => some (Place.way i w)
      | none => piecesL vars r (i + 1) (ns ++ [n])) else some (.at_ i)) = _
  rw [if_pos ⟨ht, hm⟩, block_yield]
theorem par_0 : paramsT (.tup []) = true := by decide +kernel
theorem par_1 : paramsT (.tup [.tup [.str "a", .str "context"], .tup [.str "b", .str "token"]]) = true := by decide +kernel
theorem par_2 : paramsT (.tup [.tup [.str "b", .str "context"], .tup [.str "a", .str "context"]]) = true := by decide +kernel
theorem two_diff {x y : Str} (hx : nameS x = true) (hy : nameS y = true) (xy : ¬ x = y) : diffT [.str x, .str y] = true := by
  simp [diffT, nameT, hx, hy, texts, xy]
theorem fa_pieces {vs qs : List Tr} (h : qs.length ≤ 6) (h2 : 1 ≤ vs.length ∧ vs.length ≤ 3 ∧ diffT vs = true) : faultT (.tup [.tup vs, .tup qs]) = piecesL (texts vs) qs 0 [] := by
  show (if 6 < qs.length then some Place.empty else if 1 ≤ vs.length ∧ vs.length ≤ 3 ∧ diffT vs = true then piecesL (texts vs) qs 0 [] else some Place.vars) = _
  rw [if_neg (by omega), if_pos h2]
theorem book_ok {N : O13} (hx : nameS N.x = true) (hy : nameS N.y = true) (xy : ¬ N.x = N.y) (hp : nameS N.p = true) (hq : nameS N.q = true) (hr : nameS N.r = true) (pq : ¬ N.p = N.q) (pr : ¬ N.p = N.r) (qr : ¬ N.q = N.r) : faultT (bookT N) = none := by
  unfold bookT
  rw [fa_pieces (Nat.le_of_ble_eq_true rfl) ⟨Nat.le_of_ble_eq_true rfl, Nat.le_of_ble_eq_true rfl, two_diff hx hy xy⟩]
  have qp : ¬ N.q = N.p := fun e => pq e.symm
  have rp : ¬ N.r = N.p := fun e => pr e.symm
  have rq : ¬ N.r = N.q := fun e => qr e.symm
  rw [piece_ok hp par_0 (by simp), piece_ok hq par_1 (by simp [qp]), piece_ok hr par_2 (by simp [rp, rq])]
  rfl
theorem vars_book (N : O13) : varsB (bookT N) = [N.x, N.y] := rfl
theorem pieces_book (N : O13) : piecesB (bookT N) = P3 N.p N.q N.r := rfl
/-! books that are none -/
/-- a thing that is no book, and the place -/
structure BadB (b pl : Tr) : Prop where
  q : ∃ p, faultT b = some p ∧ pl = placeT p
  r : ReprOk pl
theorem bad_non : BadB .non (.tup []) := ⟨⟨.empty, rfl, rfl⟩, ⟨rfl, by decide, by decide⟩⟩
theorem bad_three {a b c : Tr} : BadB (.tup [a, b, c]) (.tup []) := ⟨⟨.empty, by cases a <;> cases b <;> rfl, rfl⟩, ⟨rfl, by decide, by decide⟩⟩
theorem bad_vars {x y : Str} : BadB (.tup [.tup ([.str x, .str y] ++ [.str x, .str y]), .tup []]) (.tup [.str "vars"]) := ⟨⟨.vars, by
  show (if 6 < ([] : List Tr).length then some Place.empty else if 1 ≤ ([Tr.str x, .str y] ++ [Tr.str x, .str y]).length ∧ ([Tr.str x, .str y] ++ [Tr.str x, .str y]).length ≤ 3 ∧ diffT ([Tr.str x, .str y] ++ [Tr.str x, .str y]) = true then piecesL (texts ([Tr.str x, .str y] ++ [Tr.str x, .str y])) [] 0 [] else some Place.vars) = _
  rw [if_neg (by decide), if_neg (fun q => absurd (show (4 : Nat) ≤ 3 from q.2.1) (by decide))], rfl⟩, ⟨by decide +kernel, by decide, by decide⟩⟩
theorem bad_five {x y : Str} (hx : nameS x = true) (hy : nameS y = true) (xy : ¬ x = y) : BadB (.tup [.tup [.str x, .str y], .tup [.int 5]]) (.tup [.int 0]) := ⟨⟨.at_ 0, by
  rw [fa_pieces (Nat.le_of_ble_eq_true rfl) ⟨Nat.le_of_ble_eq_true rfl, Nat.le_of_ble_eq_true rfl, two_diff hx hy xy⟩]
  rfl, rfl⟩, ⟨by decide +kernel, by decide, by decide⟩⟩
theorem ko_show : kindsOf ("show" : Str) = some [("variable" : Str)] := by decide +kernel
theorem ko_step : kindsOf ("step" : Str) = none := by decide +kernel
theorem bad_step {x y : Str} (hx : nameS x = true) (hy : nameS y = true) (xy : ¬ x = y) : BadB (.tup [.tup [.str x, .str y], .tup [.tup [.str "a", .tup [], .tup [showS x, .tup [.str "step", .str "a"]]]]]) (.tup [.int 0, .tup [.int 1]]) := by
  have na : nameS ("a" : Str) = true := by decide +kernel
  refine ⟨⟨.way 0 [1], ?_, rfl⟩, ⟨by decide +kernel, by decide, by decide⟩⟩
  rw [fa_pieces (Nat.le_of_ble_eq_true rfl) ⟨Nat.le_of_ble_eq_true rfl, Nat.le_of_ble_eq_true rfl, two_diff hx hy xy⟩]
  have ht : tripleT (.tup [.str "a", .tup [], .tup [showS x, .tup [.str "step", .str "a"]]]) = true := by
    show (nameS "a" && paramsT (.tup []) && true) = true
    rw [na, par_0]; rfl
  have e1 : takesT [x, y] (showS x) [] [] 1 = (true, []) := by
    unfold takesT showS
    rw [if_neg (by decide)]
    simp only [ko_show]
    have ef : fitsT [.str x] [("variable" : Str)] = true := by
      simp (decide := true) [fitsT, sp_variable, nameT, hx]
    rw [if_pos ef]
    have ek : knowsT [x, y] ([.str x].zip [("variable" : Str)]) [] = (true, []) := by
      show (if slotK "variable" = true then _ else (if varK "variable" = true then (if x ∈ [x, y] then (true, ([] : Km)) else _) else _)) = _
      rw [if_neg (by decide), if_pos (by decide), if_pos (by simp)]
    rw [ek]
    have ec : canT "show" [.str x] [] = true := by unfold canT; rw [if_neg (by decide), if_neg (by decide), if_neg (by decide)]
    rw [ec]
    rfl
  have e2 : takesT [x, y] (.tup [.str "step", .str "a"]) [] [] 2 = (false, []) := by
    unfold takesT
    rw [if_neg (by decide)]
    simp only [ko_step]
  have ef : (faultD [x, y] 5 [showS x, .tup [.str "step", .str "a"]] [] ([], 0)).1 = some [1] := by
    rw [faultD_eq]
    unfold faultL
    rw [e1]
    show (faultL [x, y] (recF [x, y] 5) [] [.tup [.str "step", .str "a"]] 1 ([], 1)).1 = some [1]
    unfold faultL
    rw [e2]
  show (if tripleT (.tup [.str "a", .tup [], .tup [showS x, .tup [.str "step", .str "a"]]]) = true ∧ ("a" : Str) ∉ ([] : List Str) then (match (faultD [x, y] 5 [showS x, .tup [.str "step", .str "a"]] [] ([], 0)).1 with
      | some w => some (Place.way 0 w)
      | none => _) else some (.at_ 0)) = _
  rw [if_pos ⟨ht, by simp⟩, ef]
end BK

set_option Elab.async false
set_option maxRecDepth 100000
set_option maxHeartbeats 4000000
set_option linter.unusedVariables false
/-! _law_truths_right. -/
namespace BK
open PySem PySem.Spec PyProof.Rows L2 SW RZ ET
abbrev sTru : Stmt := top 66
abbrev nTru : List Str := ["own", "x", "t", "number", "truth", "right", "some", "bad", "place"]
theorem scTru : FnScope nTru ["own"] (defScope sTru) := ⟨rfl, rfl, rfl, by decide +kernel, rfl, by decide +kernel, by decide +kernel⟩
/-- the names of a script are as they are drawn -/
structure Nice13 (N : O13) : Prop where
  n : Nms N.x N.y N.c N.t N.g N.none N.new N.p N.q N.r
  s : Slots N.c N.t N.g N.new
  xy : ¬ N.x = N.y
theorem Nice13.book {N : O13} (h : Nice13 N) : faultT (bookT N) = none := book_ok h.n.hx h.n.hy h.xy h.n.hp h.n.hq h.n.hr h.n.pq h.n.pr h.n.qr
def spTru (K : PySem.W.Frag) : Sp := fun vs H Q _ => ∃ o N, vs = [.ref o] ∧ OwnH K H o N ∧ Nice13 N ∧ ∀ H', Same H H' → Q (.bl true) H'
theorem cut_l {x y : V} : cutV [x, y] none (some 1) = [x] := by
  unfold cutV
  simp [HT.sIx]
section
variable {P : Program} {w : World} {K : PySem.W.Frag} {mg : Str → Option Value} {base : Heap}
theorem ok_tru {f fU : Addr} {fdU : FuncData} {oc kV doc pm ct cdv : Value} {od an : Option Addr} {osl : Array (Option Value)} (lk : K.lookup f = some ⟨oc, od, .func (PySem.W.fnOf "_law_truths_right" "_law_truths_right" (defArgs sTru) (defBody sTru) (defScope sTru) .none kV doc pm an cdv ct), osl⟩)
    (hcd : PySem.W.codeIn K cdv "_law_truths_right" = true)
    (GU : FnG P w K mg base 23 fU fdU ["book", "thing", "place"] (spDueP K)) (bU : Binds K fdU ["book", "thing", "place"] []) (gU : mg "_law_due_right" = some (.ref fU)) (kU : PySem.W.keepIn K (.ref fU) = true) :
    FnG P w K mg base 24 f (PySem.W.fnOf "_law_truths_right" "_law_truths_right" (defArgs sTru) (defBody sTru) (defScope sTru) .none kV doc pm an cdv ct) ["own"] (spTru K) := by
  refine fng_of lk hcd scTru (fun vs H Q E h => ?_) (fun A outer s H vs Q E gd hr h => ?_)
  · obtain ⟨o, N, rfl, _⟩ := h
    rfl
  · obtain ⟨o, N, rfl, O, NN, k⟩ := h
    have hu := hu_of hr
    have gd' : (A.deeper (envOfC "_law_truths_right" (defScope sTru) s.heap.objs.size f cdv)).guards = some [] := gd
    refine ⟨_, C8.pss_cut (ps_par (i := 1) (j := 2) rfl scTru.nd rfl rfl (by decide) rfl rfl (pa_cons (pe_dget hu (pv 0) pe_str (fun _ _ => rfl)) (pa_cons (pe_dget hu (pv 0) pe_str (fun _ _ => rfl)) pa_nil)) (by rfl))
      (C8.pss_cut (ps_for PassesOwn.never rfl (pi_tup (pe_tup (pa_cons (pe_tup (pa_cons pe_int (pa_cons pe_bl pa_nil))) (pa_cons (pe_tup (pa_cons pe_int (pa_cons pe_bl pa_nil))) pa_nil))))
          (pg_tup rfl (pgs_cons (pg_name (i := 3) scTru.nd rfl (Or.inl rfl)) (pgs_cons (pg_name (i := 4) scTru.nd rfl (Or.inl rfl)) pgs_nil)))
        (C8.pss_cut (ps_set (i := 5) scTru.nd rfl (Or.inl rfl) (pe_tup (pa_cons (pe_tup (pa_cons pe_str (pa_cons (pv 1) (pa_cons (pv 3) pa_nil)))) (pa_cons (pe_tup (pa_cons pe_str (pa_cons (pe_tup (pa_cons (pe_tup (pa_cons pe_str (pa_cons (pv 2) (pa_cons (pv 1) (pa_cons (pv 3) pa_nil))))) pa_nil)) pa_nil))) pa_nil))))
        (C8.pss_cut (ps_set (i := 6) scTru.nd rfl (Or.inl rfl) (pe_lst (pa_cons (pe_tup (pa_cons (pe_op op_catA (pe_tup (pa_cons (pe_tup (pa_cons pe_str (pa_cons (pv 1) (pa_cons (pv 4) pa_nil)))) pa_nil)) (pe_slice sl_tup (pv 5) (po_some pe_int) po_none)) (pa_cons (pe_tup (pa_cons pe_int pa_nil)) pa_nil))) pa_nil)))
        (C8.pss_cut (ps_expr (pe_bm PySem.F.plainAttrs_list PySem.F.slot_list_append PySem.F.type_list_append mt_append (pv 6) (pa_cons (pe_tup (pa_cons (pe_op op_catA (pe_slice sl_tup (pv 5) po_none (po_some pe_int))
            (pe_tup (pa_cons (pe_tup (pa_cons pe_str (pa_cons (pe_tup (pa_cons (pe_tup (pa_cons pe_str (pa_cons (pv 2) (pa_cons (pv 1) (pa_cons (pv 4) pa_nil))))) pa_nil)) pa_nil))) pa_nil))) (pa_cons (pe_tup (pa_cons pe_int (pa_cons pe_int (pa_cons pe_int pa_nil)))) pa_nil))) pa_nil)))
        (pss_one (ps_for PassesOwn.never rfl (pi_list (pv 6)) (pg_tup rfl (pgs_cons (pg_name (i := 7) scTru.nd rfl (Or.inl rfl)) (pgs_cons (pg_name (i := 8) scTru.nd rfl (Or.inl rfl)) pgs_nil)))
          (pss_one (ps_if (PW.pt (pw_or (pt_not (pt_val (pe_callG GU gd' hr rfl gU kU bU (pa_cons (pe_dget hu (pv 0) pe_str (fun _ _ => rfl)) (pa_cons (pv 5) (pa_cons pe_non pa_nil))))))
            (pw_or1 (pt_not (pt_val (pe_callG GU gd' hr rfl gU kU bU (pa_cons (pe_dget hu (pv 0) pe_str (fun _ _ => rfl)) (pa_cons (pv 7) (pa_cons (pv 8) pa_nil))))))))) (pss_one (ps_ret pe_bl)) pss_nil))))))))
      (pss_one (ps_ret pe_bl))), ?_⟩
    have one' : 1 ≤ sizeLine := by decide
    have two' : 2 ≤ sizeLine := by decide
    have three' : 3 ≤ sizeLine := by decide
    have four' : 4 ≤ sizeLine := by decide
    refine ⟨fun σ H1 => H = H1 ∧ σ = [some (.ref o), some (.str N.x), some (.str N.t), none, none, none, none, none, none], ?_, ?_⟩
    · refine ⟨_, rfl, o, _, rfl, on_x ▸ DGet.k (k := Sum.inr "x") O.od, ?_⟩
      exact ⟨_, rfl, o, _, rfl, on_t ▸ DGet.k (k := Sum.inr "t") O.od, _, _, rfl, rfl, rfl⟩
    rintro σ H1 ⟨rfl, rfl⟩
    refine ⟨fun σ H2 => Same H H2, ?_, fun σ H2 s2 => k H2 s2⟩
    refine ⟨two', fun p1 np1 => ⟨two', fun p2 np2 => ⟨two', fun p3 np3 => ?_⟩⟩⟩
    obtain ⟨s1, t1⟩ := new_tr (K := K) np1 (.cons (.int 0) (.cons (.bl false) .nil))
    generalize upd H p1 (.tup [.int 0, .bl false]) = G1 at s1 t1 np2 np3 ⊢
    obtain ⟨s2, t2⟩ := new_tr (K := K) np2 (.cons (.int 1) (.cons (.bl true) .nil))
    have t1 := t1.same s2
    generalize upd G1 p2 (.tup [.int 1, .bl true]) = G2 at s2 t2 t1 np3 ⊢
    have s3 := same_new (o := .tup [.ref p1, .ref p2]) np3
    have e3 : (upd G2 p3 (.tup [.ref p1, .ref p2])) p3 = some (.tup [.ref p1, .ref p2]) := upd_same
    have t1 := t1.same s3
    have t2 := t2.same s3
    generalize upd G2 p3 (.tup [.ref p1, .ref p2]) = G3 at s3 e3 t1 t2 ⊢
    have s03 := (s1.trans s2).trans s3
    refine ⟨p3, rfl, ⟨_, SqT.of e3⟩, for_it (walk_tup (K := K) (a := p3) (xs := [.ref p1, .ref p2])) (fun i σ H4 => ∃ v3 v4 v5 v6 v7 v8 : Option V, σ = [some (.ref o), some (.str N.x), some (.str N.t), v3, v4, v5, v6, v7, v8] ∧ Same G3 H4)
      ⟨none, none, none, none, none, none, rfl, fun _ _ e => e⟩ (fun i σ H4 _ ⟨_, _, _, _, _, _, _, s4⟩ => SqT.of (s4 _ _ e3)) ?_ (fun σ H4 ⟨_, _, _, _, _, _, _, s4⟩ => s03.trans s4)⟩
    rintro i y σ H5 H4 hi ⟨v3, v4, v5, v6, v7, v8, rfl, s4⟩ ⟨rfl, hy⟩
    have hy : ([.ref p1, .ref p2] : List V)[i]? = some y := hy
    obtain ⟨nb, tb, hnb, ty⟩ : ∃ (nb : Int) (tb : Bool), (nb = 0 ∨ nb = 1) ∧ TrAt K G3 y (.tup [.int nb, .bl tb]) := by
      match i, hy with
      | 0, hy => cases hy; exact ⟨0, false, .inl rfl, t1⟩
      | 1, hy => cases hy; exact ⟨1, true, .inr rfl, t2⟩
    obtain ⟨ya, u1, u2, rfl, hya, tu1, tu2⟩ := tr_two (ty.same s4)
    cases tu1
    cases tu2
    refine ⟨ya, _, rfl, hya, rfl, _, _, rfl, _, _, rfl, rfl, ?_⟩
    have lx := O.lx
    have lt := O.lt
    -- right
    refine ⟨fun σ H5 => ∃ v5 : V, σ = [some (.ref o), some (.str N.x), some (.str N.t), some (.int nb), some (.bl tb), some v5, v6, v7, v8] ∧ Same H4 H5 ∧ TrAt K H5 v5 (.tup [setI N.x nb, guardS [holdI N.t N.x nb]]), ?_, ?_⟩
    · refine ⟨_, rfl, _, rfl, three', fun q1 n1 => ⟨_, rfl, _, rfl, _, rfl, four', fun q2 n2 => ⟨one', fun q3 n3 => ⟨two', fun q4 n4 => ⟨two', fun q5 n5 => ?_⟩⟩⟩⟩⟩
      obtain ⟨a1, b1⟩ := new_tr (K := K) n1 (.cons (.str "set" (by decide)) (.cons (.str N.x lx) (.cons (.int nb) .nil)))
      generalize upd H4 q1 (.tup [.str "set", .str N.x, .int nb]) = F1 at a1 b1 n2 n3 n4 n5 ⊢
      obtain ⟨a2, b2⟩ := new_tr (K := K) n2 (.cons (.str "hold" (by decide)) (.cons (.str N.t lt) (.cons (.str N.x lx) (.cons (.int nb) .nil))))
      generalize upd F1 q2 (.tup [.str "hold", .str N.t, .str N.x, .int nb]) = F2 at a2 b2 n3 n4 n5 ⊢
      obtain ⟨a3, b3⟩ := new_tr n3 (.cons b2 .nil)
      generalize upd F2 q3 (.tup [.ref q2]) = F3 at a3 b3 n4 n5 ⊢
      obtain ⟨a4, b4⟩ := new_tr (K := K) n4 (.cons (.str "guard" (by decide)) (.cons b3 .nil))
      generalize upd F3 q4 (.tup [.str "guard", .ref q3]) = F4 at a4 b4 n5 ⊢
      obtain ⟨a5, b5⟩ := new_tr n5 (.cons (((b1.same a2).same a3).same a4) (.cons b4 .nil))
      exact ⟨_, rfl, (((a1.trans a2).trans a3).trans a4).trans a5, b5⟩
    rintro σ H5 ⟨v5', rfl, s5, t5⟩
    obtain ⟨ra, w1, w2, rfl, hra, tw1, tw2⟩ := tr_two t5
    -- some
    refine ⟨fun σ H6 => ∃ (L : Addr) (z1 : V), σ = [some (.ref o), some (.str N.x), some (.str N.t), some (.int nb), some (.bl tb), some (.ref ra), some (.ref L), v7, v8] ∧ Same H5 H6 ∧ H5 L = none ∧ H6 L = some (.lst [z1]) ∧ TrAt K H6 z1 (.tup [.tup (setB N.x tb :: [guardS [holdI N.t N.x nb]]), .tup (intsT [0])]), ?_, ?_⟩
    · refine ⟨_, rfl, _, rfl, three', fun q1 n1 => ⟨one', fun q2 n2 => ?_⟩⟩
      obtain ⟨a1, b1⟩ := new_tr (K := K) n1 (.cons (.str "set" (by decide)) (.cons (.str N.x lx) (.cons (.bl tb) .nil)))
      generalize upd H5 q1 (.tup [.str "set", .str N.x, .bl tb]) = F1 at a1 b1 n2 ⊢
      obtain ⟨a2, b2⟩ := new_tr n2 (.cons b1 .nil)
      generalize upd F1 q2 (.tup [.ref q1]) = F2 at a2 b2 ⊢
      have a12 := a1.trans a2
      refine ⟨_, rfl, 1, rfl, ra, _, rfl, sqt_same a12 hra, (by rintro ⟨e, _⟩; simp [HT.sIx] at e), fun q3 n3 => ?_⟩
      rw [cut1]
      obtain ⟨a3, b3⟩ := new_tr n3 (.cons (tw2.same a12) .nil)
      have b2 := b2.same a3
      generalize upd F2 q3 (.tup [w2]) = F3 at a3 b3 b2 ⊢
      refine cat_tr b2 b3 (by simp) (by simp) fun v8' F4 a4 b4 => ⟨one', fun q5 n5 => ⟨two', fun q6 n6 => ⟨one', fun L nL => ?_⟩⟩⟩
      obtain ⟨a5, b5⟩ := new_tr (K := K) n5 (.cons (.int 0) .nil)
      have b4 := b4.same a5
      generalize upd F4 q5 (.tup [.int 0]) = F5 at a5 b5 b4 n6 nL ⊢
      obtain ⟨a6, b6⟩ := new_tr n6 (.cons b4 (.cons b5 .nil))
      generalize upd F5 q6 (.tup [v8', .ref q5]) = F6 at a6 b6 nL ⊢
      have aL := same_new (o := .lst [.ref q6]) nL
      have a06 := ((a12.trans a3).trans (a4.trans a5)).trans a6
      exact ⟨L, _, rfl, a06.trans aL, a06.free nL, upd_same, b6.same aL⟩
    rintro σ H6 ⟨L, z1, rfl, s6, nL, eL, tz1⟩
    -- .. and the other
    refine ⟨fun σ H7 => ∃ (z1 z2 : V), σ = [some (.ref o), some (.str N.x), some (.str N.t), some (.int nb), some (.bl tb), some (.ref ra), some (.ref L), v7, v8] ∧ Same H5 H7 ∧ H7 L = some (.lst [z1, z2]) ∧ TrAt K H7 z1 (.tup [.tup (setB N.x tb :: [guardS [holdI N.t N.x nb]]), .tup (intsT [0])]) ∧ TrAt K H7 z2 (.tup [.tup [setI N.x nb, guardS [holdB N.t N.x tb]], .tup (intsT [1, 0, 0])]), ?_, ?_⟩
    · refine ⟨_, rfl, .inl ⟨rfl, _, SqL.of eL⟩, _, rfl, 1, rfl, ra, _, rfl, sqt_same s6 hra, (by rintro ⟨_, e⟩; simp [HT.sIx] at e), fun q1 n1 => ?_⟩
      rw [cut_l]
      obtain ⟨a1, b1⟩ := new_tr n1 (.cons (tw1.same s6) .nil)
      generalize upd H6 q1 (.tup [w1]) = F1 at a1 b1 ⊢
      refine ⟨_, rfl, _, rfl, _, rfl, four', fun q2 n2 => ⟨one', fun q3 n3 => ⟨two', fun q4 n4 => ⟨one', fun q5 n5 => ?_⟩⟩⟩⟩
      obtain ⟨a2, b2⟩ := new_tr (K := K) n2 (.cons (.str "hold" (by decide)) (.cons (.str N.t lt) (.cons (.str N.x lx) (.cons (.bl tb) .nil))))
      generalize upd F1 q2 (.tup [.str "hold", .str N.t, .str N.x, .bl tb]) = F2 at a2 b2 n3 n4 n5 ⊢
      obtain ⟨a3, b3⟩ := new_tr n3 (.cons b2 .nil)
      generalize upd F2 q3 (.tup [.ref q2]) = F3 at a3 b3 n4 n5 ⊢
      obtain ⟨a4, b4⟩ := new_tr (K := K) n4 (.cons (.str "guard" (by decide)) (.cons b3 .nil))
      generalize upd F3 q4 (.tup [.str "guard", .ref q3]) = F4 at a4 b4 n5 ⊢
      obtain ⟨a5, b5⟩ := new_tr n5 (.cons b4 .nil)
      generalize upd F4 q5 (.tup [.ref q4]) = F5 at a5 b5 ⊢
      have a15 := ((a2.trans a3).trans a4).trans a5
      refine cat_tr (b1.same a15) b5 (by simp) (by simp) fun v8' F6 a6 b6 => ⟨three', fun q7 n7 => ⟨two', fun q8 n8 => ?_⟩⟩
      obtain ⟨a7, b7⟩ := new_tr (K := K) n7 (.cons (.int 1) (.cons (.int 0) (.cons (.int 0) .nil)))
      have b6 := b6.same a7
      generalize upd F6 q7 (.tup [.int 1, .int 0, .int 0]) = F7 at a7 b7 b6 n8 ⊢
      obtain ⟨a8, b8⟩ := new_tr n8 (.cons b6 (.cons b7 .nil))
      generalize upd F7 q8 (.tup [v8', .ref q7]) = F8 at a8 b8 ⊢
      have a08 := ((a1.trans a15).trans (a6.trans a7)).trans a8
      have eL8 := a08 _ _ eL
      refine ⟨L, _, _, rfl, rfl, eL8, (by show 1 < sizeLine; decide), z1, .ref q8, rfl, fun b u e => ?_, upd_same, (tz1.same a08).updL eL8, b8.updL eL8⟩
      rw [upd_ne (ne_of_none e nL)]
      exact a08 _ _ (s6 _ _ e)
    rintro σ H7 ⟨z1, z2, rfl, s7, eL7, tz1, tz2⟩
    have s47 := (s4.trans s5).trans s7
    refine ⟨_, rfl, L, rfl, ⟨_, SqL.of eL7⟩, for_list (K := K) (a := L) (xs := [z1, z2]) (fun i σ H8 => ∃ v7 v8 : Option V, σ = [some (.ref o), some (.str N.x), some (.str N.t), some (.int nb), some (.bl tb), some (.ref ra), some (.ref L), v7, v8] ∧ Same H7 H8)
      ⟨v7, v8, rfl, fun _ _ e => e⟩ (fun i σ H8 _ ⟨_, _, _, s8⟩ => SqL.of (s8 _ _ eL7)) ?_ (fun σ H8 ⟨v7, v8, e, s8⟩ => ⟨_, _, _, _, v7, v8, e, s47.trans s8⟩)⟩
    rintro j z σ H8 hj ⟨v7, v8, rfl, s8⟩
    obtain ⟨b, pl, tz, du⟩ : ∃ b pl, TrAt K H7 z (.tup [b, pl]) ∧ DueP [N.x, N.y] (P3 N.p N.q N.r) b pl := by
      match j, hj with
      | 0, hj => cases hj; exact ⟨_, _, tz1, truth_bad1 rfl (Nat.le_of_ble_eq_true rfl)⟩
      | 1, hj => cases hj; exact ⟨_, _, tz2, truth_bad2 NN.n.hx (by simp) hnb⟩
    obtain ⟨za, g1, g2, rfl, hza, tg1, tg2⟩ := tr_two (tz.same s8)
    refine ⟨za, _, rfl, hza, rfl, _, _, rfl, _, _, rfl, rfl, ?_⟩
    have O8 := O.same (s03.trans (s47.trans s8))
    refine ⟨_, rfl, o, _, rfl, on_book ▸ DGet.k (k := Sum.inr "book") O8.od, _, rfl, N.bv, .ref ra, .non, bookT N, _, .non, rfl, O8.bt, NN.book, (t5.same (s7.trans s8)), .non, truth_right (vars := [N.x, N.y]) (P := P3 N.p N.q N.r) NN.n.hx NN.n.ht (by simp) hnb, fun H9 s9 => ⟨_, rfl, iteF ?_⟩⟩
    have O9 := O8.same s9
    refine ⟨_, rfl, o, _, rfl, on_book ▸ DGet.k (k := Sum.inr "book") O9.od, _, rfl, _, rfl, N.bv, g1, g2, bookT N, b, pl, rfl, O9.bt, NN.book, tg1.same s9, tg2.same s9, du, fun H10 s10 => ⟨_, rfl, iteF ?_⟩⟩
    exact ⟨_, _, rfl, (s8.trans s9).trans s10⟩
end
end BK

set_option Elab.async false
set_option maxRecDepth 100000
set_option maxHeartbeats 4000000
set_option linter.unusedVariables false
/-! _law_odd_right: what stays, what is gathered. -/
namespace BK
open PySem PySem.Spec PyProof.Rows L2 SW RZ ET
theorem op_powW {X : Cx} : OpR X (binaryOp .Pow) (rI (fun i j => 0 ≤ j ∧ (Builtin.Int.intBits i : Int) * j ≤ 2 ^ 27) fun i j => .int (i ^ j.toNat)) := opI fun _ _ _ _ _ _ _ hc q => pow_int hc.1 hc.2 q
/-- tuples and trees stay -/
structure Kp (K : PySem.W.Frag) (H H' : Hp) : Prop where
  s : ∀ p xs, SqT K H p xs → SqT K H' p xs
  t : ∀ v t, TrAt K H v t → TrAt K H' v t
section
variable {K : PySem.W.Frag} {H H' H'' : Hp} {a : RA} {n n' : Nat}
theorem Kp.refl : Kp K H H := ⟨fun _ _ h => h, fun _ _ h => h⟩
theorem Kp.trans (x : Kp K H H') (y : Kp K H' H'') : Kp K H H'' := ⟨fun p xs h => y.s _ _ (x.s _ _ h), fun v t h => y.t _ _ (x.t _ _ h)⟩
theorem Kp.of (e : Same H H') : Kp K H H' := ⟨fun p xs h => sqt_same e h, fun v t h => h.same e⟩
theorem Kp.upd {D : Addr} {ys ys' : List V} (e : H D = some (.lst ys)) : Kp K H (upd H D (.lst ys')) := ⟨fun p xs h => sqt_updL e h, fun v t h => h.updL e⟩
theorem Kp.rnd (R : Rnd H a n) (R' : Rnd H' a n') (b : But a H H') : Kp K H H' := ⟨fun p xs h => sqt_but R b h, fun v t h => h.rnd R R' b⟩
theorem kp_all (k : Kp K H H') : ∀ {vs : List V} {ts : List Tr}, TrAll K H vs ts → TrAll K H' vs ts
  | _, _, .nil => .nil
  | _, _, .cons h r => .cons (k.t _ _ h) (kp_all k r)
end
def PairOk (N : O13) (p : Tr) : Prop := ∃ b pl, p = .tup [b, pl] ∧ DueP [N.x, N.y] (P3 N.p N.q N.r) b pl
/-- a list of programs with their places, at most m -/
def Coll (K : PySem.W.Frag) (N : O13) (H : Hp) (D : Addr) (m : Nat) : Prop := ∃ vs ts, H D = some (.lst vs) ∧ TrAll K H vs ts ∧ ts.length ≤ m ∧ ∀ p ∈ ts, PairOk N p
section
variable {K : PySem.W.Frag} {H H' H'' : Hp} {a : RA} {n n' : Nat} {N : O13} {D : Addr} {m m' : Nat}
theorem Coll.same (C : Coll K N H D m) (e : Same H H') : Coll K N H' D m := by
  obtain ⟨vs, ts, h1, h2, h3, h4⟩ := C
  exact ⟨vs, ts, e _ _ h1, h2.same e, h3, h4⟩
theorem Coll.rnd (C : Coll K N H D m) (o : SW.Off a D) (R : Rnd H a n) (R' : Rnd H' a n') (b : But a H H') : Coll K N H' D m := by
  obtain ⟨vs, ts, h1, h2, h3, h4⟩ := C
  exact ⟨vs, ts, b.at o h1, h2.rnd R R' b, h3, h4⟩
theorem Coll.more (C : Coll K N H D m) (h : m ≤ m') : Coll K N H D m' := by
  obtain ⟨vs, ts, h1, h2, h3, h4⟩ := C
  exact ⟨vs, ts, h1, h2, Nat.le_trans h3 h, h4⟩
/-- one more -/
theorem Coll.push (C : Coll K N H D m) {v : V} {p : Tr} (tv : TrAt K H v p) (hp : PairOk N p) (hm : m ≤ 900) : ∃ vs, H D = some (.lst vs) ∧ vs.length < sizeLine ∧ Coll K N (upd H D (.lst (vs ++ [v]))) D (m + 1) ∧ Kp K H (upd H D (.lst (vs ++ [v]))) := by
  obtain ⟨vs, ts, h1, h2, h3, h4⟩ := C
  refine ⟨vs, h1, small1000 (by rw [h2.len]; omega), ⟨vs ++ [v], ts ++ [p], upd_same, (h2.updL h1).app (.cons (tv.updL h1) .nil), by rw [List.length_append]; simp; omega, fun q hq => ?_⟩, Kp.upd h1⟩
  rcases List.mem_append.mp hq with hq | hq
  · exact h4 q hq
  · rw [List.mem_singleton.mp hq]; exact hp
end
def iterOf : Stmt → Expr
  | .For _ it _ _ _ => it
  | _ => noE
def bodyAt (s : Stmt) (j : Nat) : Stmt := match s with
  | .For _ _ b _ _ => b.getD j (.Pass ⟨0, 0, 0, 0⟩)
  | _ => .Pass ⟨0, 0, 0, 0⟩
abbrev sOdd : Stmt := top 65
abbrev nOdd : List Str := ["state", "own", "book", "x", "c", "g", "deep", "wide", "k", "some", "odd", "one", "last", "thing", "place"]
theorem scOdd : FnScope nOdd ["state", "own"] (defScope sOdd) := ⟨rfl, rfl, rfl, by decide +kernel, rfl, by decide +kernel, by decide +kernel⟩
def spOdd (K : PySem.W.Frag) : Sp := fun vs H Q _ => ∃ (a : RA) (n : Nat) (o : Addr) (N : O13), vs = [.ref a.s, .ref o] ∧ Rnd H a n ∧ n + 5000 ≤ 1000000 ∧ OwnR K H a o N ∧ Nice13 N ∧
  ∀ (n' : Nat) (H' : Hp), n' ≤ n + 1000 → Rnd H' a n' → But a H H' → Q (.bl true) H'
theorem deep_s (n : Nat) : deepT (n + 1) = .tup [deepT n] := rfl
theorem wide_s (n : Nat) : wideT (n + 1) = .tup [wideT n, wideT n] := rfl
theorem deep_3000 : ∃ d0, deepT 3000 = .tup [d0] ∧ Odd (.tup [d0]) ∧ Odd (.tup [.tup [d0], .lst]) := ⟨deepT 2999, deep_s 2999, deep_odd 2999, pair_odd 2999⟩
theorem wide_60 : ∃ w0, wideT 60 = .tup [w0, w0] ∧ Odd (.tup [w0, w0]) := ⟨wideT 59, wide_s 59, wide_odd 59⟩
section
variable {N : O13} (NN : Nice13 N)
include NN
theorem ok_first {u : Tr} (ht : thinT u = true) (h : isTup u = false) : PairOk N (.tup [u, .tup []]) := ⟨_, _, rfl, due_none_tup ht h⟩
theorem ok_empty13 : PairOk N (.tup [.tup [], .non]) := ⟨_, _, rfl, due_empty13⟩
theorem ok_whole {us : List Tr} (h : Odd (.tup us)) : PairOk N (.tup [.tup us, .tup [.int 0]]) := by
  obtain ⟨a, r, rfl, ha⟩ := h.fi us rfl
  exact ⟨_, _, rfl, due_first h.th (takes_not ha)⟩
theorem ok_in {us : List Tr} (h : Odd (.tup us)) : PairOk N (.tup [.tup [showS N.x, guardS us], .tup [.int 1, .int 0, .int 0]]) := ⟨_, _, rfl, due_guard_in NN.n.hx (by simp) h⟩
theorem ok_two : PairOk N (.tup [.tup [stepS N.g, copyS N.g, .non], .tup [.int 1]]) := ⟨_, _, rfl, due_step_copy NN.n.hg⟩
theorem ok_second {one : Tr} (ho : thinT one = true) (h : ∀ k, takesS [N.x, N.y] (P3 N.p N.q N.r) one k = (false, k)) : PairOk N (.tup [.tup [showS N.x, one], .tup [.int 1]]) := ⟨_, _, rfl, due_second NN.n.hx (by simp) ho h⟩
theorem ok_args {u : Tr} (h : Odd u) : PairOk N (.tup [.tup [.tup [.str "make", .str N.g, .str N.q, .tup [.str N.c, u]]], .tup [.int 0]]) := ⟨_, _, rfl, due_first (by
  show (decide ((1 : Nat) ≤ 1000) && ((decide ((4 : Nat) ≤ 1000) && (true && (true && (true && ((decide ((2 : Nat) ≤ 1000) && (true && (thinT u && true))) && true))))) && true)) = true
  rw [h.th]; rfl) (odd_args h)⟩
theorem ok_with_t {us : List Tr} (h : Odd (.tup us)) : PairOk N (.tup [.tup [withinS N.c us], .tup [.int 0, .int 0, .int 0]]) := ⟨_, _, rfl, due_within NN.n.hc h⟩
theorem ok_with_n {u : Tr} (h : Odd u) (hn : isTup u = false) : PairOk N (.tup [.tup [.tup [.str "within", .str N.c, u]], .tup [.int 0]]) := ⟨_, _, rfl, due_first (by
  show (decide ((1 : Nat) ≤ 1000) && ((decide ((3 : Nat) ≤ 1000) && (true && (true && (thinT u && true)))) && true)) = true
  rw [h.th]; rfl) (odd_within hn)⟩
theorem nest_thin {c : Str} : ∀ (bs : List Bool) {one : Tr}, thinT one = true → thinT (nestS c one bs) = true
  | [], _, h => h
  | e :: bs, one, h => nest_thin bs (by
    cases e with
    | true => show (decide ((2 : Nat) ≤ 1000) && (true && ((decide ((1 : Nat) ≤ 1000) && (thinT one && true)) && true))) = true; rw [h]; rfl
    | false => show (decide ((3 : Nat) ≤ 1000) && (true && (true && ((decide ((1 : Nat) ≤ 1000) && (thinT one && true)) && true)))) = true; rw [h]; rfl)
theorem nest_re {c : Str} (hc : nameS c = true) : ∀ (bs : List Bool) {one : Tr} {D S : Nat}, dataT one = true ∧ depT one ≤ D ∧ sizT one ≤ S → dataT (nestS c one bs) = true ∧ depT (nestS c one bs) ≤ D + 2 * bs.length ∧ sizT (nestS c one bs) ≤ S + 5 * bs.length
  | [], _, _, _, h => h
  | e :: bs, one, D, S, h => by
    have sc : dataT (.str c) = true := by rw [da_str]; exact name_ok hc
    have q : dataT (nest1 c e one) = true ∧ depT (nest1 c e one) ≤ D + 2 ∧ sizT (nest1 c e one) ≤ S + 5 := by
      obtain ⟨h1, h2, h3⟩ := h
      cases e with
      | true =>
        refine ⟨?_, ?_, ?_⟩
        · show (dataT (.str "guard") && ((dataT one && true) && true)) = true
          rw [h1]; decide +kernel
        · show max 0 (max (max (depT one) 0 + 1) 0) + 1 ≤ D + 2
          omega
        · show 0 + 1 + ((sizT one + 1 + 0) + 1 + 0) ≤ S + 5
          omega
      | false =>
        refine ⟨?_, ?_, ?_⟩
        · show (dataT (.str "within") && (dataT (.str c) && ((dataT one && true) && true))) = true
          rw [h1, sc]; decide +kernel
        · show max 0 (max 0 (max (max (depT one) 0 + 1) 0)) + 1 ≤ D + 2
          omega
        · show 0 + 1 + (0 + 1 + ((sizT one + 1 + 0) + 1 + 0)) ≤ S + 5
          omega
    have := nest_re hc bs q
    rw [List.length_cons]
    exact ⟨this.1, Nat.le_trans this.2.1 (by omega), Nat.le_trans this.2.2 (by omega)⟩
/-- the last step of a nest -/
structure LastOk (N : O13) (one : Tr) : Prop where
  th : thinT one = true
  da : dataT one = true
  de : depT one ≤ 2
  si : sizT one ≤ 9
  an : Ans [N.x, N.y] (P3 N.p N.q N.r) N.c N.t N.g N.new 1 [one] none 1
theorem ok_nest12 {one : Tr} (h : LastOk N one) {bs : List Bool} (hb : bs.length = 12) : PairOk N (.tup [.tup [nestS N.c one bs], .non]) := by
  have A := nest_ans NN.s bs h.an
  rw [hb] at A
  have r := nest_re NN NN.n.hc bs (D := 2) (S := 9) ⟨h.da, h.de, h.si⟩
  refine ⟨_, _, rfl, due_none A (by omega) ?_ ⟨?_, ?_, ?_⟩⟩
  · show (decide ((1 : Nat) ≤ 1000) && (thinT (nestS N.c one bs) && true)) = true
    rw [nest_thin NN bs h.th]; rfl
  · show (dataT (nestS N.c one bs) && true) = true
    rw [r.1]; rfl
  · show max (depT (nestS N.c one bs)) 0 + 1 ≤ 50
    omega
  · show sizT (nestS N.c one bs) + 1 + 0 ≤ 400
    omega
theorem ok_nest13p {one : Tr} (h : LastOk N one) {bs : List Bool} (hb : bs.length = 13) : PairOk N (.tup [.tup [nestS N.c one bs], .tup (intsT (List.replicate 27 0))]) := by
  have A := nest_ans (vars := [N.x, N.y]) (P := P3 N.p N.q N.r) NN.s bs (last_over one)
  rw [hb] at A
  have A : Ans [N.x, N.y] (P3 N.p N.q N.r) N.c N.t N.g N.new 13 [nestS N.c one bs] (some (List.replicate 27 0)) (0 + 13) := A
  refine ⟨_, _, rfl, due_some A (by omega) ?_ (by decide) (by decide)⟩
  show (decide ((1 : Nat) ≤ 1000) && (thinT (nestS N.c one bs) && true)) = true
  rw [nest_thin NN bs h.th]; rfl
theorem last_1 : LastOk N (showS N.x) := ⟨rfl, by
  show (dataT (.str "show") && (dataT (.str N.x) && true)) = true
  rw [da_str, da_str, name_ok NN.n.hx]; decide +kernel, Nat.le_of_ble_eq_true rfl, Nat.le_of_ble_eq_true rfl, fun km n o => by
  obtain ⟨k', e, l⟩ := last_show (x := N.x) (vars := [N.x, N.y]) (P := P3 N.p N.q N.r) (d := 0) NN.n.hx (by simp) km n o
  exact ⟨k', e, by omega⟩⟩
theorem last_2 : LastOk N (guardS []) := ⟨rfl, by decide +kernel, Nat.le_of_ble_eq_true rfl, Nat.le_of_ble_eq_true rfl, fun km n o => by
  obtain ⟨k', e, l⟩ := last_guard (vars := [N.x, N.y]) (P := P3 N.p N.q N.r) (d := 0) km n o
  exact ⟨k', e, by omega⟩⟩
theorem last_3 : LastOk N (makeS N.g N.p) := ⟨rfl, by
  show (dataT (.str "make") && (dataT (.str N.g) && (dataT (.str N.p) && (true && true)))) = true
  rw [da_str, da_str, da_str, name_ok NN.n.hg, name_ok NN.n.hp]; decide +kernel, Nat.le_of_ble_eq_true rfl, Nat.le_of_ble_eq_true rfl, last_make (d := 0) NN.s NN.n.hp (by simp [pget])⟩
end
end BK

set_option Elab.async false
set_option maxRecDepth 100000
set_option maxHeartbeats 8000000
set_option linter.unusedVariables false
/-! _law_odd_right. -/
namespace BK
open PySem PySem.Spec PyProof.Rows L2 SW RZ ET
section
variable {X : Cx} {L : List (Nat × Tr)}
theorem et_pow {i j : Int} {a b : Nat} {q1 q2 pos : Pos} (h : CPow i j) : ETr X L (.BinOp (.Constant (.int i) a q1) .Pow (.Constant (.int j) b q2) pos) (.int (i ^ j.toNat)) := ⟨_, pe_op op_pow pe_int pe_int, fun σ H Q g k => ⟨i, j, rfl, rfl, h, k _ H (fun _ _ e => e) (.int _)⟩⟩
theorem et_powW {e : Expr} {i j : Int} {b : Nat} {q2 pos : Pos} (h : ETr X L e (.int i)) (c : 0 ≤ j ∧ (Builtin.Int.intBits i : Int) * j ≤ 2 ^ 27) : ETr X L (.BinOp e .Pow (.Constant (.int j) b q2) pos) (.int (i ^ j.toNat)) := by
  obtain ⟨te, p, q⟩ := h
  refine ⟨_, pe_op op_powW p pe_int, fun σ H Q g k => q σ H _ g fun v H1 s1 t1 => ?_⟩
  cases t1
  exact ⟨i, j, rfl, rfl, c, k _ H1 s1 (.int _)⟩
end
def leftOf : Expr → Expr
  | .BinOp a _ _ _ => a
  | _ => noE
def compIter : Expr → Expr
  | .ListComp _ [⟨_, it, _, _⟩] _ _ => it
  | _ => noE
def bigI : Int := ((10 : Int) ^ (60 : Int).toNat) ^ (50 : Int).toNat
theorem big_odd : Odd (.int bigI) := int_odd (by decide +kernel)
theorem big_bits : (0 : Int) ≤ 50 ∧ (Builtin.Int.intBits ((10 : Int) ^ (60 : Int).toNat) : Int) * 50 ≤ 2 ^ 27 := by decide +kernel
/-- the steps that an odd thing makes wrong -/
def innerT (x g : Str) (u : Tr) : List Tr := [.tup [.str "set", u, .int 0], .tup [.str "set", .str x, u], .tup [.str "copy", u], .tup [.str "make", .str g, u, .tup []], .tup [.str "make", u, .str g, .tup []], u]
theorem inner_ok {vars : List Str} {P : List (Str × List Str)} {x g : Str} {u : Tr} (h : Odd u) : ∀ one ∈ innerT x g u, thinT one = true ∧ ∀ k, takesS vars P one k = (false, k) := by
  intro one hm
  have t3 : ∀ a b : Tr, thinT a = true → thinT b = true → ∀ s : Str, thinT (.tup [.str s, a, b]) = true := fun a b ha hb s => by
    show (decide ((3 : Nat) ≤ 1000) && (true && (thinT a && (thinT b && true)))) = true
    rw [ha, hb]; rfl
  have t4 : ∀ a b c : Tr, thinT a = true → thinT b = true → thinT c = true → ∀ s : Str, thinT (.tup [.str s, a, b, c]) = true := fun a b c ha hb hc s => by
    show (decide ((4 : Nat) ≤ 1000) && (true && (thinT a && (thinT b && (thinT c && true))))) = true
    rw [ha, hb, hc]; rfl
  simp only [innerT, List.mem_cons, List.not_mem_nil, or_false] at hm
  rcases hm with rfl | rfl | rfl | rfl | rfl | rfl
  · exact ⟨t3 _ _ h.th rfl _, odd_set1 h⟩
  · exact ⟨t3 _ _ rfl h.th _, odd_set2 h⟩
  · refine ⟨?_, odd_copy h⟩
    show (decide ((2 : Nat) ≤ 1000) && (true && (thinT u && true))) = true
    rw [h.th]; rfl
  · exact ⟨t4 _ _ _ rfl h.th rfl _, odd_make1 h⟩
  · exact ⟨t4 _ _ _ h.th rfl rfl _, odd_make2 h⟩
  · exact ⟨h.th, takes_not h.st⟩
section
variable {P : Program} {w : World} {K : PySem.W.Frag} {mg : Str → Option Value} {base : Heap}
theorem ok_odd {f fU fN : Addr} {fdU fdN : FuncData} {oc kV doc pm ct cdv : Value} {od an : Option Addr} {osl : Array (Option Value)} (lk : K.lookup f = some ⟨oc, od, .func (PySem.W.fnOf "_law_odd_right" "_law_odd_right" (defArgs sOdd) (defBody sOdd) (defScope sOdd) .none kV doc pm an cdv ct), osl⟩)
    (hcd : PySem.W.codeIn K cdv "_law_odd_right" = true) (mG : mg "range" = none) (mI : mg "isinstance" = none) (mT : mg "tuple" = none)
    (GU : FnG P w K mg base 23 fU fdU ["book", "thing", "place"] (spDueP K)) (bU : Binds K fdU ["book", "thing", "place"] []) (gU : mg "_law_due_right" = some (.ref fU)) (kU : PySem.W.keepIn K (.ref fU) = true)
    (GN : FnOk P w K mg base CX0 3 fN fdN ["state", "own", "many", "one"] (spNest K)) (bN : Binds K fdN ["state", "own", "many", "one"] []) (gN : mg "_law_nested" = some (.ref fN)) (kN : PySem.W.keepIn K (.ref fN) = true) :
    FnG P w K mg base 24 f (PySem.W.fnOf "_law_odd_right" "_law_odd_right" (defArgs sOdd) (defBody sOdd) (defScope sOdd) .none kV doc pm an cdv ct) ["state", "own"] (spOdd K) := by
  refine fng_of lk hcd scOdd (fun vs H Q E h => ?_) (fun A outer s H vs Q E gd hr h => ?_)
  · obtain ⟨a, n, o, N, rfl, _⟩ := h
    rfl
  · obtain ⟨a, n, o, N, rfl, R, hn, O, NN, k⟩ := h
    have hu := hu_of hr
    have hr3 : Room 3 _ := hr.mono (by decide)
    have gd' : (A.deeper (envOfC "_law_odd_right" (defScope sOdd) s.heap.objs.size f cdv)).guards = some [] := gd
    obtain ⟨d0, ed0, od0, od1⟩ := deep_3000
    obtain ⟨w0, ew0, ow0⟩ := wide_60
    have d4 : ETr (cxOf CX0 P w K mg base nOdd "_law_odd_right" (defScope sOdd) f cdv A outer s H E).nox [(3, .str N.x)] (compIter (leftOf (valueOf (stAt sOdd 4)))) (.tup [.non, .int 5, .str "", .str "show", .lst, .dct, .lst, .int ((10 : Int) ^ (30 : Int).toNat), .bl true]) :=
      et_tup (ea_cons et_non (ea_cons et_int (ea_cons et_str (ea_cons et_str (ea_cons (et_lst ea_nil) (ea_cons et_dct (ea_cons (et_lst (ea_cons (et_tup (ea_cons et_str (ea_cons (et_var (pv 3) (.head _)) ea_nil))) ea_nil)) (ea_cons (et_pow ⟨by decide, by decide, by decide⟩) (ea_cons et_bl ea_nil)))))))))
    obtain ⟨te4, p4, r4⟩ := d4
    have d5 : ELi (cxOf CX0 P w K mg base nOdd "_law_odd_right" (defScope sOdd) f cdv A outer s H E).nox [(3, .str N.x), (6, .tup [d0]), (7, .tup [w0, w0])] (rightOf (valueOf (stAt sOdd 5))) [.tup [.tup [d0], .tup [.int 0]], .tup [.tup [showS N.x, guardS [d0]], .tup [.int 1, .int 0, .int 0]], .tup [.tup [w0, w0], .tup [.int 0]]] :=
      el_disp (ea_cons (et_tup (ea_cons (et_var (pv 6) (.tail _ (.head _))) (ea_cons (et_tup (ea_cons et_int ea_nil)) ea_nil)))
        (ea_cons (et_tup (ea_cons (et_tup (ea_cons (et_tup (ea_cons et_str (ea_cons (et_var (pv 3) (.head _)) ea_nil))) (ea_cons (et_tup (ea_cons et_str (ea_cons (et_var (pv 6) (.tail _ (.head _))) ea_nil))) ea_nil))) (ea_cons (et_tup (ea_cons et_int (ea_cons et_int (ea_cons et_int ea_nil)))) ea_nil)))
        (ea_cons (et_tup (ea_cons (et_var (pv 7) (.tail _ (.tail _ (.head _)))) (ea_cons (et_tup (ea_cons et_int ea_nil)) ea_nil))) ea_nil)))
    obtain ⟨te5, p5, r5⟩ := d5
    have d6 : ETr (cxOf CX0 P w K mg base nOdd "_law_odd_right" (defScope sOdd) f cdv A outer s H E).nox [(5, .str N.g)] (argOf (valueOf (stAt sOdd 6))) (.tup [.tup [stepS N.g, copyS N.g, .non], .tup [.int 1]]) :=
      et_tup (ea_cons (et_tup (ea_cons (et_tup (ea_cons et_str (ea_cons (et_var (pv 5) (.head _)) ea_nil))) (ea_cons (et_tup (ea_cons et_str (ea_cons (et_var (pv 5) (.head _)) ea_nil))) (ea_cons et_non ea_nil)))) (ea_cons (et_tup (ea_cons et_int ea_nil)) ea_nil))
    obtain ⟨te6, p6, r6⟩ := d6
    have d7 : ETr (cxOf CX0 P w K mg base nOdd "_law_odd_right" (defScope sOdd) f cdv A outer s H E).nox [(6, .tup [d0]), (7, .tup [w0, w0])] (iterOf (stAt sOdd 7)) (.tup [.tup [d0], .tup [w0, w0], .lst, .dct, .tup [.tup [d0], .lst], .int bigI]) :=
      et_tup (ea_cons (et_var (pv 6) (.head _)) (ea_cons (et_var (pv 7) (.tail _ (.head _))) (ea_cons (et_lst ea_nil) (ea_cons et_dct (ea_cons (et_tup (ea_cons (et_var (pv 6) (.head _)) (ea_cons (et_lst ea_nil) ea_nil))) (ea_cons (et_powW (et_pow ⟨by decide, by decide, by decide⟩) big_bits) ea_nil))))))
    obtain ⟨te7, p7, r7⟩ := d7
    have d71 : ∀ u : Tr, ∃ te, PE (cxOf CX0 P w K mg base nOdd "_law_odd_right" (defScope sOdd) f cdv A outer s H E).nox (iterOf (bodyAt (stAt sOdd 7) 0)) te ∧ True := fun _ => ⟨_, pe_tup (pa_cons (pe_tup (pa_cons pe_str (pa_cons (pv 10) (pa_cons pe_int pa_nil)))) (pa_cons (pe_tup (pa_cons pe_str (pa_cons (pv 3) (pa_cons (pv 10) pa_nil)))) (pa_cons (pe_tup (pa_cons pe_str (pa_cons (pv 10) pa_nil))) (pa_cons (pe_tup (pa_cons pe_str (pa_cons (pv 5) (pa_cons (pv 10) (pa_cons (pe_tup pa_nil) pa_nil))))) (pa_cons (pe_tup (pa_cons pe_str (pa_cons (pv 10) (pa_cons (pv 5) (pa_cons (pe_tup pa_nil) pa_nil))))) (pa_cons (pv 10) pa_nil)))))), trivial⟩
    clear d71
    refine ⟨_, (C8.pss_cut (ps_asg (pe_tup (pa_cons (pe_dget hu (pv 1) pe_str (fun _ _ => rfl)) (pa_cons (pe_dget hu (pv 1) pe_str (fun _ _ => rfl)) (pa_cons (pe_dget hu (pv 1) pe_str (fun _ _ => rfl)) (pa_cons (pe_dget hu (pv 1) pe_str (fun _ _ => rfl)) pa_nil))))) (pg_tup rfl (pgs_cons (pg_name (i := 2) scOdd.nd rfl (Or.inr rfl)) (pgs_cons (pg_name (i := 3) scOdd.nd rfl (Or.inl rfl)) (pgs_cons (pg_name (i := 4) scOdd.nd rfl (Or.inl rfl)) (pgs_cons (pg_name (i := 5) scOdd.nd rfl (Or.inl rfl)) pgs_nil))))))
      (C8.pss_cut (ps_asg (pe_tup (pa_cons (pe_tup pa_nil) (pa_cons (pe_tup (pa_cons (pe_tup pa_nil) (pa_cons (pe_tup pa_nil) pa_nil))) pa_nil))) (pg_tup rfl (pgs_cons (pg_name (i := 6) scOdd.nd rfl (Or.inl rfl)) (pgs_cons (pg_name (i := 7) scOdd.nd rfl (Or.inl rfl)) pgs_nil))))
      (C8.pss_cut (ps_for PassesOwn.never rfl (pi_range1 rfl mG (pa_cons pe_int pa_nil)) (pg_name (i := 8) scOdd.nd rfl (Or.inl rfl)) (pss_one (ps_set (i := 6) scOdd.nd rfl (Or.inl rfl) (pe_tup (pa_cons (pv 6) pa_nil)))))
      (C8.pss_cut (ps_for PassesOwn.never rfl (pi_range1 rfl mG (pa_cons pe_int pa_nil)) (pg_name (i := 8) scOdd.nd rfl (Or.inl rfl)) (pss_one (ps_set (i := 7) scOdd.nd rfl (Or.inl rfl) (pe_tup (pa_cons (pv 7) (pa_cons (pv 7) pa_nil))))))
      (C8.pss_cut (ps_set (i := 9) scOdd.nd rfl (Or.inl rfl) (pe_op op_cat (pe_lc (own := [("odd", 10)]) (g := gName 10) (tt := tYes) rfl scOdd.nd (pi_tup p4) (blkOk_by (N := nOdd) (sc := defScope sOdd) (by decide +kernel)) (fun _ _ _ _ _ => pg_name (i := 10) scOdd.nd rfl (Or.inl rfl)) (fun _ _ _ _ _ => pts_nil) (fun _ _ _ _ _ => pe_tup (pa_cons (pv 10) (pa_cons (pe_tup pa_nil) pa_nil)))) (pe_lst (pa_cons (pe_tup (pa_cons (pe_tup pa_nil) (pa_cons pe_non pa_nil))) pa_nil))))
      (C8.pss_cut (ps_set (i := 9) scOdd.nd rfl (Or.inl rfl) (pe_op op_cat (pv 9) p5))
      (C8.pss_cut (ps_expr (pe_bm PySem.F.plainAttrs_list PySem.F.slot_list_append PySem.F.type_list_append mt_append (pv 9) (pa_cons p6 pa_nil)))
      (C8.pss_cut (ps_for PassesOwn.never rfl (pi_tup p7) (pg_name (i := 10) scOdd.nd rfl (Or.inl rfl)) (C8.pss_cut (ps_for PassesOwn.never rfl (pi_tup (pe_tup (pa_cons (pe_tup (pa_cons pe_str (pa_cons (pv 10) (pa_cons pe_int pa_nil)))) (pa_cons (pe_tup (pa_cons pe_str (pa_cons (pv 3) (pa_cons (pv 10) pa_nil)))) (pa_cons (pe_tup (pa_cons pe_str (pa_cons (pv 10) pa_nil))) (pa_cons (pe_tup (pa_cons pe_str (pa_cons (pv 5) (pa_cons (pv 10) (pa_cons (pe_tup pa_nil) pa_nil))))) (pa_cons (pe_tup (pa_cons pe_str (pa_cons (pv 10) (pa_cons (pv 5) (pa_cons (pe_tup pa_nil) pa_nil))))) (pa_cons (pv 10) pa_nil)))))))) (pg_name (i := 11) scOdd.nd rfl (Or.inl rfl)) (pss_one (ps_expr (pe_bm PySem.F.plainAttrs_list PySem.F.slot_list_append PySem.F.type_list_append mt_append (pv 9) (pa_cons (pe_tup (pa_cons (pe_tup (pa_cons (pe_tup (pa_cons pe_str (pa_cons (pv 3) pa_nil))) (pa_cons (pv 11) pa_nil))) (pa_cons (pe_tup (pa_cons pe_int pa_nil)) pa_nil))) pa_nil))))) (C8.pss_cut (ps_expr (pe_bm PySem.F.plainAttrs_list PySem.F.slot_list_append PySem.F.type_list_append mt_append (pv 9) (pa_cons (pe_tup (pa_cons (pe_tup (pa_cons (pe_tup (pa_cons pe_str (pa_cons (pv 5) (pa_cons (pe_ix ix_list (pe_dget hu (pv 1) pe_str (fun _ _ => rfl)) pe_int (fun _ _ => rfl)) (pa_cons (pe_tup (pa_cons (pv 4) (pa_cons (pv 10) pa_nil))) pa_nil))))) pa_nil)) (pa_cons (pe_tup (pa_cons pe_int pa_nil)) pa_nil))) pa_nil))) (pss_one (ps_expr (pe_bm PySem.F.plainAttrs_list PySem.F.slot_list_append PySem.F.type_list_append mt_append (pv 9) (pa_cons (pe_tup (pa_cons (pe_tup (pa_cons (pe_tup (pa_cons pe_str (pa_cons (pv 4) (pa_cons (pv 10) pa_nil)))) pa_nil)) (pa_cons (pe_ifExp (pt_val (pe_callB call_isi (by rfl) mI boot_isinstance (pa_cons (pv 10) (pa_cons (pe_bltn (v := .ty "tuple") (u := .type "tuple") (by rfl) mT (by decide +kernel) rfl) pa_nil)))) (pe_tup (pa_cons pe_int (pa_cons pe_int (pa_cons pe_int pa_nil)))) (pe_tup (pa_cons pe_int pa_nil))) pa_nil))) pa_nil)))))))
      (C8.pss_cut (ps_for PassesOwn.never rfl (pi_tup (pe_tup (pa_cons (pe_tup (pa_cons pe_str (pa_cons (pv 3) pa_nil))) (pa_cons (pe_tup (pa_cons pe_str (pa_cons (pe_tup pa_nil) pa_nil))) (pa_cons (pe_tup (pa_cons pe_str (pa_cons (pv 5) (pa_cons (pe_ix ix_list (pe_dget hu (pv 1) pe_str (fun _ _ => rfl)) pe_int (fun _ _ => rfl)) (pa_cons (pe_tup pa_nil) pa_nil))))) pa_nil))))) (pg_name (i := 12) scOdd.nd rfl (Or.inl rfl)) (C8.pss_cut (ps_expr (pe_bm PySem.F.plainAttrs_list PySem.F.slot_list_append PySem.F.type_list_append mt_append (pv 9) (pa_cons (pe_tup (pa_cons (pe_call GN hr3 rfl gN kN bN .nil pass0 (pa_cons (pv 0) (pa_cons (pv 1) (pa_cons pe_int (pa_cons (pv 12) pa_nil))))) (pa_cons pe_non pa_nil))) pa_nil))) (pss_one (ps_expr (pe_bm PySem.F.plainAttrs_list PySem.F.slot_list_append PySem.F.type_list_append mt_append (pv 9) (pa_cons (pe_tup (pa_cons (pe_call GN hr3 rfl gN kN bN .nil pass0 (pa_cons (pv 0) (pa_cons (pv 1) (pa_cons pe_int (pa_cons (pv 12) pa_nil))))) (pa_cons (pe_op op_catA (pe_tup (pa_cons pe_int pa_nil)) (pe_op op_repA (pe_tup (pa_cons pe_int (pa_cons pe_int pa_nil))) pe_int)) pa_nil))) pa_nil))))))
      (pss_one (ps_ret (pe_cmpR (op_eqD hr.units) (pe_lc (own := [("thing", 13), ("place", 14)]) (g := gTup K 2 (gCons (gName 13) (gCons (gName 14) gNil))) (te := tC (.int 1)) (tt := tNot (tB (tCall (spDueP K) [] E0 (tCons (tVar 2) (tCons (tVar 13) (tCons (tVar 14) tNil)))))) rfl scOdd.nd (pi_list (pv 9)) (blkOk_by (N := nOdd) (sc := defScope sOdd) (by decide +kernel)) (fun _ _ _ _ _ => by exact pg_tup rfl (pgs_cons (pg_name (i := 13) scOdd.nd rfl (Or.inl rfl)) (pgs_cons (pg_name (i := 14) scOdd.nd rfl (Or.inl rfl)) pgs_nil))) (fun _ _ _ _ _ => pts_one (pt_not (pt_val (by exact pe_callG GU gd' hr rfl gU kU bU (pa_cons (pv 2) (pa_cons (pv 13) (pa_cons (pv 14) pa_nil))))))) (fun _ _ _ _ _ => pe_int)) (pe_lst pa_nil) (nomark _))))))))))))), ?_⟩
    have one' : 1 ≤ sizeLine := by decide
    have two' : 2 ≤ sizeLine := by decide
    have three' : 3 ≤ sizeLine := by decide
    have four' : 4 ≤ sizeLine := by decide
    have six' : 6 ≤ sizeLine := by decide
    have lx := O.h.lx
    have lc := O.h.lc
    have lg := O.h.lg
    have lp := O.h.lp
    have lq := O.h.lq
    -- book, x, c, g
    refine ⟨fun σ H1 => σ = [some (.ref a.s), some (.ref o), some N.bv, some (.str N.x), some (.str N.c), some (.str N.g), none, none, none, none, none, none, none, none, none] ∧ Same H H1, ?_, ?_⟩
    · refine ⟨_, rfl, o, _, rfl, on_book ▸ DGet.k (k := Sum.inr "book") O.h.od, ?_⟩
      refine ⟨_, rfl, o, _, rfl, on_x ▸ DGet.k (k := Sum.inr "x") O.h.od, ?_⟩
      refine ⟨_, rfl, o, _, rfl, on_c ▸ DGet.k (k := Sum.inr "c") O.h.od, ?_⟩
      refine ⟨_, rfl, o, _, rfl, on_g ▸ DGet.k (k := Sum.inr "g") O.h.od, ?_⟩
      exact ⟨four', fun p np => ⟨p, _, rfl, SqT.of upd_same, rfl, _, _, rfl, _, _, rfl, _, _, rfl, _, _, rfl, rfl, rfl, same_new np⟩⟩
    rintro σ H1 ⟨rfl, s1⟩
    -- deep, wide
    refine ⟨fun σ H2 => ∃ v6 v7 : V, σ = [some (.ref a.s), some (.ref o), some N.bv, some (.str N.x), some (.str N.c), some (.str N.g), some v6, some v7, none, none, none, none, none, none, none] ∧ Same H H2 ∧ TrAt K H2 v6 (deepT 0) ∧ TrAt K H2 v7 (wideT 0), ?_, ?_⟩
    · refine ⟨Nat.zero_le _, fun q1 n1 => ⟨Nat.zero_le _, fun q2 n2 => ⟨Nat.zero_le _, fun q3 n3 => ⟨two', fun q4 n4 => ⟨two', fun q5 n5 => ⟨q5, _, rfl, SqT.of upd_same, rfl, _, _, rfl, _, _, rfl, rfl, ?_⟩⟩⟩⟩⟩⟩
      obtain ⟨a1, b1⟩ := new_tr (K := K) n1 .nil
      generalize upd H1 q1 (.tup []) = F1 at a1 b1 n2 n3 n4 n5 ⊢
      obtain ⟨a2, b2⟩ := new_tr (K := K) n2 .nil
      generalize upd F1 q2 (.tup []) = F2 at a2 b2 n3 n4 n5 ⊢
      obtain ⟨a3, b3⟩ := new_tr (K := K) n3 .nil
      generalize upd F2 q3 (.tup []) = F3 at a3 b3 n4 n5 ⊢
      obtain ⟨a4, b4⟩ := new_tr n4 (.cons (b2.same a3) (.cons b3 .nil))
      generalize upd F3 q4 (.tup [.ref q2, .ref q3]) = F4 at a4 b4 n5 ⊢
      have a5 := same_new (o := .tup [.ref q1, .ref q4]) n5
      exact ⟨.ref q1, .ref q4, rfl, s1.trans (((a1.trans a2).trans (a3.trans a4)).trans a5), b1.same (((a2.trans a3).trans a4).trans a5), b4.same a5⟩
    rintro σ H2 ⟨v6, v7, rfl, s2, t6, t7⟩
    clear s1
    -- deep
    refine ⟨fun σ H3 => ∃ (v6 : V) (v8 : Option V), σ = [some (.ref a.s), some (.ref o), some N.bv, some (.str N.x), some (.str N.c), some (.str N.g), some v6, some v7, v8, none, none, none, none, none, none] ∧ Same H2 H3 ∧ TrAt K H3 v6 (deepT 3000), ?_, ?_⟩
    · refine ⟨_, rfl, by decide, by decide, for_range (lo := 0) (n := (3000 : Int).toNat) (fun i σ H3 => ∃ (v6 : V) (v8 : Option V), σ = [some (.ref a.s), some (.ref o), some N.bv, some (.str N.x), some (.str N.c), some (.str N.g), some v6, some v7, v8, none, none, none, none, none, none] ∧ Same H2 H3 ∧ TrAt K H3 v6 (deepT i))
        ⟨v6, none, rfl, fun _ _ e => e, t6⟩ ?_ (fun σ H3 h => h)⟩
      rintro i σ H3 hi ⟨v6, v8, rfl, s3, t6⟩
      refine ⟨_, rfl, one', fun q1 n1 => ?_⟩
      obtain ⟨a1, b1⟩ := new_tr n1 (.cons t6 .nil)
      exact ⟨_, _, rfl, s3.trans a1, b1⟩
    rintro σ H3 ⟨v6', v8, rfl, s3, t6⟩
    rw [ed0] at t6
    have t7 := t7.same s3
    -- wide
    refine ⟨fun σ H4 => ∃ (v7 : V) (v8 : Option V), σ = [some (.ref a.s), some (.ref o), some N.bv, some (.str N.x), some (.str N.c), some (.str N.g), some v6', some v7, v8, none, none, none, none, none, none] ∧ Same H3 H4 ∧ TrAt K H4 v7 (wideT 60), ?_, ?_⟩
    · refine ⟨_, rfl, by decide, by decide, for_range (lo := 0) (n := (60 : Int).toNat) (fun i σ H4 => ∃ (v7 : V) (v8 : Option V), σ = [some (.ref a.s), some (.ref o), some N.bv, some (.str N.x), some (.str N.c), some (.str N.g), some v6', some v7, v8, none, none, none, none, none, none] ∧ Same H3 H4 ∧ TrAt K H4 v7 (wideT i))
        ⟨v7, v8, rfl, fun _ _ e => e, t7⟩ ?_ (fun σ H3 h => h)⟩
      rintro i σ H4 hi ⟨v7, v8, rfl, s4, t7⟩
      refine ⟨_, rfl, _, rfl, two', fun q1 n1 => ?_⟩
      obtain ⟨a1, b1⟩ := new_tr n1 (.cons t7 (.cons t7 .nil))
      exact ⟨_, _, rfl, s4.trans a1, b1⟩
    rintro σ H4 ⟨v7', v8, rfl, s4, t7⟩
    rw [ew0] at t7
    have t6 := t6.same s4
    have s04 : Same H H4 := (s2.trans s3).trans s4
    clear s2 s3 s4
    -- some
    refine ⟨fun σ H5 => ∃ D, σ = [some (.ref a.s), some (.ref o), some N.bv, some (.str N.x), some (.str N.c), some (.str N.g), some v6', some v7', v8, some (.ref D), none, none, none, none, none] ∧ Same H4 H5 ∧ H4 D = none ∧ Coll K N H5 D 12, ?_, ?_⟩
    · refine r4 _ _ _ (fun pp hp => ?_) fun v H5 s5 t5 => ?_
      · simp only [List.mem_cons, List.not_mem_nil, or_false] at hp
        subst hp
        exact ⟨_, rfl, .str _ lx⟩
      cases t5 with
      | @tup ia xs _ hia tia =>
      have xl := tia.len
      refine ⟨ia, rfl, ⟨_, hia⟩, fun D nD => ?_⟩
      refine lc_it (walk_tup (K := K) (a := ia) (xs := xs)) (fun i H6 => Same H5 H6 ∧ Coll K N H6 D i) ⟨same_new nD, [], [], upd_same, .nil, Nat.le_refl _, fun p h => (by cases h)⟩ (fun i H6 _ ⟨s6, _⟩ => sqt_same s6 hia) ?_ ?_
      · rintro i y Hx H6 hi ⟨s6, C6⟩ ⟨rfl, hy⟩
        obtain ⟨u, hu', tu⟩ := (tia.same s6).get hy
        have il : i < 9 := (List.getElem?_eq_some_iff.mp hu').1
        have hm := List.mem_of_getElem? hu'
        have hok : thinT u = true ∧ isTup u = false := by
          simp only [List.mem_cons, List.not_mem_nil, or_false] at hm
          rcases hm with rfl | rfl | rfl | rfl | rfl | rfl | rfl | rfl | rfl <;> exact ⟨rfl, rfl⟩
        refine ⟨rfl, ?_⟩
        refine tyes ?_
        refine ⟨_, rfl, Nat.zero_le _, fun q1 n1 => ⟨two', fun q2 n2 => ?_⟩⟩
        obtain ⟨a1, b1⟩ := new_tr (K := K) n1 .nil
        generalize upd H6 q1 (.tup []) = F1 at a1 b1 n2 ⊢
        obtain ⟨a2, b2⟩ := new_tr n2 (.cons (tu.same a1) (.cons b1 .nil))
        generalize upd F1 q2 (.tup [y, .ref q1]) = F2 at a2 b2 ⊢
        obtain ⟨vs, e, sz, C', _⟩ := (C6.same (a1.trans a2)).push b2 (ok_first NN hok.1 hok.2) (by omega)
        refine ⟨vs, e, sz, fun b u eb => ?_, C'⟩
        rw [upd_ne (ne_of_none eb nD)]
        exact a2 _ _ (a1 _ _ (s6 _ _ eb))
      · rintro H6 ⟨s6, us, ts, eD, tus, hl, hok⟩
        refine ⟨Nat.zero_le _, fun q1 n1 => ⟨two', fun q2 n2 => ⟨one', fun q3 n3 => ?_⟩⟩⟩
        obtain ⟨a1, b1⟩ := new_tr (K := K) n1 .nil
        generalize upd H6 q1 (.tup []) = F1 at a1 b1 n2 n3 ⊢
        obtain ⟨a2, b2⟩ := new_tr n2 (.cons b1 (.cons .non .nil))
        generalize upd F1 q2 (.tup [.ref q1, .non]) = F2 at a2 b2 n3 ⊢
        have a3 := same_new (o := .lst [.ref q2]) n3
        have e3 : (upd F2 q3 (.lst [.ref q2])) q3 = some (.lst [.ref q2]) := upd_same
        generalize upd F2 q3 (.lst [.ref q2]) = F3 at a3 e3 ⊢
        have a13 := (a1.trans a2).trans a3
        have ul := tus.len
        have hx9 : ts.length ≤ 9 := Nat.le_trans hl (by rw [xl]; exact Nat.le_refl _)
        refine ⟨D, q3, us, _, rfl, rfl, a13 _ _ eD, e3, by rw [sizeLine_eq]; simp; omega, fun L nL => ?_⟩
        have aL := same_new (o := .lst (us ++ [.ref q2])) nL
        have s5L := ((s5.trans s6).trans a13)
        refine ⟨L, rfl, s5L.trans aL, s5L.free nL, us ++ [.ref q2], ts ++ [.tup [.tup [], .non]], upd_same, (((tus.same a13).app (.cons (b2.same a3) .nil)).same aL), by rw [List.length_append]; simp; omega, fun p hp => ?_⟩
        rcases List.mem_append.mp hp with hp | hp
        · exact hok p hp
        · rw [List.mem_singleton.mp hp]; exact ok_empty13 NN
    rintro σ H5 ⟨D0, rfl, s5, nD0, C5⟩
    have s05 := s04.trans s5
    have t65 := t6.same s5
    have t75 := t7.same s5
    -- some + ..
    refine ⟨fun σ H6 => ∃ D, σ = [some (.ref a.s), some (.ref o), some N.bv, some (.str N.x), some (.str N.c), some (.str N.g), some v6', some v7', v8, some (.ref D), none, none, none, none, none] ∧ Same H5 H6 ∧ H5 D = none ∧ Coll K N H6 D 15, ?_, ?_⟩
    · obtain ⟨us, ts, eD, tus, hl, hok⟩ := C5
      refine ⟨_, rfl, ?_⟩
      refine r5 _ _ _ (fun pp hp => ?_) fun q vs H6 s6 nq eq tq => ?_
      · simp only [List.mem_cons, List.not_mem_nil, or_false] at hp
        rcases hp with rfl | rfl | rfl
        · exact ⟨_, rfl, .str _ lx⟩
        · exact ⟨_, rfl, t65⟩
        · exact ⟨_, rfl, t75⟩
      have ul := tus.len
      have vl := tq.len
      have vl : vs.length = 3 := vl
      refine ⟨D0, q, us, vs, rfl, rfl, s6 _ _ eD, eq, by rw [sizeLine_eq]; omega, fun L nL => ?_⟩
      have aL := same_new (o := .lst (us ++ vs)) nL
      refine ⟨L, rfl, s6.trans aL, s6.free nL, us ++ vs, ts ++ _, upd_same, (((tus.same s6).app tq).same aL), by rw [List.length_append]; simp; omega, fun p hp => ?_⟩
      rcases List.mem_append.mp hp with hp | hp
      · exact hok p hp
      · simp only [List.mem_cons, List.not_mem_nil, or_false] at hp
        rcases hp with rfl | rfl | rfl
        · exact ok_whole NN od0
        · exact ok_in NN od0
        · exact ok_whole NN ow0
    rintro σ H6 ⟨D, rfl, s6, nD, C6⟩
    have s06 := s05.trans s6
    have t66 := t65.same s6
    have t76 := t75.same s6
    have nDH : H D = none := s05.free nD
    have keepS : ∀ {Hc : Hp} {o : HO}, Same H Hc → Same H (upd Hc D o) := fun {Hc o} sc b u e => by
      rw [upd_ne (ne_of_none e nDH)]
      exact sc b u e
    clear s05 s5 s6 C5 t65 t75
    -- some.append
    refine ⟨fun σ H7 => σ = [some (.ref a.s), some (.ref o), some N.bv, some (.str N.x), some (.str N.c), some (.str N.g), some v6', some v7', v8, some (.ref D), none, none, none, none, none] ∧ Same H H7 ∧ Coll K N H7 D 16 ∧ Kp K H6 H7, ?_, ?_⟩
    · obtain ⟨us, ts, eD, _⟩ := id C6
      refine ⟨_, rfl, .inl ⟨rfl, _, SqL.of eD⟩, ?_⟩
      refine r6 _ _ _ (fun pp hp => ?_) fun v H7 s7 tv => ?_
      · simp only [List.mem_cons, List.not_mem_nil, or_false] at hp
        subst hp
        exact ⟨_, rfl, .str _ lg⟩
      obtain ⟨vs, e, sz, C', kp⟩ := (C6.same s7).push tv (ok_two NN) (by omega)
      exact ⟨D, vs, v, rfl, rfl, e, sz, rfl, keepS (s06.trans s7), C', (Kp.of s7).trans kp⟩
    rintro σ H7 ⟨rfl, s07, C7, kp7⟩
    have t67 := kp7.t _ _ t66
    have t77 := kp7.t _ _ t76
    clear t6 t7 t66 t76 kp7 C6 s06
    -- the odd things
    refine ⟨fun σ H8 => ∃ v10 v11 : Option V, σ = [some (.ref a.s), some (.ref o), some N.bv, some (.str N.x), some (.str N.c), some (.str N.g), some v6', some v7', v8, some (.ref D), v10, v11, none, none, none] ∧ Same H H8 ∧ Coll K N H8 D 80, ?_, ?_⟩
    · refine r7 _ _ _ (fun pp hp => ?_) fun v H8 s8 t8 => ?_
      · simp only [List.mem_cons, List.not_mem_nil, or_false] at hp
        rcases hp with rfl | rfl
        · exact ⟨_, rfl, t67⟩
        · exact ⟨_, rfl, t77⟩
      cases t8 with
      | @tup ia xs _ hia tia =>
      have xl : xs.length = 6 := tia.len
      refine ⟨ia, rfl, ⟨_, hia⟩, for_it (walk_tup (K := K) (a := ia) (xs := xs)) (fun i σ Hc => ∃ v10 v11 : Option V, σ = [some (.ref a.s), some (.ref o), some N.bv, some (.str N.x), some (.str N.c), some (.str N.g), some v6', some v7', v8, some (.ref D), v10, v11, none, none, none] ∧ Same H Hc ∧ Coll K N Hc D (16 + 8 * i) ∧ Kp K H8 Hc)
        ⟨none, none, rfl, s07.trans s8, C7.same s8, Kp.refl⟩ (fun i σ Hc _ ⟨_, _, _, _, _, kp⟩ => kp.s _ _ hia) ?_ ?_⟩
      · rintro i y σ Hx Hc hi ⟨v10, v11, rfl, sc, C, kp⟩ ⟨rfl, hy⟩
        obtain ⟨u, hu', tu⟩ := tia.get hy
        have il : i < 6 := (List.getElem?_eq_some_iff.mp hu').1
        have hm := List.mem_of_getElem? hu'
        have hodd : Odd u := by
          simp only [List.mem_cons, List.not_mem_nil, or_false] at hm
          rcases hm with rfl | rfl | rfl | rfl | rfl | rfl
          · exact od0
          · exact ow0
          · exact lst_odd
          · exact dct_odd
          · exact od1
          · exact big_odd
        have tu := kp.t _ _ tu
        -- within
        refine ⟨fun σ Hd => ∃ v11 : Option V, σ = [some (.ref a.s), some (.ref o), some N.bv, some (.str N.x), some (.str N.c), some (.str N.g), some v6', some v7', v8, some (.ref D), some y, v11, none, none, none] ∧ Same H Hd ∧ Coll K N Hd D (16 + 8 * i + 6) ∧ Kp K Hc Hd, ?_, ?_⟩
        · refine ⟨_, rfl, three', fun q1 n1 => ⟨_, rfl, _, rfl, three', fun q2 n2 => ⟨_, rfl, two', fun q3 n3 => ⟨_, rfl, _, rfl, Nat.zero_le _, fun q4 n4 => ⟨four', fun q5 n5 => ⟨_, rfl, _, rfl, Nat.zero_le _, fun q6 n6 => ⟨four', fun q7 n7 => ⟨_, rfl, six', fun q8 n8 => ?_⟩⟩⟩⟩⟩⟩⟩⟩
          obtain ⟨a1, b1⟩ := new_tr (K := K) n1 (.cons (.str "set" (by decide)) (.cons tu (.cons (.int 0) .nil)))
          generalize upd Hc q1 (.tup [.str "set", y, .int 0]) = F1 at a1 b1 n2 n3 n4 n5 n6 n7 n8 ⊢
          obtain ⟨a2, b2⟩ := new_tr (K := K) n2 (.cons (.str "set" (by decide)) (.cons (.str N.x lx) (.cons (tu.same a1) .nil)))
          have a12 := a1.trans a2
          generalize upd F1 q2 (.tup [.str "set", .str N.x, y]) = F2 at a2 b2 a12 n3 n4 n5 n6 n7 n8 ⊢
          obtain ⟨a3, b3⟩ := new_tr (K := K) n3 (.cons (.str "copy" (by decide)) (.cons (tu.same a12) .nil))
          have a13 := a12.trans a3
          generalize upd F2 q3 (.tup [.str "copy", y]) = F3 at a3 b3 a13 n4 n5 n6 n7 n8 ⊢
          obtain ⟨a4, b4⟩ := new_tr (K := K) n4 .nil
          have a14 := a13.trans a4
          generalize upd F3 q4 (.tup []) = F4 at a4 b4 a14 n5 n6 n7 n8 ⊢
          obtain ⟨a5, b5⟩ := new_tr (K := K) n5 (.cons (.str "make" (by decide)) (.cons (.str N.g lg) (.cons (tu.same a14) (.cons b4 .nil))))
          have a15 := a14.trans a5
          generalize upd F4 q5 (.tup [.str "make", .str N.g, y, .ref q4]) = F5 at a5 b5 a15 n6 n7 n8 ⊢
          obtain ⟨a6, b6⟩ := new_tr (K := K) n6 .nil
          have a16 := a15.trans a6
          generalize upd F5 q6 (.tup []) = F6 at a6 b6 a16 n7 n8 ⊢
          obtain ⟨a7, b7⟩ := new_tr (K := K) n7 (.cons (.str "make" (by decide)) (.cons (tu.same a16) (.cons (.str N.g lg) (.cons b6 .nil))))
          have a17 := a16.trans a7
          generalize upd F6 q7 (.tup [.str "make", y, .str N.g, .ref q6]) = F7 at a7 b7 a17 n8 ⊢
          have b1 := b1.same ((((a2.trans a3).trans (a4.trans a5)).trans a6).trans a7)
          have b2 := b2.same (((a3.trans (a4.trans a5)).trans a6).trans a7)
          have b3 := b3.same (((a4.trans a5).trans a6).trans a7)
          have b5 := b5.same (a6.trans a7)
          obtain ⟨a8, b8⟩ := new_tr n8 (.cons b1 (.cons b2 (.cons b3 (.cons b5 (.cons b7 (.cons (tu.same a17) .nil))))))
          have a18 := a17.trans a8
          have b8 : TrAt K _ (.ref q8) (.tup (innerT N.x N.g u)) := b8
          generalize upd F7 q8 (.tup [.ref q1, .ref q2, .ref q3, .ref q5, .ref q7, y]) = F8 at a8 b8 a18 ⊢
          cases b8 with
          | @tup _ zs _ hin tin =>
          have zl : zs.length = 6 := tin.len
          refine ⟨q8, rfl, ⟨_, hin⟩, for_it (walk_tup (K := K) (a := q8) (xs := zs)) (fun j σ Hd => ∃ v11 : Option V, σ = [some (.ref a.s), some (.ref o), some N.bv, some (.str N.x), some (.str N.c), some (.str N.g), some v6', some v7', v8, some (.ref D), some y, v11, none, none, none] ∧ Same H Hd ∧ Coll K N Hd D (16 + 8 * i + j) ∧ Kp K F8 Hd)
            ⟨v11, rfl, sc.trans a18, C.same a18, Kp.refl⟩ (fun j σ Hd _ ⟨_, _, _, _, kd⟩ => kd.s _ _ hin) ?_ ?_⟩
          · rintro j z σ Hy Hd hj ⟨v11, rfl, sd, Cd, kd⟩ ⟨rfl, hz⟩
            obtain ⟨one, ho, tone⟩ := tin.get hz
            have jl : j < 6 := (List.getElem?_eq_some_iff.mp ho).1
            obtain ⟨th1, no1⟩ := inner_ok (vars := [N.x, N.y]) (P := P3 N.p N.q N.r) hodd one (List.mem_of_getElem? ho)
            have tone := kd.t _ _ tone
            obtain ⟨us, ts, eD, _⟩ := id Cd
            refine ⟨_, rfl, .inl ⟨rfl, _, SqL.of eD⟩, _, rfl, two', fun r1 m1 => ⟨_, rfl, two', fun r2 m2 => ⟨one', fun r3 m3 => ⟨two', fun r4 m4 => ?_⟩⟩⟩⟩
            obtain ⟨c1, e1⟩ := new_tr (K := K) m1 (.cons (.str "show" (by decide)) (.cons (.str N.x lx) .nil))
            generalize upd Hd r1 (.tup [.str "show", .str N.x]) = J1 at c1 e1 m2 m3 m4 ⊢
            obtain ⟨c2, e2⟩ := new_tr m2 (.cons e1 (.cons (tone.same c1) .nil))
            generalize upd J1 r2 (.tup [.ref r1, z]) = J2 at c2 e2 m3 m4 ⊢
            obtain ⟨c3, e3⟩ := new_tr (K := K) m3 (.cons (.int 1) .nil)
            generalize upd J2 r3 (.tup [.int 1]) = J3 at c3 e3 m4 ⊢
            obtain ⟨c4, e4⟩ := new_tr m4 (.cons (e2.same c3) (.cons e3 .nil))
            generalize upd J3 r4 (.tup [.ref r2, .ref r3]) = J4 at c4 e4 ⊢
            have c14 := (c1.trans c2).trans (c3.trans c4)
            obtain ⟨vs, e, sz, C', kp'⟩ := (Cd.same c14).push e4 (ok_second NN th1 no1) (by omega)
            exact ⟨D, vs, .ref r4, rfl, rfl, e, sz, _, rfl, keepS (sd.trans c14), C', (kd.trans (Kp.of c14)).trans kp'⟩
          · rintro σ Hd ⟨v11, rfl, sd, Cd, kd⟩
            rw [zl] at Cd
            exact ⟨v11, rfl, sd, Cd, (Kp.of a18).trans kd⟩
        rintro σ Hd ⟨v11, rfl, sd, Cd, kd⟩
        have tud := kd.t _ _ tu
        have Od := O.h.same sd
        refine ⟨fun σ He => σ = [some (.ref a.s), some (.ref o), some N.bv, some (.str N.x), some (.str N.c), some (.str N.g), some v6', some v7', v8, some (.ref D), some y, v11, none, none, none] ∧ Same H He ∧ Coll K N He D (16 + 8 * i + 7) ∧ Kp K Hd He, ?_, ?_⟩
        · obtain ⟨us, ts, eD, _⟩ := id Cd
          refine ⟨_, rfl, .inl ⟨rfl, _, SqL.of eD⟩, _, rfl, _, rfl, o, _, rfl, on_pieces ▸ DGet.k (k := Sum.inr "pieces") Od.od, N.pl, _, 1, .str N.q, rfl, rfl, SqL.of Od.pd, rfl, ?_⟩
          refine ⟨_, rfl, _, rfl, two', fun r1 m1 => ⟨four', fun r2 m2 => ⟨one', fun r3 m3 => ⟨one', fun r4 m4 => ⟨two', fun r5 m5 => ?_⟩⟩⟩⟩⟩
          obtain ⟨c1, e1⟩ := new_tr (K := K) m1 (.cons (.str N.c lc) (.cons tud .nil))
          generalize upd Hd r1 (.tup [.str N.c, y]) = J1 at c1 e1 m2 m3 m4 m5 ⊢
          obtain ⟨c2, e2⟩ := new_tr (K := K) m2 (.cons (.str "make" (by decide)) (.cons (.str N.g lg) (.cons (.str N.q lq) (.cons e1 .nil))))
          generalize upd J1 r2 (.tup [.str "make", .str N.g, .str N.q, .ref r1]) = J2 at c2 e2 m3 m4 m5 ⊢
          obtain ⟨c3, e3⟩ := new_tr m3 (.cons e2 .nil)
          generalize upd J2 r3 (.tup [.ref r2]) = J3 at c3 e3 m4 m5 ⊢
          obtain ⟨c4, e4⟩ := new_tr (K := K) m4 (.cons (.int 0) .nil)
          generalize upd J3 r4 (.tup [.int 0]) = J4 at c4 e4 m5 ⊢
          obtain ⟨c5, e5⟩ := new_tr m5 (.cons (e3.same c4) (.cons e4 .nil))
          generalize upd J4 r5 (.tup [.ref r3, .ref r4]) = J5 at c5 e5 ⊢
          have c15 := ((c1.trans c2).trans (c3.trans c4)).trans c5
          obtain ⟨vs, e, sz, C', kp'⟩ := (Cd.same c15).push e5 (ok_args NN hodd) (by omega)
          exact ⟨D, vs, .ref r5, rfl, rfl, e, sz, rfl, keepS (sd.trans c15), C', (Kp.of c15).trans kp'⟩
        rintro σ He ⟨rfl, se, Ce, ke⟩
        have tue := ke.t _ _ tud
        obtain ⟨us, ts, eD, _⟩ := id Ce
        refine ⟨_, rfl, .inl ⟨rfl, _, SqL.of eD⟩, _, rfl, _, rfl, three', fun r1 m1 => ⟨one', fun r2 m2 => ?_⟩⟩
        obtain ⟨c1, e1⟩ := new_tr (K := K) m1 (.cons (.str "within" (by decide)) (.cons (.str N.c lc) (.cons tue .nil)))
        generalize upd He r1 (.tup [.str "within", .str N.c, y]) = J1 at c1 e1 m2 ⊢
        obtain ⟨c2, e2⟩ := new_tr m2 (.cons e1 .nil)
        generalize upd J1 r2 (.tup [.ref r1]) = J2 at c2 e2 ⊢
        have c12 := c1.trans c2
        have tu2 := tue.same c12
        have fin : ∀ (pl : Tr) (r4 : Addr) (J4 : Hp), Same He J4 → TrAt K J4 (.ref r4) (.tup [.tup [.tup [.str "within", .str N.c, u]], pl]) → PairOk N (.tup [.tup [.tup [.str "within", .str N.c, u]], pl]) → ∃ vs, J4 D = some (.lst vs) ∧ vs.length < sizeLine ∧
            Same H (upd J4 D (.lst (vs ++ [.ref r4]))) ∧ Coll K N (upd J4 D (.lst (vs ++ [.ref r4]))) D (16 + 8 * (i + 1)) ∧ Kp K H8 (upd J4 D (.lst (vs ++ [.ref r4]))) := fun pl r4 J4 cj e4 hok => by
          obtain ⟨vs, e, sz, C', kp'⟩ := (Ce.same cj).push e4 hok (by omega)
          exact ⟨vs, e, sz, keepS (se.trans cj), C', (((kp.trans kd).trans ke).trans (Kp.of cj)).trans kp'⟩
        refine ⟨_, rfl, y, .ty "tuple", .type (tyT u), .type "tuple", isTup u, rfl, .ty "tuple", tu2.ty, k_tup K u, _, rfl, ?_⟩
        cases et : isTup u with
        | true =>
          obtain ⟨us', rfl⟩ : ∃ us', u = .tup us' := by
            cases u with
            | tup us' => exact ⟨us', rfl⟩
            | _ => cases et
          refine iteT ⟨three', fun r3 m3 => ⟨two', fun r4 m4 => ?_⟩⟩
          obtain ⟨c3, e3⟩ := new_tr (K := K) m3 (.cons (.int 0) (.cons (.int 0) (.cons (.int 0) .nil)))
          generalize upd J2 r3 (.tup [.int 0, .int 0, .int 0]) = J3 at c3 e3 m4 ⊢
          obtain ⟨c4, e4⟩ := new_tr m4 (.cons (e2.same c3) (.cons e3 .nil))
          obtain ⟨vs, f1, f2, f3, f4, f5⟩ := fin _ _ _ ((c12.trans c3).trans c4) e4 (ok_with_t NN hodd)
          exact ⟨D, vs, .ref r4, rfl, rfl, f1, f2, _, v11, rfl, f3, f4, f5⟩
        | false =>
          refine iteF ⟨one', fun r3 m3 => ⟨two', fun r4 m4 => ?_⟩⟩
          obtain ⟨c3, e3⟩ := new_tr (K := K) m3 (.cons (.int 0) .nil)
          generalize upd J2 r3 (.tup [.int 0]) = J3 at c3 e3 m4 ⊢
          obtain ⟨c4, e4⟩ := new_tr m4 (.cons (e2.same c3) (.cons e3 .nil))
          obtain ⟨vs, f1, f2, f3, f4, f5⟩ := fin _ _ _ ((c12.trans c3).trans c4) e4 (ok_with_n NN hodd et)
          exact ⟨D, vs, .ref r4, rfl, rfl, f1, f2, _, v11, rfl, f3, f4, f5⟩
      · rintro σ Hc ⟨v10, v11, rfl, sc, C, kp⟩
        rw [xl] at C
        exact ⟨v10, v11, rfl, sc, C.more (by omega)⟩
    rintro σ H8 ⟨v10, v11, rfl, s08, C8'⟩
    have R8 := R.same s08
    have oD : SW.Off a D := R.off nDH
    have keepB : ∀ {Hc : Hp} {o : HO}, But a H Hc → But a H (upd Hc D o) := fun {Hc o} bc b u e h1 h2 => by
      rw [upd_ne (ne_of_none e nDH)]
      exact bc b u e h1 h2
    -- the nests
    refine ⟨fun σ H9 => ∃ (v12 : Option V) (n9 : Nat), σ = [some (.ref a.s), some (.ref o), some N.bv, some (.str N.x), some (.str N.c), some (.str N.g), some v6', some v7', v8, some (.ref D), v10, v11, v12, none, none] ∧ n9 ≤ n + 1000 ∧ Rnd H9 a n9 ∧ But a H H9 ∧ Coll K N H9 D 100, ?_, ?_⟩
    · have O8 := O.same s08
      refine ⟨_, rfl, two', fun q1 n1 => ⟨Nat.zero_le _, fun q2 n2 => ⟨two', fun q3 n3 => ?_⟩⟩⟩
      obtain ⟨a1, b1⟩ := new_tr (K := K) n1 (.cons (.str "show" (by decide)) (.cons (.str N.x lx) .nil))
      generalize upd H8 q1 (.tup [.str "show", .str N.x]) = F1 at a1 b1 n2 n3 ⊢
      obtain ⟨a2, b2⟩ := new_tr (K := K) n2 .nil
      generalize upd F1 q2 (.tup []) = F2 at a2 b2 n3 ⊢
      obtain ⟨a3, b3⟩ := new_tr (K := K) n3 (.cons (.str "guard" (by decide)) (.cons b2 .nil))
      generalize upd F2 q3 (.tup [.str "guard", .ref q2]) = F3 at a3 b3 ⊢
      have a13 := (a1.trans a2).trans a3
      have O3 := O8.same a13
      refine ⟨_, rfl, _, rfl, o, _, rfl, on_pieces ▸ DGet.k (k := Sum.inr "pieces") O3.h.od, N.pl, _, 0, .str N.p, rfl, rfl, SqL.of O3.h.pd, rfl, ?_⟩
      refine ⟨Nat.zero_le _, fun q4 n4 => ⟨four', fun q5 n5 => ⟨three', fun q6 n6 => ?_⟩⟩⟩
      obtain ⟨a4, b4⟩ := new_tr (K := K) n4 .nil
      generalize upd F3 q4 (.tup []) = F4 at a4 b4 n5 n6 ⊢
      obtain ⟨a5, b5⟩ := new_tr (K := K) n5 (.cons (.str "make" (by decide)) (.cons (.str N.g lg) (.cons (.str N.p lp) (.cons b4 .nil))))
      generalize upd F4 q5 (.tup [.str "make", .str N.g, .str N.p, .ref q4]) = F5 at a5 b5 n6 ⊢
      have a45 := a4.trans a5
      have c1 := b1.same ((a2.trans a3).trans a45)
      have c3 := b3.same a45
      obtain ⟨a6, b6⟩ := new_tr n6 (.cons c1 (.cons c3 (.cons b5 .nil)))
      have b6 : TrAt K _ (.ref q6) (.tup [showS N.x, guardS [], makeS N.g N.p]) := b6
      generalize upd F5 q6 (.tup [.ref q1, .ref q3, .ref q5]) = F6 at a6 b6 ⊢
      have a16 := (a13.trans a45).trans a6
      cases b6 with
      | @tup _ zs _ hin tin =>
      have zl : zs.length = 3 := tin.len
      refine ⟨q6, rfl, ⟨_, hin⟩, for_it (walk_tup (K := K) (a := q6) (xs := zs)) (fun j σ Hd => ∃ (v12 : Option V) (n9 : Nat), σ = [some (.ref a.s), some (.ref o), some N.bv, some (.str N.x), some (.str N.c), some (.str N.g), some v6', some v7', v8, some (.ref D), v10, v11, v12, none, none] ∧ n9 = n + 25 * j ∧ Rnd Hd a n9 ∧ But a H Hd ∧ Coll K N Hd D (80 + 2 * j) ∧ Kp K F6 Hd)
        ⟨none, n, rfl, rfl, R8.same a16, Same.but (s08.trans a16), C8'.same a16, Kp.refl⟩ (fun j σ Hd _ ⟨_, _, _, _, _, _, _, kd⟩ => kd.s _ _ hin) ?_ ?_⟩
      · rintro j z σ Hy Hd hj ⟨v12, n9, rfl, hn9, Rd, bd, Cd, kd⟩ ⟨rfl, hz⟩
        obtain ⟨one, ho, tone⟩ := tin.get hz
        have jl : j < 3 := (List.getElem?_eq_some_iff.mp ho).1
        have hm := List.mem_of_getElem? ho
        have hlast : LastOk N one := by
          simp only [List.mem_cons, List.not_mem_nil, or_false] at hm
          rcases hm with rfl | rfl | rfl
          · exact last_1 NN
          · exact last_2 NN
          · exact last_3 NN
        have tone := kd.t _ _ tone
        refine ⟨fun σ He => σ = [some (.ref a.s), some (.ref o), some N.bv, some (.str N.x), some (.str N.c), some (.str N.g), some v6', some v7', v8, some (.ref D), v10, v11, some z, none, none] ∧ Rnd He a (n9 + 12) ∧ But a H He ∧ Coll K N He D (80 + 2 * j + 1) ∧ Kp K Hd He, ?_, ?_⟩
        · obtain ⟨us, ts, eD, _⟩ := id Cd
          refine ⟨_, rfl, .inl ⟨rfl, _, SqL.of eD⟩, _, rfl, _, rfl, _, rfl, a, n9, o, N, 12, z, one, rfl, Rd, by omega, O.rnd R Rd bd, tone, by omega, fun th bs He hbs Re be tth => ⟨two', fun q7 n7 => ?_⟩⟩
          obtain ⟨a7, b7⟩ := new_tr n7 (.cons tth (.cons .non .nil))
          generalize upd He q7 (.tup [th, .non]) = F7 at a7 b7 ⊢
          have R7 := Re.same a7
          obtain ⟨vs, e, sz, C', kp'⟩ := ((Cd.rnd oD Rd Re be).same a7).push b7 (ok_nest12 NN hlast hbs) (by omega)
          exact ⟨D, vs, .ref q7, rfl, rfl, e, sz, rfl, R7.upd oD, keepB ((bd.trans be).trans (Same.but a7)), C', ((Kp.rnd Rd Re be).trans (Kp.of a7)).trans kp'⟩
        rintro σ He ⟨rfl, Re, be, Ce, ke⟩
        have tone' := ke.t _ _ tone
        obtain ⟨us, ts, eD, _⟩ := id Ce
        refine ⟨_, rfl, .inl ⟨rfl, _, SqL.of eD⟩, _, rfl, _, rfl, _, rfl, a, n9 + 12, o, N, 13, z, one, rfl, Re, by omega, O.rnd R Re be, tone', by omega, fun th bs Hf hbs Rf bf tth => ?_⟩
        refine ⟨one', fun q7 n7 => ⟨two', fun q8 n8 => ?_⟩⟩
        obtain ⟨a7, b7⟩ := new_tr (K := K) n7 (.cons (.int 0) .nil)
        generalize upd Hf q7 (.tup [.int 0]) = F7 at a7 b7 n8 ⊢
        have a8 := same_new (o := .tup [.int 0, .int 0]) n8
        have e8 : SqT K (upd F7 q8 (.tup [.int 0, .int 0])) q8 [.int 0, .int 0] := SqT.of upd_same
        generalize upd F7 q8 (.tup [.int 0, .int 0]) = F8 at a8 e8 ⊢
        refine ⟨q8, 13, _, rfl, rfl, e8, (fun z => by cases z), by decide, by decide, by decide, fun q9 F9 a9 h9 => ?_⟩
        have t9 : TrAt K F9 (.ref q9) (.tup (List.replicate 26 (.int 0))) := .tup h9 (by
          have : ∀ m : Nat, TrAll K F9 (List.replicate m (V.int 0)) (List.replicate m (Tr.int 0)) := fun m => by
            induction m with
            | zero => exact .nil
            | succ m ih => exact .cons (.int 0) ih
          exact this 26)
        refine cat_tr ((b7.same a8).same a9) t9 (by simp) (by decide) fun w10 F10 a10 t10 => ⟨two', fun q11 n11 => ?_⟩
        have a710 := (a7.trans a8).trans (a9.trans a10)
        have t10 : TrAt K F10 w10 (.tup (intsT (List.replicate 27 0))) := t10
        obtain ⟨a11, b11⟩ := new_tr n11 (.cons (tth.same a710) (.cons t10 .nil))
        generalize upd F10 q11 (.tup [th, w10]) = F11 at a11 b11 ⊢
        have aA := a710.trans a11
        obtain ⟨vs, e, sz, C', kp'⟩ := ((Ce.rnd oD Re Rf bf).same aA).push b11 (ok_nest13p NN hlast hbs) (by omega)
        exact ⟨D, vs, .ref q11, rfl, rfl, e, sz, _, n9 + 12 + 13, rfl, by omega, (Rf.same aA).upd oD, keepB ((be.trans bf).trans (Same.but aA)), C', (((kd.trans ke).trans (Kp.rnd Re Rf bf)).trans (Kp.of aA)).trans kp'⟩
      · rintro σ Hd ⟨v12, n9, rfl, hn9, Rd, bd, Cd, kd⟩
        rw [zl] at Cd
        exact ⟨v12, n9, rfl, by omega, Rd, bd, Cd.more (by omega)⟩
    rintro σ H9 ⟨v12, n9, rfl, hn9, R9, b9, us, ts, eD, tus, hl, hok⟩
    have O9 := O.rnd R R9 b9
    -- none is wrong
    refine ⟨_, rfl, D, rfl, ⟨_, SqL.of eD⟩, fun G nG => ?_⟩
    refine lc_list (K := K) (a := D) (xs := us) (fun i H5 => Same H9 H5 ∧ H5 G = some (.lst [])) ⟨same_new nG, upd_same⟩ (fun i H5 _ ⟨s5, _⟩ => SqL.of (s5 _ _ eD)) ?_ ?_
    · rintro i y H5 hi ⟨s5, eG⟩
      obtain ⟨p, hp, tp⟩ := (tus.same s5).get hi
      obtain ⟨b, pl, rfl, du⟩ := hok p (List.mem_of_getElem? hp)
      obtain ⟨pa, u1, u2, rfl, hpa, tu1, tu2⟩ := tr_two tp
      refine ⟨pa, _, rfl, hpa, rfl, _, _, rfl, _, _, rfl, rfl, rfl, ?_⟩
      refine ⟨_, rfl, _, rfl, _, rfl, N.bv, u1, u2, bookT N, b, pl, rfl, (O9.h.same s5).bt, NN.book, tu1, tu2, du, fun H6 s6 => ⟨true, rfl, ?_⟩⟩
      exact iteF ⟨s5.trans s6, s6 _ _ eG⟩
    · rintro H5 ⟨s5, eG⟩
      refine ⟨Nat.zero_le _, fun l nl => ?_⟩
      have s6 := same_new (o := .lst []) nl
      refine ⟨.list [], .list [], .lst (SqL.of (s6 _ _ eG)) .nil, .lst (SqL.of upd_same) .nil, by decide, by decide, ?_⟩
      exact k n9 _ hn9 (R9.same (s5.trans s6)) (b9.trans (Same.but (s5.trans s6)))
end
end BK

set_option Elab.async false
set_option maxRecDepth 100000
set_option maxHeartbeats 4000000
set_option linter.unusedVariables false
/-! _law_books_right. -/
namespace BK
open PySem PySem.Spec PyProof.Rows L2 SW RZ ET
abbrev sBoo : Stmt := top 67
abbrev nBoo : List Str := ["own", "known", "some", "bad", "place", "thing", "caught", "e"]
theorem scBoo : FnScope nBoo ["own"] (defScope sBoo) := ⟨rfl, rfl, rfl, by decide +kernel, rfl, by decide +kernel, by decide +kernel⟩
theorem bad_tup {b pl : Tr} (h : BadB b pl) : ∃ ts, pl = .tup ts := by
  obtain ⟨⟨p, _, rfl⟩, _⟩ := h
  cases p <;> exact ⟨_, rfl⟩
section
variable {P : Program} {w : World} {K : PySem.W.Frag} {mg : Str → Option Value} {base : Heap}
theorem ok_boo {f fN CB CP CQ CT CF CS : Addr} {fdN : FuncData} {oc kV doc pm ct cdv : Value} {od an : Option Addr} {osl : Array (Option Value)} (lk : K.lookup f = some ⟨oc, od, .func (PySem.W.fnOf "_law_books_right" "_law_books_right" (defArgs sBoo) (defBody sBoo) (defScope sBoo) .none kV doc pm an cdv ct), osl⟩)
    (hcd : PySem.W.codeIn K cdv "_law_books_right" = true) (Er : ErrsP K mg CB CP CQ CT CF CS) (R : ErrF K CB) (I : IsFacts K CB) (mR : mg "repr" = none) (mI : mg "isinstance" = none)
    (GN : FnOk P w K mg base (L2.CX P w) 22 fN fdN ["book", "thing"] (spNeedP K CB CP)) (bN : Binds K fdN ["book", "thing"] []) (gN : mg "need_program" = some (.ref fN)) (kN : PySem.W.keepIn K (.ref fN) = true) :
    FnG P w K mg base 23 f (PySem.W.fnOf "_law_books_right" "_law_books_right" (defArgs sBoo) (defBody sBoo) (defScope sBoo) .none kV doc pm an cdv ct) ["own"] (spTru K) := by
  refine fng_of lk hcd scBoo (fun vs H Q E h => ?_) (fun A outer s H vs Q E gd hr h => ?_)
  · obtain ⟨o, N, rfl, _⟩ := h
    rfl
  · obtain ⟨o, N, rfl, O, NN, k⟩ := h
    have hu := hu_of hr
    have hr0 : Room 0 _ := hr.mono (by decide)
    have gd' : (A.deeper (envOfC "_law_books_right" (defScope sBoo) s.heap.objs.size f cdv)).guards = some [] := gd
    refine ⟨_, C8.pss_cut (ps_set (i := 1) scBoo.nd rfl (Or.inl rfl) (pe_ix ix_tup (pe_dget hu (pv 0) pe_str (fun _ _ => rfl)) pe_int (fun _ _ => rfl)))
      (C8.pss_cut (ps_set (i := 2) scBoo.nd rfl (Or.inl rfl) (pe_lst (pa_cons (pe_tup (pa_cons pe_non (pa_cons (pe_tup pa_nil) pa_nil)))
          (pa_cons (pe_tup (pa_cons (pe_tup (pa_cons (pe_op op_catA (pv 1) (pv 1)) (pa_cons (pe_tup pa_nil) pa_nil))) (pa_cons (pe_tup (pa_cons pe_str pa_nil)) pa_nil)))
          (pa_cons (pe_tup (pa_cons (pe_tup (pa_cons (pv 1) (pa_cons (pe_tup (pa_cons pe_int pa_nil)) pa_nil))) (pa_cons (pe_tup (pa_cons pe_int pa_nil)) pa_nil)))
          (pa_cons (pe_tup (pa_cons (pe_op op_catA (pe_dget hu (pv 0) pe_str (fun _ _ => rfl)) (pe_tup (pa_cons (pe_tup pa_nil) pa_nil))) (pa_cons (pe_tup pa_nil) pa_nil))) pa_nil))))))
      (C8.pss_cut (ps_expr (pe_bm PySem.F.plainAttrs_list PySem.F.slot_list_append PySem.F.type_list_append mt_append (pv 2) (pa_cons (pe_tup (pa_cons
          (pe_tup (pa_cons (pv 1) (pa_cons (pe_tup (pa_cons (pe_tup (pa_cons pe_str (pa_cons (pe_tup pa_nil) (pa_cons (pe_tup (pa_cons (pe_tup (pa_cons pe_str (pa_cons (pe_ix ix_tup (pv 1) pe_int (fun _ _ => rfl)) pa_nil))) (pa_cons (pe_tup (pa_cons pe_str (pa_cons pe_str pa_nil))) pa_nil))) pa_nil)))) pa_nil)) pa_nil)))
          (pa_cons (pe_tup (pa_cons pe_int (pa_cons (pe_tup (pa_cons pe_int pa_nil)) pa_nil))) pa_nil))) pa_nil)))
      (C8.pss_cut (ps_for PassesOwn.never rfl (pi_list (pv 2)) (pg_tup rfl (pgs_cons (pg_name (i := 3) scBoo.nd rfl (Or.inl rfl)) (pgs_cons (pg_name (i := 4) scBoo.nd rfl (Or.inl rfl)) pgs_nil)))
        (pss_one (ps_for PassesOwn.never rfl (pi_tup (pe_tup (pa_cons (pe_tup pa_nil) (pa_cons pe_non (pa_cons (pe_tup (pa_cons pe_non pa_nil)) (pa_cons (pe_tup (pa_cons (pe_tup (pa_cons pe_str (pa_cons (pe_ix ix_tup (pv 1) pe_int (fun _ _ => rfl)) pa_nil))) pa_nil)) pa_nil)))))) (pg_name (i := 5) scBoo.nd rfl (Or.inl rfl))
          (pss_cons (ps_set (i := 6) scBoo.nd rfl (Or.inl rfl) pe_non)
          (pss_cons (ps_try_keep (X := (cxOf C8.CX0 P w K mg base nBoo "_law_books_right" (defScope sBoo) f cdv A outer s H E).nox) (i := 7) (j := 6) (c1 := .ref CB) (c2 := .ref CP) (c3 := .ref CQ) (c4 := .ref CT)
              (tb := fun W => tDrop (tCallS (spNeedP K CB CP) (fun σ cls d H' => W cls d σ H') (tCons (tVar 3) (tCons (tVar 5) tNil))))
              (x1 := "BadBook") (x2 := "BadProgram") (x3 := "BadQuestion") (x4 := "BadText") rfl rfl rfl scBoo.nd rfl rfl rfl rfl (by show 7 < 8; decide) (by decide) ⟨by rfl, by decide, .inl Er.gB⟩ ⟨by rfl, by decide, .inl Er.gP⟩ ⟨by rfl, by decide, .inl Er.gQ⟩ ⟨by rfl, by decide, .inl Er.gT⟩ LamX.takes0
              (fun W pn xe tk _ => pss_one (ps_expr (by exact (pe_callS GN hr rfl gN kN bN (fun σ => passAt tk σ) (by exact (pa_cons (pv 3) (pa_cons (pv 5) pa_nil))))))))
          (pss_cons (ps_if (PW.pt (pw_or (pt_not (pt_val (pe_callB (call_isiEO R I) (by rfl) mI boot_isinstance (pa_cons (pv 6) (pa_cons (pe_glob (v := .ref CB) rfl Er.gB rfl) pa_nil)))))
              (pw_or1 (pt_val (pe_callB (call_isiEOT R I) (by rfl) mI boot_isinstance (pa_cons (pv 6) (pa_cons (pe_tup (pa_cons (pe_glob (v := .ref CP) rfl Er.gP rfl) (pa_cons (pe_glob (v := .ref CQ) rfl Er.gQ rfl) (pa_cons (pe_glob (v := .ref CT) rfl Er.gT rfl) (pa_cons (pe_glob (v := .ref CF) rfl Er.gF rfl) pa_nil))))) pa_nil))))))) (pss_one (ps_ret pe_bl)) pss_nil)
          (pss_one (ps_if (pt_cmpR op_ne (pe_callB (call_reprD gd' hr0) (by rfl) mR boot_repr (pa_cons (pe_place R (pv 6)) pa_nil)) (pe_callB (call_reprD gd' hr0) (by rfl) mR boot_repr (pa_cons (pv 4) pa_nil)) (nomark _)) (pss_one (ps_ret pe_bl)) pss_nil))))))))
      (pss_one (ps_ret pe_bl))))), ?_⟩
    have one' : 1 ≤ sizeLine := by decide
    have two' : 2 ≤ sizeLine := by decide
    have three' : 3 ≤ sizeLine := by decide
    have four' : 4 ≤ sizeLine := by decide
    have lx := O.lx
    have hx := NN.n.hx
    have hy := NN.n.hy
    obtain ⟨ba, bv1, bv2, ebv, hba, tb1, tb2⟩ := tr_two O.bt
    -- known
    refine ⟨fun σ H1 => H = H1 ∧ σ = [some (.ref o), some bv1, none, none, none, none, none, none], ?_, ?_⟩
    · refine ⟨_, rfl, o, _, rfl, on_book ▸ DGet.k (k := Sum.inr "book") O.od, ?_⟩
      rw [ebv]
      exact ⟨ba, _, 0, _, rfl, rfl, hba, at_of (j := 0) rfl rfl, rfl, rfl⟩
    rintro σ H1 ⟨rfl, rfl⟩
    obtain ⟨ka, kv1, kv2, rfl, hka, tk1, tk2⟩ := tr_two tb1
    cases tk1 with
    | str _ hlx =>
    -- some
    refine ⟨fun σ H2 => ∃ (D : Addr) (z1 z2 z3 z4 : V), σ = [some (.ref o), some (.ref ka), some (.ref D), none, none, none, none, none] ∧ Same H H2 ∧ H D = none ∧ H2 D = some (.lst [z1, z2, z3, z4]) ∧ TrAt K H2 z1 (.tup [.non, .tup []]) ∧
        TrAt K H2 z2 (.tup [.tup [.tup ([.str N.x, .str N.y] ++ [.str N.x, .str N.y]), .tup []], .tup [.str "vars"]]) ∧ TrAt K H2 z3 (.tup [.tup [.tup [.str N.x, .str N.y], .tup [.int 5]], .tup [.int 0]]) ∧
        ∃ u1 u2, TrAt K H2 z4 (.tup [.tup [u1, u2, .tup []], .tup []]), ?_, ?_⟩
    · refine ⟨Nat.zero_le _, fun q1 n1 => ⟨two', fun q2 n2 => ?_⟩⟩
      obtain ⟨a1, b1⟩ := new_tr (K := K) n1 .nil
      generalize upd H q1 (.tup []) = F1 at a1 b1 n2 ⊢
      obtain ⟨a2, b2⟩ := new_tr n2 (.cons .non (.cons b1 .nil))
      generalize upd F1 q2 (.tup [.non, .ref q1]) = F2 at a2 b2 ⊢
      have a12 := a1.trans a2
      refine ⟨_, rfl, _, rfl, ?_⟩
      refine cat_tr (tb1.same a12) (tb1.same a12) (by simp) (by simp) fun v3 F3 a3 b3 => ?_
      have b2 := b2.same a3
      refine ⟨Nat.zero_le _, fun q4 n4 => ⟨two', fun q5 n5 => ⟨one', fun q6 n6 => ⟨two', fun q7 n7 => ?_⟩⟩⟩⟩
      obtain ⟨a4, b4⟩ := new_tr (K := K) n4 .nil
      generalize upd F3 q4 (.tup []) = F4 at a4 b4 n5 n6 n7 ⊢
      obtain ⟨a5, b5⟩ := new_tr n5 (.cons (b3.same a4) (.cons b4 .nil))
      generalize upd F4 q5 (.tup [v3, .ref q4]) = F5 at a5 b5 n6 n7 ⊢
      obtain ⟨a6, b6⟩ := new_tr (K := K) n6 (.cons (.str "vars" (by decide)) .nil)
      generalize upd F5 q6 (.tup [.str "vars"]) = F6 at a6 b6 n7 ⊢
      obtain ⟨a7, b7⟩ := new_tr n7 (.cons (b5.same a6) (.cons b6 .nil))
      generalize upd F6 q7 (.tup [.ref q5, .ref q6]) = F7 at a7 b7 ⊢
      have a37 := (a4.trans a5).trans (a6.trans a7)
      have b2 := b2.same a37
      have a17 := (a12.trans a3).trans a37
      refine ⟨_, rfl, one', fun q8 n8 => ⟨two', fun q9 n9 => ⟨one', fun q10 n10 => ⟨two', fun q11 n11 => ?_⟩⟩⟩⟩
      obtain ⟨a8, b8⟩ := new_tr (K := K) n8 (.cons (.int 5) .nil)
      generalize upd F7 q8 (.tup [.int 5]) = F8 at a8 b8 n9 n10 n11 ⊢
      obtain ⟨a9, b9⟩ := new_tr n9 (.cons ((tb1.same a17).same a8) (.cons b8 .nil))
      generalize upd F8 q9 (.tup [.ref ka, .ref q8]) = F9 at a9 b9 n10 n11 ⊢
      obtain ⟨a10, b10⟩ := new_tr (K := K) n10 (.cons (.int 0) .nil)
      generalize upd F9 q10 (.tup [.int 0]) = F10 at a10 b10 n11 ⊢
      obtain ⟨a11, b11⟩ := new_tr n11 (.cons (b9.same a10) (.cons b10 .nil))
      generalize upd F10 q11 (.tup [.ref q9, .ref q10]) = F11 at a11 b11 ⊢
      have a711 := (a8.trans a9).trans (a10.trans a11)
      have a111 := a17.trans a711
      have b2 := b2.same a711
      have b7 := b7.same a711
      have O11 := O.same a111
      refine ⟨_, rfl, o, _, rfl, on_book ▸ DGet.k (k := Sum.inr "book") O11.od, Nat.zero_le _, fun q12 n12 => ⟨one', fun q13 n13 => ?_⟩⟩
      obtain ⟨a12', b12⟩ := new_tr (K := K) n12 .nil
      generalize upd F11 q12 (.tup []) = F12 at a12' b12 n13 ⊢
      obtain ⟨a13, b13⟩ := new_tr n13 (.cons b12 .nil)
      generalize upd F12 q13 (.tup [.ref q12]) = F13 at a13 b13 ⊢
      refine cat_tr ((O11.bt.same a12').same a13) b13 (by show 2 ≤ 1000; decide) (by simp) fun v14 F14 a14 b14 => ?_
      refine ⟨Nat.zero_le _, fun q15 n15 => ⟨two', fun q16 n16 => ⟨four', fun D nD => ?_⟩⟩⟩
      obtain ⟨a15, b15⟩ := new_tr (K := K) n15 .nil
      generalize upd F14 q15 (.tup []) = F15 at a15 b15 n16 nD ⊢
      obtain ⟨a16, b16⟩ := new_tr n16 (.cons (b14.same a15) (.cons b15 .nil))
      generalize upd F15 q16 (.tup [v14, .ref q15]) = F16 at a16 b16 nD ⊢
      have aD := same_new (o := .lst [.ref q2, .ref q7, .ref q11, .ref q16]) nD
      have a1216 := ((a12'.trans a13).trans a14).trans (a15.trans a16)
      have aA := a111.trans a1216
      exact ⟨D, _, _, _, _, rfl, aA.trans aD, aA.free nD, upd_same, (b2.same a1216).same aD, (b7.same a1216).same aD, (b11.same a1216).same aD, _, _, b16.same aD⟩
    rintro σ H2 ⟨D, z1, z2, z3, z4, rfl, s2, nD, eD, tz1, tz2, tz3, u1, u2, tz4⟩
    have hka2 := sqt_same s2 hka
    have tb1_2 := tb1.same s2
    -- .. one more
    refine ⟨fun σ H3 => ∃ (vs : List V) (ts : List Tr), σ = [some (.ref o), some (.ref ka), some (.ref D), none, none, none, none, none] ∧ Same H H3 ∧ H3 D = some (.lst vs) ∧ TrAll K H3 vs ts ∧ ∀ p ∈ ts, ∃ b pl, p = .tup [b, pl] ∧ BadB b pl, ?_, ?_⟩
    · refine ⟨_, rfl, .inl ⟨rfl, _, SqL.of eD⟩, _, rfl, Nat.zero_le _, fun q1 n1 => ?_⟩
      obtain ⟨a1, b1⟩ := new_tr (K := K) n1 .nil
      generalize upd H2 q1 (.tup []) = F1 at a1 b1 ⊢
      refine ⟨_, rfl, ka, _, 0, _, rfl, rfl, sqt_same a1 hka2, at_of (j := 0) rfl rfl, two', fun q2 n2 => ⟨two', fun q3 n3 => ⟨two', fun q4 n4 => ⟨three', fun q5 n5 => ⟨one', fun q6 n6 => ⟨two', fun q7 n7 => ⟨one', fun q8 n8 => ⟨two', fun q9 n9 => ⟨two', fun q10 n10 => ?_⟩⟩⟩⟩⟩⟩⟩⟩⟩
      obtain ⟨a2, b2⟩ := new_tr (K := K) n2 (.cons (.str "show" (by decide)) (.cons (.str N.x lx) .nil))
      generalize upd F1 q2 (.tup [.str "show", .str N.x]) = F2 at a2 b2 n3 n4 n5 n6 n7 n8 n9 n10 ⊢
      obtain ⟨a3, b3⟩ := new_tr (K := K) n3 (.cons (.str "step" (by decide)) (.cons (.str "a" (by decide)) .nil))
      generalize upd F2 q3 (.tup [.str "step", .str "a"]) = F3 at a3 b3 n4 n5 n6 n7 n8 n9 n10 ⊢
      obtain ⟨a4, b4⟩ := new_tr n4 (.cons (b2.same a3) (.cons b3 .nil))
      generalize upd F3 q4 (.tup [.ref q2, .ref q3]) = F4 at a4 b4 n5 n6 n7 n8 n9 n10 ⊢
      obtain ⟨a5, b5⟩ := new_tr (K := K) n5 (.cons (.str "a" (by decide)) (.cons (b1.same ((a2.trans a3).trans a4)) (.cons b4 .nil)))
      generalize upd F4 q5 (.tup [.str "a", .ref q1, .ref q4]) = F5 at a5 b5 n6 n7 n8 n9 n10 ⊢
      obtain ⟨a6, b6⟩ := new_tr n6 (.cons b5 .nil)
      generalize upd F5 q6 (.tup [.ref q5]) = F6 at a6 b6 n7 n8 n9 n10 ⊢
      have a16 := (a1.trans ((a2.trans a3).trans a4)).trans (a5.trans a6)
      obtain ⟨a7, b7⟩ := new_tr n7 (.cons (tb1_2.same a16) (.cons b6 .nil))
      generalize upd F6 q7 (.tup [.ref ka, .ref q6]) = F7 at a7 b7 n8 n9 n10 ⊢
      obtain ⟨a8, b8⟩ := new_tr (K := K) n8 (.cons (.int 1) .nil)
      generalize upd F7 q8 (.tup [.int 1]) = F8 at a8 b8 n9 n10 ⊢
      obtain ⟨a9, b9⟩ := new_tr (K := K) n9 (.cons (.int 0) (.cons b8 .nil))
      generalize upd F8 q9 (.tup [.int 0, .ref q8]) = F9 at a9 b9 n10 ⊢
      obtain ⟨a10, b10⟩ := new_tr n10 (.cons (b7.same (a8.trans a9)) (.cons b9 .nil))
      generalize upd F9 q10 (.tup [.ref q7, .ref q9]) = F10 at a10 b10 ⊢
      have aA := a16.trans ((a7.trans a8).trans (a9.trans a10))
      have eD' := aA _ _ eD
      refine ⟨D, _, .ref q10, rfl, rfl, eD', (by show 4 < sizeLine; decide), [z1, z2, z3, z4, .ref q10], [_, _, _, _, _], rfl, fun b u e => ?_, upd_same, .cons ((tz1.same aA).updL eD') (.cons ((tz2.same aA).updL eD') (.cons ((tz3.same aA).updL eD') (.cons ((tz4.same aA).updL eD') (.cons (b10.updL eD') .nil)))), fun p hp => ?_⟩
      · rw [upd_ne (ne_of_none e nD)]
        exact aA _ _ (s2 _ _ e)
      · simp only [List.mem_cons, List.not_mem_nil, or_false] at hp
        rcases hp with rfl | rfl | rfl | rfl | rfl
        · exact ⟨_, _, rfl, bad_non⟩
        · exact ⟨_, _, rfl, bad_vars⟩
        · exact ⟨_, _, rfl, bad_five hx hy NN.xy⟩
        · exact ⟨_, _, rfl, bad_three⟩
        · exact ⟨_, _, rfl, bad_step hx hy NN.xy⟩
    rintro σ H3 ⟨vs, ts, rfl, s3, eD3, tvs, hbad⟩
    -- the walks
    refine ⟨fun σ H4 => Same H H4, ?_, fun σ H4 s4 => k H4 s4⟩
    refine ⟨_, rfl, D, rfl, ⟨_, SqL.of eD3⟩, for_list (K := K) (a := D) (xs := vs) (fun i σ H4 => ∃ v3 v4 v5 v6 v7 : Option V, σ = [some (.ref o), some (.ref ka), some (.ref D), v3, v4, v5, v6, v7] ∧ Same H3 H4)
      ⟨none, none, none, none, none, rfl, fun _ _ e => e⟩ (fun i σ H4 _ ⟨_, _, _, _, _, _, s4⟩ => SqL.of (s4 _ _ eD3)) ?_ (fun σ H4 ⟨_, _, _, _, _, _, s4⟩ => s3.trans s4)⟩
    rintro i y σ H4 hi ⟨v3, v4, v5, v6, v7, rfl, s4⟩
    obtain ⟨p, hp, tp⟩ := (tvs.same s4).get hi
    obtain ⟨bt, plt, rfl, hbb⟩ := hbad p (List.mem_of_getElem? hp)
    obtain ⟨pa, g1, g2, rfl, hpa, tg1, tg2⟩ := tr_two tp
    obtain ⟨pp, ebt, eplt⟩ := hbb.q
    obtain ⟨pts, eplt2⟩ := bad_tup hbb
    have ro := hbb.r
    refine ⟨pa, _, rfl, hpa, rfl, _, _, rfl, _, _, rfl, rfl, ?_⟩
    have hka4 := sqt_same (s3.trans s4) hka
    refine ⟨Nat.zero_le _, fun q1 n1 => ⟨one', fun q2 n2 => ?_⟩⟩
    obtain ⟨a1, b1⟩ := new_tr (K := K) n1 .nil
    generalize upd H4 q1 (.tup []) = F1 at a1 b1 n2 ⊢
    obtain ⟨a2, b2⟩ := new_tr (K := K) n2 (.cons .non .nil)
    generalize upd F1 q2 (.tup [.non]) = F2 at a2 b2 ⊢
    refine ⟨_, rfl, ka, _, 0, _, rfl, rfl, sqt_same (a1.trans a2) hka4, at_of (j := 0) rfl rfl, two', fun q3 n3 => ⟨one', fun q4 n4 => ⟨four', fun q5 n5 => ?_⟩⟩⟩
    obtain ⟨a3, b3⟩ := new_tr (K := K) n3 (.cons (.str "show" (by decide)) (.cons (.str N.x lx) .nil))
    generalize upd F2 q3 (.tup [.str "show", .str N.x]) = F3 at a3 b3 n4 n5 ⊢
    obtain ⟨a4, b4⟩ := new_tr n4 (.cons b3 .nil)
    generalize upd F3 q4 (.tup [.ref q3]) = F4 at a4 b4 n5 ⊢
    obtain ⟨a5, b5⟩ := new_tr n5 (.cons (b1.same ((a2.trans a3).trans a4)) (.cons .non (.cons (b2.same (a3.trans a4)) (.cons b4 .nil))))
    generalize upd F4 q5 (.tup [.ref q1, .non, .ref q2, .ref q4]) = F5 at a5 b5 ⊢
    have a15 := ((a1.trans a2).trans (a3.trans a4)).trans a5
    cases b5 with
    | @tup _ zs _ hin tin =>
    refine ⟨q5, rfl, ⟨_, hin⟩, for_it (walk_tup (K := K) (a := q5) (xs := zs)) (fun j σ H5 => ∃ v5 v6 v7 : Option V, σ = [some (.ref o), some (.ref ka), some (.ref D), some g1, some g2, v5, v6, v7] ∧ Same F5 H5)
      ⟨v5, v6, v7, rfl, fun _ _ e => e⟩ (fun j σ H5 _ ⟨_, _, _, _, s5⟩ => sqt_same s5 hin) ?_ (fun σ H5 ⟨v5, v6, v7, e, s5⟩ => ⟨some g1, some g2, v5, v6, v7, e, s4.trans (a15.trans s5)⟩)⟩
    rintro j z σ Hx H5 hj ⟨v5, v6, v7, rfl, s5⟩ ⟨rfl, hz⟩
    obtain ⟨t, ht, tt⟩ := (tin.same s5).get hz
    have hthin : thinT t = true := by
      have hm := List.mem_of_getElem? ht
      simp only [List.mem_cons, List.not_mem_nil, or_false] at hm
      rcases hm with rfl | rfl | rfl | rfl <;> rfl
    have tg15 := (tg1.same a15).same s5
    have tg25 := (tg2.same a15).same s5
    refine ⟨_, rfl, _, rfl, g1, z, bt, t, rfl, tg15, tt, hthin, fun e0 => (by rw [ebt] at e0; cases e0), fun e0 => (by rw [ebt] at e0; cases e0), fun p' ep' pv d H6 s6 nd ed tp' => ⟨true, Er.exB, fun _ _ a na => ?_, fun z => Bool.noConfusion z⟩, fun e0 => (by rw [ebt] at e0; cases e0)⟩
    rw [ebt] at ep'
    obtain rfl := Option.some.inj ep'
    rw [← eplt, eplt2] at tp'
    rw [eplt2] at tg25 ro
    obtain ⟨pa', rfl⟩ : ∃ pa', g2 = .ref pa' := by cases tg25; exact ⟨_, rfl⟩
    obtain ⟨qa', rfl⟩ : ∃ qa', pv = .ref qa' := by cases tp'; exact ⟨_, rfl⟩
    have ea : (upd H6 a (EO a (.ref CB) (some d))) a = some (EO a (.ref CB) (some d)) := upd_same
    have edd : (upd H6 a (EO a (.ref CB) (some d))) d = some (.xd [("place", .ref qa')]) := by
      rw [upd_ne (ne_of_none ed na)]
      exact ed
    have sm := same_new (o := EO a (.ref CB) (some d)) na
    have s7 := s6.trans sm
    have tp2 := tp'.same sm
    generalize upd H6 a (EO a (.ref CB) (some d)) = H7 at ea edd s7 tp2 ⊢
    refine ⟨_, rfl, a, d, _, _, _, true, rfl, .own CB, ea, edd, Er.kB, _, rfl, iteF ?_⟩
    refine ⟨_, rfl, four', fun tq ntq => ?_⟩
    have s8 := same_new (o := .tup [.ref CP, .ref CQ, .ref CT, .ref CF]) ntq
    refine ⟨a, d, tq, _, _, _, false, rfl, upd_same, .cons (.own CP) (.cons (.own CQ) (.cons (.own CT) (.cons (.own CF) .nil))), s8 _ _ ea, s8 _ _ edd, Er.k5, _, rfl, iteF ?_⟩
    obtain ⟨e1, e2, e3, e4⟩ := repr_one ro
    refine ⟨_, rfl, a, d, .ref qa', rfl, s8 _ _ ea, s8 _ _ edd, qa', _, rfl, (tp2.same s8).dp ro.da, e1, e2, e3, e4, ?_⟩
    refine ⟨_, rfl, pa', _, rfl, ((tg25.same s7).same s8).dp ro.da, e1, e2, e3, e4, rfl, _, rfl, ?_⟩
    rw [show decide (V.str (pdT (.tup pts)).shown = V.str (pdT (.tup pts)).shown) = true from decide_eq_true rfl]
    exact iteF ⟨_, _, _, rfl, s5.trans (s7.trans s8)⟩
end
end BK

set_option Elab.async false
set_option maxRecDepth 100000
set_option maxHeartbeats 8000000
set_option linter.unusedVariables false
/-! the law. -/
namespace BK
open PySem PySem.Spec PyProof.Rows L2 SW RZ ET
abbrev sLaw : Stmt := top 68
def spLaw (K : PySem.W.Frag) : Sp := fun vs H Q _ => ∃ (x : Addr) (ns : List Int), vs = [.ref x] ∧ SqL K H x (ns.map V.int) ∧ ns.length ≤ 63 ∧ ∀ H', Q (.bl true) H'
abbrev nLaw : List Str := ["script", "state", "known", "slots", "names", "own", "one", "params", "pieces", "name", "some", "inner", "program", "place"]
theorem scLaw : FnScope nLaw ["script"] (defScope sLaw) := ⟨rfl, rfl, rfl, by decide +kernel, rfl, by decide +kernel, by decide +kernel⟩
/-- the lists of names that the law has drawn -/
structure LN (H : Hp) (a : RA) (ka sa nm : Addr) (x y c t g new p q r : Str) : Prop where
  kd : H ka = some (.lst ([x, y].map V.str))
  sd : H sa = some (.lst ([c, t, g, new].map V.str))
  nd : H nm = some (.lst ([p, q, r].map V.str))
  ko : SW.Off a ka
  so : SW.Off a sa
  no : SW.Off a nm
section
variable {H H' : Hp} {a : RA} {ka sa nm : Addr} {x y c t g new p q r : Str}
theorem LN.same (L : LN H a ka sa nm x y c t g new p q r) (e : Same H H') : LN H' a ka sa nm x y c t g new p q r := ⟨e _ _ L.kd, e _ _ L.sd, e _ _ L.nd, L.ko, L.so, L.no⟩
theorem LN.updD {o : Addr} {kvs kvs' : List (Key × V)} (L : LN H a ka sa nm x y c t g new p q r) (ho : H o = some (.dK kvs)) : LN (upd H o (.dK kvs')) a ka sa nm x y c t g new p q r :=
  ⟨by rw [upd_ne (ne_of L.kd ho (by intro z; cases z))]; exact L.kd, by rw [upd_ne (ne_of L.sd ho (by intro z; cases z))]; exact L.sd, by rw [upd_ne (ne_of L.nd ho (by intro z; cases z))]; exact L.nd, L.ko, L.so, L.no⟩
end
section
variable {K : PySem.W.Frag} {H H' : Hp}
mutual
/-- a dict that changes -/
theorem TrAt.updD {o : Addr} {kvs kvs' : List (Key × V)} (ho : H o = some (.dK kvs)) : ∀ {v : V} {t : Tr}, TrAt K H v t → TrAt K (upd H o (.dK kvs')) v t
  | _, _, .non => .non
  | _, _, .bl b => .bl b
  | _, _, .int i => .int i
  | _, _, .str s h => .str s h
  | _, _, .lst h => by
    rcases h with (h | ⟨u, h⟩) | h
    · exact .lst (.inl (.inl (by rw [upd_ne (ne_of h ho (by intro z; cases z))]; exact h)))
    · exact .lst (.inl (.inr ⟨u, by rw [upd_ne (ne_of h ho (by intro z; cases z))]; exact h⟩))
    · exact .lst (.inr h)
  | _, _, .dct (a := x) (kvs := ks) h => by
    by_cases z : x = o
    · subst z
      exact .dct upd_same
    · exact .dct (by rw [upd_ne z]; exact h)
  | _, _, .tup h k => by
    refine .tup ?_ (TrAll.updD ho k)
    rcases h with (h | ⟨u, h⟩) | h
    · exact .inl (.inl (by rw [upd_ne (ne_of h ho (by intro z; cases z))]; exact h))
    · exact .inl (.inr ⟨u, by rw [upd_ne (ne_of h ho (by intro z; cases z))]; exact h⟩)
    · exact .inr h
theorem TrAll.updD {o : Addr} {kvs kvs' : List (Key × V)} (ho : H o = some (.dK kvs)) : ∀ {vs : List V} {ts : List Tr}, TrAll K H vs ts → TrAll K (upd H o (.dK kvs')) vs ts
  | _, _, .nil => .nil
  | _, _, .cons h k => .cons (h.updD ho) (k.updD ho)
end
end
def oA (x y c t g new : Str) : List (Key × V) := [(.inr "x", .str x), (.inr "y", .str y), (.inr "c", .str c), (.inr "t", .str t), (.inr "g", .str g), (.inr "new", .str new)]
def oB (x y c t g new : Str) (pl : Addr) : List (Key × V) := [(.inr "x", .str x), (.inr "y", .str y), (.inr "c", .str c), (.inr "t", .str t), (.inr "g", .str g), (.inr "new", .str new), (.inr "pieces", .ref pl)]
def oC (x y c t g new : Str) (pl : Addr) (hv : V) : List (Key × V) := [(.inr "x", .str x), (.inr "y", .str y), (.inr "c", .str c), (.inr "t", .str t), (.inr "g", .str g), (.inr "new", .str new), (.inr "pieces", .ref pl), (.inr "head", hv)]
def oD (x y c t g new : Str) (pl : Addr) (hv : V) (none : Str) : List (Key × V) := [(.inr "x", .str x), (.inr "y", .str y), (.inr "c", .str c), (.inr "t", .str t), (.inr "g", .str g), (.inr "new", .str new), (.inr "pieces", .ref pl), (.inr "head", hv), (.inr "none", .str none)]
section
variable {x y c t g new none p q r : Str} {pl : Addr} {hv bv : V}
theorem pu_pieces : putK (oA x y c t g new) (.inr "pieces") (.ref pl) = oB x y c t g new pl := by with_unfolding_all rfl
theorem pu_head : putK (oB x y c t g new pl) (.inr "head") hv = oC x y c t g new pl hv := by with_unfolding_all rfl
theorem pu_none : putK (oC x y c t g new pl hv) (.inr "none") (.str none) = oD x y c t g new pl hv none := by with_unfolding_all rfl
theorem pu_book : putK (oD x y c t g new pl hv none) (.inr "book") bv = ownL ⟨x, y, c, t, g, new, none, p, q, r, pl, hv, bv⟩ := by with_unfolding_all rfl
end
/-- a word that is no variable and no piece -/
theorem none_word13 (zs : List Str) (hz : zs.length = 5) : ∃ u, ((["none", "nowhere", "missing", "lost", "gone", "away"] : List Str).filter fun z => decide (z ∉ zs))[0]? = some u ∧ nameS u = true ∧ u ∉ zs := by
  have hn : ((["none", "nowhere", "missing", "lost", "gone", "away"] : List Str)).Nodup := by decide +kernel
  obtain ⟨w, hw, hwz⟩ := some_out (zs := zs) hn (by rw [hz]; show 5 < 6; decide)
  have hne : 0 < ((["none", "nowhere", "missing", "lost", "gone", "away"] : List Str).filter fun z => decide (z ∉ zs)).length := List.length_pos_of_mem (List.mem_filter.mpr ⟨hw, decide_eq_true hwz⟩)
  obtain ⟨g, hg⟩ : ∃ g, ((["none", "nowhere", "missing", "lost", "gone", "away"] : List Str).filter fun z => decide (z ∉ zs))[0]? = some g := ⟨_, List.getElem?_eq_getElem hne⟩
  have hgm := List.mem_filter.mp (List.mem_of_getElem? hg)
  have hall : ((["none", "nowhere", "missing", "lost", "gone", "away"] : List Str)).all nameS = true := by decide +kernel
  exact ⟨g, hg, List.all_eq_true.mp hall g hgm.1, of_decide_eq_true hgm.2⟩
theorem strs_all {K : PySem.W.Frag} {H : Hp} : ∀ {zs : List Str}, (∀ z ∈ zs, nameS z = true) → TrAll K H (zs.map V.str) (zs.map Tr.str)
  | [], _ => .nil
  | z :: r, h => .cons (.str z (Nat.le_trans (name_len (h z List.mem_cons_self)) (by rw [sizeLine_eq]; decide))) (strs_all fun u hu => h u (List.mem_cons_of_mem _ hu))
theorem name_line13 {z : Str} (h : nameS z = true) : z.length ≤ sizeLine := by
  have := name_len h
  rw [sizeLine_eq]
  omega
def par1 : Tr := .tup [.tup [.str "a", .str "context"], .tup [.str "b", .str "token"]]
def par2 : Tr := .tup [.tup [.str "b", .str "context"], .tup [.str "a", .str "context"]]
def piecesOf (p q r : Str) : List Tr := [.tup [.str p, .tup [], yieldB], .tup [.str q, par1, yieldB], .tup [.str r, par2, yieldB]]
/-- a wrong step and the way within it -/
def BadStep (N : O13) (one : Tr) (w : List Nat) : Prop := w.length ≤ 10 ∧ (∀ z ∈ w, z ≤ 100) ∧ thinT one = true ∧ ∀ {km : Km}, K3 N.c N.t N.g N.new km → ∀ n d, (one13 [N.x, N.y] (P3 N.p N.q N.r) (d + 4) one (km, n)).1 = some w ∧ (one13 [N.x, N.y] (P3 N.p N.q N.r) (d + 4) one (km, n)).2.1.length ≤ km.length + 6
def WrongP (N : O13) (p : Tr) : Prop := ∃ one w, p = .tup [one, .tup (intsT w)] ∧ BadStep N one w
theorem wrong_one {N : O13} (NN : Nice13 N) {one : Tr} (h : one ∈ allWrong N.x N.y N.c N.t N.g N.none N.new N.p N.q N.r ++ allMade N.x N.y N.c N.t N.g N.none N.new N.p N.q N.r) : BadStep N one [] := by
  rcases List.mem_append.mp h with h | h
  · obtain ⟨h1, h2⟩ := wrong_all NN.n one h
    exact ⟨by decide, fun z q => (by cases q), h2, h1⟩
  · obtain ⟨h1, h2⟩ := made_all NN.n one h
    exact ⟨by decide, fun z q => (by cases q), h2, h1⟩
theorem wrong_with {N : O13} (NN : Nice13 N) {p : Tr} (h : p ∈ allWith N.x N.y N.c N.t N.g N.none N.new N.p N.q N.r) : WrongP N p := by
  obtain ⟨one, w, e, h1, h2, h3, h4⟩ := with_all NN.n p h
  exact ⟨one, w, e, h1, h2, h3, h4⟩
section
variable {P : Program} {w : World} {K : PySem.W.Frag} {mg : Str → Option Value} {base : Heap}
theorem ok_law {f fB fN fU fP fG fA fM fW fT fO fK : Addr} {fdB fdN fdU fdP fdG fdA fdM fdW fdT fdO fdK : FuncData} {oc kV doc pm ct cdv : Value} {od an : Option Addr} {osl : Array (Option Value)} (lk : K.lookup f = some ⟨oc, od, .func (PySem.W.fnOf "law" "law" (defArgs sLaw) (defBody sLaw) (defScope sLaw) .none kV doc pm an cdv ct), osl⟩)
    (hcd : PySem.W.codeIn K cdv "law" = true) (mT : mg "tuple" = none) (mZ : mg "zip" = none) (mM : ∃ t, mg "MOST_DEEP" = some (.int 12 t))
    (GB : FnOk P w K mg base CX0 1 fB fdB ["script"] (spBegin K)) (bB : Binds K fdB ["script"] []) (gB : mg "_law_begin" = some (.ref fB)) (kB : PySem.W.keepIn K (.ref fB) = true)
    (GN : FnOk P w K mg base CX0 4 fN fdN ["state", "many"] spNames) (bN : Binds K fdN ["state", "many"] []) (gN : mg "_law_names" = some (.ref fN)) (kN : PySem.W.keepIn K (.ref fN) = true)
    (GU : FnG P w K mg base 23 fU fdU ["book", "thing", "place"] (spDueP K)) (bU : Binds K fdU ["book", "thing", "place"] []) (gU : mg "_law_due_right" = some (.ref fU)) (kU : PySem.W.keepIn K (.ref fU) = true)
    (GP : FnOk P w K mg base CX0 3 fP fdP ["state", "own", "one", "inner"] (spPut13 K)) (bP : Binds K fdP ["state", "own", "one", "inner"] []) (gP : mg "_law_put" = some (.ref fP)) (kP : PySem.W.keepIn K (.ref fP) = true)
    (GG : FnOk P w K mg base CX0 1 fG fdG ["own"] (spLGood K)) (bG : Binds K fdG ["own"] []) (gG : mg "_law_good" = some (.ref fG)) (kG : PySem.W.keepIn K (.ref fG) = true)
    (GA : FnOk P w K mg base CX0 1 fA fdA ["own"] (spLWrong K)) (bA : Binds K fdA ["own"] []) (gA : mg "_law_wrong" = some (.ref fA)) (kA : PySem.W.keepIn K (.ref fA) = true)
    (GM : FnOk P w K mg base CX0 1 fM fdM ["own"] (spLMade K)) (bM : Binds K fdM ["own"] []) (gM : mg "_law_wrong_made" = some (.ref fM)) (kM : PySem.W.keepIn K (.ref fM) = true)
    (GW : FnOk P w K mg base CX0 1 fW fdW ["own"] (spLWith K)) (bW : Binds K fdW ["own"] []) (gW : mg "_law_wrong_within" = some (.ref fW)) (kW : PySem.W.keepIn K (.ref fW) = true)
    (GT : FnG P w K mg base 24 fT fdT ["own"] (spTru K)) (bT : Binds K fdT ["own"] []) (gT : mg "_law_truths_right" = some (.ref fT)) (kT : PySem.W.keepIn K (.ref fT) = true)
    (GO : FnG P w K mg base 24 fO fdO ["state", "own"] (spOdd K)) (bO : Binds K fdO ["state", "own"] []) (gO : mg "_law_odd_right" = some (.ref fO)) (kO : PySem.W.keepIn K (.ref fO) = true)
    (GK : FnG P w K mg base 23 fK fdK ["own"] (spTru K)) (bK : Binds K fdK ["own"] []) (gK : mg "_law_books_right" = some (.ref fK)) (kK : PySem.W.keepIn K (.ref fK) = true) :
    FnG P w K mg base 25 f (PySem.W.fnOf "law" "law" (defArgs sLaw) (defBody sLaw) (defScope sLaw) .none kV doc pm an cdv ct) ["script"] (spLaw K) := by
  refine fng_of lk hcd scLaw (fun vs H Q E h => ?_) (fun A outer s H vs Q E gd hr h => ?_)
  · obtain ⟨x, ns, rfl, _⟩ := h
    rfl
  · obtain ⟨xs, ns, rfl, hS, hl, k⟩ := h
    obtain ⟨tM, gM12⟩ := mM
    have hu := hu_of hr
    have hr1 : Room 1 _ := hr.mono (by decide)
    have hr3 : Room 3 _ := hr.mono (by decide)
    have hr4 : Room 4 _ := hr.mono (by decide)
    have hr23 : Room 23 _ := hr.mono (by decide)
    have gd' : (A.deeper (envOfC "law" (defScope sLaw) s.heap.objs.size f cdv)).guards = some [] := gd
    refine ⟨_, C8.pss_cut (ps_set (i := 1) scLaw.nd rfl (Or.inl rfl) (pe_call GB hr1 rfl gB kB bB .nil pass0 (pa_cons (pv 0) pa_nil)))
      (C8.pss_cut (ps_asg (pe_tup (pa_cons (pe_call GN hr4 rfl gN kN bN .nil pass0 (pa_cons (pv 1) (pa_cons pe_int pa_nil))) (pa_cons (pe_call GN hr4 rfl gN kN bN .nil pass0 (pa_cons (pv 1) (pa_cons pe_int pa_nil))) (pa_cons (pe_call GN hr4 rfl gN kN bN .nil pass0 (pa_cons (pv 1) (pa_cons pe_int pa_nil))) pa_nil))))
          (pg_tup rfl (pgs_cons (pg_name (i := 2) scLaw.nd rfl (Or.inr rfl)) (pgs_cons (pg_name (i := 3) scLaw.nd rfl (Or.inl rfl)) (pgs_cons (pg_name (i := 4) scLaw.nd rfl (Or.inr rfl)) pgs_nil)))))
      (C8.pss_cut (ps_set (i := 5) scLaw.nd rfl (Or.inl rfl) (pe_disp (pps_cons pe_str (pe_ix ix_list (pv 2) pe_int (fun _ _ => rfl)) (pps_cons pe_str (pe_ix ix_list (pv 2) pe_int (fun _ _ => rfl))
          (pps_cons pe_str (pe_ix ix_list (pv 3) pe_int (fun _ _ => rfl)) (pps_cons pe_str (pe_ix ix_list (pv 3) pe_int (fun _ _ => rfl)) (pps_cons pe_str (pe_ix ix_list (pv 3) pe_int (fun _ _ => rfl)) (pps_cons pe_str (pe_ix ix_list (pv 3) pe_int (fun _ _ => rfl)) pps_nil)))))) rfl rfl (by simp) (by decide)))
      (C8.pss_cut (ps_asg (pe_tup (pa_cons (pv 4) (pa_cons (pe_tup (pa_cons (pe_tup (pa_cons pe_str (pa_cons (pe_ix ix_list (pv 3) pe_int (fun _ _ => rfl)) pa_nil))) (pa_cons (pe_tup (pa_cons pe_str (pa_cons (pe_ix ix_list (pv 3) pe_int (fun _ _ => rfl)) pa_nil))) (pa_cons (pe_tup (pa_cons pe_str (pa_cons (pe_ix ix_list (pv 3) pe_int (fun _ _ => rfl)) pa_nil))) pa_nil)))) pa_nil)))
          (pg_tup rfl (pgs_cons (pg_sub (pv 5) pe_str (set_dict hu)) (pgs_cons (pg_sub (pv 5) pe_str (set_dict hu)) pgs_nil))))
      (C8.pss_cut (ps_dput hu (pv 5) pe_str (pe_ix ix_list (pe_lc (own := [("one", 6)]) (g := gName 6) (tt := tTest (tOp (rIn K true) (tVar 6) (tOp rCat (tVar 2) (tVar 4)))) rfl scLaw.nd (pi_tup (pe_tup (pa_cons pe_str (pa_cons pe_str (pa_cons pe_str (pa_cons pe_str (pa_cons pe_str (pa_cons pe_str pa_nil))))))))
            (blkOk_by (N := nLaw) (sc := defScope sLaw) (by decide +kernel))
            (fun _ _ _ _ _ => pg_name (i := 6) scLaw.nd rfl (Or.inl rfl)) (fun _ _ _ _ _ => pts_one (by exact pt_cmpR op_notIn_seq (pv 6) (pe_op op_cat (pv 2) (pv 4)) rfl))
            (fun _ _ _ _ _ => pv 6)) pe_int (fun _ _ => rfl)) rfl)
      (C8.pss_cut (ps_set (i := 7) scLaw.nd rfl (Or.inl rfl) (pe_lst (pa_cons (pe_tup pa_nil)
          (pa_cons (pe_tup (pa_cons (pe_tup (pa_cons pe_str (pa_cons pe_str pa_nil))) (pa_cons (pe_tup (pa_cons pe_str (pa_cons pe_str pa_nil))) pa_nil)))
          (pa_cons (pe_tup (pa_cons (pe_tup (pa_cons pe_str (pa_cons pe_str pa_nil))) (pa_cons (pe_tup (pa_cons pe_str (pa_cons pe_str pa_nil))) pa_nil))) pa_nil)))))
      (C8.pss_cut (ps_setLc (i := 8) (own := [("name", 9), ("some", 10)]) (g := gTup K 2 (gCons (gName 9) (gCons (gName 10) gNil))) (tt := tYes) rfl scLaw.nd rfl rfl (sw_true rfl rfl rfl rfl) (pi_zip (by rfl) mZ (pa_cons (pv 4) (pa_cons (pv 7) pa_nil)))
          (blkOk_by (N := nLaw) (sc := defScope sLaw) (by decide +kernel))
          (fun _ _ _ _ _ => by exact pg_tup rfl (pgs_cons (pg_name (i := 9) scLaw.nd rfl (Or.inl rfl)) (pgs_cons (pg_name (i := 10) scLaw.nd rfl (Or.inl rfl)) pgs_nil))) (fun _ _ _ _ _ => pts_nil)
          (fun _ _ _ _ _ => pe_tup (pa_cons (pv 9) (pa_cons (pv 10) (pa_cons (pe_tup (pa_cons (pe_tup (pa_cons pe_str pa_nil)) pa_nil)) pa_nil)))))
      (C8.pss_cut (ps_dput hu (pv 5) pe_str (pe_tup (pa_cons (pe_tupleOf (by rfl) mT (pv 2)) (pa_cons (pe_tupleOf (by rfl) mT (pv 8)) pa_nil))) rfl)
      (C8.pss_cut (ps_for PassesOwn.never rfl (pi_list (pe_call GG hr1 rfl gG kG bG .nil pass0 (pa_cons (pv 5) pa_nil))) (pg_name (i := 6) scLaw.nd rfl (Or.inl rfl))
        (pss_one (ps_if (pt_not (pt_val (pe_callG GU gd' hr23 rfl gU kU bU (pa_cons (pe_dget hu (pv 5) pe_str (fun _ _ => rfl)) (pa_cons (pe_ix ix_list (pe_call GP hr3 rfl gP kP bP .nil pass0 (pa_cons (pv 1) (pa_cons (pv 5) (pa_cons (pv 6) (pa_cons (pe_tup pa_nil) pa_nil))))) pe_int (fun _ _ => rfl)) (pa_cons pe_non pa_nil))))))
          (pss_one (ps_ret pe_bl)) pss_nil)))
      (C8.pss_cut (ps_for PassesOwn.never rfl (pi_list (pe_op op_cat
            (pe_lc (own := [("one", 6)]) (g := gName 6) (tt := tYes) rfl scLaw.nd (pi_list (pe_op op_cat (pe_call GA hr1 rfl gA kA bA .nil pass0 (pa_cons (pv 5) pa_nil)) (pe_call GM hr1 rfl gM kM bM .nil pass0 (pa_cons (pv 5) pa_nil)))) (blkOk_by (N := nLaw) (sc := defScope sLaw) (by decide +kernel))
              (fun _ _ _ _ _ => pg_name (i := 6) scLaw.nd rfl (Or.inl rfl)) (fun _ _ _ _ _ => pts_nil) (fun _ _ _ _ _ => pe_tup (pa_cons (pv 6) (pa_cons (pe_tup pa_nil) pa_nil))))
            (pe_call GW hr1 rfl gW kW bW .nil pass0 (pa_cons (pv 5) pa_nil))))
          (pg_tup rfl (pgs_cons (pg_name (i := 6) scLaw.nd rfl (Or.inl rfl)) (pgs_cons (pg_name (i := 11) scLaw.nd rfl (Or.inl rfl)) pgs_nil)))
        (pss_cons (ps_asg (pe_call GP hr3 rfl gP kP bP .nil pass0 (pa_cons (pv 1) (pa_cons (pv 5) (pa_cons (pv 6) (pa_cons (pv 11) pa_nil))))) (pg_unl rfl (pgs_cons (pg_name (i := 12) scLaw.nd rfl (Or.inl rfl)) (pgs_cons (pg_name (i := 13) scLaw.nd rfl (Or.inl rfl)) pgs_nil))))
        (pss_one (ps_if (pt_not (pt_val (pe_callG GU gd' hr23 rfl gU kU bU (pa_cons (pe_dget hu (pv 5) pe_str (fun _ _ => rfl)) (pa_cons (pv 12) (pa_cons (pv 13) pa_nil))))))
          (pss_one (ps_ret pe_bl)) pss_nil))))
      (pss_cons (ps_if (PW.pt (pw_or (pt_not (pt_val (pe_callG GT gd' hr rfl gT kT bT (pa_cons (pv 5) pa_nil)))) (pw_or1 (pt_not (pt_val (pe_callG GO gd' hr rfl gO kO bO (pa_cons (pv 1) (pa_cons (pv 5) pa_nil)))))))) (pss_one (ps_ret pe_bl)) pss_nil)
      (pss_one (ps_ret (pe_and (pe_callG GK gd' hr23 rfl gK kK bK (pa_cons (pv 5) pa_nil)) (pe_one (pe_cmpR op_eq (pe_glob (v := .int 12) rfl gM12 ⟨_, rfl⟩) pe_int (nomark _)))))))))))))))), ?_⟩
    have one' : 1 ≤ sizeLine := by decide
    have two' : 2 ≤ sizeLine := by decide
    have three' : 3 ≤ sizeLine := by decide
    have six' : 6 ≤ sizeLine := by decide
    -- state
    refine ⟨fun σ H1 => ∃ a : RA, σ = [some (.ref xs), some (.ref a.s), none, none, none, none, none, none, none, none, none, none, none, none] ∧ Rnd H1 a 0, ?_, ?_⟩
    · exact ⟨_, rfl, xs, ns, rfl, hS, hl, fun a H1 s1 _ _ R1 => ⟨a, rfl, R1⟩⟩
    rintro σ H1 ⟨a, rfl, R1⟩
    -- known, slots, names
    refine ⟨fun σ H2 => ∃ (ka sa nm : Addr) (x y c t g new p q r : Str) (n : Nat), σ = [some (.ref xs), some (.ref a.s), some (.ref ka), some (.ref sa), some (.ref nm), none, none, none, none, none, none, none, none, none] ∧ Rnd H2 a n ∧ n ≤ 300 ∧ LN H2 a ka sa nm x y c t g new p q r ∧
        [x, y].Nodup ∧ [c, t, g, new].Nodup ∧ [p, q, r].Nodup ∧ (∀ z ∈ [x, y], isNm z) ∧ (∀ z ∈ [c, t, g, new], isNm z) ∧ (∀ z ∈ [p, q, r], isNm z), ?_, ?_⟩
    · refine ⟨_, rfl, a, 0, 2, rfl, R1, by decide, by decide, fun p1 z1 m1 H2 np1 o1 e1 l1 d1 q1 hm1 R2 b1 => ?_⟩
      refine ⟨_, rfl, a, m1, 4, rfl, R2, by decide, by omega, fun p2 z2 m2 H3 np2 o2 e2 l2 d2 q2 hm2 R3 b2 => ?_⟩
      refine ⟨_, rfl, a, m2, 3, rfl, R3, by decide, by omega, fun p3 z3 m3 H4 np3 o3 e3 l3 d3 q3 hm3 R4 b3 => ?_⟩
      refine ⟨three', fun p np => ⟨p, _, rfl, SqT.of upd_same, rfl, _, _, rfl, _, _, rfl, _, _, rfl, rfl, ?_⟩⟩
      obtain ⟨x, y, rfl⟩ : ∃ x y, z1 = [x, y] := by
        match z1, l1 with
        | [x, y], _ => exact ⟨x, y, rfl⟩
      obtain ⟨c, t, g, new, rfl⟩ : ∃ n0 n1 n2 n3, z2 = [n0, n1, n2, n3] := by
        match z2, l2 with
        | [n0, n1, n2, n3], _ => exact ⟨n0, n1, n2, n3, rfl⟩
      obtain ⟨p', q', r', rfl⟩ : ∃ n0 n1 n2, z3 = [n0, n1, n2] := by
        match z3, l3 with
        | [n0, n1, n2], _ => exact ⟨n0, n1, n2, rfl⟩
      have sn := same_new (o := .tup [.ref p1, .ref p2, .ref p3]) np
      exact ⟨p1, p2, p3, x, y, c, t, g, new, p', q', r', m3, rfl, R4.same sn, by omega, LN.same ⟨b3.at o1 (b2.at o1 e1), b3.at o2 e2, e3, o1, o2, o3⟩ sn, d1, d2, d3, q1, q2, q3⟩
    rintro σ H2 ⟨ka, sa, nm, x, y, c, t, g, new, p, q, r, n, rfl, R2, hn, L2', dxy, dsl, dnm, qxy, qsl, qnm⟩
    have nx : nameS x = true := nm_name (qxy x (by simp))
    have ny : nameS y = true := nm_name (qxy y (by simp))
    have nc : nameS c = true := nm_name (qsl c (by simp))
    have nt : nameS t = true := nm_name (qsl t (by simp))
    have ng : nameS g = true := nm_name (qsl g (by simp))
    have nw : nameS new = true := nm_name (qsl new (by simp))
    have np_ : nameS p = true := nm_name (qnm p (by simp))
    have nq : nameS q = true := nm_name (qnm q (by simp))
    have nr : nameS r = true := nm_name (qnm r (by simp))
    have xy : ¬ x = y := by simpa using dxy
    simp only [List.nodup_cons, List.mem_cons, List.not_mem_nil, or_false, not_or, List.nodup_nil, and_true, not_false_eq_true] at dsl dnm
    clear qxy qsl qnm dxy
    -- own
    refine ⟨fun σ H3 => ∃ (o : Addr), σ = [some (.ref xs), some (.ref a.s), some (.ref ka), some (.ref sa), some (.ref nm), some (.ref o), none, none, none, none, none, none, none, none] ∧ Rnd H3 a n ∧ LN H3 a ka sa nm x y c t g new p q r ∧ SW.Off a o ∧ H3 o = some (.dK (oA x y c t g new)), ?_, ?_⟩
    · intro pp hp
      have s1 := same_new (o := .dK []) hp
      have ep : (upd H2 pp (.dK [])) pp = some (.dK []) := upd_same
      have op := R2.off hp
      generalize upd H2 pp (.dK []) = H3 at s1 ep ⊢
      have L3 := L2'.same s1
      refine ⟨_, rfl, ka, _, 0, .str x, rfl, rfl, SqL.of L3.kd, rfl, ?_⟩
      refine ⟨_, rfl, ka, _, 1, .str y, rfl, rfl, SqL.of L3.kd, rfl, ?_⟩
      refine ⟨_, rfl, sa, _, 0, .str c, rfl, rfl, SqL.of L3.sd, rfl, ?_⟩
      refine ⟨_, rfl, sa, _, 1, .str t, rfl, rfl, SqL.of L3.sd, rfl, ?_⟩
      refine ⟨_, rfl, sa, _, 2, .str g, rfl, rfl, SqL.of L3.sd, rfl, ?_⟩
      refine ⟨_, rfl, sa, _, 3, .str new, rfl, rfl, SqL.of L3.sd, rfl, ?_⟩
      refine ⟨ep, oA x y c t g new, rfl, (by show 6 ≤ 15; decide), ?_⟩
      refine ⟨pp, rfl, (R2.same s1).upd op, L3.updD ep, op, ?_⟩
      rw [upd_same]
      all_goals rfl
    rintro σ H3 ⟨o, rfl, R3, L3, oo, eo⟩
    -- pieces, head
    refine ⟨fun σ H4 => ∃ (hv : V), σ = [some (.ref xs), some (.ref a.s), some (.ref ka), some (.ref sa), some (.ref nm), some (.ref o), none, none, none, none, none, none, none, none] ∧ Rnd H4 a n ∧ LN H4 a ka sa nm x y c t g new p q r ∧ H4 o = some (.dK (oC x y c t g new nm hv)) ∧ TrAt K H4 hv (.tup (headS c t g)), ?_, ?_⟩
    · refine ⟨_, rfl, _, rfl, sa, _, 0, .str c, rfl, rfl, SqL.of L3.sd, rfl, two', fun q1 n1 => ?_⟩
      obtain ⟨a1, b1⟩ := new_tr (K := K) n1 (.cons (.str "copy" (by decide)) (.cons (.str c (name_line13 nc)) .nil))
      generalize upd H3 q1 (.tup [.str "copy", .str c]) = F1 at a1 b1 ⊢
      have L4 := L3.same a1
      refine ⟨_, rfl, sa, _, 1, .str t, rfl, rfl, SqL.of L4.sd, rfl, two', fun q2 n2 => ?_⟩
      obtain ⟨a2, b2⟩ := new_tr (K := K) n2 (.cons (.str "reset" (by decide)) (.cons (.str t (name_line13 nt)) .nil))
      generalize upd F1 q2 (.tup [.str "reset", .str t]) = F2 at a2 b2 ⊢
      have L5 := L4.same a2
      refine ⟨_, rfl, sa, _, 2, .str g, rfl, rfl, SqL.of L5.sd, rfl, two', fun q3 n3 => ⟨three', fun q4 n4 => ⟨two', fun q5 n5 => ?_⟩⟩⟩
      obtain ⟨a3, b3⟩ := new_tr (K := K) n3 (.cons (.str "step" (by decide)) (.cons (.str g (name_line13 ng)) .nil))
      generalize upd F2 q3 (.tup [.str "step", .str g]) = F3 at a3 b3 n4 n5 ⊢
      obtain ⟨a4, b4⟩ := new_tr n4 (.cons (b1.same (a2.trans a3)) (.cons (b2.same a3) (.cons b3 .nil)))
      have b4 : TrAt K _ (.ref q4) (.tup (headS c t g)) := b4
      generalize upd F3 q4 (.tup [.ref q1, .ref q2, .ref q3]) = F4 at a4 b4 n5 ⊢
      have a5 := same_new (o := .tup [.ref nm, .ref q4]) n5
      have e5 : (upd F4 q5 (.tup [.ref nm, .ref q4])) q5 = some (.tup [.ref nm, .ref q4]) := upd_same
      generalize upd F4 q5 (.tup [.ref nm, .ref q4]) = F5 at a5 e5 ⊢
      have aA := ((a1.trans a2).trans (a3.trans a4)).trans a5
      have eo5 := aA _ _ eo
      refine ⟨q5, _, rfl, SqT.of e5, rfl, _, _, rfl, _, rfl, o, _, rfl, DPut.k (k := Sum.inr "pieces") eo5 (small1000 (by show 6 ≤ 1000; decide)), ?_⟩
      rw [pu_pieces]
      refine ⟨_, _, rfl, _, rfl, o, _, rfl, DPut.k (k := Sum.inr "head") upd_same (small1000 (by show 7 ≤ 1000; decide)), rfl, ?_⟩
      rw [pu_head]
      have u1 := b4.same a5 |>.updD (kvs' := oB x y c t g new nm) eo5
      refine ⟨.ref q4, rfl, ((R3.same aA).upd oo).upd oo, ((L3.same aA).updD eo5).updD upd_same, upd_same, u1.updD upd_same⟩
    rintro σ H4 ⟨hv, rfl, R4, L4, eo4, thv⟩
    -- a word that is none's
    obtain ⟨u, hu0, nu, hu1⟩ := none_word13 [x, y, p, q, r] rfl
    refine ⟨fun σ H5 => ∃ v6 : Option V, σ = [some (.ref xs), some (.ref a.s), some (.ref ka), some (.ref sa), some (.ref nm), some (.ref o), v6, none, none, none, none, none, none, none] ∧ Rnd H5 a n ∧ LN H5 a ka sa nm x y c t g new p q r ∧ H5 o = some (.dK (oD x y c t g new nm hv u)) ∧ TrAt K H5 hv (.tup (headS c t g)), ?_, ?_⟩
    · refine ⟨six', fun p1 np1 => ?_⟩
      have s1 := same_new (o := .tup [.str "none", .str "nowhere", .str "missing", .str "lost", .str "gone", .str "away"]) np1
      have e1 : (upd H4 p1 (.tup [.str "none", .str "nowhere", .str "missing", .str "lost", .str "gone", .str "away"])) p1 = some (.tup ((["none", "nowhere", "missing", "lost", "gone", "away"] : List Str).map V.str)) := upd_same
      generalize upd H4 p1 (.tup [.str "none", .str "nowhere", .str "missing", .str "lost", .str "gone", .str "away"]) = G1 at s1 e1 ⊢
      refine ⟨p1, rfl, ⟨_, SqT.of e1⟩, fun D nD => ?_⟩
      generalize hwo : (["none", "nowhere", "missing", "lost", "gone", "away"] : List Str) = wo at e1 hu0 ⊢
      have hwl : wo.length = 6 := by rw [← hwo]; rfl
      refine lc_it (walk_tup (K := K) (a := p1) (xs := wo.map V.str)) (fun i G2 => G2 D = some (.lst (((wo.take i).filter fun z => decide (z ∉ [x, y, p, q, r])).map V.str)) ∧ Same G1 G2) ⟨upd_same, same_new nD⟩ (fun i G2 _ ⟨_, s2⟩ => SqT.of (s2 _ _ e1)) ?_ ?_
      · rintro i v G2 G3 hi ⟨e2, s2⟩ ⟨rfl, hv'⟩
        obtain ⟨z, hz, rfl⟩ := str_at hv'
        have L6 := L4.same (s1.trans s2)
        refine ⟨rfl, _, rfl, _, rfl, _, rfl, ka, nm, _, _, rfl, rfl, L6.kd, L6.nd, (by show 5 ≤ sizeLine; decide), fun L nL => ⟨L, _, rfl, .inl (SqL.of upd_same), rfl, SW.flat_strs [x, y, p, q, r], _, rfl, ?_⟩⟩
        have sL := same_new (o := .lst (([x, y].map V.str) ++ ([p, q, r].map V.str))) nL
        have e2 := sL _ _ e2
        have s2 := s2.trans sL
        show (if (!inV (.str z) ([x, y, p, q, r].map V.str)) = true then _ else _)
        rw [inV_str]
        have et : wo.take (i + 1) = wo.take i ++ [z] := by rw [List.take_add_one, hz]; rfl
        refine ite2 (fun h => ?_) (fun h => ?_)
        · have hxz : decide (z ∉ [x, y, p, q, r]) = true := by simpa using h
          refine ⟨_, rfl, _, e2, small1000 ?_, ?_, Same.new s2 nD⟩
          · rw [List.length_map]
            exact Nat.le_trans (List.length_filter_le _ _) (by rw [List.length_take]; omega)
          · rw [upd_same, et, filt_pos (p := fun z => decide (z ∉ [x, y, p, q, r])) hxz, List.map_append]
            rfl
        · have hxz : ¬ decide (z ∉ [x, y, p, q, r]) = true := by simpa using h
          refine ⟨?_, s2⟩
          rw [e2, et, filt_neg (p := fun z => decide (z ∉ [x, y, p, q, r])) (by simpa using hxz)]
      · rintro G2 ⟨e2, s2⟩
        rw [List.length_map, List.take_length] at e2
        refine ⟨D, _, 0, .str u, rfl, rfl, SqL.of e2, at_of (j := 0) rfl (by rw [List.getElem?_map, hu0]; rfl), ?_⟩
        have s12 := s1.trans s2
        have eo6 := s12 _ _ eo4
        refine ⟨_, rfl, o, _, rfl, DPut.k (k := Sum.inr "none") eo6 (small1000 (by show 8 ≤ 1000; decide)), ?_⟩
        rw [pu_none]
        exact ⟨none, rfl, (R4.same s12).upd oo, (L4.same s12).updD eo6, upd_same, (thv.same s12).updD eo6⟩
    rintro σ H5 ⟨v6, rfl, R5, L5, eo5, thv5⟩
    clear thv eo4 L4 R4 eo L3 R3 L2' R2 R1
    -- params
    refine ⟨fun σ H6 => ∃ (pl : Addr) (ws : List V), σ = [some (.ref xs), some (.ref a.s), some (.ref ka), some (.ref sa), some (.ref nm), some (.ref o), v6, some (.ref pl), none, none, none, none, none, none] ∧ Same H5 H6 ∧ H6 pl = some (.lst ws) ∧ TrAll K H6 ws [.tup [], par1, par2], ?_, ?_⟩
    · refine ⟨Nat.zero_le _, fun q1 n1 => ⟨two', fun q2 n2 => ⟨two', fun q3 n3 => ⟨two', fun q4 n4 => ⟨two', fun q5 n5 => ⟨two', fun q6 n6 => ⟨two', fun q7 n7 => ⟨three', fun q8 n8 => ?_⟩⟩⟩⟩⟩⟩⟩⟩
      obtain ⟨a1, b1⟩ := new_tr (K := K) n1 .nil
      generalize upd H5 q1 (.tup []) = F1 at a1 b1 n2 n3 n4 n5 n6 n7 n8 ⊢
      obtain ⟨a2, b2⟩ := new_tr (K := K) n2 (.cons (.str "a" (by decide)) (.cons (.str "context" (by decide)) .nil))
      generalize upd F1 q2 (.tup [.str "a", .str "context"]) = F2 at a2 b2 n3 n4 n5 n6 n7 n8 ⊢
      obtain ⟨a3, b3⟩ := new_tr (K := K) n3 (.cons (.str "b" (by decide)) (.cons (.str "token" (by decide)) .nil))
      generalize upd F2 q3 (.tup [.str "b", .str "token"]) = F3 at a3 b3 n4 n5 n6 n7 n8 ⊢
      obtain ⟨a4, b4⟩ := new_tr n4 (.cons (b2.same a3) (.cons b3 .nil))
      generalize upd F3 q4 (.tup [.ref q2, .ref q3]) = F4 at a4 b4 n5 n6 n7 n8 ⊢
      obtain ⟨a5, b5⟩ := new_tr (K := K) n5 (.cons (.str "b" (by decide)) (.cons (.str "context" (by decide)) .nil))
      generalize upd F4 q5 (.tup [.str "b", .str "context"]) = F5 at a5 b5 n6 n7 n8 ⊢
      obtain ⟨a6, b6⟩ := new_tr (K := K) n6 (.cons (.str "a" (by decide)) (.cons (.str "context" (by decide)) .nil))
      generalize upd F5 q6 (.tup [.str "a", .str "context"]) = F6 at a6 b6 n7 n8 ⊢
      obtain ⟨a7, b7⟩ := new_tr n7 (.cons (b5.same a6) (.cons b6 .nil))
      generalize upd F6 q7 (.tup [.ref q5, .ref q6]) = F7 at a7 b7 n8 ⊢
      have a57 := (a5.trans a6).trans a7
      have a8 := same_new (o := .lst [.ref q1, .ref q4, .ref q7]) n8
      exact ⟨q8, _, rfl, (((a1.trans a2).trans (a3.trans a4)).trans a57).trans a8, upd_same, .cons (b1.same ((((a2.trans a3).trans a4).trans a57).trans a8)) (.cons (b4.same (a57.trans a8)) (.cons (b7.same a8) .nil))⟩
    rintro σ H6 ⟨pl, ws, rfl, s6, epl, tws⟩
    have L6 := L5.same s6
    have wl : ws.length = 3 := tws.len
    -- pieces
    refine ⟨fun σ H7 => ∃ (D : Addr) (us : List V), σ = [some (.ref xs), some (.ref a.s), some (.ref ka), some (.ref sa), some (.ref nm), some (.ref o), v6, some (.ref pl), some (.ref D), none, none, none, none, none] ∧ Same H5 H7 ∧ H7 D = some (.lst us) ∧ TrAll K H7 us (piecesOf p q r), ?_, ?_⟩
    · refine ⟨_, rfl, _, rfl, nm, pl, _, _, rfl, SqL.of L6.nd, SqL.of epl, fun D nD => ?_⟩
      refine lc_it (walk_zip (K := K) (a := nm) (b := pl) (xs := [p, q, r].map V.str) (ys := ws) (n := 3) (by rw [wl]; rfl)) (fun i H7 => Same H6 H7 ∧ ∃ us, H7 D = some (.lst us) ∧ TrAll K H7 us ((piecesOf p q r).take i)) ⟨same_new nD, [], upd_same, .nil⟩ (fun i H7 _ ⟨s7, _⟩ => ⟨SqL.of (s7 _ _ L6.nd), SqL.of (s7 _ _ epl)⟩) ?_ ?_
      · rintro i v Hx Hc hi ⟨s7, us, eD, tus⟩ ⟨T, xi, yi, rfl, nT, rfl, g1, g2⟩
        have g1 : ([p, q, r].map V.str)[i]? = some xi := g1
        have g2 : ws[i]? = some yi := g2
        obtain ⟨prm, hprm, tprm⟩ := (tws.same s7).get g2
        obtain ⟨z, hz, rfl⟩ := str_at g1
        have hpi : (piecesOf p q r)[i]? = some (.tup [.str z, prm, yieldB]) ∧ nameS z = true := by
          match i, hz, hprm with
          | 0, hz, hprm => cases hz; cases hprm; exact ⟨rfl, np_⟩
          | 1, hz, hprm => cases hz; cases hprm; exact ⟨rfl, nq⟩
          | 2, hz, hprm => cases hz; cases hprm; exact ⟨rfl, nr⟩
        have sT := same_new (o := .tup [.str z, yi]) nT
        refine ⟨T, _, rfl, SqT.of upd_same, rfl, _, _, rfl, _, _, rfl, rfl, rfl, ?_⟩
        refine tyes ?_
        generalize upd Hx T (.tup [.str z, yi]) = H8 at sT ⊢
        refine ⟨_, rfl, _, rfl, one', fun q1 n1 => ⟨one', fun q2 n2 => ⟨three', fun q3 n3 => ?_⟩⟩⟩
        obtain ⟨a1, b1⟩ := new_tr (K := K) n1 (.cons (.str "yield" (by decide)) .nil)
        generalize upd H8 q1 (.tup [.str "yield"]) = F1 at a1 b1 n2 n3 ⊢
        obtain ⟨a2, b2⟩ := new_tr n2 (.cons b1 .nil)
        generalize upd F1 q2 (.tup [.ref q1]) = F2 at a2 b2 n3 ⊢
        obtain ⟨a3, b3⟩ := new_tr (K := K) n3 (.cons (.str z (name_line13 hpi.2)) (.cons (tprm.same ((sT.trans a1).trans a2)) (.cons b2 .nil)))
        generalize upd F2 q3 (.tup [.str z, yi, .ref q2]) = F3 at a3 b3 ⊢
        have aA := ((sT.trans a1).trans a2).trans a3
        have eD' := aA _ _ eD
        have lu := tus.len
        rw [List.length_take] at lu
        refine ⟨us, eD', small1000 (by omega), fun b w e => ?_, us ++ [.ref q3], upd_same, ?_⟩
        · rw [upd_ne (ne_of_none e nD)]
          exact aA _ _ (s7 _ _ e)
        · have et : (piecesOf p q r).take (i + 1) = (piecesOf p q r).take i ++ [.tup [.str z, prm, yieldB]] := by rw [List.take_add_one, hpi.1]; rfl
          rw [et]
          exact ((tus.same aA).updL eD').app (.cons (b3.updL eD') .nil)
      · rintro H7 ⟨s7, us, eD, tus⟩
        exact ⟨D, us, rfl, s6.trans s7, eD, tus⟩
    rintro σ H7 ⟨D, us, rfl, s7, eD, tus⟩
    have L7 := L5.same s7
    have R7 := R5.same s7
    clear tws epl L6 s6 wl
    -- the book
    refine ⟨fun σ H8 => ∃ bv : V, σ = [some (.ref xs), some (.ref a.s), some (.ref ka), some (.ref sa), some (.ref nm), some (.ref o), v6, some (.ref pl), some (.ref D), none, none, none, none, none] ∧ Rnd H8 a n ∧ OwnR K H8 a o ⟨x, y, c, t, g, new, u, p, q, r, nm, hv, bv⟩, ?_, ?_⟩
    · refine ⟨_, rfl, .inl ⟨ka, _, rfl, SqL.of L7.kd, fun q1 n1 => ?_⟩⟩
      have tk : TrAll K H7 ([x, y].map V.str) ([x, y].map Tr.str) := strs_all fun z hz => by
        simp only [List.mem_cons, List.not_mem_nil, or_false] at hz
        rcases hz with rfl | rfl
        · exact nx
        · exact ny
      obtain ⟨a1, b1⟩ := new_tr n1 tk
      generalize upd H7 q1 (.tup ([x, y].map V.str)) = F1 at a1 b1 ⊢
      refine ⟨_, rfl, .inl ⟨D, _, rfl, SqL.of (a1 _ _ eD), fun q2 n2 => ⟨two', fun q3 n3 => ?_⟩⟩⟩
      obtain ⟨a2, b2⟩ := new_tr n2 (tus.same a1)
      generalize upd F1 q2 (.tup us) = F2 at a2 b2 n3 ⊢
      obtain ⟨a3, b3⟩ := new_tr n3 (.cons (b1.same a2) (.cons b2 .nil))
      have b3 : TrAt K _ (.ref q3) (.tup [.tup [.str x, .str y], .tup (piecesOf p q r)]) := b3
      generalize upd F2 q3 (.tup [.ref q1, .ref q2]) = F3 at a3 b3 ⊢
      have aA := (a1.trans a2).trans a3
      have sA := s7.trans aA
      have eo8 := sA _ _ eo5
      refine ⟨_, rfl, o, _, rfl, DPut.k (k := Sum.inr "book") eo8 (small1000 (by show 9 ≤ 1000; decide)), ?_⟩
      rw [pu_book (p := p) (q := q) (r := r)]
      have L8 := (L5.same sA).updD (kvs' := ownL ⟨x, y, c, t, g, new, u, p, q, r, nm, hv, .ref q3⟩) eo8
      exact ⟨.ref q3, rfl, (R5.same sA).upd oo, ⟨upd_same, L8.nd, (thv5.same sA).updD eo8, b3.updD eo8, name_line13 nx, name_line13 ny, name_line13 nc, name_line13 nt, name_line13 ng, name_line13 nw, name_line13 nu, name_line13 np_, name_line13 nq, name_line13 nr⟩, oo, L8.no⟩
    rintro σ H8 ⟨bv, rfl, R8, O8⟩
    clear L7 R7 L5 R5 thv5 eo5 s7 eD tus
    simp only [List.mem_cons, List.not_mem_nil, or_false, not_or] at hu1
    obtain ⟨ux, uy, up, uq, ur⟩ := hu1
    obtain ⟨⟨ct, cg, cw⟩, ⟨tg, tw⟩, gw⟩ := dsl
    obtain ⟨⟨pq, pr⟩, qr⟩ := dnm
    have NN : Nice13 ⟨x, y, c, t, g, new, u, p, q, r, nm, hv, bv⟩ := ⟨⟨nx, ny, nc, nt, ng, nu, nw, np_, nq, nr, ux, uy, fun e => up e.symm, fun e => uq e.symm, fun e => ur e.symm, pq, pr, qr, fun e => cw e.symm, fun e => tw e.symm, fun e => gw e.symm⟩, ⟨nc, nt, ng, ct, cg, tg, fun e => cw e.symm, fun e => tw e.symm, fun e => gw e.symm⟩, xy⟩
    generalize (⟨x, y, c, t, g, new, u, p, q, r, nm, hv, bv⟩ : O13) = N at O8 NN
    -- the right steps
    refine ⟨fun σ H9 => ∃ (v6 : Option V) (n9 : Nat), σ = [some (.ref xs), some (.ref a.s), some (.ref ka), some (.ref sa), some (.ref nm), some (.ref o), v6, some (.ref pl), some (.ref D), none, none, none, none, none] ∧ n9 ≤ n + 400 ∧ Rnd H9 a n9 ∧ OwnR K H9 a o N, ?_, ?_⟩
    · refine ⟨_, rfl, o, N, rfl, O8.h, fun la ws H9 s9 nl el tr => ?_⟩
      have R9 := R8.same s9
      have O9 := O8.same s9
      have oL := R8.off nl
      have lw := tr.len
      have lg : (allGood N.x N.y N.c N.t N.g N.none N.new N.p N.q N.r).length = 20 := rfl
      refine ⟨la, rfl, ⟨_, SqL.of el⟩, for_list (K := K) (a := la) (xs := ws) (fun i σ H3 => ∃ (v6 : Option V) (n' : Nat), σ = [some (.ref xs), some (.ref a.s), some (.ref ka), some (.ref sa), some (.ref nm), some (.ref o), v6, some (.ref pl), some (.ref D), none, none, none, none, none] ∧ n' ≤ n + 10 * i ∧ Rnd H3 a n' ∧ But a H9 H3)
        ⟨v6, n, rfl, Nat.le_refl _, R9, But.refl _ _⟩ (fun i σ H3 _ ⟨_, _, _, _, _, b3⟩ => SqL.of (b3.at oL el)) ?_ ?_⟩
      · rintro i v σ H3 hi ⟨v6, n', rfl, hn', R3, b3⟩
        obtain ⟨one, ho, tv⟩ := tr.get hi
        have hil : i < 20 := by
          have := (List.getElem?_eq_some_iff.mp ho).1
          omega
        have hmem := List.mem_of_getElem? ho
        have tv3 := tv.rnd R9 R3 b3
        have O3 := O9.rnd R9 R3 b3
        refine ⟨_, rfl, o, _, rfl, on_book ▸ DGet.k (k := Sum.inr "book") O3.h.od, ?_⟩
        refine ⟨_, rfl, _, rfl, _, rfl, Nat.zero_le _, fun pp np => ?_⟩
        obtain ⟨s4, t4⟩ := new_tr (K := K) np .nil
        generalize upd H3 pp (.tup []) = H4 at s4 t4 ⊢
        refine ⟨a, n', o, N, v, one, .ref pp, [], rfl, R3.same s4, by omega, O3.same s4, tv3.same s4, t4, Nat.zero_le _, fun L th pl' b k2 ws' n5 H5 hb hk2 hlw hws hn5 R5 b5 nL eL tth tpl => ?_⟩
        have O5 := (O3.same s4).rnd (R3.same s4) R5 b5
        refine ⟨L, _, 0, th, rfl, rfl, SqL.of eL, at_of (j := 0) rfl rfl, ?_⟩
        refine ⟨N.bv, th, .non, bookT N, _, .non, rfl, O5.h.bt, NN.book, tth, .non, put_good NN.n NN.s hb hk2 hlw hws hmem, fun H6 s6 => ⟨_, rfl, iteF ?_⟩⟩
        exact ⟨some v, n5, rfl, by omega, R5.same s6, (b3.trans (Same.but s4)).trans (b5.trans (Same.but s6))⟩
      · rintro σ H3 ⟨v6, n', rfl, hn', R3, b3⟩
        exact ⟨v6, n', rfl, by omega, R3, O9.rnd R9 R3 b3⟩
    rintro σ H9 ⟨v6, n9, rfl, hn9, R9, O9⟩
    clear R8 O8
    -- the wrong ones
    refine ⟨fun σ H10 => ∃ (v6 v11 v12 v13 : Option V) (n10 : Nat), σ = [some (.ref xs), some (.ref a.s), some (.ref ka), some (.ref sa), some (.ref nm), some (.ref o), v6, some (.ref pl), some (.ref D), none, none, v11, v12, v13] ∧ n10 ≤ n + 4000 ∧ Rnd H10 a n10 ∧ OwnR K H10 a o N, ?_, ?_⟩
    · refine ⟨_, rfl, o, N, rfl, O9.h, fun la ws H1 s1 nl el tr => ?_⟩
      refine ⟨_, rfl, o, N, rfl, O9.h.same s1, fun lb us H2 s2 nl2 el2 tr2 => ?_⟩
      have e1 := tr.len
      have e2 := tr2.len
      have z1 : (allWrong N.x N.y N.c N.t N.g N.none N.new N.p N.q N.r).length = 62 := rfl
      have z2 : (allMade N.x N.y N.c N.t N.g N.none N.new N.p N.q N.r).length = 36 := rfl
      refine ⟨la, lb, ws, us, rfl, rfl, s2 _ _ el, el2, by rw [sizeLine_eq]; omega, fun lc nc' => ?_⟩
      have s3 := same_new (o := .lst (ws ++ us)) nc'
      have e3 : (upd H2 lc (.lst (ws ++ us))) lc = some (.lst (ws ++ us)) := upd_same
      have t3 := ((tr.same s2).app tr2).same s3
      generalize upd H2 lc (.lst (ws ++ us)) = H3 at s3 e3 t3 ⊢
      have s13 := (s1.trans s2).trans s3
      refine ⟨lc, rfl, ⟨_, SqL.of e3⟩, fun G nG => ?_⟩
      refine lc_list (K := K) (a := lc) (xs := ws ++ us) (fun i H4 => Same H3 H4 ∧ ∃ gs ts, H4 G = some (.lst gs) ∧ TrAll K H4 gs ts ∧ ts.length = i ∧ ∀ p ∈ ts, WrongP N p) ⟨same_new nG, [], [], upd_same, .nil, rfl, fun p h => (by cases h)⟩ (fun i H4 _ ⟨s4, _⟩ => SqL.of (s4 _ _ e3)) ?_ ?_
      · rintro i v H4 hi ⟨s4, gs, ts, eG, tgs, hl', hok⟩
        obtain ⟨one, ho, tv⟩ := t3.get hi
        have il : i < 98 := by
          have := (List.getElem?_eq_some_iff.mp hi).1
          rw [List.length_append] at this
          omega
        have hb := wrong_one NN (List.mem_of_getElem? ho)
        refine ⟨rfl, ?_⟩
        refine tyes ?_
        refine ⟨_, rfl, Nat.zero_le _, fun p1 np1 => ⟨two', fun p2 np2 => ?_⟩⟩
        obtain ⟨s5, t5⟩ := new_tr (K := K) np1 .nil
        generalize upd H4 p1 (.tup []) = H5 at s5 t5 np2 ⊢
        obtain ⟨s6, t6⟩ := new_tr np2 (.cons ((tv.same s4).same s5) (.cons t5 .nil))
        generalize upd H5 p2 (.tup [v, .ref p1]) = H6 at s6 t6 ⊢
        have s46 := s5.trans s6
        have eG6 := s46 _ _ eG
        have lu := tgs.len
        refine ⟨gs, eG6, small1000 (by omega), (fun b w e => ?_), gs ++ [.ref p2], ts ++ [.tup [one, .tup (intsT [])]], upd_same, ((tgs.same s46).updL eG6).app (.cons (t6.updL eG6) .nil), by rw [List.length_append, hl']; rfl, fun p hp => ?_⟩
        · rw [upd_ne (ne_of_none e nG)]
          exact s46 _ _ (s4 _ _ e)
        · rcases List.mem_append.mp hp with hp | hp
          · exact hok p hp
          · rw [List.mem_singleton.mp hp]
            exact ⟨one, [], rfl, hb⟩
      rintro H4 ⟨s4, gs, ts, eG, tgs, hl', hok⟩
      rw [List.length_append] at hl'
      refine ⟨_, rfl, o, N, rfl, O9.h.same (s13.trans s4), fun ld zs H5 s5 nd ed td => ?_⟩
      have e5 := td.len
      have z5 : (allWith N.x N.y N.c N.t N.g N.none N.new N.p N.q N.r).length = 7 := rfl
      have e6 := tgs.len
      refine ⟨G, ld, gs, zs, rfl, rfl, s5 _ _ eG, ed, by rw [sizeLine_eq]; omega, fun L nL => ?_⟩
      have s6 := same_new (o := .lst (gs ++ zs)) nL
      have eL : (upd H5 L (.lst (gs ++ zs))) L = some (.lst (gs ++ zs)) := upd_same
      have tL := ((tgs.same s5).app td).same s6
      generalize upd H5 L (.lst (gs ++ zs)) = H6 at s6 eL tL ⊢
      have s16 := (s13.trans s4).trans (s5.trans s6)
      have oL := R9.off (((s13.trans s4).trans s5).free nL)
      have R6 := R9.same s16
      have O6 := O9.same s16
      have hall : ∀ p ∈ ts ++ allWith N.x N.y N.c N.t N.g N.none N.new N.p N.q N.r, WrongP N p := fun p hp => by
        rcases List.mem_append.mp hp with hp | hp
        · exact hok p hp
        · exact wrong_with NN hp
      have ll : (gs ++ zs).length ≤ 120 := by rw [List.length_append]; omega
      generalize gs ++ zs = ls at eL tL ll
      generalize ts ++ allWith N.x N.y N.c N.t N.g N.none N.new N.p N.q N.r = lt at tL hall
      refine ⟨L, rfl, ⟨_, SqL.of eL⟩, for_list (K := K) (a := L) (xs := ls) (fun i σ H7 => ∃ (v6 v11 v12 v13 : Option V) (n7 : Nat), σ = [some (.ref xs), some (.ref a.s), some (.ref ka), some (.ref sa), some (.ref nm), some (.ref o), v6, some (.ref pl), some (.ref D), none, none, v11, v12, v13] ∧ n7 ≤ n9 + 10 * i ∧ Rnd H7 a n7 ∧ But a H6 H7)
        ⟨v6, none, none, none, n9, rfl, Nat.le_refl _, R6, But.refl _ _⟩ (fun i σ H7 _ ⟨_, _, _, _, _, _, _, _, b7⟩ => SqL.of (b7.at oL eL)) ?_ ?_⟩
      · rintro i v σ H7 hi ⟨v6, v11, v12, v13, n7, rfl, hn7, R7, b7⟩
        obtain ⟨p0, hp, tv⟩ := tL.get hi
        have hil : i < 120 := by
          have := (List.getElem?_eq_some_iff.mp hi).1
          omega
        obtain ⟨one, w', rfl, hb1, hb2, hb3, hb4⟩ := hall p0 (List.mem_of_getElem? hp)
        obtain ⟨pa, u1, u2, rfl, hpa, tu1, tu2⟩ := tr_two (tv.rnd R6 R7 b7)
        have O7 := O6.rnd R6 R7 b7
        refine ⟨pa, _, rfl, hpa, rfl, _, _, rfl, _, _, rfl, rfl, ?_⟩
        refine ⟨_, rfl, _, rfl, _, rfl, _, rfl, a, n7, o, N, u1, one, u2, w', rfl, R7, by omega, O7, tu1, tu2, by omega, fun L2 th pl' b k2 ws' n8 H8 hb hk2 hlw hws hn8 R8 b8 nL2 eL2 tth tpl => ?_⟩
        refine ⟨L2, _, rfl, SqL.of eL2, rfl, _, _, rfl, _, _, rfl, rfl, ?_⟩
        have O8 := O7.rnd R7 R8 b8
        refine ⟨_, rfl, o, _, rfl, on_book ▸ DGet.k (k := Sum.inr "book") O8.h.od, ?_⟩
        refine ⟨_, rfl, _, rfl, N.bv, th, pl', bookT N, _, _, rfl, O8.h.bt, NN.book, tth, tpl, put_bad NN.n NN.s hb hk2 hlw hws hb3 hb1 hb2 hb4, fun H9 s9 => ⟨_, rfl, iteF ?_⟩⟩
        exact ⟨some u1, some u2, some th, some pl', n8, rfl, by omega, R8.same s9, b7.trans (b8.trans (Same.but s9))⟩
      · rintro σ H7 ⟨v6, v11, v12, v13, n7, rfl, hn7, R7, b7⟩
        exact ⟨v6, v11, v12, v13, n7, rfl, by omega, R7, O6.rnd R6 R7 b7⟩
    rintro σ H10 ⟨v6, v11, v12, v13, n10, rfl, hn10, R10, O10⟩
    -- truths, odd things, books
    refine ⟨_, rfl, o, N, rfl, O10.h, NN, fun G1 s1 => ⟨_, rfl, iteF ?_⟩⟩
    have O11 := O10.same s1
    refine ⟨_, rfl, _, rfl, a, n10, o, N, rfl, R10.same s1, by omega, O11, NN, fun n12 G2 hn12 R12 b12 => ⟨_, rfl, iteF ?_⟩⟩
    have O12 := O11.rnd (R10.same s1) R12 b12
    refine ⟨_, rfl, o, N, rfl, O12.h, NN, fun G3 s3 => ⟨true, rfl, iteT ⟨rfl, ?_⟩⟩⟩
    exact k G3
end
end BK

set_option Elab.async false
set_option maxRecDepth 100000
set_option maxHeartbeats 2000000
/-! The law is called where nothing runs: the script alone is told. -/
namespace BK
open PySem PySem.Spec PyProof.Rows L2
abbrev listOf (us : List Value) : Obj := { cls := .type "list", data := .seq us.toArray }
section
variable {P : Program} {w : World} {K : PySem.W.Frag} {mg mb : Str → Option Value} {s : Shared} {us : List Value} {ns : List Int} {sc : Addr}
theorem first_hp (hs : s.heap.get? sc = some (listOf us)) (KX : K.In s.heap) (inz : IntsAre us ns) (few : ns.length ≤ sizeLine) :
    ∃ H : Hp, SqL K H sc (ns.map V.int) ∧ HOk P w H s.heap ∧ ∀ b u, H b = some u → (b = sc ∧ K.lookup sc = none ∧ ∃ o xs, u = .frz o (.lst xs)) := by
  have vi := vals_ints inz
  have li := inz.length
  cases kl : K.lookup sc with
  | some o =>
    have eo : o = listOf us := Option.some.inj ((KX sc o kl).symm.trans hs)
    refine ⟨fun _ => none, .inr ⟨o, us.toArray, 0, kl, by rw [eo], by rw [eo], by rw [eo], by rw [List.size_toArray, li]; exact few, by simpa using vi⟩, fun b u e => ?_, fun b u e => ?_⟩
    · cases e
    · cases e
  | none =>
    refine ⟨upd (fun _ => none) sc (.frz (listOf us) (.lst (ns.map V.int))), .inl (.inr ⟨listOf us, upd_same⟩), fun b u e => ?_, fun b u e => ?_⟩
    · by_cases hb : b = sc
      · rw [hb, upd_same] at e
        cases e
        rw [hb]
        exact ⟨hs, by rw [List.length_map]; exact few, us, 0, vi, hs⟩
      · rw [upd_ne hb] at e
        cases e
    · by_cases hb : b = sc
      · rw [hb, upd_same] at e
        cases e
        exact ⟨hb, rfl, _, _, rfl⟩
      · rw [upd_ne hb] at e
        cases e
theorem call_law {k : Nat} {fa : Addr} {fd : FuncData} {x : Str} {sp : Sp} (KX : K.In s.heap) (gl : s.heap.Ns mainGlobals mg) (bl : s.heap.Ns builtinsNs mb) (bb : ∀ x : Str, x ≠ "__name__" → mb x = bootBuiltins x) (nl : s.heap.NoLimit) (ge : s.gens = #[])
    (hs : s.heap.get? sc = some (listOf us)) (inz : IntsAre us ns) (few : ns.length ≤ sizeLine) (hr : Room k callerA)
    (F : ∀ base : Heap, K.In base → base.Ns mainGlobals mg → FnG P w K mg base k fa fd [x] sp) (bd : ∀ (s : Shared) (u : Value), BindsTo s fd ⟨[u], []⟩ [(x, u)])
    (pr : ∀ H : Hp, SqL K H sc (ns.map V.int) → sp [.ref sc] H (fun v _ => v = .bl true) fun _ _ _ => False) :
    codeAny (model P w) callerA (.call (.ref fa) ⟨[.ref sc], []⟩) (fun r s' => r = .ok (.ret (.bool true)) ∧ OldK s.heap s'.heap ∧ s'.os = s.os ∧ AllBare s'.gens) s := by
  obtain ⟨H, hS, ok, only⟩ := first_hp (P := P) (w := w) hs KX inz few
  have stays : ∀ {b : Addr} {o : Obj}, s.heap.get? b = some o → (b = sc → K.lookup sc = none → False) → (hidT s.heap H).get? b = some o := fun {b o} e h2 => hidT_get e (by
    cases q : H b with
    | none => rfl
    | some u =>
      obtain ⟨z, z2, _⟩ := only b u q
      exact (h2 z z2).elim)
  have other : ∀ {b : Addr} {o : Obj}, s.heap.get? b = some o → o ≠ listOf us → (hidT s.heap H).get? b = some o := fun {b o} e h2 =>
    stays e (fun z _ => h2 (Option.some.inj ((by rw [← e, z]; exact hs))))
  have kb : K.In (hidT s.heap H) := fun b o e => stays (KX b o e) fun z z2 => by rw [z, z2] at e; cases e
  have dict_ : ∀ {b : Addr} {m : Str → Option Value}, s.heap.Ns b m → (hidT s.heap H).Ns b m := fun {b m} h => by
    obtain ⟨o, es, ep, e, d, r⟩ := h
    exact ⟨o, es, ep, other e (fun z => by rw [z] at d; cases d), d, r⟩
  have md : L2.Mod K mg (hidT s.heap H) := by
    obtain ⟨mc, q1, q2⟩ := nl
    exact ⟨kb, dict_ gl, ⟨mb, dict_ bl, bb⟩, mc, dict_ q1, q2⟩
  have e0 : Env0 P w K mg (hidT s.heap H) callerA [] s H := ⟨rfl, md, fun b o e => of_hidT e, Nat.le_of_eq (hidT_size _ _), trivial, (fun b hb => by cases hb), ok, .of_eq ge⟩
  refine codeAny_mono ((F _ kb (dict_ gl)).run callerA [] s H [.ref sc] [.ref sc] _ _ rfl hr e0 (bd s (.ref sc)) (.cons rfl .nil) (pr H hS)) fun r s' h => ?_
  match r, h with
  | .ok (.ret u), ⟨v, H', os, bare, un, ok', rv, q⟩ =>
    have ev : v = .bl true := q
    rw [ev] at rv
    have eu : u = Value.bool true := rv
    have old : ∀ b o, s.heap.get? b = some o → s'.heap.get? b = some o := fun b o e => by
      cases q : H b with
      | none => exact un.keep b o e q (by intro z; cases z) (by simp)
      | some u =>
        obtain ⟨_, _, o2, xs, z⟩ := only b u q
        rw [z] at q
        have a1 := (ok b _ q).1
        have a2 := (ok' b _ (un.frzs b o2 _ q)).1
        rw [e] at a1
        cases a1
        exact a2
    exact ⟨by rw [eu], ⟨fun b o e => .inl (old b o e), fun b o e => ⟨o, old b o e⟩⟩, os, bare⟩
end
/-! the dict of the forms -/
def litKeys (es : List DictEntry) : Bool := es.all fun e => match e.key with
  | .str k _ => (kindsOf k).isSome
  | _ => false
theorem no_of {K : PySem.W.Frag} {p : Addr} {es : Array DictEntry} {n : Nat} (hl : K.lookup p = some ⟨.type "dict", none, .dict es n, #[]⟩) (hk : litKeys es.toList = true) (x : Str) (hx : kindsOf x = none) : PySem.W.nsIn K p x = some none := by
  have e1 : es.toList.find? (·.key.isStr x) = none := by
    rw [List.find?_eq_none]
    intro e he
    have q := List.all_eq_true.mp hk e he
    cases ek : e.key with
    | str k t =>
      rw [ek] at q
      intro z
      have z2 : Value.isStrOf x (.str k t) = true := by rw [← PySem.W.isStr_of]; exact z
      have e2 : k = x := by
        unfold Value.isStrOf at z2
        simpa using z2
      have q2 : (kindsOf k).isSome = true := q
      rw [e2, hx] at q2
      cases q2
    | _ => rw [ek] at q; cases q
  have e2 : es.toList.any (·.refKey) = false := by
    rw [List.any_eq_false]
    intro e he
    have q := List.all_eq_true.mp hk e he
    cases ek : e.key with
    | str k t =>
      unfold DictEntry.refKey
      rw [ek]
      simp
    | _ => rw [ek] at q; cases q
  unfold PySem.W.nsIn
  rw [hl]
  show (match es.toList.find? (·.key.isStr x) with
      | some e => some (some e.val)
      | none => if es.toList.any (·.refKey) then none else some none) = some none
  rw [e1, e2]
  rfl
theorem kinds_mem {x : Str} {ks : List Str} (h : kindsOf x = some ks) : (x, ks) ∈ kindTab := by
  unfold kindsOf at h
  cases e : kindTab.find? fun e => decide (e.1 = x) with
  | none => rw [e] at h; cases h
  | some p =>
    rw [e] at h
    have q : p.2 = ks := Option.some.inj h
    have q0 : (fun e : Str × List Str => decide (e.1 = x)) p = true := List.find?_some (p := fun e : Str × List Str => decide (e.1 = x)) e
    have q1 : p.1 = x := of_decide_eq_true q0
    have m := List.mem_of_find?_eq_some e
    rw [← q, ← q1]
    exact m
/-! the dict of the steps -/
def litKeysS (es : List DictEntry) : Bool := es.all fun e => match e.key with
  | .str k _ => (stepKinds k).isSome
  | _ => false
theorem no_ofS {K : PySem.W.Frag} {p : Addr} {es : Array DictEntry} {n : Nat} (hl : K.lookup p = some ⟨.type "dict", none, .dict es n, #[]⟩) (hk : litKeysS es.toList = true) (x : Str) (hx : stepKinds x = none) : PySem.W.nsIn K p x = some none := by
  have e1 : es.toList.find? (·.key.isStr x) = none := by
    rw [List.find?_eq_none]
    intro e he
    have q := List.all_eq_true.mp hk e he
    cases ek : e.key with
    | str k t =>
      rw [ek] at q
      intro z
      have z2 : Value.isStrOf x (.str k t) = true := by rw [← PySem.W.isStr_of]; exact z
      have e2 : k = x := by
        unfold Value.isStrOf at z2
        simpa using z2
      have q2 : (stepKinds k).isSome = true := q
      rw [e2, hx] at q2
      cases q2
    | _ => rw [ek] at q; cases q
  have e2 : es.toList.any (·.refKey) = false := by
    rw [List.any_eq_false]
    intro e he
    have q := List.all_eq_true.mp hk e he
    cases ek : e.key with
    | str k t =>
      unfold DictEntry.refKey
      rw [ek]
      simp
    | _ => rw [ek] at q; cases q
  unfold PySem.W.nsIn
  rw [hl]
  show (match es.toList.find? (·.key.isStr x) with
      | some e => some (some e.val)
      | none => if es.toList.any (·.refKey) then none else some none) = some none
  rw [e1, e2]
  rfl
end BK

set_option Elab.async false
set_option maxRecDepth 100000
set_option maxHeartbeats 4000000
/-! What the top has written, and the claim. -/
namespace BK
open PySem PySem.Spec PyProof.Rows L2 SW
theorem exm_own {K : PySem.W.Frag} {S : Addr} (h1 : PySem.W.subIn K (.ref S) (.type "BaseException") = some true) (h2 : PySem.W.isClsIn K S = true) (h3 : PySem.W.typeIn K (.ref S) = some (.type "type")) (h4 : PySem.W.subIn K (.ref S) (.ref S) = some true) : PySem.W.exmOne K (.ref S) (.ref S) = some true := by
  have a : (PySem.W.subIn K (.ref S) (.type "BaseException") == some true) = true := by rw [h1] <;> rfl
  have b : ((PySem.W.clsIn K S).isSome && PySem.W.typeIn K (.ref S) == some (.type "type")) = true := by
    have c : (PySem.W.clsIn K S).isSome = true := h2
    rw [c, h3] <;> rfl
  unfold PySem.W.exmOne
  rw [if_pos a]
  unfold PySem.W.kitCls
  exact (if_pos b).trans h4
theorem sz4 {n : Nat} (h : n ≤ 4) : n ≤ sizeLine := by
  rw [sizeLine_eq]
  omega
theorem walkG {l : PySem.W.OpenLaw} {q : Program} {loose : List Str} {XP : (Str → Option Value) → Heap → Prop} {YP : World → Heap → Prop} {d : DefRec} {K : Params → PySem.W.Frag} (hn : l.most = some 63) (hdf : d.params.defaults = [])
    (hY : ∀ (w : World) (h : Heap), YP w h → (K w.params).In h)
    (F : ∀ (w : World) (mg : Str → Option Value) (fa : Addr) (h : Heap), (K w.params).In h → h.Ns mainGlobals mg → mg d.name = some (.ref fa) →
      ∃ (fd : FuncData), (∀ (s : Shared) (u : Value), BindsTo s fd ⟨[u], []⟩ [("script", u)]) ∧ ∀ base : Heap, (K w.params).In base → base.Ns mainGlobals mg → FnG l.prog w (K w.params) mg base 25 fa fd ["script"] (spLaw (K w.params))) :
    PySem.W.WalkO q loose XP YP l.row.toRowW d [] (fun f vs => PySem.call f vs) := by
  refine Att.attach_callB hn hdf fun w s0 s mg mb fa o pm cd doc a vs ns G Y _ _ _ hmg obj inz few _ ge => ?_
  have KX := hY w _ Y
  obtain ⟨fd, bd, GF⟩ := F w mg fa _ KX G.T.g hmg
  exact call_law KX G.T.g G.T.b G.T.builtins G.T.nolimit ge obj inz (Nat.le_trans few (by decide)) ⟨rfl, by decide, by decide⟩ GF bd
    fun H h2 => ⟨a, ns, rfl, h2, few, fun _ => rfl⟩
theorem all_mk {P : Program} {w : World} {K : PySem.W.Frag} {h : Heap} {mg : Str → Option Value} {fa C CK CB CP CQ CT CF CS : Addr} (X : K.In h) (G : h.Ns mainGlobals mg) (hfa : mg "law" = some (.ref fa))
    {fcin : Addr} {odcin ancin : Option Addr} {slcin : Array (Option Value)} {occin kVcin dccin pmcin cdcin ctcin : Value}
    {ftak : Addr} {odtak antak : Option Addr} {sltak : Array (Option Value)} {octak kVtak dctak pmtak cdtak cttak : Value}
    {fknw : Addr} {odknw anknw : Option Addr} {slknw : Array (Option Value)} {ocknw kVknw dcknw pmknw cdknw ctknw : Value}
    {ffin : Addr} {odfin anfin : Option Addr} {slfin : Array (Option Value)} {ocfin kVfin dcfin pmfin cdfin ctfin : Value}
    {fbin : Addr} {odbin anbin : Option Addr} {slbin : Array (Option Value)} {ocbin kVbin dcbin pmbin cdbin ctbin : Value}
    {fpin : Addr} {odpin anpin : Option Addr} {slpin : Array (Option Value)} {ocpin kVpin dcpin pmpin cdpin ctpin : Value}
    {fpkn : Addr} {odpkn anpkn : Option Addr} {slpkn : Array (Option Value)} {ocpkn kVpkn dcpkn pmpkn cdpkn ctpkn : Value}
    {fpsl : Addr} {odpsl anpsl : Option Addr} {slpsl : Array (Option Value)} {ocpsl kVpsl dcpsl pmpsl cdpsl ctpsl : Value}
    {fpta : Addr} {odpta anpta : Option Addr} {slpta : Array (Option Value)} {ocpta kVpta dcpta pmpta cdpta ctpta : Value}
    {fpfi : Addr} {odpfi anpfi : Option Addr} {slpfi : Array (Option Value)} {ocpfi kVpfi dcpfi pmpfi cdpfi ctpfi : Value}
    {fbip : Addr} {odbip anbip : Option Addr} {slbip : Array (Option Value)} {ocbip kVbip dcbip pmbip cdbip ctbip : Value}
    {fisn : Addr} {odisn anisn : Option Addr} {slisn : Array (Option Value)} {ocisn kVisn dcisn pmisn cdisn ctisn : Value}
    {farn : Addr} {odarn anarn : Option Addr} {slarn : Array (Option Value)} {ocarn kVarn dcarn pmarn cdarn ctarn : Value}
    {fitg : Addr} {oditg anitg : Option Addr} {slitg : Array (Option Value)} {ocitg kVitg dcitg pmitg cditg ctitg : Value}
    {fkof : Addr} {odkof ankof : Option Addr} {slkof : Array (Option Value)} {ockof kVkof dckof pmkof cdkof ctkof : Value}
    {fnum : Addr} {odnum annum : Option Addr} {slnum : Array (Option Value)} {ocnum kVnum dcnum pmnum cdnum ctnum : Value}
    {ftup : Addr} {odtup antup : Option Addr} {sltup : Array (Option Value)} {octup kVtup dctup pmtup cdtup cttup : Value}
    {fdif : Addr} {oddif andif : Option Addr} {sldif : Array (Option Value)} {ocdif kVdif dcdif pmdif cddif ctdif : Value}
    {fprt : Addr} {odprt anprt : Option Addr} {slprt : Array (Option Value)} {ocprt kVprt dcprt pmprt cdprt ctprt : Value}
    {fwrd : Addr} {odwrd anwrd : Option Addr} {slwrd : Array (Option Value)} {ocwrd kVwrd dcwrd pmwrd cdwrd ctwrd : Value}
    {ffit : Addr} {odfit anfit : Option Addr} {slfit : Array (Option Value)} {ocfit kVfit dcfit pmfit cdfit ctfit : Value}
    {ffrm : Addr} {odfrm anfrm : Option Addr} {slfrm : Array (Option Value)} {ocfrm kVfrm dcfrm pmfrm cdfrm ctfrm : Value}
    {fpts : Addr} {odpts anpts : Option Addr} {slpts : Array (Option Value)} {ocpts kVpts dcpts pmpts cdpts ctpts : Value}
    {fblk : Addr} {odblk anblk : Option Addr} {slblk : Array (Option Value)} {ocblk kVblk dcblk pmblk cdblk ctblk : Value}
    {fcan : Addr} {odcan ancan : Option Addr} {slcan : Array (Option Value)} {occan kVcan dccan pmcan cdcan ctcan : Value}
    {fhyi : Addr} {odhyi anhyi : Option Addr} {slhyi : Array (Option Value)} {ochyi kVhyi dchyi pmhyi cdhyi cthyi : Value}
    {fknd : Addr} {odknd anknd : Option Addr} {slknd : Array (Option Value)} {ocknd kVknd dcknd pmknd cdknd ctknd : Value}
    {fprm : Addr} {odprm anprm : Option Addr} {slprm : Array (Option Value)} {ocprm kVprm dcprm pmprm cdprm ctprm : Value}
    {ftrp : Addr} {odtrp antrp : Option Addr} {sltrp : Array (Option Value)} {octrp kVtrp dctrp pmtrp cdtrp cttrp : Value}
    {ffpc : Addr} {odfpc anfpc : Option Addr} {slfpc : Array (Option Value)} {ocfpc kVfpc dcfpc pmfpc cdfpc ctfpc : Value}
    {fflt : Addr} {odflt anflt : Option Addr} {slflt : Array (Option Value)} {ocflt kVflt dcflt pmflt cdflt ctflt : Value}
    {fnee : Addr} {odnee annee : Option Addr} {slnee : Array (Option Value)} {ocnee kVnee dcnee pmnee cdnee ctnee : Value}
    {fiss : Addr} {odiss aniss : Option Addr} {sliss : Array (Option Value)} {ociss kViss dciss pmiss cdiss ctiss : Value}
    {fpss : Addr} {odpss anpss : Option Addr} {slpss : Array (Option Value)} {ocpss kVpss dcpss pmpss cdpss ctpss : Value}
    {fpof : Addr} {odpof anpof : Option Addr} {slpof : Array (Option Value)} {ocpof kVpof dcpof pmpof cdpof ctpof : Value}
    {fchk : Addr} {odchk anchk : Option Addr} {slchk : Array (Option Value)} {occhk kVchk dcchk pmchk cdchk ctchk : Value}
    {fnep : Addr} {odnep annep : Option Addr} {slnep : Array (Option Value)} {ocnep kVnep dcnep pmnep cdnep ctnep : Value}
    {fmix : Addr} {odmix anmix : Option Addr} {slmix : Array (Option Value)} {ocmix kVmix dcmix pmmix cdmix ctmix : Value}
    {fbeg : Addr} {odbeg anbeg : Option Addr} {slbeg : Array (Option Value)} {ocbeg kVbeg dcbeg pmbeg cdbeg ctbeg : Value}
    {fdrw : Addr} {oddrw andrw : Option Addr} {sldrw : Array (Option Value)} {ocdrw kVdrw dcdrw pmdrw cddrw ctdrw : Value}
    {fnam : Addr} {odnam annam : Option Addr} {slnam : Array (Option Value)} {ocnam kVnam dcnam pmnam cdnam ctnam : Value}
    {fnms : Addr} {odnms annms : Option Addr} {slnms : Array (Option Value)} {ocnms kVnms dcnms pmnms cdnms ctnms : Value}
    {fdue : Addr} {oddue andue : Option Addr} {sldue : Array (Option Value)} {ocdue kVdue dcdue pmdue cddue ctdue : Value}
    {fgoo : Addr} {odgoo angoo : Option Addr} {slgoo : Array (Option Value)} {ocgoo kVgoo dcgoo pmgoo cdgoo ctgoo : Value}
    {fwro : Addr} {odwro anwro : Option Addr} {slwro : Array (Option Value)} {ocwro kVwro dcwro pmwro cdwro ctwro : Value}
    {fmad : Addr} {odmad anmad : Option Addr} {slmad : Array (Option Value)} {ocmad kVmad dcmad pmmad cdmad ctmad : Value}
    {fwit : Addr} {odwit anwit : Option Addr} {slwit : Array (Option Value)} {ocwit kVwit dcwit pmwit cdwit ctwit : Value}
    {fput : Addr} {odput anput : Option Addr} {slput : Array (Option Value)} {ocput kVput dcput pmput cdput ctput : Value}
    {fnst : Addr} {odnst annst : Option Addr} {slnst : Array (Option Value)} {ocnst kVnst dcnst pmnst cdnst ctnst : Value}
    {ftru : Addr} {odtru antru : Option Addr} {sltru : Array (Option Value)} {octru kVtru dctru pmtru cdtru cttru : Value}
    {fodd : Addr} {ododd anodd : Option Addr} {slodd : Array (Option Value)} {ocodd kVodd dcodd pmodd cdodd ctodd : Value}
    {fboo : Addr} {odboo anboo : Option Addr} {slboo : Array (Option Value)} {ocboo kVboo dcboo pmboo cdboo ctboo : Value}
    {flaw : Addr} {odlaw anlaw : Option Addr} {sllaw : Array (Option Value)} {oclaw kVlaw dclaw pmlaw cdlaw ctlaw : Value}
    {t_LETTERS : Tok} {t_MOST_LETTERS : Tok} {t_MOST_NUMBER : Tok} {t_MOST_VALUE : Tok} {t_MOST_PIECES : Tok} {t_MOST_VARS : Tok} {t_MOST_PARAMS : Tok} {t_MOST_STATEMENTS : Tok} {t_MOST_AROUND : Tok} {t_MOST_DEEP : Tok}
    {aKD pP : Addr} {odKD : Option Addr} {nKD nP : Nat} {slKD : Array (Option Value)} {tKD1 tKD2 : Tok} {es : Array DictEntry}
    {p0 : Addr} {odp0 : Option Addr} {np0 : Nat} {slp0 : Array (Option Value)} {q0_0 q0_1 : Tok}
    {p1 : Addr} {odp1 : Option Addr} {np1 : Nat} {slp1 : Array (Option Value)} {q1_0 q1_1 q1_2 : Tok}
    {p2 : Addr} {odp2 : Option Addr} {np2 : Nat} {slp2 : Array (Option Value)} {q2_0 : Tok}
    {p3 : Addr} {odp3 : Option Addr} {np3 : Nat} {slp3 : Array (Option Value)} {q3_0 : Tok}
    {p4 : Addr} {odp4 : Option Addr} {np4 : Nat} {slp4 : Array (Option Value)} {q4_0 : Tok}
    {p5 : Addr} {odp5 : Option Addr} {np5 : Nat} {slp5 : Array (Option Value)} {q5_0 : Tok}
    {p6 : Addr} {odp6 : Option Addr} {np6 : Nat} {slp6 : Array (Option Value)} {q6_0 q6_1 : Tok}
    {p7 : Addr} {odp7 : Option Addr} {np7 : Nat} {slp7 : Array (Option Value)} {q7_0 q7_1 q7_2 q7_3 : Tok}
    {p8 : Addr} {odp8 : Option Addr} {np8 : Nat} {slp8 : Array (Option Value)} {q8_0 q8_1 q8_2 : Tok}
    {p9 : Addr} {odp9 : Option Addr} {np9 : Nat} {slp9 : Array (Option Value)} {q9_0 q9_1 : Tok}
    {p10 : Addr} {odp10 : Option Addr} {np10 : Nat} {slp10 : Array (Option Value)} {q10_0 : Tok}
    {p11 : Addr} {odp11 : Option Addr} {np11 : Nat} {slp11 : Array (Option Value)}
    {p12 : Addr} {odp12 : Option Addr} {np12 : Nat} {slp12 : Array (Option Value)}
    {p13 : Addr} {odp13 : Option Addr} {np13 : Nat} {slp13 : Array (Option Value)}
    {aSK pS : Addr} {odSK : Option Addr} {nSK nS : Nat} {slSK : Array (Option Value)} {tSK1 tSK2 tSK3 : Tok} {esS : Array DictEntry}
    {s0 : Addr} {ods0 : Option Addr} {ns0 : Nat} {sls0 : Array (Option Value)} {r0_0 r0_1 : Tok}
    {s1 : Addr} {ods1 : Option Addr} {ns1 : Nat} {sls1 : Array (Option Value)} {r1_0 r1_1 r1_2 : Tok}
    {s2 : Addr} {ods2 : Option Addr} {ns2 : Nat} {sls2 : Array (Option Value)} {r2_0 : Tok}
    {s3 : Addr} {ods3 : Option Addr} {ns3 : Nat} {sls3 : Array (Option Value)} {r3_0 : Tok}
    {s4 : Addr} {ods4 : Option Addr} {ns4 : Nat} {sls4 : Array (Option Value)} {r4_0 : Tok}
    {s5 : Addr} {ods5 : Option Addr} {ns5 : Nat} {sls5 : Array (Option Value)} {r5_0 : Tok}
    {s6 : Addr} {ods6 : Option Addr} {ns6 : Nat} {sls6 : Array (Option Value)} {r6_0 r6_1 : Tok}
    {s7 : Addr} {ods7 : Option Addr} {ns7 : Nat} {sls7 : Array (Option Value)} {r7_0 : Tok}
    {s8 : Addr} {ods8 : Option Addr} {ns8 : Nat} {sls8 : Array (Option Value)} {r8_0 r8_1 r8_2 : Tok}
    {s9 : Addr} {ods9 : Option Addr} {ns9 : Nat} {sls9 : Array (Option Value)} {r9_0 : Tok}
    {s10 : Addr} {ods10 : Option Addr} {ns10 : Nat} {sls10 : Array (Option Value)} {r10_0 : Tok}
    {nmB qB : Str} {NB : Addr} {bsB bmB : List Value} {snB : List Str} {subB : List Value} {abbB : Bool} {colB : Option Bool} {ddB : Option Addr} {m0B m1B m2B m3B m5B : Option Value}
    {nmP qP : Str} {NP : Addr} {bsP bmP : List Value} {snP : List Str} {subP : List Value} {abbP : Bool} {colP : Option Bool} {ddP : Option Addr} {m0P m1P m2P m3P m5P : Option Value}
    (aC : PySem.W.nsIn K mainGlobals "Check" = some (some (.ref C)))
    (aCK : PySem.W.nsIn K mainGlobals "ProgramCheck" = some (some (.ref CK)))
    (aCB : PySem.W.nsIn K mainGlobals "BadBook" = some (some (.ref CB)))
    (aCP : PySem.W.nsIn K mainGlobals "BadProgram" = some (some (.ref CP)))
    (aCQ : PySem.W.nsIn K mainGlobals "BadQuestion" = some (some (.ref CQ)))
    (aCT : PySem.W.nsIn K mainGlobals "BadText" = some (some (.ref CT)))
    (aCF : PySem.W.nsIn K mainGlobals "Fails" = some (some (.ref CF)))
    (aCS : PySem.W.nsIn K mainGlobals "StepwhereError" = some (some (.ref CS)))
    (acin : PySem.W.findIn K (.ref C) "__init__" = some (some (.ref fcin)))
    (icin : PySem.W.isFn K (.ref fcin) = true)
    (lcin : K.lookup fcin = some ⟨occin, odcin, .func (PySem.W.fnOf "__init__" "Check.__init__" (defArgs sCInit) (defBody sCInit) (defScope sCInit) .none kVcin dccin pmcin ancin cdcin ctcin), slcin⟩)
    (ccin : PySem.W.codeIn K cdcin "Check.__init__" = true)
    (kcin : PySem.W.keepIn K (.ref fcin) = true)
    (atak : PySem.W.findIn K (.ref C) "takes" = some (some (.ref ftak)))
    (itak : PySem.W.isFn K (.ref ftak) = true)
    (ltak : K.lookup ftak = some ⟨octak, odtak, .func (PySem.W.fnOf "takes" "Check.takes" (defArgs sTakes) (defBody sTakes) (defScope sTakes) .none kVtak dctak pmtak antak cdtak cttak), sltak⟩)
    (ctak : PySem.W.codeIn K cdtak "Check.takes" = true)
    (ktak : PySem.W.keepIn K (.ref ftak) = true)
    (aknw : PySem.W.findIn K (.ref C) "knows" = some (some (.ref fknw)))
    (iknw : PySem.W.isFn K (.ref fknw) = true)
    (lknw : K.lookup fknw = some ⟨ocknw, odknw, .func (PySem.W.fnOf "knows" "Check.knows" (defArgs sKnows) (defBody sKnows) (defScope sKnows) .none kVknw dcknw pmknw anknw cdknw ctknw), slknw⟩)
    (cknw : PySem.W.codeIn K cdknw "Check.knows" = true)
    (kknw : PySem.W.keepIn K (.ref fknw) = true)
    (afin : PySem.W.findIn K (.ref C) "fault_in" = some (some (.ref ffin)))
    (ifin : PySem.W.isFn K (.ref ffin) = true)
    (lfin : K.lookup ffin = some ⟨ocfin, odfin, .func (PySem.W.fnOf "fault_in" "Check.fault_in" (defArgs sFault) (defBody sFault) (defScope sFault) .none kVfin dcfin pmfin anfin cdfin ctfin), slfin⟩)
    (cfin : PySem.W.codeIn K cdfin "Check.fault_in" = true)
    (kfin : PySem.W.keepIn K (.ref ffin) = true)
    (abin : PySem.W.findIn K (.ref CB) "__init__" = some (some (.ref fbin)))
    (ibin : PySem.W.isFn K (.ref fbin) = true)
    (lbin : K.lookup fbin = some ⟨ocbin, odbin, .func (PySem.W.fnOf "__init__" "BadBook.__init__" (defArgs sBadInit) (defBody sBadInit) (defScope sBadInit) .none kVbin dcbin pmbin anbin cdbin ctbin), slbin⟩)
    (cbin : PySem.W.codeIn K cdbin "BadBook.__init__" = true)
    (kbin : PySem.W.keepIn K (.ref fbin) = true)
    (apin : PySem.W.findIn K (.ref CK) "__init__" = some (some (.ref fpin)))
    (ipin : PySem.W.isFn K (.ref fpin) = true)
    (lpin : K.lookup fpin = some ⟨ocpin, odpin, .func (PySem.W.fnOf "__init__" "ProgramCheck.__init__" (defArgs sPInit) (defBody sPInit) (defScope sPInit) .none kVpin dcpin pmpin anpin cdpin ctpin), slpin⟩)
    (cpin : PySem.W.codeIn K cdpin "ProgramCheck.__init__" = true)
    (kpin : PySem.W.keepIn K (.ref fpin) = true)
    (apkn : PySem.W.findIn K (.ref CK) "knows" = some (some (.ref fpkn)))
    (ipkn : PySem.W.isFn K (.ref fpkn) = true)
    (lpkn : K.lookup fpkn = some ⟨ocpkn, odpkn, .func (PySem.W.fnOf "knows" "ProgramCheck.knows" (defArgs sPKnows) (defBody sPKnows) (defScope sPKnows) .none kVpkn dcpkn pmpkn anpkn cdpkn ctpkn), slpkn⟩)
    (cpkn : PySem.W.codeIn K cdpkn "ProgramCheck.knows" = true)
    (kpkn : PySem.W.keepIn K (.ref fpkn) = true)
    (apsl : PySem.W.findIn K (.ref CK) "slots_at" = some (some (.ref fpsl)))
    (ipsl : PySem.W.isFn K (.ref fpsl) = true)
    (lpsl : K.lookup fpsl = some ⟨ocpsl, odpsl, .func (PySem.W.fnOf "slots_at" "ProgramCheck.slots_at" (defArgs sPSlots) (defBody sPSlots) (defScope sPSlots) .none kVpsl dcpsl pmpsl anpsl cdpsl ctpsl), slpsl⟩)
    (cpsl : PySem.W.codeIn K cdpsl "ProgramCheck.slots_at" = true)
    (kpsl : PySem.W.keepIn K (.ref fpsl) = true)
    (apta : PySem.W.findIn K (.ref CK) "takes" = some (some (.ref fpta)))
    (ipta : PySem.W.isFn K (.ref fpta) = true)
    (lpta : K.lookup fpta = some ⟨ocpta, odpta, .func (PySem.W.fnOf "takes" "ProgramCheck.takes" (defArgs sPTakes) (defBody sPTakes) (defScope sPTakes) .none kVpta dcpta pmpta anpta cdpta ctpta), slpta⟩)
    (cpta : PySem.W.codeIn K cdpta "ProgramCheck.takes" = true)
    (kpta : PySem.W.keepIn K (.ref fpta) = true)
    (apfi : PySem.W.findIn K (.ref CK) "fault_in" = some (some (.ref fpfi)))
    (ipfi : PySem.W.isFn K (.ref fpfi) = true)
    (lpfi : K.lookup fpfi = some ⟨ocpfi, odpfi, .func (PySem.W.fnOf "fault_in" "ProgramCheck.fault_in" (defArgs sPFault) (defBody sPFault) (defScope sPFault) .none kVpfi dcpfi pmpfi anpfi cdpfi ctpfi), slpfi⟩)
    (cpfi : PySem.W.codeIn K cdpfi "ProgramCheck.fault_in" = true)
    (kpfi : PySem.W.keepIn K (.ref fpfi) = true)
    (abip : PySem.W.findIn K (.ref CP) "__init__" = some (some (.ref fbip)))
    (ibip : PySem.W.isFn K (.ref fbip) = true)
    (lbip : K.lookup fbip = some ⟨ocbip, odbip, .func (PySem.W.fnOf "__init__" "BadProgram.__init__" (defArgs sBadPInit) (defBody sBadPInit) (defScope sBadPInit) .none kVbip dcbip pmbip anbip cdbip ctbip), slbip⟩)
    (cbip : PySem.W.codeIn K cdbip "BadProgram.__init__" = true)
    (kbip : PySem.W.keepIn K (.ref fbip) = true)
    (aisn : PySem.W.nsIn K mainGlobals "is_name" = some (some (.ref fisn)))
    (lisn : K.lookup fisn = some ⟨ocisn, odisn, .func (PySem.W.fnOf "is_name" "is_name" (defArgs BK.sName) (defBody BK.sName) (defScope BK.sName) .none kVisn dcisn pmisn anisn cdisn ctisn), slisn⟩)
    (cisn : PySem.W.codeIn K cdisn "is_name" = true)
    (kisn : PySem.W.keepIn K (.ref fisn) = true)
    (aarn : PySem.W.nsIn K mainGlobals "are_names" = some (some (.ref farn)))
    (larn : K.lookup farn = some ⟨ocarn, odarn, .func (PySem.W.fnOf "are_names" "are_names" (defArgs sAreNames) (defBody sAreNames) (defScope sAreNames) .none kVarn dcarn pmarn anarn cdarn ctarn), slarn⟩)
    (carn : PySem.W.codeIn K cdarn "are_names" = true)
    (karn : PySem.W.keepIn K (.ref farn) = true)
    (aitg : PySem.W.nsIn K mainGlobals "is_integer" = some (some (.ref fitg)))
    (akof : PySem.W.nsIn K mainGlobals "kinds_of" = some (some (.ref fkof)))
    (anum : PySem.W.nsIn K mainGlobals "is_number" = some (some (.ref fnum)))
    (litg : K.lookup fitg = some ⟨ocitg, oditg, .func (PySem.W.fnOf "is_integer" "is_integer" (defArgs sInteger) (defBody sInteger) (defScope sInteger) .none kVitg dcitg pmitg anitg cditg ctitg), slitg⟩)
    (lkof : K.lookup fkof = some ⟨ockof, odkof, .func (PySem.W.fnOf "kinds_of" "kinds_of" (defArgs sKO) (defBody sKO) (defScope sKO) .none kVkof dckof pmkof ankof cdkof ctkof), slkof⟩)
    (lnum : K.lookup fnum = some ⟨ocnum, odnum, .func (PySem.W.fnOf "is_number" "is_number" (defArgs sNumber) (defBody sNumber) (defScope sNumber) .none kVnum dcnum pmnum annum cdnum ctnum), slnum⟩)
    (citg : PySem.W.codeIn K cditg "is_integer" = true)
    (ckof : PySem.W.codeIn K cdkof "kinds_of" = true)
    (cnum : PySem.W.codeIn K cdnum "is_number" = true)
    (kitg : PySem.W.keepIn K (.ref fitg) = true)
    (kkof : PySem.W.keepIn K (.ref fkof) = true)
    (knum : PySem.W.keepIn K (.ref fnum) = true)
    (atup : PySem.W.nsIn K mainGlobals "is_tuple" = some (some (.ref ftup)))
    (ltup : K.lookup ftup = some ⟨octup, odtup, .func (PySem.W.fnOf "is_tuple" "is_tuple" (defArgs sTuple) (defBody sTuple) (defScope sTuple) .none kVtup dctup pmtup antup cdtup cttup), sltup⟩)
    (ctup : PySem.W.codeIn K cdtup "is_tuple" = true)
    (ktup : PySem.W.keepIn K (.ref ftup) = true)
    (adif : PySem.W.nsIn K mainGlobals "are_different_names" = some (some (.ref fdif)))
    (ldif : K.lookup fdif = some ⟨ocdif, oddif, .func (PySem.W.fnOf "are_different_names" "are_different_names" (defArgs sDiff) (defBody sDiff) (defScope sDiff) .none kVdif dcdif pmdif andif cddif ctdif), sldif⟩)
    (cdif : PySem.W.codeIn K cddif "are_different_names" = true)
    (kdif : PySem.W.keepIn K (.ref fdif) = true)
    (aprt : PySem.W.nsIn K mainGlobals "is_part" = some (some (.ref fprt)))
    (lprt : K.lookup fprt = some ⟨ocprt, odprt, .func (PySem.W.fnOf "is_part" "is_part" (defArgs sPart) (defBody sPart) (defScope sPart) .none kVprt dcprt pmprt anprt cdprt ctprt), slprt⟩)
    (cprt : PySem.W.codeIn K cdprt "is_part" = true)
    (kprt : PySem.W.keepIn K (.ref fprt) = true)
    (awrd : PySem.W.nsIn K mainGlobals "word_of" = some (some (.ref fwrd)))
    (lwrd : K.lookup fwrd = some ⟨ocwrd, odwrd, .func (PySem.W.fnOf "word_of" "word_of" (defArgs sWord) (defBody sWord) (defScope sWord) .none kVwrd dcwrd pmwrd anwrd cdwrd ctwrd), slwrd⟩)
    (cwrd : PySem.W.codeIn K cdwrd "word_of" = true)
    (kwrd : PySem.W.keepIn K (.ref fwrd) = true)
    (afit : PySem.W.nsIn K mainGlobals "fits" = some (some (.ref ffit)))
    (lfit : K.lookup ffit = some ⟨ocfit, odfit, .func (PySem.W.fnOf "fits" "fits" (defArgs sFits) (defBody sFits) (defScope sFits) .none kVfit dcfit pmfit anfit cdfit ctfit), slfit⟩)
    (cfit : PySem.W.codeIn K cdfit "fits" = true)
    (kfit : PySem.W.keepIn K (.ref ffit) = true)
    (afrm : PySem.W.nsIn K mainGlobals "has_form" = some (some (.ref ffrm)))
    (lfrm : K.lookup ffrm = some ⟨ocfrm, odfrm, .func (PySem.W.fnOf "has_form" "has_form" (defArgs sForm) (defBody sForm) (defScope sForm) .none kVfrm dcfrm pmfrm anfrm cdfrm ctfrm), slfrm⟩)
    (cfrm : PySem.W.codeIn K cdfrm "has_form" = true)
    (kfrm : PySem.W.keepIn K (.ref ffrm) = true)
    (apts : PySem.W.nsIn K mainGlobals "parts_of" = some (some (.ref fpts)))
    (lpts : K.lookup fpts = some ⟨ocpts, odpts, .func (PySem.W.fnOf "parts_of" "parts_of" (defArgs sParts) (defBody sParts) (defScope sParts) .none kVpts dcpts pmpts anpts cdpts ctpts), slpts⟩)
    (cpts : PySem.W.codeIn K cdpts "parts_of" = true)
    (kpts : PySem.W.keepIn K (.ref fpts) = true)
    (ablk : PySem.W.nsIn K mainGlobals "blocks_of" = some (some (.ref fblk)))
    (lblk : K.lookup fblk = some ⟨ocblk, odblk, .func (PySem.W.fnOf "blocks_of" "blocks_of" (defArgs sBlocks) (defBody sBlocks) (defScope sBlocks) .none kVblk dcblk pmblk anblk cdblk ctblk), slblk⟩)
    (cblk : PySem.W.codeIn K cdblk "blocks_of" = true)
    (kblk : PySem.W.keepIn K (.ref fblk) = true)
    (acan : PySem.W.nsIn K mainGlobals "can_stand" = some (some (.ref fcan)))
    (lcan : K.lookup fcan = some ⟨occan, odcan, .func (PySem.W.fnOf "can_stand" "can_stand" (defArgs sCan) (defBody sCan) (defScope sCan) .none kVcan dccan pmcan ancan cdcan ctcan), slcan⟩)
    (ccan : PySem.W.codeIn K cdcan "can_stand" = true)
    (kcan : PySem.W.keepIn K (.ref fcan) = true)
    (ahyi : PySem.W.nsIn K mainGlobals "has_yield" = some (some (.ref fhyi)))
    (lhyi : K.lookup fhyi = some ⟨ochyi, odhyi, .func (PySem.W.fnOf "has_yield" "has_yield" (defArgs sYield) (defBody sYield) (defScope sYield) .none kVhyi dchyi pmhyi anhyi cdhyi cthyi), slhyi⟩)
    (chyi : PySem.W.codeIn K cdhyi "has_yield" = true)
    (khyi : PySem.W.keepIn K (.ref fhyi) = true)
    (aknd : PySem.W.nsIn K mainGlobals "is_kind" = some (some (.ref fknd)))
    (lknd : K.lookup fknd = some ⟨ocknd, odknd, .func (PySem.W.fnOf "is_kind" "is_kind" (defArgs sKind) (defBody sKind) (defScope sKind) .none kVknd dcknd pmknd anknd cdknd ctknd), slknd⟩)
    (cknd : PySem.W.codeIn K cdknd "is_kind" = true)
    (kknd : PySem.W.keepIn K (.ref fknd) = true)
    (aprm : PySem.W.nsIn K mainGlobals "are_params" = some (some (.ref fprm)))
    (lprm : K.lookup fprm = some ⟨ocprm, odprm, .func (PySem.W.fnOf "are_params" "are_params" (defArgs sParams) (defBody sParams) (defScope sParams) .none kVprm dcprm pmprm anprm cdprm ctprm), slprm⟩)
    (cprm : PySem.W.codeIn K cdprm "are_params" = true)
    (kprm : PySem.W.keepIn K (.ref fprm) = true)
    (atrp : PySem.W.nsIn K mainGlobals "is_triple" = some (some (.ref ftrp)))
    (ltrp : K.lookup ftrp = some ⟨octrp, odtrp, .func (PySem.W.fnOf "is_triple" "is_triple" (defArgs sTriple) (defBody sTriple) (defScope sTriple) .none kVtrp dctrp pmtrp antrp cdtrp cttrp), sltrp⟩)
    (ctrp : PySem.W.codeIn K cdtrp "is_triple" = true)
    (ktrp : PySem.W.keepIn K (.ref ftrp) = true)
    (afpc : PySem.W.nsIn K mainGlobals "fault_of_pieces" = some (some (.ref ffpc)))
    (lfpc : K.lookup ffpc = some ⟨ocfpc, odfpc, .func (PySem.W.fnOf "fault_of_pieces" "fault_of_pieces" (defArgs sPieces) (defBody sPieces) (defScope sPieces) .none kVfpc dcfpc pmfpc anfpc cdfpc ctfpc), slfpc⟩)
    (cfpc : PySem.W.codeIn K cdfpc "fault_of_pieces" = true)
    (kfpc : PySem.W.keepIn K (.ref ffpc) = true)
    (aflt : PySem.W.nsIn K mainGlobals "fault_of" = some (some (.ref fflt)))
    (lflt : K.lookup fflt = some ⟨ocflt, odflt, .func (PySem.W.fnOf "fault_of" "fault_of" (defArgs sFaultOf) (defBody sFaultOf) (defScope sFaultOf) .none kVflt dcflt pmflt anflt cdflt ctflt), slflt⟩)
    (cflt : PySem.W.codeIn K cdflt "fault_of" = true)
    (kflt : PySem.W.keepIn K (.ref fflt) = true)
    (anee : PySem.W.nsIn K mainGlobals "need_book" = some (some (.ref fnee)))
    (lnee : K.lookup fnee = some ⟨ocnee, odnee, .func (PySem.W.fnOf "need_book" "need_book" (defArgs sNeed) (defBody sNeed) (defScope sNeed) .none kVnee dcnee pmnee annee cdnee ctnee), slnee⟩)
    (cnee : PySem.W.codeIn K cdnee "need_book" = true)
    (knee : PySem.W.keepIn K (.ref fnee) = true)
    (aiss : PySem.W.nsIn K mainGlobals "is_step" = some (some (.ref fiss)))
    (liss : K.lookup fiss = some ⟨ociss, odiss, .func (PySem.W.fnOf "is_step" "is_step" (defArgs sIsStep) (defBody sIsStep) (defScope sIsStep) .none kViss dciss pmiss aniss cdiss ctiss), sliss⟩)
    (ciss : PySem.W.codeIn K cdiss "is_step" = true)
    (kiss : PySem.W.keepIn K (.ref fiss) = true)
    (apss : PySem.W.nsIn K mainGlobals "parts_of_step" = some (some (.ref fpss)))
    (lpss : K.lookup fpss = some ⟨ocpss, odpss, .func (PySem.W.fnOf "parts_of_step" "parts_of_step" (defArgs sPartsS) (defBody sPartsS) (defScope sPartsS) .none kVpss dcpss pmpss anpss cdpss ctpss), slpss⟩)
    (cpss : PySem.W.codeIn K cdpss "parts_of_step" = true)
    (kpss : PySem.W.keepIn K (.ref fpss) = true)
    (apof : PySem.W.nsIn K mainGlobals "program_of" = some (some (.ref fpof)))
    (lpof : K.lookup fpof = some ⟨ocpof, odpof, .func (PySem.W.fnOf "program_of" "program_of" (defArgs sProgOf) (defBody sProgOf) (defScope sProgOf) .none kVpof dcpof pmpof anpof cdpof ctpof), slpof⟩)
    (cpof : PySem.W.codeIn K cdpof "program_of" = true)
    (kpof : PySem.W.keepIn K (.ref fpof) = true)
    (achk : PySem.W.nsIn K mainGlobals "checked" = some (some (.ref fchk)))
    (lchk : K.lookup fchk = some ⟨occhk, odchk, .func (PySem.W.fnOf "checked" "checked" (defArgs sChecked) (defBody sChecked) (defScope sChecked) .none kVchk dcchk pmchk anchk cdchk ctchk), slchk⟩)
    (cchk : PySem.W.codeIn K cdchk "checked" = true)
    (kchk : PySem.W.keepIn K (.ref fchk) = true)
    (anep : PySem.W.nsIn K mainGlobals "need_program" = some (some (.ref fnep)))
    (lnep : K.lookup fnep = some ⟨ocnep, odnep, .func (PySem.W.fnOf "need_program" "need_program" (defArgs sNeedP) (defBody sNeedP) (defScope sNeedP) .none kVnep dcnep pmnep annep cdnep ctnep), slnep⟩)
    (cnep : PySem.W.codeIn K cdnep "need_program" = true)
    (knep : PySem.W.keepIn K (.ref fnep) = true)
    (amix : PySem.W.nsIn K mainGlobals "_law_mixed" = some (some (.ref fmix)))
    (lmix : K.lookup fmix = some ⟨ocmix, odmix, .func (PySem.W.fnOf "_law_mixed" "_law_mixed" (defArgs SW.sMixed) (defBody SW.sMixed) (defScope SW.sMixed) .none kVmix dcmix pmmix anmix cdmix ctmix), slmix⟩)
    (cmix : PySem.W.codeIn K cdmix "_law_mixed" = true)
    (kmix : PySem.W.keepIn K (.ref fmix) = true)
    (abeg : PySem.W.nsIn K mainGlobals "_law_begin" = some (some (.ref fbeg)))
    (lbeg : K.lookup fbeg = some ⟨ocbeg, odbeg, .func (PySem.W.fnOf "_law_begin" "_law_begin" (defArgs SW.sBegin) (defBody SW.sBegin) (defScope SW.sBegin) .none kVbeg dcbeg pmbeg anbeg cdbeg ctbeg), slbeg⟩)
    (cbeg : PySem.W.codeIn K cdbeg "_law_begin" = true)
    (kbeg : PySem.W.keepIn K (.ref fbeg) = true)
    (adrw : PySem.W.nsIn K mainGlobals "_law_draw" = some (some (.ref fdrw)))
    (ldrw : K.lookup fdrw = some ⟨ocdrw, oddrw, .func (PySem.W.fnOf "_law_draw" "_law_draw" (defArgs SW.sDraw) (defBody SW.sDraw) (defScope SW.sDraw) .none kVdrw dcdrw pmdrw andrw cddrw ctdrw), sldrw⟩)
    (cdrw : PySem.W.codeIn K cddrw "_law_draw" = true)
    (kdrw : PySem.W.keepIn K (.ref fdrw) = true)
    (anam : PySem.W.nsIn K mainGlobals "_law_name" = some (some (.ref fnam)))
    (lnam : K.lookup fnam = some ⟨ocnam, odnam, .func (PySem.W.fnOf "_law_name" "_law_name" (defArgs SW.sName) (defBody SW.sName) (defScope SW.sName) .none kVnam dcnam pmnam annam cdnam ctnam), slnam⟩)
    (cnam : PySem.W.codeIn K cdnam "_law_name" = true)
    (knam : PySem.W.keepIn K (.ref fnam) = true)
    (anms : PySem.W.nsIn K mainGlobals "_law_names" = some (some (.ref fnms)))
    (lnms : K.lookup fnms = some ⟨ocnms, odnms, .func (PySem.W.fnOf "_law_names" "_law_names" (defArgs SW.sNames) (defBody SW.sNames) (defScope SW.sNames) .none kVnms dcnms pmnms annms cdnms ctnms), slnms⟩)
    (cnms : PySem.W.codeIn K cdnms "_law_names" = true)
    (knms : PySem.W.keepIn K (.ref fnms) = true)
    (adue : PySem.W.nsIn K mainGlobals "_law_due_right" = some (some (.ref fdue)))
    (ldue : K.lookup fdue = some ⟨ocdue, oddue, .func (PySem.W.fnOf "_law_due_right" "_law_due_right" (defArgs sDueP) (defBody sDueP) (defScope sDueP) .none kVdue dcdue pmdue andue cddue ctdue), sldue⟩)
    (cdue : PySem.W.codeIn K cddue "_law_due_right" = true)
    (kdue : PySem.W.keepIn K (.ref fdue) = true)
    (agoo : PySem.W.nsIn K mainGlobals "_law_good" = some (some (.ref fgoo)))
    (lgoo : K.lookup fgoo = some ⟨ocgoo, odgoo, .func (PySem.W.fnOf "_law_good" "_law_good" (defArgs sLGood) (defBody sLGood) (defScope sLGood) .none kVgoo dcgoo pmgoo angoo cdgoo ctgoo), slgoo⟩)
    (cgoo : PySem.W.codeIn K cdgoo "_law_good" = true)
    (kgoo : PySem.W.keepIn K (.ref fgoo) = true)
    (awro : PySem.W.nsIn K mainGlobals "_law_wrong" = some (some (.ref fwro)))
    (lwro : K.lookup fwro = some ⟨ocwro, odwro, .func (PySem.W.fnOf "_law_wrong" "_law_wrong" (defArgs sLWrong) (defBody sLWrong) (defScope sLWrong) .none kVwro dcwro pmwro anwro cdwro ctwro), slwro⟩)
    (cwro : PySem.W.codeIn K cdwro "_law_wrong" = true)
    (kwro : PySem.W.keepIn K (.ref fwro) = true)
    (amad : PySem.W.nsIn K mainGlobals "_law_wrong_made" = some (some (.ref fmad)))
    (lmad : K.lookup fmad = some ⟨ocmad, odmad, .func (PySem.W.fnOf "_law_wrong_made" "_law_wrong_made" (defArgs sLMade) (defBody sLMade) (defScope sLMade) .none kVmad dcmad pmmad anmad cdmad ctmad), slmad⟩)
    (cmad : PySem.W.codeIn K cdmad "_law_wrong_made" = true)
    (kmad : PySem.W.keepIn K (.ref fmad) = true)
    (awit : PySem.W.nsIn K mainGlobals "_law_wrong_within" = some (some (.ref fwit)))
    (lwit : K.lookup fwit = some ⟨ocwit, odwit, .func (PySem.W.fnOf "_law_wrong_within" "_law_wrong_within" (defArgs sLWith) (defBody sLWith) (defScope sLWith) .none kVwit dcwit pmwit anwit cdwit ctwit), slwit⟩)
    (cwit : PySem.W.codeIn K cdwit "_law_wrong_within" = true)
    (kwit : PySem.W.keepIn K (.ref fwit) = true)
    (aput : PySem.W.nsIn K mainGlobals "_law_put" = some (some (.ref fput)))
    (lput : K.lookup fput = some ⟨ocput, odput, .func (PySem.W.fnOf "_law_put" "_law_put" (defArgs sPut) (defBody sPut) (defScope sPut) .none kVput dcput pmput anput cdput ctput), slput⟩)
    (cput : PySem.W.codeIn K cdput "_law_put" = true)
    (kput : PySem.W.keepIn K (.ref fput) = true)
    (anst : PySem.W.nsIn K mainGlobals "_law_nested" = some (some (.ref fnst)))
    (lnst : K.lookup fnst = some ⟨ocnst, odnst, .func (PySem.W.fnOf "_law_nested" "_law_nested" (defArgs sNest) (defBody sNest) (defScope sNest) .none kVnst dcnst pmnst annst cdnst ctnst), slnst⟩)
    (cnst : PySem.W.codeIn K cdnst "_law_nested" = true)
    (knst : PySem.W.keepIn K (.ref fnst) = true)
    (atru : PySem.W.nsIn K mainGlobals "_law_truths_right" = some (some (.ref ftru)))
    (ltru : K.lookup ftru = some ⟨octru, odtru, .func (PySem.W.fnOf "_law_truths_right" "_law_truths_right" (defArgs sTru) (defBody sTru) (defScope sTru) .none kVtru dctru pmtru antru cdtru cttru), sltru⟩)
    (ctru : PySem.W.codeIn K cdtru "_law_truths_right" = true)
    (ktru : PySem.W.keepIn K (.ref ftru) = true)
    (aodd : PySem.W.nsIn K mainGlobals "_law_odd_right" = some (some (.ref fodd)))
    (lodd : K.lookup fodd = some ⟨ocodd, ododd, .func (PySem.W.fnOf "_law_odd_right" "_law_odd_right" (defArgs sOdd) (defBody sOdd) (defScope sOdd) .none kVodd dcodd pmodd anodd cdodd ctodd), slodd⟩)
    (codd : PySem.W.codeIn K cdodd "_law_odd_right" = true)
    (kodd : PySem.W.keepIn K (.ref fodd) = true)
    (aboo : PySem.W.nsIn K mainGlobals "_law_books_right" = some (some (.ref fboo)))
    (lboo : K.lookup fboo = some ⟨ocboo, odboo, .func (PySem.W.fnOf "_law_books_right" "_law_books_right" (defArgs sBoo) (defBody sBoo) (defScope sBoo) .none kVboo dcboo pmboo anboo cdboo ctboo), slboo⟩)
    (cboo : PySem.W.codeIn K cdboo "_law_books_right" = true)
    (kboo : PySem.W.keepIn K (.ref fboo) = true)
    (alaw : PySem.W.nsIn K mainGlobals "law" = some (some (.ref flaw)))
    (llaw : K.lookup flaw = some ⟨oclaw, odlaw, .func (PySem.W.fnOf "law" "law" (defArgs sLaw) (defBody sLaw) (defScope sLaw) .none kVlaw dclaw pmlaw anlaw cdlaw ctlaw), sllaw⟩)
    (claw : PySem.W.codeIn K cdlaw "law" = true)
    (klaw : PySem.W.keepIn K (.ref flaw) = true)
    (v_LETTERS : PySem.W.nsIn K mainGlobals "LETTERS" = some (some (.str "abcdefghijklmnopqrstuvwxyz" t_LETTERS)))
    (v_MOST_LETTERS : PySem.W.nsIn K mainGlobals "MOST_LETTERS" = some (some (.int 8 t_MOST_LETTERS)))
    (v_MOST_NUMBER : PySem.W.nsIn K mainGlobals "MOST_NUMBER" = some (some (.int 99 t_MOST_NUMBER)))
    (v_MOST_VALUE : PySem.W.nsIn K mainGlobals "MOST_VALUE" = some (some (.int 9999 t_MOST_VALUE)))
    (v_MOST_PIECES : PySem.W.nsIn K mainGlobals "MOST_PIECES" = some (some (.int 6 t_MOST_PIECES)))
    (v_MOST_VARS : PySem.W.nsIn K mainGlobals "MOST_VARS" = some (some (.int 3 t_MOST_VARS)))
    (v_MOST_PARAMS : PySem.W.nsIn K mainGlobals "MOST_PARAMS" = some (some (.int 2 t_MOST_PARAMS)))
    (v_MOST_STATEMENTS : PySem.W.nsIn K mainGlobals "MOST_STATEMENTS" = some (some (.int 16 t_MOST_STATEMENTS)))
    (v_MOST_AROUND : PySem.W.nsIn K mainGlobals "MOST_AROUND" = some (some (.int 4 t_MOST_AROUND)))
    (v_MOST_DEEP : PySem.W.nsIn K mainGlobals "MOST_DEEP" = some (some (.int 12 t_MOST_DEEP)))
    (vKD : PySem.W.nsIn K mainGlobals "KINDS" = some (some (.ref aKD)))
    (lKD : K.lookup aKD = some ⟨.type "tuple", odKD, .seq #[.str "context" tKD1, .str "token" tKD2] nKD, slKD⟩)
    (vPP : PySem.W.nsIn K mainGlobals "PARTS" = some (some (.ref pP)))
    (lPP : K.lookup pP = some ⟨.type "dict", none, .dict es nP, #[]⟩)
    (litP : PySem.W.KeysLit w.params es.toList)
    (keyP : litKeys es.toList = true)
    (lowP : (pP == sysModules) = false)
    (nP0 : PySem.W.nsIn K pP "set" = some (some (.ref p0)))
    (lP0 : K.lookup p0 = some ⟨.type "tuple", odp0, .seq #[.str "variable" q0_0, .str "source" q0_1] np0, slp0⟩)
    (nP1 : PySem.W.nsIn K pP "hold" = some (some (.ref p1)))
    (lP1 : K.lookup p1 = some ⟨.type "tuple", odp1, .seq #[.str "token" q1_0, .str "variable" q1_1, .str "source" q1_2] np1, slp1⟩)
    (nP2 : PySem.W.nsIn K pP "reset" = some (some (.ref p2)))
    (lP2 : K.lookup p2 = some ⟨.type "tuple", odp2, .seq #[.str "token" q2_0] np2, slp2⟩)
    (nP3 : PySem.W.nsIn K pP "drop" = some (some (.ref p3)))
    (lP3 : K.lookup p3 = some ⟨.type "tuple", odp3, .seq #[.str "variable" q3_0] np3, slp3⟩)
    (nP4 : PySem.W.nsIn K pP "show" = some (some (.ref p4)))
    (lP4 : K.lookup p4 = some ⟨.type "tuple", odp4, .seq #[.str "variable" q4_0] np4, slp4⟩)
    (nP5 : PySem.W.nsIn K pP "copy" = some (some (.ref p5)))
    (lP5 : K.lookup p5 = some ⟨.type "tuple", odp5, .seq #[.str "context" q5_0] np5, slp5⟩)
    (nP6 : PySem.W.nsIn K pP "within" = some (some (.ref p6)))
    (lP6 : K.lookup p6 = some ⟨.type "tuple", odp6, .seq #[.str "context" q6_0, .str "block" q6_1] np6, slp6⟩)
    (nP7 : PySem.W.nsIn K pP "if" = some (some (.ref p7)))
    (lP7 : K.lookup p7 = some ⟨.type "tuple", odp7, .seq #[.str "variable" q7_0, .str "integer" q7_1, .str "block" q7_2, .str "block" q7_3] np7, slp7⟩)
    (nP8 : PySem.W.nsIn K pP "with" = some (some (.ref p8)))
    (lP8 : K.lookup p8 = some ⟨.type "tuple", odp8, .seq #[.str "variable" q8_0, .str "source" q8_1, .str "block" q8_2] np8, slp8⟩)
    (nP9 : PySem.W.nsIn K pP "guard" = some (some (.ref p9)))
    (lP9 : K.lookup p9 = some ⟨.type "tuple", odp9, .seq #[.str "block" q9_0, .str "block" q9_1] np9, slp9⟩)
    (nP10 : PySem.W.nsIn K pP "loop" = some (some (.ref p10)))
    (lP10 : K.lookup p10 = some ⟨.type "tuple", odp10, .seq #[.str "block" q10_0] np10, slp10⟩)
    (nP11 : PySem.W.nsIn K pP "leave" = some (some (.ref p11)))
    (lP11 : K.lookup p11 = some ⟨.type "tuple", odp11, .seq #[] np11, slp11⟩)
    (nP12 : PySem.W.nsIn K pP "yield" = some (some (.ref p12)))
    (lP12 : K.lookup p12 = some ⟨.type "tuple", odp12, .seq #[] np12, slp12⟩)
    (nP13 : PySem.W.nsIn K pP "fail" = some (some (.ref p13)))
    (lP13 : K.lookup p13 = some ⟨.type "tuple", odp13, .seq #[] np13, slp13⟩)
    (vSK : PySem.W.nsIn K mainGlobals "SLOT_KINDS" = some (some (.ref aSK)))
    (lSK : K.lookup aSK = some ⟨.type "tuple", odSK, .seq #[.str "context" tSK1, .str "token" tSK2, .str "piece" tSK3] nSK, slSK⟩)
    (vPS : PySem.W.nsIn K mainGlobals "STEPS" = some (some (.ref pS)))
    (lPS : K.lookup pS = some ⟨.type "dict", none, .dict esS nS, #[]⟩)
    (litS : PySem.W.KeysLit w.params esS.toList)
    (keyS : litKeysS esS.toList = true)
    (lowS : (pS == sysModules) = false)
    (nS0 : PySem.W.nsIn K pS "set" = some (some (.ref s0)))
    (lS0 : K.lookup s0 = some ⟨.type "tuple", ods0, .seq #[.str "variable" r0_0, .str "value" r0_1] ns0, sls0⟩)
    (nS1 : PySem.W.nsIn K pS "hold" = some (some (.ref s1)))
    (lS1 : K.lookup s1 = some ⟨.type "tuple", ods1, .seq #[.str "token" r1_0, .str "variable" r1_1, .str "value" r1_2] ns1, sls1⟩)
    (nS2 : PySem.W.nsIn K pS "reset" = some (some (.ref s2)))
    (lS2 : K.lookup s2 = some ⟨.type "tuple", ods2, .seq #[.str "token" r2_0] ns2, sls2⟩)
    (nS3 : PySem.W.nsIn K pS "drop" = some (some (.ref s3)))
    (lS3 : K.lookup s3 = some ⟨.type "tuple", ods3, .seq #[.str "variable" r3_0] ns3, sls3⟩)
    (nS4 : PySem.W.nsIn K pS "show" = some (some (.ref s4)))
    (lS4 : K.lookup s4 = some ⟨.type "tuple", ods4, .seq #[.str "variable" r4_0] ns4, sls4⟩)
    (nS5 : PySem.W.nsIn K pS "copy" = some (some (.ref s5)))
    (lS5 : K.lookup s5 = some ⟨.type "tuple", ods5, .seq #[.str "context" r5_0] ns5, sls5⟩)
    (nS6 : PySem.W.nsIn K pS "within" = some (some (.ref s6)))
    (lS6 : K.lookup s6 = some ⟨.type "tuple", ods6, .seq #[.str "context" r6_0, .str "block" r6_1] ns6, sls6⟩)
    (nS7 : PySem.W.nsIn K pS "guard" = some (some (.ref s7)))
    (lS7 : K.lookup s7 = some ⟨.type "tuple", ods7, .seq #[.str "block" r7_0] ns7, sls7⟩)
    (nS8 : PySem.W.nsIn K pS "make" = some (some (.ref s8)))
    (lS8 : K.lookup s8 = some ⟨.type "tuple", ods8, .seq #[.str "piece" r8_0, .str "name" r8_1, .str "args" r8_2] ns8, sls8⟩)
    (nS9 : PySem.W.nsIn K pS "step" = some (some (.ref s9)))
    (lS9 : K.lookup s9 = some ⟨.type "tuple", ods9, .seq #[.str "piece" r9_0] ns9, sls9⟩)
    (nS10 : PySem.W.nsIn K pS "close" = some (some (.ref s10)))
    (lS10 : K.lookup s10 = some ⟨.type "tuple", ods10, .seq #[.str "piece" r10_0] ns10, sls10⟩)
    (pg : PySem.W.plainGet K C Str.empty = true)
    (hd : PySem.W.hasDictIn K C = true)
    (po : PySem.W.plainOver K C = true)
    (sa : PySem.W.findIn K (.ref C) "__setattr__" = some (some (.builtin "object.__setattr__")))
    (mk : PySem.W.makesIn K C = true)
    (kc : PySem.W.keepIn K (.ref C) = true)
    (nV : PySem.W.findIn K (.ref C) "variables" = some none)
    (nK : PySem.W.findIn K (.ref C) "kinds" = some none)
    (nM : PySem.W.findIn K (.ref C) "met" = some none)
    (pg2 : PySem.W.plainGet K CK Str.empty = true)
    (hd2 : PySem.W.hasDictIn K CK = true)
    (po2 : PySem.W.plainOver K CK = true)
    (sa2 : PySem.W.findIn K (.ref CK) "__setattr__" = some (some (.builtin "object.__setattr__")))
    (mk2 : PySem.W.makesIn K CK = true)
    (kc2 : PySem.W.keepIn K (.ref CK) = true)
    (nV2 : PySem.W.findIn K (.ref CK) "variables" = some none)
    (nPr2 : PySem.W.findIn K (.ref CK) "params" = some none)
    (nK2 : PySem.W.findIn K (.ref CK) "kinds" = some none)
    (nC2 : PySem.W.findIn K (.ref CK) "calls" = some none)
    (xL_B : K.lookup CB = some (excClassObj nmB qB CB NB bsB bmB true snB subB abbB colB ddB m0B m1B m2B m3B m5B "ValueError.__new__"))
    (xV_B : HandSPX.refsVE bmB = true)
    (sa_B : PySem.W.findIn K (.ref CB) "__setattr__" = some (some (.builtin "object.__setattr__")))
    (ga_B : PySem.W.findIn K (.ref CB) "__getattribute__" = some (some (.builtin "BaseException.__getattribute__")))
    (gg_B : PySem.W.findIn K (.ref CB) "__getattr__" = some none)
    (nb_B : PySem.W.findIn K (.ref CB) "place" = some none)
    (ty_B : PySem.W.typeIn K (.ref fbin) = some (.type "function"))
    (k_B : PySem.W.keepIn K (.ref CB) = true)
    (e_B : PySem.W.subIn K (.ref CB) (.type "BaseException") = some true)
    (t_B : PySem.W.typeIn K (.ref CB) = some (.type "type"))
    (h_B : PySem.W.hasDictIn K CB = true)
    (i_B : PySem.W.isClsIn K CB = true)
    (h1_B : PySem.W.findIn K (.ref CB) "__class__" = some (some (.builtin "object.__class__")))
    (h2_B : PySem.W.mroIn K CB (.type "object") = some true)
    (xL_P : K.lookup CP = some (excClassObj nmP qP CP NP bsP bmP true snP subP abbP colP ddP m0P m1P m2P m3P m5P "ValueError.__new__"))
    (xV_P : HandSPX.refsVE bmP = true)
    (sa_P : PySem.W.findIn K (.ref CP) "__setattr__" = some (some (.builtin "object.__setattr__")))
    (ga_P : PySem.W.findIn K (.ref CP) "__getattribute__" = some (some (.builtin "BaseException.__getattribute__")))
    (gg_P : PySem.W.findIn K (.ref CP) "__getattr__" = some none)
    (nb_P : PySem.W.findIn K (.ref CP) "place" = some none)
    (ty_P : PySem.W.typeIn K (.ref fbip) = some (.type "function"))
    (k_P : PySem.W.keepIn K (.ref CP) = true)
    (e_P : PySem.W.subIn K (.ref CP) (.type "BaseException") = some true)
    (t_P : PySem.W.typeIn K (.ref CP) = some (.type "type"))
    (h_P : PySem.W.hasDictIn K CP = true)
    (i_P : PySem.W.isClsIn K CP = true)
    (h1_P : PySem.W.findIn K (.ref CP) "__class__" = some (some (.builtin "object.__class__")))
    (h2_P : PySem.W.mroIn K CP (.type "object") = some true)
    (hN : PySem.W.specialIn K (.builtin "object.__class__") "__get__" = some (some (.builtin "getset_descriptor.__get__")))
    (hT : PySem.W.takesIn K (.builtin "object.__class__") = some true)
    (exP : PySem.W.exmAny K (.ref CP) [.ref CB, .ref CP, .ref CQ, .ref CT] = some true)
    (exB : PySem.W.exmAny K (.ref CB) [.ref CB, .ref CP, .ref CQ, .ref CT] = some true)
    (k4 : PySem.W.kitAny K (.ref CP) [.ref CB, .ref CQ, .ref CT, .ref CF] = some false)
    (kPP : PySem.W.kitOne K (.ref CP) (.ref CP) = some true)
    (kPS : PySem.W.kitOne K (.ref CP) (.ref CS) = some true)
    (kPV : PySem.W.kitOne K (.ref CP) (.type "ValueError") = some true)
    (kBB : PySem.W.kitOne K (.ref CB) (.ref CB) = some true)
    (k5 : PySem.W.kitAny K (.ref CB) [.ref CP, .ref CQ, .ref CT, .ref CF] = some false)
    (z_isinstance : PySem.W.nsIn K mainGlobals "isinstance" = some none)
    (z_str : PySem.W.nsIn K mainGlobals "str" = some none)
    (z_int : PySem.W.nsIn K mainGlobals "int" = some none)
    (z_bool : PySem.W.nsIn K mainGlobals "bool" = some none)
    (z_tuple : PySem.W.nsIn K mainGlobals "tuple" = some none)
    (z_len : PySem.W.nsIn K mainGlobals "len" = some none)
    (z_all : PySem.W.nsIn K mainGlobals "all" = some none)
    (z_set : PySem.W.nsIn K mainGlobals "set" = some none)
    (z_zip : PySem.W.nsIn K mainGlobals "zip" = some none)
    (z_list : PySem.W.nsIn K mainGlobals "list" = some none)
    (z_enumerate : PySem.W.nsIn K mainGlobals "enumerate" = some none)
    (z_repr : PySem.W.nsIn K mainGlobals "repr" = some none)
    (z_ValueError : PySem.W.nsIn K mainGlobals "ValueError" = some none)
    (z_range : PySem.W.nsIn K mainGlobals "range" = some none) :
    ∃ (fd : FuncData), (∀ (s : Shared) (u : Value), BindsTo s fd ⟨[u], []⟩ [("script", u)]) ∧ ∀ base : Heap, K.In base → base.Ns mainGlobals mg → FnG P w K mg base 25 fa fd ["script"] (spLaw K) := by
  have e := hfa.symm.trans (PySem.W.mg_of X G alaw)
  cases e
  have m_isinstance := PySem.W.mg_none_of X G z_isinstance
  have m_str := PySem.W.mg_none_of X G z_str
  have m_int := PySem.W.mg_none_of X G z_int
  have m_bool := PySem.W.mg_none_of X G z_bool
  have m_tuple := PySem.W.mg_none_of X G z_tuple
  have m_len := PySem.W.mg_none_of X G z_len
  have m_all := PySem.W.mg_none_of X G z_all
  have m_set := PySem.W.mg_none_of X G z_set
  have m_zip := PySem.W.mg_none_of X G z_zip
  have m_list := PySem.W.mg_none_of X G z_list
  have m_enumerate := PySem.W.mg_none_of X G z_enumerate
  have m_repr := PySem.W.mg_none_of X G z_repr
  have m_ValueError := PySem.W.mg_none_of X G z_ValueError
  have m_range := PySem.W.mg_none_of X G z_range
  have gC := PySem.W.mg_of X G aC
  have gCK := PySem.W.mg_of X G aCK
  have gCB := PySem.W.mg_of X G aCB
  have gCP := PySem.W.mg_of X G aCP
  have gCQ := PySem.W.mg_of X G aCQ
  have gCT := PySem.W.mg_of X G aCT
  have gCF := PySem.W.mg_of X G aCF
  have gCS := PySem.W.mg_of X G aCS
  have gisn := PySem.W.mg_of X G aisn
  have Fisn := fun_mk (st := BK.sName) lisn cisn kisn
  have bisn := Fisn.binds (ps := ["thing"]) fun _ _ _ _ _ _ us hl => match us, hl with | [_], _ => rfl
  have garn := PySem.W.mg_of X G aarn
  have Farn := fun_mk (st := sAreNames) larn carn karn
  have barn := Farn.binds (ps := ["thing"]) fun _ _ _ _ _ _ us hl => match us, hl with | [_], _ => rfl
  have gitg := PySem.W.mg_of X G aitg
  have gkof := PySem.W.mg_of X G akof
  have gnum := PySem.W.mg_of X G anum
  have Fitg := fun_mk (st := sInteger) litg citg kitg
  have Fkof := fun_mk (st := sKO) lkof ckof kkof
  have Fnum := fun_mk (st := sNumber) lnum cnum knum
  have bitg := Fitg.binds (ps := ["thing"]) fun _ _ _ _ _ _ us hl => match us, hl with | [_], _ => rfl
  have bkof := Fkof.binds (ps := ["piece"]) fun _ _ _ _ _ _ us hl => match us, hl with | [_], _ => rfl
  have bnum := Fnum.binds (ps := ["thing", "most"]) fun _ _ _ _ _ _ us hl => match us, hl with | [_, _], _ => rfl
  have gtup := PySem.W.mg_of X G atup
  have Ftup := fun_mk (st := sTuple) ltup ctup ktup
  have btup := Ftup.binds (ps := ["thing", "count"]) fun _ _ _ _ _ _ us hl => match us, hl with | [_, _], _ => rfl
  have gdif := PySem.W.mg_of X G adif
  have Fdif := fun_mk (st := sDiff) ldif cdif kdif
  have bdif := Fdif.binds (ps := ["things"]) fun _ _ _ _ _ _ us hl => match us, hl with | [_], _ => rfl
  have gprt := PySem.W.mg_of X G aprt
  have Fprt := fun_mk (st := sPart) lprt cprt kprt
  have bprt := Fprt.binds (ps := ["thing", "kind"]) fun _ _ _ _ _ _ us hl => match us, hl with | [_, _], _ => rfl
  have gwrd := PySem.W.mg_of X G awrd
  have Fwrd := fun_mk (st := sWord) lwrd cwrd kwrd
  have bwrd := Fwrd.binds (ps := ["thing"]) fun _ _ _ _ _ _ us hl => match us, hl with | [_], _ => rfl
  have gfit := PySem.W.mg_of X G afit
  have Ffit := fun_mk (st := sFits) lfit cfit kfit
  have bfit := Ffit.binds (ps := ["thing", "kinds"]) fun _ _ _ _ _ _ us hl => match us, hl with | [_, _], _ => rfl
  have gfrm := PySem.W.mg_of X G afrm
  have Ffrm := fun_mk (st := sForm) lfrm cfrm kfrm
  have bfrm := Ffrm.binds (ps := ["thing"]) fun _ _ _ _ _ _ us hl => match us, hl with | [_], _ => rfl
  have gpts := PySem.W.mg_of X G apts
  have Fpts := fun_mk (st := sParts) lpts cpts kpts
  have bpts := Fpts.binds (ps := ["statement"]) fun _ _ _ _ _ _ us hl => match us, hl with | [_], _ => rfl
  have gblk := PySem.W.mg_of X G ablk
  have Fblk := fun_mk (st := sBlocks) lblk cblk kblk
  have bblk := Fblk.binds (ps := ["statement"]) fun _ _ _ _ _ _ us hl => match us, hl with | [_], _ => rfl
  have gcan := PySem.W.mg_of X G acan
  have Fcan := fun_mk (st := sCan) lcan ccan kcan
  have bcan := Fcan.binds (ps := ["statement", "around"]) fun _ _ _ _ _ _ us hl => match us, hl with | [_, _], _ => rfl
  have ghyi := PySem.W.mg_of X G ahyi
  have Fhyi := fun_mk (st := sYield) lhyi chyi khyi
  have bhyi := Fhyi.binds (ps := ["block"]) fun _ _ _ _ _ _ us hl => match us, hl with | [_], _ => rfl
  have gknd := PySem.W.mg_of X G aknd
  have Fknd := fun_mk (st := sKind) lknd cknd kknd
  have bknd := Fknd.binds (ps := ["thing"]) fun _ _ _ _ _ _ us hl => match us, hl with | [_], _ => rfl
  have gprm := PySem.W.mg_of X G aprm
  have Fprm := fun_mk (st := sParams) lprm cprm kprm
  have bprm := Fprm.binds (ps := ["thing"]) fun _ _ _ _ _ _ us hl => match us, hl with | [_], _ => rfl
  have gtrp := PySem.W.mg_of X G atrp
  have Ftrp := fun_mk (st := sTriple) ltrp ctrp ktrp
  have btrp := Ftrp.binds (ps := ["thing"]) fun _ _ _ _ _ _ us hl => match us, hl with | [_], _ => rfl
  have gfpc := PySem.W.mg_of X G afpc
  have Ffpc := fun_mk (st := sPieces) lfpc cfpc kfpc
  have bfpc := Ffpc.binds (ps := ["variables", "pieces"]) fun _ _ _ _ _ _ us hl => match us, hl with | [_, _], _ => rfl
  have gflt := PySem.W.mg_of X G aflt
  have Fflt := fun_mk (st := sFaultOf) lflt cflt kflt
  have bflt := Fflt.binds (ps := ["thing"]) fun _ _ _ _ _ _ us hl => match us, hl with | [_], _ => rfl
  have gnee := PySem.W.mg_of X G anee
  have Fnee := fun_mk (st := sNeed) lnee cnee knee
  have bnee := Fnee.binds (ps := ["thing"]) fun _ _ _ _ _ _ us hl => match us, hl with | [_], _ => rfl
  have giss := PySem.W.mg_of X G aiss
  have Fiss := fun_mk (st := sIsStep) liss ciss kiss
  have biss := Fiss.binds (ps := ["thing"]) fun _ _ _ _ _ _ us hl => match us, hl with | [_], _ => rfl
  have gpss := PySem.W.mg_of X G apss
  have Fpss := fun_mk (st := sPartsS) lpss cpss kpss
  have bpss := Fpss.binds (ps := ["step"]) fun _ _ _ _ _ _ us hl => match us, hl with | [_], _ => rfl
  have gpof := PySem.W.mg_of X G apof
  have Fpof := fun_mk (st := sProgOf) lpof cpof kpof
  have bpof := Fpof.binds (ps := ["step"]) fun _ _ _ _ _ _ us hl => match us, hl with | [_], _ => rfl
  have gchk := PySem.W.mg_of X G achk
  have Fchk := fun_mk (st := sChecked) lchk cchk kchk
  have bchk := Fchk.binds (ps := ["book", "thing"]) fun _ _ _ _ _ _ us hl => match us, hl with | [_, _], _ => rfl
  have gnep := PySem.W.mg_of X G anep
  have Fnep := fun_mk (st := sNeedP) lnep cnep knep
  have bnep := Fnep.binds (ps := ["book", "thing"]) fun _ _ _ _ _ _ us hl => match us, hl with | [_, _], _ => rfl
  have gmix := PySem.W.mg_of X G amix
  have Fmix := fun_mk (st := SW.sMixed) lmix cmix kmix
  have bmix := Fmix.binds (ps := ["cell", "k"]) fun _ _ _ _ _ _ us hl => match us, hl with | [_, _], _ => rfl
  have gbeg := PySem.W.mg_of X G abeg
  have Fbeg := fun_mk (st := SW.sBegin) lbeg cbeg kbeg
  have bbeg := Fbeg.binds (ps := ["script"]) fun _ _ _ _ _ _ us hl => match us, hl with | [_], _ => rfl
  have gdrw := PySem.W.mg_of X G adrw
  have Fdrw := fun_mk (st := SW.sDraw) ldrw cdrw kdrw
  have bdrw := Fdrw.binds (ps := ["state", "many"]) fun _ _ _ _ _ _ us hl => match us, hl with | [_, _], _ => rfl
  have gnam := PySem.W.mg_of X G anam
  have Fnam := fun_mk (st := SW.sName) lnam cnam knam
  have bnam := Fnam.binds (ps := ["state"]) fun _ _ _ _ _ _ us hl => match us, hl with | [_], _ => rfl
  have gnms := PySem.W.mg_of X G anms
  have Fnms := fun_mk (st := SW.sNames) lnms cnms knms
  have bnms := Fnms.binds (ps := ["state", "many"]) fun _ _ _ _ _ _ us hl => match us, hl with | [_, _], _ => rfl
  have gdue := PySem.W.mg_of X G adue
  have bdue : Binds K (PySem.W.fnOf "_law_due_right" "_law_due_right" (defArgs sDueP) (defBody sDueP) (defScope sDueP) .none kVdue dcdue pmdue andue cddue ctdue) ["book", "thing", "place"] [] := .all fun us hl => match us, hl with | [_, _, _], _ => rfl
  have ggoo := PySem.W.mg_of X G agoo
  have Fgoo := fun_mk (st := sLGood) lgoo cgoo kgoo
  have bgoo := Fgoo.binds (ps := ["own"]) fun _ _ _ _ _ _ us hl => match us, hl with | [_], _ => rfl
  have gwro := PySem.W.mg_of X G awro
  have Fwro := fun_mk (st := sLWrong) lwro cwro kwro
  have bwro := Fwro.binds (ps := ["own"]) fun _ _ _ _ _ _ us hl => match us, hl with | [_], _ => rfl
  have gmad := PySem.W.mg_of X G amad
  have Fmad := fun_mk (st := sLMade) lmad cmad kmad
  have bmad := Fmad.binds (ps := ["own"]) fun _ _ _ _ _ _ us hl => match us, hl with | [_], _ => rfl
  have gwit := PySem.W.mg_of X G awit
  have Fwit := fun_mk (st := sLWith) lwit cwit kwit
  have bwit := Fwit.binds (ps := ["own"]) fun _ _ _ _ _ _ us hl => match us, hl with | [_], _ => rfl
  have gput := PySem.W.mg_of X G aput
  have Fput := fun_mk (st := sPut) lput cput kput
  have bput := Fput.binds (ps := ["state", "own", "one", "inner"]) fun _ _ _ _ _ _ us hl => match us, hl with | [_, _, _, _], _ => rfl
  have gnst := PySem.W.mg_of X G anst
  have Fnst := fun_mk (st := sNest) lnst cnst knst
  have bnst := Fnst.binds (ps := ["state", "own", "many", "one"]) fun _ _ _ _ _ _ us hl => match us, hl with | [_, _, _, _], _ => rfl
  have gtru := PySem.W.mg_of X G atru
  have btru : Binds K (PySem.W.fnOf "_law_truths_right" "_law_truths_right" (defArgs sTru) (defBody sTru) (defScope sTru) .none kVtru dctru pmtru antru cdtru cttru) ["own"] [] := .all fun us hl => match us, hl with | [_], _ => rfl
  have godd := PySem.W.mg_of X G aodd
  have bodd : Binds K (PySem.W.fnOf "_law_odd_right" "_law_odd_right" (defArgs sOdd) (defBody sOdd) (defScope sOdd) .none kVodd dcodd pmodd anodd cdodd ctodd) ["state", "own"] [] := .all fun us hl => match us, hl with | [_, _], _ => rfl
  have gboo := PySem.W.mg_of X G aboo
  have bboo : Binds K (PySem.W.fnOf "_law_books_right" "_law_books_right" (defArgs sBoo) (defBody sBoo) (defScope sBoo) .none kVboo dcboo pmboo anboo cdboo ctboo) ["own"] [] := .all fun us hl => match us, hl with | [_], _ => rfl
  have glaw := PySem.W.mg_of X G alaw
  have blaw : Binds K (PySem.W.fnOf "law" "law" (defArgs sLaw) (defBody sLaw) (defScope sLaw) .none kVlaw dclaw pmlaw anlaw cdlaw ctlaw) ["script"] [] := .all fun us hl => match us, hl with | [_], _ => rfl
  have Fcin := fun_mk (st := sCInit) lcin ccin kcin
  have bcin := Fcin.binds (ps := ["self", "variables", "params"]) fun _ _ _ _ _ _ us hl => match us, hl with | [_, _, _], _ => rfl
  have Ftak := fun_mk (st := sTakes) ltak ctak ktak
  have btak := Ftak.binds (ps := ["self", "statement", "around"]) fun _ _ _ _ _ _ us hl => match us, hl with | [_, _, _], _ => rfl
  have Fknw := fun_mk (st := sKnows) lknw cknw kknw
  have bknw := Fknw.binds (ps := ["self", "statement"]) fun _ _ _ _ _ _ us hl => match us, hl with | [_, _], _ => rfl
  have Ffin := fun_mk (st := sFault) lfin cfin kfin
  have bfin := Ffin.binds (ps := ["self", "block", "way", "around"]) fun _ _ _ _ _ _ us hl => match us, hl with | [_, _, _, _], _ => rfl
  have Fbin := fun_mk (st := sBadInit) lbin cbin kbin
  have bbin := Fbin.binds (ps := ["self", "place"]) fun _ _ _ _ _ _ us hl => match us, hl with | [_, _], _ => rfl
  have Fpin := fun_mk (st := sPInit) lpin cpin kpin
  have bpin := Fpin.binds (ps := ["self", "book"]) fun _ _ _ _ _ _ us hl => match us, hl with | [_, _], _ => rfl
  have Fpkn := fun_mk (st := sPKnows) lpkn cpkn kpkn
  have bpkn := Fpkn.binds (ps := ["self", "step"]) fun _ _ _ _ _ _ us hl => match us, hl with | [_, _], _ => rfl
  have Fpsl := fun_mk (st := sPSlots) lpsl cpsl kpsl
  have bpsl := Fpsl.binds (ps := ["self", "step"]) fun _ _ _ _ _ _ us hl => match us, hl with | [_, _], _ => rfl
  have Fpta := fun_mk (st := sPTakes) lpta cpta kpta
  have bpta := Fpta.binds (ps := ["self", "step"]) fun _ _ _ _ _ _ us hl => match us, hl with | [_, _], _ => rfl
  have Fpfi := fun_mk (st := sPFault) lpfi cpfi kpfi
  have bpfi := Fpfi.binds (ps := ["self", "program", "deep"]) fun _ _ _ _ _ _ us hl => match us, hl with | [_, _, _], _ => rfl
  have Fbip := fun_mk (st := sBadPInit) lbip cbip kbip
  have bbip := Fbip.binds (ps := ["self", "place"]) fun _ _ _ _ _ _ us hl => match us, hl with | [_, _], _ => rfl
  have T : Forms mg := ⟨⟨_, PySem.W.mg_of X G v_LETTERS⟩, ⟨_, PySem.W.mg_of X G v_MOST_LETTERS⟩, ⟨_, PySem.W.mg_of X G v_MOST_NUMBER⟩, m_isinstance, m_str, m_int, m_bool, m_tuple, m_len, m_all⟩
  have Kd : BK.Kinds K mg := ⟨⟨aKD, PySem.W.mg_of X G vKD, fun H => .inr ⟨_, _, _, lKD, rfl, rfl, sz4 (Nat.le_of_ble_eq_true rfl), .cons ⟨_, rfl⟩ (.cons ⟨_, rfl⟩ .nil)⟩⟩, ⟨_, PySem.W.mg_of X G v_MOST_PARAMS⟩⟩
  have Mo : BK.Most mg := ⟨⟨_, PySem.W.mg_of X G v_MOST_STATEMENTS⟩, ⟨_, PySem.W.mg_of X G v_MOST_AROUND⟩⟩
  have Mb : MostB mg := ⟨⟨_, PySem.W.mg_of X G v_MOST_PIECES⟩, ⟨_, PySem.W.mg_of X G v_MOST_VARS⟩⟩
  have D : PartsD K mg w pP es nP :=
    { d := ⟨lPP, litP, lowP⟩, g := PySem.W.mg_of X G vPP, no := no_of lPP keyP,
      at_ := fun x ks e => by
        have m := kinds_mem e
        simp only [kindTab, List.mem_cons, List.not_mem_nil, or_false, Prod.mk.injEq] at m
        rcases m with ⟨rfl, rfl⟩ | ⟨rfl, rfl⟩ | ⟨rfl, rfl⟩ | ⟨rfl, rfl⟩ | ⟨rfl, rfl⟩ | ⟨rfl, rfl⟩ | ⟨rfl, rfl⟩ | ⟨rfl, rfl⟩ | ⟨rfl, rfl⟩ | ⟨rfl, rfl⟩ | ⟨rfl, rfl⟩ | ⟨rfl, rfl⟩ | ⟨rfl, rfl⟩ | ⟨rfl, rfl⟩
        · exact ⟨p0, nP0, fun H => .inr ⟨_, _, _, lP0, rfl, rfl, sz4 (Nat.le_of_ble_eq_true rfl), (.cons ⟨_, rfl⟩ (.cons ⟨_, rfl⟩ .nil))⟩⟩
        · exact ⟨p1, nP1, fun H => .inr ⟨_, _, _, lP1, rfl, rfl, sz4 (Nat.le_of_ble_eq_true rfl), (.cons ⟨_, rfl⟩ (.cons ⟨_, rfl⟩ (.cons ⟨_, rfl⟩ .nil)))⟩⟩
        · exact ⟨p2, nP2, fun H => .inr ⟨_, _, _, lP2, rfl, rfl, sz4 (Nat.le_of_ble_eq_true rfl), (.cons ⟨_, rfl⟩ .nil)⟩⟩
        · exact ⟨p3, nP3, fun H => .inr ⟨_, _, _, lP3, rfl, rfl, sz4 (Nat.le_of_ble_eq_true rfl), (.cons ⟨_, rfl⟩ .nil)⟩⟩
        · exact ⟨p4, nP4, fun H => .inr ⟨_, _, _, lP4, rfl, rfl, sz4 (Nat.le_of_ble_eq_true rfl), (.cons ⟨_, rfl⟩ .nil)⟩⟩
        · exact ⟨p5, nP5, fun H => .inr ⟨_, _, _, lP5, rfl, rfl, sz4 (Nat.le_of_ble_eq_true rfl), (.cons ⟨_, rfl⟩ .nil)⟩⟩
        · exact ⟨p6, nP6, fun H => .inr ⟨_, _, _, lP6, rfl, rfl, sz4 (Nat.le_of_ble_eq_true rfl), (.cons ⟨_, rfl⟩ (.cons ⟨_, rfl⟩ .nil))⟩⟩
        · exact ⟨p7, nP7, fun H => .inr ⟨_, _, _, lP7, rfl, rfl, sz4 (Nat.le_of_ble_eq_true rfl), (.cons ⟨_, rfl⟩ (.cons ⟨_, rfl⟩ (.cons ⟨_, rfl⟩ (.cons ⟨_, rfl⟩ .nil))))⟩⟩
        · exact ⟨p8, nP8, fun H => .inr ⟨_, _, _, lP8, rfl, rfl, sz4 (Nat.le_of_ble_eq_true rfl), (.cons ⟨_, rfl⟩ (.cons ⟨_, rfl⟩ (.cons ⟨_, rfl⟩ .nil)))⟩⟩
        · exact ⟨p9, nP9, fun H => .inr ⟨_, _, _, lP9, rfl, rfl, sz4 (Nat.le_of_ble_eq_true rfl), (.cons ⟨_, rfl⟩ (.cons ⟨_, rfl⟩ .nil))⟩⟩
        · exact ⟨p10, nP10, fun H => .inr ⟨_, _, _, lP10, rfl, rfl, sz4 (Nat.le_of_ble_eq_true rfl), (.cons ⟨_, rfl⟩ .nil)⟩⟩
        · exact ⟨p11, nP11, fun H => .inr ⟨_, _, _, lP11, rfl, rfl, sz4 (Nat.le_of_ble_eq_true rfl), .nil⟩⟩
        · exact ⟨p12, nP12, fun H => .inr ⟨_, _, _, lP12, rfl, rfl, sz4 (Nat.le_of_ble_eq_true rfl), .nil⟩⟩
        · exact ⟨p13, nP13, fun H => .inr ⟨_, _, _, lP13, rfl, rfl, sz4 (Nat.le_of_ble_eq_true rfl), .nil⟩⟩ }
  have DS : StepsD K mg w pS esS nS :=
    { d := ⟨lPS, litS, lowS⟩, g := PySem.W.mg_of X G vPS, no := no_ofS lPS keyS,
      at_ := fun x ks e => by
        have m := skinds_mem e
        simp only [stepTab, List.mem_cons, List.not_mem_nil, or_false, Prod.mk.injEq] at m
        rcases m with ⟨rfl, rfl⟩ | ⟨rfl, rfl⟩ | ⟨rfl, rfl⟩ | ⟨rfl, rfl⟩ | ⟨rfl, rfl⟩ | ⟨rfl, rfl⟩ | ⟨rfl, rfl⟩ | ⟨rfl, rfl⟩ | ⟨rfl, rfl⟩ | ⟨rfl, rfl⟩ | ⟨rfl, rfl⟩
        · exact ⟨s0, nS0, fun H => .inr ⟨_, _, _, lS0, rfl, rfl, sz4 (Nat.le_of_ble_eq_true rfl), (.cons ⟨_, rfl⟩ (.cons ⟨_, rfl⟩ .nil))⟩⟩
        · exact ⟨s1, nS1, fun H => .inr ⟨_, _, _, lS1, rfl, rfl, sz4 (Nat.le_of_ble_eq_true rfl), (.cons ⟨_, rfl⟩ (.cons ⟨_, rfl⟩ (.cons ⟨_, rfl⟩ .nil)))⟩⟩
        · exact ⟨s2, nS2, fun H => .inr ⟨_, _, _, lS2, rfl, rfl, sz4 (Nat.le_of_ble_eq_true rfl), (.cons ⟨_, rfl⟩ .nil)⟩⟩
        · exact ⟨s3, nS3, fun H => .inr ⟨_, _, _, lS3, rfl, rfl, sz4 (Nat.le_of_ble_eq_true rfl), (.cons ⟨_, rfl⟩ .nil)⟩⟩
        · exact ⟨s4, nS4, fun H => .inr ⟨_, _, _, lS4, rfl, rfl, sz4 (Nat.le_of_ble_eq_true rfl), (.cons ⟨_, rfl⟩ .nil)⟩⟩
        · exact ⟨s5, nS5, fun H => .inr ⟨_, _, _, lS5, rfl, rfl, sz4 (Nat.le_of_ble_eq_true rfl), (.cons ⟨_, rfl⟩ .nil)⟩⟩
        · exact ⟨s6, nS6, fun H => .inr ⟨_, _, _, lS6, rfl, rfl, sz4 (Nat.le_of_ble_eq_true rfl), (.cons ⟨_, rfl⟩ (.cons ⟨_, rfl⟩ .nil))⟩⟩
        · exact ⟨s7, nS7, fun H => .inr ⟨_, _, _, lS7, rfl, rfl, sz4 (Nat.le_of_ble_eq_true rfl), (.cons ⟨_, rfl⟩ .nil)⟩⟩
        · exact ⟨s8, nS8, fun H => .inr ⟨_, _, _, lS8, rfl, rfl, sz4 (Nat.le_of_ble_eq_true rfl), (.cons ⟨_, rfl⟩ (.cons ⟨_, rfl⟩ (.cons ⟨_, rfl⟩ .nil)))⟩⟩
        · exact ⟨s9, nS9, fun H => .inr ⟨_, _, _, lS9, rfl, rfl, sz4 (Nat.le_of_ble_eq_true rfl), (.cons ⟨_, rfl⟩ .nil)⟩⟩
        · exact ⟨s10, nS10, fun H => .inr ⟨_, _, _, lS10, rfl, rfl, sz4 (Nat.le_of_ble_eq_true rfl), (.cons ⟨_, rfl⟩ .nil)⟩⟩ }
  have Tx : TxK K mg C := ⟨⟨pg, hd, po, sa⟩, nV, nK, nM, gC⟩
  have M : Mk K C fcin := ⟨mk, acin, icin, kc⟩
  have Mt : Meth K C "takes" ftak := ⟨atak, itak, ktak⟩
  have Mn : Meth K C "knows" fknw := ⟨aknw, iknw, kknw⟩
  have Mf : Meth K C "fault_in" ffin := ⟨afin, ifin, kfin⟩
  have OxB : OexC K CB := ⟨⟨nmB, qB, NB, bsB, bmB, snB, subB, abbB, colB, ddB, m0B, m1B, m2B, m3B, m5B, xL_B, xV_B⟩, sa_B, e_B, t_B, k_B⟩
  have EfB : ErrF K CB := ⟨ga_B, gg_B, e_B, h_B, nb_B⟩
  have IsB : IsFacts K CB := ⟨i_B, h1_B, hN, hT, h2_B⟩
  have OxP : OexC K CP := ⟨⟨nmP, qP, NP, bsP, bmP, snP, subP, abbP, colP, ddP, m0P, m1P, m2P, m3P, m5P, xL_P, xV_P⟩, sa_P, e_P, t_P, k_P⟩
  have EfP : ErrF K CP := ⟨ga_P, gg_P, e_P, h_P, nb_P⟩
  have IsP : IsFacts K CP := ⟨i_P, h1_P, hN, hT, h2_P⟩
  have Er : ErrsP K mg CB CP CQ CT CF CS := ⟨gCB, gCP, gCQ, gCT, gCF, gCS, exP, exB, k4, kPP, kPS, kPV, kBB, k5⟩
  have Txp : TxP K mg CK := ⟨⟨pg2, hd2, po2, sa2⟩, nV2, nPr2, nK2, nC2, gCK⟩
  have Mp : Mk K CK fpin := ⟨mk2, apin, ipin, kc2⟩
  have Mpk : Meth K CK "knows" fpkn := ⟨apkn, ipkn, kpkn⟩
  have Mps : Meth K CK "slots_at" fpsl := ⟨apsl, ipsl, kpsl⟩
  have Mpt : Meth K CK "takes" fpta := ⟨apta, ipta, kpta⟩
  have Mpf : Meth K CK "fault_in" fpfi := ⟨apfi, ipfi, kpfi⟩
  have Sk : SKinds K mg := ⟨⟨aSK, PySem.W.mg_of X G vSK, fun H => .inr ⟨_, _, _, lSK, rfl, rfl, sz4 (Nat.le_of_ble_eq_true rfl), .cons ⟨_, rfl⟩ (.cons ⟨_, rfl⟩ (.cons ⟨_, rfl⟩ .nil))⟩⟩⟩
  have mD : ∃ t, mg "MOST_DEEP" = some (.int 12 t) := ⟨_, PySem.W.mg_of X G v_MOST_DEEP⟩
  refine ⟨(PySem.W.fnOf "law" "law" (defArgs sLaw) (defBody sLaw) (defScope sLaw) .none kVlaw dclaw pmlaw anlaw cdlaw ctlaw), fun s u => .of_eq rfl, fun base _ _ => ?_⟩
  have Gisn := BK.ok_name (P := P) (w := w) (base := base) (mg := mg) Fisn T
  have Garn := ok_areNames (P := P) (w := w) (base := base) (mg := mg) Farn T Gisn bisn gisn kisn
  have Gitg := ok_integer (P := P) (w := w) (base := base) (mg := mg) Fitg T
  have Gnum := ok_number (P := P) (w := w) (base := base) (mg := mg) Fnum Gitg bitg gitg kitg
  have Gtup := ok_tuple (P := P) (w := w) (base := base) (mg := mg) Ftup T
  have Gdif := ok_diff (P := P) (w := w) (base := base) (mg := mg) Fdif T m_set Gisn bisn gisn kisn
  have Gprt := ok_part (P := P) (w := w) (base := base) (mg := mg) Fprt T ⟨_, PySem.W.mg_of X G v_MOST_VALUE⟩ Gisn bisn gisn kisn Gnum bnum gnum knum Garn barn garn karn
  have Gwrd := ok_word (P := P) (w := w) (base := base) (mg := mg) Fwrd T
  have Gfit := ok_fits (P := P) (w := w) (base := base) (mg := mg) Ffit T m_zip Gprt bprt gprt kprt
  have Gfrm := ok_form (P := P) (w := w) (base := base) (mg := mg) Ffrm D Gwrd bwrd gwrd kwrd Gfit bfit gfit kfit
  have Gpts := ok_parts (P := P) (w := w) (base := base) (mg := mg) Fpts D.parts m_list m_zip
  have Gblk := ok_blocks (P := P) (w := w) (base := base) (mg := mg) Fblk T
  have Ghyi := ok_yield (P := P) (w := w) (base := base) (mg := mg) Fhyi Gfrm bfrm gfrm kfrm
  have Gcan := ok_can (P := P) (w := w) (base := base) (mg := mg) Fcan Ghyi bhyi ghyi khyi
  have Gknd := ok_kind (P := P) (w := w) (base := base) (mg := mg) Fknd T Kd
  have Gprm := ok_params (P := P) (w := w) (base := base) (mg := mg) Fprm T Kd Gtup btup gtup ktup Gknd bknd gknd kknd Gdif bdif gdif kdif
  have Gtrp := ok_triple (P := P) (w := w) (base := base) (mg := mg) Ftrp T Gtup btup gtup ktup Gisn bisn gisn kisn Gprm bprm gprm kprm
  have Gcin := ok_cinit (P := P) (w := w) (base := base) (mg := mg) Fcin Tx
  have Gknw := ok_knows (P := P) (w := w) (base := base) (mg := mg) Fknw T Kd Tx Gpts bpts gpts kpts
  have Gtak := ok_takes (P := P) (w := w) (base := base) (mg := mg) Ftak T Mo Tx Gfrm bfrm gfrm kfrm Gknw bknw Mn Gcan bcan gcan kcan
  have Gfin := ok_fault (P := P) (w := w) (base := base) (mg := mg) Ffin Tx m_enumerate Gtak btak Mt Gblk bblk gblk kblk bfin Mf 5
  have Gfpc := ok_pieces (P := P) (w := w) (base := base) (mg := mg) Ffpc Tx m_enumerate Gtrp btrp gtrp ktrp M Gcin bcin Gfin bfin Mf
  have Gflt := ok_faultOf (P := P) (w := w) (base := base) (mg := mg) Fflt T Mb Gtup btup gtup ktup Gdif bdif gdif kdif Gfpc bfpc gfpc kfpc
  have Gbin := ok_badInit (P := P) (w := w) (base := base) (mg := mg) Fbin OxB nb_B
  have Gnee := ok_need (P := P) (w := w) (base := base) (mg := mg) Fnee Gflt bflt gflt kflt OxB gCB abin ty_B Gbin bbin
  have Giss := ok_isStep (P := P) (w := w) (base := base) (mg := mg) Fiss DS Gwrd bwrd gwrd kwrd Gfit bfit gfit kfit
  have Gpss := ok_partsS (P := P) (w := w) (base := base) (mg := mg) Fpss DS m_list m_zip
  have Gpof := ok_progOf (P := P) (w := w) (base := base) (mg := mg) Fpof DS
  have Gkof := ok_kinds (P := P) (w := w) (base := base) (mg := mg) Fkof
  have Gpin := ok_pinit (P := P) (w := w) (base := base) (mg := mg) Fpin Txp Gkof bkof gkof kkof
  have Gpkn := ok_pknows (P := P) (w := w) (base := base) (mg := mg) Fpkn Txp m_len Gpss bpss gpss kpss
  have Gpsl := ok_pslots (P := P) (w := w) (base := base) (mg := mg) Fpsl Txp Sk m_list m_zip Gpss bpss gpss kpss
  have Gpta := ok_ptakes (P := P) (w := w) (base := base) (mg := mg) Fpta Txp Giss biss giss kiss Gpkn bpkn Mpk Gpsl bpsl Mps
  have Gpfi := ok_pfault (P := P) (w := w) (base := base) (mg := mg) Fpfi Txp m_enumerate mD Gpta bpta Mpt Gpof bpof gpof kpof bpfi Mpf 13
  have Gbip := ok_badPInit (P := P) (w := w) (base := base) (mg := mg) Fbip OxP nb_P
  have Gchk := ok_checked (P := P) (w := w) (base := base) (mg := mg) Fchk Txp m_isinstance m_tuple Gnee bnee gnee knee Mp Gpin bpin Gpfi bpfi Mpf OxP gCP abip ty_P Gbip bbip
  have Gnep := ok_needP (P := P) (w := w) (base := base) (mg := mg) Fnep Gchk bchk gchk kchk
  have Gdue := ok_dueP (P := P) (w := w) (base := base) (mg := mg) ldue cdue Er EfP IsP Gnep bnep gnep knep m_repr m_isinstance m_ValueError
  have Gmix := ok_mixed (P := P) (w := w) (base := base) (mg := mg) Fmix m_int
  have Gbeg := ok_begin (P := P) (w := w) (base := base) (mg := mg) Fbeg m_list
  have Gdrw := ok_draw (P := P) (w := w) (base := base) (mg := mg) Fdrw Gmix bmix gmix kmix m_int m_len
  have Gnam := SW.ok_name (P := P) (w := w) (base := base) (mg := mg) Fnam Gdrw bdrw gdrw kdrw m_range
  have Gnms := ok_names (P := P) (w := w) (base := base) (mg := mg) Fnms Gnam bnam gnam knam m_range m_len
  have Ggoo := okLGood (P := P) (w := w) (base := base) (mg := mg) Fgoo
  have Gwro := okLWrong (P := P) (w := w) (base := base) (mg := mg) Fwro
  have Gmad := okLMade (P := P) (w := w) (base := base) (mg := mg) Fmad
  have Gwit := okLWith (P := P) (w := w) (base := base) (mg := mg) Fwit
  have Gput := ok_put13 (P := P) (w := w) (base := base) (mg := mg) Fput Gdrw bdrw gdrw kdrw m_range
  have Gnst := ok_nest13 (P := P) (w := w) (base := base) (mg := mg) Fnst Gdrw bdrw gdrw kdrw m_range
  have Gtru := ok_tru (P := P) (w := w) (base := base) (mg := mg) ltru ctru Gdue bdue gdue kdue
  have Godd := ok_odd (P := P) (w := w) (base := base) (mg := mg) lodd codd m_range m_isinstance m_tuple Gdue bdue gdue kdue Gnst bnst gnst knst
  have Gboo := ok_boo (P := P) (w := w) (base := base) (mg := mg) lboo cboo Er EfB IsB m_repr m_isinstance Gnep bnep gnep knep
  exact ok_law (P := P) (w := w) (base := base) (mg := mg) llaw claw m_tuple m_zip mD Gbeg bbeg gbeg kbeg Gnms bnms gnms knms Gdue bdue gdue kdue Gput bput gput kput Ggoo bgoo ggoo kgoo Gwro bwro gwro kwro Gmad bmad gmad kmad Gwit bwit gwit kwit Gtru btru gtru ktru Godd bodd godd kodd Gboo bboo gboo kboo
end BK

set_option Elab.async false
open PySem PySem.W PyProof.Rows
set_option maxRecDepth 100000 in
set_option maxHeartbeats 0 in
theorem PySem.Challenge.cw_stepwhere_k13_programs_looked_at_holds : PySem.Challenge.rw_stepwhere_k13_programs_looked_at.Holds := by
  w_on; o_law; k_head; (case hw => w_witness2)
  k_fill
  refine BK.walkG (l := PySem.Challenge.rw_stepwhere_k13_programs_looked_at) rfl rfl (fun w h Y => PySem.W.kIn_of Y) ?F
  case F =>
    intro w mg fa h KX G hmg
    refine' BK.all_mk KX G hmg ?aC ?aCK ?aCB ?aCP ?aCQ ?aCT ?aCF ?aCS ?acin ?icin ?lcin ?ccin ?kcin ?atak ?itak ?ltak ?ctak ?ktak ?aknw ?iknw ?lknw ?cknw ?kknw ?afin ?ifin ?lfin ?cfin ?kfin ?abin ?ibin ?lbin ?cbin ?kbin ?apin ?ipin ?lpin ?cpin ?kpin ?apkn ?ipkn ?lpkn ?cpkn ?kpkn ?apsl ?ipsl ?lpsl ?cpsl ?kpsl ?apta ?ipta ?lpta ?cpta ?kpta ?apfi ?ipfi ?lpfi ?cpfi ?kpfi ?abip ?ibip ?lbip ?cbip ?kbip ?aisn ?lisn ?cisn ?kisn ?aarn ?larn ?carn ?karn ?aitg ?litg ?citg ?kitg ?akof ?lkof ?ckof ?kkof ?anum ?lnum ?cnum ?knum ?atup ?ltup ?ctup ?ktup ?adif ?ldif ?cdif ?kdif ?aprt ?lprt ?cprt ?kprt ?awrd ?lwrd ?cwrd ?kwrd ?afit ?lfit ?cfit ?kfit ?afrm ?lfrm ?cfrm ?kfrm ?apts ?lpts ?cpts ?kpts ?ablk ?lblk ?cblk ?kblk ?acan ?lcan ?ccan ?kcan ?ahyi ?lhyi ?chyi ?khyi ?aknd ?lknd ?cknd ?kknd ?aprm ?lprm ?cprm ?kprm ?atrp ?ltrp ?ctrp ?ktrp ?afpc ?lfpc ?cfpc ?kfpc ?aflt ?lflt ?cflt ?kflt ?anee ?lnee ?cnee ?knee ?aiss ?liss ?ciss ?kiss ?apss ?lpss ?cpss ?kpss ?apof ?lpof ?cpof ?kpof ?achk ?lchk ?cchk ?kchk ?anep ?lnep ?cnep ?knep ?amix ?lmix ?cmix ?kmix ?abeg ?lbeg ?cbeg ?kbeg ?adrw ?ldrw ?cdrw ?kdrw ?anam ?lnam ?cnam ?knam ?anms ?lnms ?cnms ?knms ?adue ?ldue ?cdue ?kdue ?agoo ?lgoo ?cgoo ?kgoo ?awro ?lwro ?cwro ?kwro ?amad ?lmad ?cmad ?kmad ?awit ?lwit ?cwit ?kwit ?aput ?lput ?cput ?kput ?anst ?lnst ?cnst ?knst ?atru ?ltru ?ctru ?ktru ?aodd ?lodd ?codd ?kodd ?aboo ?lboo ?cboo ?kboo ?alaw ?llaw ?claw ?klaw ?v_LETTERS ?v_MOST_LETTERS ?v_MOST_NUMBER ?v_MOST_VALUE ?v_MOST_PIECES ?v_MOST_VARS ?v_MOST_PARAMS ?v_MOST_STATEMENTS ?v_MOST_AROUND ?v_MOST_DEEP ?vKD ?lKD ?vPP ?lPP ?litP ?keyP ?lowP ?nP0 ?lP0 ?nP1 ?lP1 ?nP2 ?lP2 ?nP3 ?lP3 ?nP4 ?lP4 ?nP5 ?lP5 ?nP6 ?lP6 ?nP7 ?lP7 ?nP8 ?lP8 ?nP9 ?lP9 ?nP10 ?lP10 ?nP11 ?lP11 ?nP12 ?lP12 ?nP13 ?lP13 ?vSK ?lSK ?vPS ?lPS ?litS ?keyS ?lowS ?nS0 ?lS0 ?nS1 ?lS1 ?nS2 ?lS2 ?nS3 ?lS3 ?nS4 ?lS4 ?nS5 ?lS5 ?nS6 ?lS6 ?nS7 ?lS7 ?nS8 ?lS8 ?nS9 ?lS9 ?nS10 ?lS10 ?pg ?hd ?po ?sa ?mk ?kc ?nV ?nK ?nM ?pg2 ?hd2 ?po2 ?sa2 ?mk2 ?kc2 ?nV2 ?nPr2 ?nK2 ?nC2 ?xL_B ?xV_B ?sa_B ?ga_B ?gg_B ?nb_B ?ty_B ?k_B ?e_B ?t_B ?h_B ?i_B ?h1_B ?h2_B ?xL_P ?xV_P ?sa_P ?ga_P ?gg_P ?nb_P ?ty_P ?k_P ?e_P ?t_P ?h_P ?i_P ?h1_P ?h2_P ?hN ?hT ?exP ?exB ?k4 ?kPP ?kPS ?kPV ?kBB ?k5 ?z_isinstance ?z_str ?z_int ?z_bool ?z_tuple ?z_len ?z_all ?z_set ?z_zip ?z_list ?z_enumerate ?z_repr ?z_ValueError ?z_range
    (case aC => k_is); (case aCK => k_is); (case aCB => k_is); (case aCP => k_is); (case aCQ => k_is); (case aCT => k_is)
    (case aCF => k_is); (case aCS => k_is); (case acin => k_is); (case icin => k_is); (case lcin => k_is); (case ccin => k_is)
    (case kcin => k_is); (case atak => k_is); (case itak => k_is); (case ltak => k_is); (case ctak => k_is); (case ktak => k_is)
    (case aknw => k_is); (case iknw => k_is); (case lknw => k_is); (case cknw => k_is); (case kknw => k_is); (case afin => k_is)
    (case ifin => k_is); (case lfin => k_is); (case cfin => k_is); (case kfin => k_is); (case abin => k_is); (case ibin => k_is)
    (case lbin => k_is); (case cbin => k_is); (case kbin => k_is); (case apin => k_is); (case ipin => k_is); (case lpin => k_is)
    (case cpin => k_is); (case kpin => k_is); (case apkn => k_is); (case ipkn => k_is); (case lpkn => k_is); (case cpkn => k_is)
    (case kpkn => k_is); (case apsl => k_is); (case ipsl => k_is); (case lpsl => k_is); (case cpsl => k_is); (case kpsl => k_is)
    (case apta => k_is); (case ipta => k_is); (case lpta => k_is); (case cpta => k_is); (case kpta => k_is); (case apfi => k_is)
    (case ipfi => k_is); (case lpfi => k_is); (case cpfi => k_is); (case kpfi => k_is); (case abip => k_is); (case ibip => k_is)
    (case lbip => k_is); (case cbip => k_is); (case kbip => k_is); (case aisn => k_is); (case lisn => k_is); (case cisn => k_is)
    (case kisn => k_is); (case aarn => k_is); (case larn => k_is); (case carn => k_is); (case karn => k_is); (case aitg => k_is); (case litg => k_is); (case citg => k_is); (case kitg => k_is); (case akof => k_is); (case lkof => k_is); (case ckof => k_is); (case kkof => k_is); (case anum => k_is)
    (case lnum => k_is); (case cnum => k_is); (case knum => k_is); (case atup => k_is); (case ltup => k_is); (case ctup => k_is)
    (case ktup => k_is); (case adif => k_is); (case ldif => k_is); (case cdif => k_is); (case kdif => k_is); (case aprt => k_is)
    (case lprt => k_is); (case cprt => k_is); (case kprt => k_is); (case awrd => k_is); (case lwrd => k_is); (case cwrd => k_is)
    (case kwrd => k_is); (case afit => k_is); (case lfit => k_is); (case cfit => k_is); (case kfit => k_is); (case afrm => k_is)
    (case lfrm => k_is); (case cfrm => k_is); (case kfrm => k_is); (case apts => k_is); (case lpts => k_is); (case cpts => k_is)
    (case kpts => k_is); (case ablk => k_is); (case lblk => k_is); (case cblk => k_is); (case kblk => k_is); (case acan => k_is)
    (case lcan => k_is); (case ccan => k_is); (case kcan => k_is); (case ahyi => k_is); (case lhyi => k_is); (case chyi => k_is)
    (case khyi => k_is); (case aknd => k_is); (case lknd => k_is); (case cknd => k_is); (case kknd => k_is); (case aprm => k_is)
    (case lprm => k_is); (case cprm => k_is); (case kprm => k_is); (case atrp => k_is); (case ltrp => k_is); (case ctrp => k_is)
    (case ktrp => k_is); (case afpc => k_is); (case lfpc => k_is); (case cfpc => k_is); (case kfpc => k_is); (case aflt => k_is)
    (case lflt => k_is); (case cflt => k_is); (case kflt => k_is); (case anee => k_is); (case lnee => k_is); (case cnee => k_is)
    (case knee => k_is); (case aiss => k_is); (case liss => k_is); (case ciss => k_is); (case kiss => k_is); (case apss => k_is)
    (case lpss => k_is); (case cpss => k_is); (case kpss => k_is); (case apof => k_is); (case lpof => k_is); (case cpof => k_is)
    (case kpof => k_is); (case achk => k_is); (case lchk => k_is); (case cchk => k_is); (case kchk => k_is); (case anep => k_is)
    (case lnep => k_is); (case cnep => k_is); (case knep => k_is); (case amix => k_is); (case lmix => k_is); (case cmix => k_is)
    (case kmix => k_is); (case abeg => k_is); (case lbeg => k_is); (case cbeg => k_is); (case kbeg => k_is); (case adrw => k_is)
    (case ldrw => k_is); (case cdrw => k_is); (case kdrw => k_is); (case anam => k_is); (case lnam => k_is); (case cnam => k_is)
    (case knam => k_is); (case anms => k_is); (case lnms => k_is); (case cnms => k_is); (case knms => k_is); (case adue => k_is)
    (case ldue => k_is); (case cdue => k_is); (case kdue => k_is); (case agoo => k_is); (case lgoo => k_is); (case cgoo => k_is)
    (case kgoo => k_is); (case awro => k_is); (case lwro => k_is); (case cwro => k_is); (case kwro => k_is); (case amad => k_is)
    (case lmad => k_is); (case cmad => k_is); (case kmad => k_is); (case awit => k_is); (case lwit => k_is); (case cwit => k_is)
    (case kwit => k_is); (case aput => k_is); (case lput => k_is); (case cput => k_is); (case kput => k_is); (case anst => k_is)
    (case lnst => k_is); (case cnst => k_is); (case knst => k_is); (case atru => k_is); (case ltru => k_is); (case ctru => k_is)
    (case ktru => k_is); (case aodd => k_is); (case lodd => k_is); (case codd => k_is); (case kodd => k_is); (case aboo => k_is)
    (case lboo => k_is); (case cboo => k_is); (case kboo => k_is); (case alaw => k_is); (case llaw => k_is); (case claw => k_is)
    (case klaw => k_is); (case v_LETTERS => k_is); (case v_MOST_LETTERS => k_is); (case v_MOST_NUMBER => k_is); (case v_MOST_VALUE => k_is); (case v_MOST_PIECES => k_is)
    (case v_MOST_VARS => k_is); (case v_MOST_PARAMS => k_is); (case v_MOST_STATEMENTS => k_is); (case v_MOST_AROUND => k_is); (case v_MOST_DEEP => k_is); (case vKD => k_is)
    (case lKD => k_is); (case vPP => k_is); (case lPP => k_is); (case litP => exact ⟨⟨_, _, rfl, rfl⟩, ⟨_, _, rfl, rfl⟩, ⟨_, _, rfl, rfl⟩, ⟨_, _, rfl, rfl⟩, ⟨_, _, rfl, rfl⟩, ⟨_, _, rfl, rfl⟩, ⟨_, _, rfl, rfl⟩, ⟨_, _, rfl, rfl⟩, ⟨_, _, rfl, rfl⟩, ⟨_, _, rfl, rfl⟩, ⟨_, _, rfl, rfl⟩, ⟨_, _, rfl, rfl⟩, ⟨_, _, rfl, rfl⟩, ⟨_, _, rfl, rfl⟩, trivial⟩); (case keyP => kernel_rfl); (case lowP => kernel_rfl)
    (case nP0 => k_is); (case lP0 => k_is); (case nP1 => k_is); (case lP1 => k_is); (case nP2 => k_is); (case lP2 => k_is)
    (case nP3 => k_is); (case lP3 => k_is); (case nP4 => k_is); (case lP4 => k_is); (case nP5 => k_is); (case lP5 => k_is)
    (case nP6 => k_is); (case lP6 => k_is); (case nP7 => k_is); (case lP7 => k_is); (case nP8 => k_is); (case lP8 => k_is)
    (case nP9 => k_is); (case lP9 => k_is); (case nP10 => k_is); (case lP10 => k_is); (case nP11 => k_is); (case lP11 => k_is)
    (case nP12 => k_is); (case lP12 => k_is); (case nP13 => k_is); (case lP13 => k_is); (case vSK => k_is); (case lSK => k_is)
    (case vPS => k_is); (case lPS => k_is); (case litS => exact ⟨⟨_, _, rfl, rfl⟩, ⟨_, _, rfl, rfl⟩, ⟨_, _, rfl, rfl⟩, ⟨_, _, rfl, rfl⟩, ⟨_, _, rfl, rfl⟩, ⟨_, _, rfl, rfl⟩, ⟨_, _, rfl, rfl⟩, ⟨_, _, rfl, rfl⟩, ⟨_, _, rfl, rfl⟩, ⟨_, _, rfl, rfl⟩, ⟨_, _, rfl, rfl⟩, trivial⟩); (case keyS => kernel_rfl); (case lowS => kernel_rfl); (case nS0 => k_is)
    (case lS0 => k_is); (case nS1 => k_is); (case lS1 => k_is); (case nS2 => k_is); (case lS2 => k_is); (case nS3 => k_is)
    (case lS3 => k_is); (case nS4 => k_is); (case lS4 => k_is); (case nS5 => k_is); (case lS5 => k_is); (case nS6 => k_is)
    (case lS6 => k_is); (case nS7 => k_is); (case lS7 => k_is); (case nS8 => k_is); (case lS8 => k_is); (case nS9 => k_is)
    (case lS9 => k_is); (case nS10 => k_is); (case lS10 => k_is); (case pg => k_is); (case hd => k_is); (case po => k_is)
    (case sa => k_is); (case mk => k_is); (case kc => k_is); (case nV => k_is); (case nK => k_is); (case nM => k_is)
    (case pg2 => k_is); (case hd2 => k_is); (case po2 => k_is); (case sa2 => k_is); (case mk2 => k_is); (case kc2 => k_is)
    (case nV2 => k_is); (case nPr2 => k_is); (case nK2 => k_is); (case nC2 => k_is); (case xL_B => k_is); (case xV_B => kernel_rfl)
    (case sa_B => k_is); (case ga_B => k_is); (case gg_B => k_is); (case nb_B => k_is); (case ty_B => k_is); (case k_B => k_is)
    (case e_B => k_is); (case t_B => k_is); (case h_B => k_is); (case i_B => k_is); (case h1_B => k_is); (case h2_B => k_is)
    (case xL_P => k_is); (case xV_P => kernel_rfl); (case sa_P => k_is); (case ga_P => k_is); (case gg_P => k_is); (case nb_P => k_is)
    (case ty_P => k_is); (case k_P => k_is); (case e_P => k_is); (case t_P => k_is); (case h_P => k_is); (case i_P => k_is)
    (case h1_P => k_is); (case h2_P => k_is); (case hN => k_is); (case hT => k_is); (case exP => kernel_rfl); (case exB => kernel_rfl)
    (case k4 => kernel_rfl); (case kPP => kernel_rfl); (case kPS => kernel_rfl); (case kPV => kernel_rfl); (case kBB => kernel_rfl); (case k5 => kernel_rfl)
    (case z_isinstance => k_is); (case z_str => k_is); (case z_int => k_is); (case z_bool => k_is); (case z_tuple => k_is); (case z_len => k_is)
    (case z_all => k_is); (case z_set => k_is); (case z_zip => k_is); (case z_list => k_is); (case z_enumerate => k_is); (case z_repr => k_is)
    (case z_ValueError => k_is); (case z_range => k_is)


