import PyProof.Rows.All
import Wide.All
import OpenK.AllK
import Wide.FinOn
import HandS.ForMost
import HandS.EndTab
import HandS.Wide
import HandS.More
import HandS.Conv
import HandS.IsInst
import HandS.Steps
import HandS.Walk
import HandS.Iter
import HandS.Style
import HandS.Strs
import HandS.Zip
import HandS.NoneIn
import KE.KDictZip
import KE.GoesEnum
import HandS.SetKeys
import HandS.TupAny
import HandS.DictComp
import HandS.CallRecv
import HandS.ExcInit
import HandS.ForExc
import KE.KTryMore
import KE.KExcIs
import HandS.RaiseMore
import HandS.Lambda
import HandS.Small
import HandS.TupMul
import HandS.Dict
import HandS.Star
import HandS.Text
import PyProof.StrOps2
import PySem.Challenge.RW_stepwhere_k07_whole_books_at_their_bound
set_option Elab.async false
set_option maxRecDepth 100000
set_option maxHeartbeats 1000000
/-! Trees of data; names, numbers, tuples. -/
namespace BK
open PySem PySem.Spec PyProof.Rows L2
def top (i : Nat) : Stmt := PySem.Challenge.pw_stepwhere_k07_whole_books_at_their_bound.main.body.getD i (.Pass ⟨0, 0, 0, 0⟩)
theorem same_new {H : Hp} {p : Addr} {o : HO} (h : H p = none) : Same H (upd H p o) := fun b u e => by
  rw [upd_ne (ne_of_none e h)]
  exact e
theorem sqt_same {K : PySem.W.Frag} {H H' : Hp} {q : Addr} {xs : List V} (e : Same H H') (h : SqT K H q xs) : SqT K H' q xs := by
  rcases h with (h | ⟨o, h⟩) | h
  · exact .inl (.inl (e _ _ h))
  · exact .inl (.inr ⟨o, e _ _ h⟩)
  · exact .inr h
theorem sqt_ty {K : PySem.W.Frag} {H : Hp} {t : Addr} {xs : List V} (h : SqT K H t xs) : TyX K H (.ref t) (.type "tuple") := by
  rcases h with (h | ⟨o2, h⟩) | ⟨o2, its, n, h1, h2, _⟩
  · exact .base (.tup h)
  · exact .fTuple h
  · exact .kTuple h1 h2
theorem sql_ty {K : PySem.W.Frag} {H : Hp} {t : Addr} {xs : List V} (h : SqL K H t xs) : TyX K H (.ref t) (.type "list") := by
  rcases h with (h | ⟨o2, h⟩) | ⟨o2, its, n, h1, h2, _⟩
  · exact .base (.lst h)
  · exact .base (.frz h)
  · exact .kList h1 h2
theorem tyes {σ : L2.St} {H : Hp} {f g : Hp → Prop} (h : f H) : tYes σ H fun b H3 => if b = true then f H3 else g H3 := by
  show (if true = true then f H else g H)
  exact iteT h
/-- a tree of data; of lists and dicts only that they are such -/
inductive Tr where
  | non
  | bl (b : Bool)
  | int (i : Int)
  | str (s : Str)
  | lst
  | dct
  | tup (ts : List Tr)
mutual
inductive TrAt (K : PySem.W.Frag) (H : Hp) : V → Tr → Prop
  | non : TrAt K H .non .non
  | bl (b : Bool) : TrAt K H (.bl b) (.bl b)
  | int (i : Int) : TrAt K H (.int i) (.int i)
  | str (s : Str) (h : s.length ≤ sizeLine) : TrAt K H (.str s) (.str s)
  | lst {a : Addr} {xs : List V} (h : SqL K H a xs) : TrAt K H (.ref a) .lst
  | dct {a : Addr} {kvs : List (Key × V)} (h : H a = some (.dK kvs)) : TrAt K H (.ref a) .dct
  | tup {a : Addr} {xs : List V} {ts : List Tr} (h : SqT K H a xs) (k : TrAll K H xs ts) : TrAt K H (.ref a) (.tup ts)
inductive TrAll (K : PySem.W.Frag) (H : Hp) : List V → List Tr → Prop
  | nil : TrAll K H [] []
  | cons {v : V} {vs : List V} {t : Tr} {ts : List Tr} (h : TrAt K H v t) (k : TrAll K H vs ts) : TrAll K H (v :: vs) (t :: ts)
end
section
variable {K : PySem.W.Frag} {H H' : Hp}
mutual
theorem TrAt.same (e : Same H H') : ∀ {v : V} {t : Tr}, TrAt K H v t → TrAt K H' v t
  | _, _, .non => .non
  | _, _, .bl b => .bl b
  | _, _, .int i => .int i
  | _, _, .str s h => .str s h
  | _, _, .lst h => .lst (e.seq h)
  | _, _, .dct h => .dct (e _ _ h)
  | _, _, .tup h k => .tup (sqt_same e h) (TrAll.same e k)
theorem TrAll.same (e : Same H H') : ∀ {vs : List V} {ts : List Tr}, TrAll K H vs ts → TrAll K H' vs ts
  | _, _, .nil => .nil
  | _, _, .cons h k => .cons (h.same e) (k.same e)
end
theorem TrAll.len : ∀ {vs : List V} {ts : List Tr}, TrAll K H vs ts → vs.length = ts.length
  | _, _, .nil => rfl
  | _, _, .cons _ k => congrArg (· + 1) k.len
theorem TrAll.get : ∀ {vs : List V} {ts : List Tr} {i : Nat} {v : V}, TrAll K H vs ts → vs[i]? = some v → ∃ t, ts[i]? = some t ∧ TrAt K H v t
  | _, _, _, _, .nil, h => by simp at h
  | _, _, 0, _, .cons h k, e => by
    rw [List.getElem?_cons_zero] at e
    cases e
    exact ⟨_, rfl, h⟩
  | _, _, i + 1, _, .cons h k, e => by
    rw [List.getElem?_cons_succ] at e
    obtain ⟨t, h1, h2⟩ := k.get e
    exact ⟨t, by rw [List.getElem?_cons_succ]; exact h1, h2⟩
theorem TrAll.get' : ∀ {vs : List V} {ts : List Tr} {i : Nat} {t : Tr}, TrAll K H vs ts → ts[i]? = some t → ∃ v, vs[i]? = some v ∧ TrAt K H v t
  | _, _, _, _, .nil, h => by simp at h
  | _, _, 0, _, .cons h k, e => by
    rw [List.getElem?_cons_zero] at e
    cases e
    exact ⟨_, rfl, h⟩
  | _, _, i + 1, _, .cons h k, e => by
    rw [List.getElem?_cons_succ] at e
    obtain ⟨t, h1, h2⟩ := k.get' e
    exact ⟨t, by rw [List.getElem?_cons_succ]; exact h1, h2⟩
/-- a list is written -/
theorem sqt_updL {D : Addr} {ys ys' xs : List V} {a : Addr} (e : H D = some (.lst ys)) (h : SqT K H a xs) : SqT K (upd H D (.lst ys')) a xs := by
  rcases h with (h | ⟨o, h⟩) | h
  · exact .inl (.inl (by rw [upd_ne (ne_of h e (by intro z; cases z))]; exact h))
  · exact .inl (.inr ⟨o, by rw [upd_ne (ne_of h e (by intro z; cases z))]; exact h⟩)
  · exact .inr h
mutual
theorem TrAt.updL {D : Addr} {ys ys' : List V} (e : H D = some (.lst ys)) : ∀ {v : V} {t : Tr}, TrAt K H v t → TrAt K (upd H D (.lst ys')) v t
  | _, _, .non => .non
  | _, _, .bl b => .bl b
  | _, _, .int i => .int i
  | _, _, .str s h => .str s h
  | _, _, .lst (a := a) (xs := xs) h => by
    by_cases z : a = D
    · rw [z]
      exact .lst (SqL.of upd_same)
    · refine .lst (xs := xs) ?_
      rcases h with (h | ⟨o, h⟩) | h
      · exact .inl (.inl (by rw [upd_ne z]; exact h))
      · exact .inl (.inr ⟨o, by rw [upd_ne z]; exact h⟩)
      · exact .inr h
  | _, _, .dct h => .dct (by rw [upd_ne (ne_of h e (by intro z; cases z))]; exact h)
  | _, _, .tup h k => .tup (sqt_updL e h) (TrAll.updL e k)
theorem TrAll.updL {D : Addr} {ys ys' : List V} (e : H D = some (.lst ys)) : ∀ {vs : List V} {ts : List Tr}, TrAll K H vs ts → TrAll K (upd H D (.lst ys')) vs ts
  | _, _, .nil => .nil
  | _, _, .cons h k => .cons (h.updL e) (k.updL e)
end
def tyT : Tr → String
  | .non => "NoneType"
  | .bl _ => "bool"
  | .int _ => "int"
  | .str _ => "str"
  | .lst => "list"
  | .dct => "dict"
  | .tup _ => "tuple"
theorem TrAt.ty {v : V} {t : Tr} (h : TrAt K H v t) : TyX K H v (.type (tyT t)) := by
  cases h with
  | non => exact .base .non
  | bl b => exact .base (.bl b)
  | int i => exact .base (.int i)
  | str s h => exact .base (.str s)
  | lst h => exact sql_ty h
  | dct h => exact .base (.dK h)
  | tup h k => exact sqt_ty h
end
def isStr : Tr → Bool
  | .str _ => true
  | _ => false
def isInt : Tr → Bool
  | .int _ => true
  | .bl _ => true
  | _ => false
def isBl : Tr → Bool
  | .bl _ => true
  | _ => false
def isTup : Tr → Bool
  | .tup _ => true
  | _ => false
theorem k_str (K : PySem.W.Frag) (t : Tr) : PySem.W.kitOne K (.type (tyT t)) (.type "str") = some (isStr t) := by
  cases t <;> exact kit_ty (by simp only [tyT, isStr]; decide +kernel)
theorem k_int (K : PySem.W.Frag) (t : Tr) : PySem.W.kitOne K (.type (tyT t)) (.type "int") = some (isInt t) := by
  cases t <;> exact kit_ty (by simp only [tyT, isInt]; decide +kernel)
theorem k_bl (K : PySem.W.Frag) (t : Tr) : PySem.W.kitOne K (.type (tyT t)) (.type "bool") = some (isBl t) := by
  cases t <;> exact kit_ty (by simp only [tyT, isBl]; decide +kernel)
theorem k_tup (K : PySem.W.Frag) (t : Tr) : PySem.W.kitOne K (.type (tyT t)) (.type "tuple") = some (isTup t) := by
  cases t <;> exact kit_ty (by simp only [tyT, isTup]; decide +kernel)
def alpha : Str := "abcdefghijklmnopqrstuvwxyz"
/-- a word of 1 to 8 letters -/
def nameS (s : Str) : Bool := decide (1 ≤ s.length) && decide (s.length ≤ 8) && s.cps.toList.all fun c => decide (c ∈ alpha.cps.toList)
def nameT : Tr → Bool
  | .str s => nameS s
  | _ => false
def numT (most : Int) : Tr → Bool
  | .int i => decide (0 ≤ i) && decide (i ≤ most)
  | _ => false
def tupT (n : Nat) : Tr → Bool
  | .tup ts => ts.length == n
  | _ => false
/-- what the top has written of the forms -/
structure Forms (mg : Str → Option Value) : Prop where
  le : ∃ t, mg "LETTERS" = some (.str alpha t)
  ml : ∃ t, mg "MOST_LETTERS" = some (.int 8 t)
  mn : ∃ t, mg "MOST_NUMBER" = some (.int 99 t)
  isi : mg "isinstance" = none
  str : mg "str" = none
  int : mg "int" = none
  bool : mg "bool" = none
  tuple : mg "tuple" = none
  len : mg "len" = none
  all : mg "all" = none
def spOf (f : Tr → Bool) (K : PySem.W.Frag) : Sp := fun vs H Q _ => ∃ v t, vs = [v] ∧ TrAt K H v t ∧ ∀ H', Same H H' → Q (.bl (f t)) H'
section
variable {P : Program} {w : World} {K : PySem.W.Frag} {mg : Str → Option Value} {base : Heap}
abbrev sName : Stmt := top 13
abbrev sInteger : Stmt := top 15
abbrev sNumber : Stmt := top 16
abbrev sTuple : Stmt := top 17
theorem scName : FnScope ["thing", "letter"] ["thing"] (defScope sName) := ⟨rfl, rfl, rfl, by decide +kernel, rfl, by decide +kernel, by decide +kernel⟩
theorem ok_name {f : Addr} {fd : FuncData} (F : Fun K "is_name" "is_name" sName f fd) (T : Forms mg) : FnOk P w K mg base CX0 1 f fd ["thing"] (spOf nameT K) := by
  refine F.ok scName (fun vs H Q E h => ?_) (fun cdv A outer s H vs Q E hr h => ?_)
  · obtain ⟨v, t, rfl, _⟩ := h
    rfl
  · obtain ⟨v, t, rfl, ht, k⟩ := h
    obtain ⟨t1, gL⟩ := T.le
    obtain ⟨t2, gM⟩ := T.ml
    refine ⟨_, pss_cons (ps_if (PW.pt (pw_or (pt_not (pt_val (pe_callB call_isi (by rfl) T.isi boot_isinstance (pa_cons (pv 0) (pa_cons (pe_bltn (v := .ty "str") (u := .type "str") (by rfl) T.str (by decide +kernel) rfl) pa_nil)))))
        (pw_or1 (pt_not (pt_chain op_le op_le pe_int (pe_callB call_len_str (by rfl) T.len boot_len (pa_cons (pv 0) pa_nil)) (pe_glob (v := .int 8) rfl gM ⟨_, rfl⟩)))))) (pss_one (ps_ret pe_bl)) pss_nil)
      (pss_one (ps_ret (pe_callB (cr_all rfl) (by rfl) T.all (by decide +kernel) (pa_cons (pe_lc (own := [("letter", 1)]) (g := gName 1) (tt := tYes) rfl scName.nd (pi_str (pv 0))
          (blkOk_by (N := ["thing", "letter"]) (sc := defScope sName) (by decide +kernel)) (fun _ _ _ _ _ => pg_name (i := 1) scName.nd rfl (Or.inl rfl)) (fun _ _ _ _ _ => pts_nil)
          (fun _ _ _ _ _ => pe_cmpR op_inS (pv 1) (pe_glob (v := .str alpha) rfl gL ⟨_, rfl⟩) rfl)) pa_nil)))), ?_⟩
    refine ⟨_, rfl, v, .ty "str", .type (tyT t), .type "str", isStr t, rfl, .ty "str", ht.ty, k_str K t, _, rfl, ?_⟩
    cases ht with
    | str z hz =>
      refine iteF ?_
      have fin : ∀ b : Bool, b = nameS z → ∀ H', Same H H' → Q (.bl b) H' := fun b e H' s' => by
        rw [e]
        exact k H' s'
      refine ⟨_, rfl, z, rfl, hz, _, _, rfl, rfl, _, rfl, ?_⟩
      refine ite2 (fun h1 => ?_) (fun h1 => ?_)
      · refine ⟨_, _, rfl, rfl, _, rfl, ?_⟩
        refine ite2 (fun h2 => ?_) (fun h2 => ?_)
        · refine fin false ?_ H fun _ _ e => e
          have h : ¬ ((z.length : Int) ≤ 8) := by simpa using h2
          have h' : ¬ (z.length ≤ 8) := by omega
          unfold nameS
          rw [decide_eq_false h', Bool.and_false, Bool.false_and]
        · have h : (z.length : Int) ≤ 8 := by simpa using h2
          have hl : z.length ≤ 8 := by omega
          have hl1 : 1 ≤ z.length := by
            have q : (1 : Int) ≤ (z.length : Int) := of_decide_eq_true h1
            omega
          refine ⟨_, rfl, z, rfl, fun D nD => ?_⟩
          refine lc_it (walk_str (z := z)) (fun i H2 => Same H H2 ∧ H2 D = some (.lst (((z.cps.toList.take i).map fun c => decide (c ∈ alpha.cps.toList)).map V.bl))) ⟨same_new nD, upd_same⟩ (fun _ _ _ _ => True.intro) ?_ ?_
          · rintro i x H2 H3 hi ⟨s2, e2⟩ ⟨rfl, c, hc, rfl⟩
            refine ⟨rfl, ?_⟩
            refine tyes ?_
            refine ⟨_, rfl, c, alpha, rfl, rfl, _, e2, small1000 (by rw [List.length_map, List.length_map, List.length_take, Array.length_toList]; have : z.cps.size ≤ 8 := hl; omega), fun b o e => ?_, ?_⟩
            · rw [upd_ne (ne_of_none e nD)]
              exact s2 b o e
            · have hc' : z.cps.toList[i]? = some c := by rw [Array.getElem?_toList]; exact hc
              rw [upd_same, List.take_add_one, hc', List.map_append, List.map_append]
              rfl
          · rintro H2 ⟨s2, e2⟩
            refine ⟨D, _, rfl, SqL.of e2, fin _ ?_ H2 s2⟩
            have et : z.cps.toList.take z.cps.size = z.cps.toList := by rw [← Array.length_toList, List.take_length]
            unfold nameS
            rw [decide_eq_true hl, decide_eq_true hl1, et, List.all_map]
            simp [Function.comp]
      · refine ⟨_, rfl, iteT (fin false ?_ H fun _ _ e => e)⟩
        have h : ¬ ((1 : Int) ≤ (z.length : Int)) := fun q => h1 (decide_eq_true q)
        have h' : ¬ (1 ≤ z.length) := by omega
        unfold nameS
        rw [decide_eq_false h', Bool.false_and, Bool.false_and]
    | non => exact iteT (k H fun _ _ e => e)
    | bl b => exact iteT (k H fun _ _ e => e)
    | int i => exact iteT (k H fun _ _ e => e)
    | lst h => exact iteT (k H fun _ _ e => e)
    | dct h => exact iteT (k H fun _ _ e => e)
    | tup h q => exact iteT (k H fun _ _ e => e)
/-! numbers, tuples -/
def spNumber (K : PySem.W.Frag) : Sp := fun vs H Q _ => ∃ v t most, vs = [v, .int most] ∧ TrAt K H v t ∧ Q (.bl (numT most t)) H
def spTuple (K : PySem.W.Frag) : Sp := fun vs H Q _ => ∃ v t n, vs = [v, .int n] ∧ TrAt K H v t ∧ Q (.bl (match t with | .tup ts => decide ((ts.length : Int) = n) | _ => false)) H
def spInteger (K : PySem.W.Frag) : Sp := fun vs H Q _ => ∃ v t, vs = [v] ∧ TrAt K H v t ∧ Q (.bl (isInt t && !isBl t)) H
theorem scInteger : FnScope ["thing"] ["thing"] (defScope sInteger) := ⟨rfl, rfl, rfl, by decide +kernel, rfl, by decide +kernel, by decide +kernel⟩
theorem ok_integer {f : Addr} {fd : FuncData} (F : Fun K "is_integer" "is_integer" sInteger f fd) (T : Forms mg) : FnOk P w K mg base CX0 1 f fd ["thing"] (spInteger K) := by
  refine F.ok scInteger (fun vs H Q E h => ?_) (fun cdv A outer s H vs Q E hr h => ?_)
  · obtain ⟨v, t, rfl, _⟩ := h
    rfl
  · obtain ⟨v, t, rfl, ht, k⟩ := h
    refine ⟨_, pss_one (ps_ret (pe_and (pe_callB call_isi (by rfl) T.isi boot_isinstance (pa_cons (pv 0) (pa_cons (pe_bltn (v := .ty "int") (u := .type "int") (by rfl) T.int (by decide +kernel) rfl) pa_nil)))
      (pe_one (pe_not (pe_callB call_isi (by rfl) T.isi boot_isinstance (pa_cons (pv 0) (pa_cons (pe_bltn (v := .ty "bool") (u := .type "bool") (by rfl) T.bool (by decide +kernel) rfl) pa_nil))))))), ?_⟩
    refine ⟨_, rfl, v, .ty "int", .type (tyT t), .type "int", isInt t, rfl, .ty "int", ht.ty, k_int K t, _, rfl, ?_⟩
    have two := ht.ty
    cases ht with
    | int i => exact iteT ⟨_, rfl, _, .ty "bool", .type (tyT (.int i)), .type "bool", isBl (.int i), rfl, .ty "bool", two, k_bl K _, _, rfl, k⟩
    | bl b => exact iteT ⟨_, rfl, _, .ty "bool", .type (tyT (.bl b)), .type "bool", isBl (.bl b), rfl, .ty "bool", two, k_bl K _, _, rfl, k⟩
    | str z hz => exact iteF k
    | non => exact iteF k
    | lst h => exact iteF k
    | dct h => exact iteF k
    | tup h q => exact iteF k
theorem scNumber : FnScope ["thing", "most"] ["thing", "most"] (defScope sNumber) := ⟨rfl, rfl, rfl, by decide +kernel, rfl, by decide +kernel, by decide +kernel⟩
theorem ok_number {f fI : Addr} {fd fdI : FuncData} (F : Fun K "is_number" "is_number" sNumber f fd)
    (GI : FnOk P w K mg base CX0 1 fI fdI ["thing"] (spInteger K)) (bI : Binds K fdI ["thing"] []) (gI : mg "is_integer" = some (.ref fI)) (kI : PySem.W.keepIn K (.ref fI) = true) : FnOk P w K mg base CX0 2 f fd ["thing", "most"] (spNumber K) := by
  refine F.ok scNumber (fun vs H Q E h => ?_) (fun cdv A outer s H vs Q E hr h => ?_)
  · obtain ⟨v, t, most, rfl, _⟩ := h
    rfl
  · obtain ⟨v, t, most, rfl, ht, k⟩ := h
    refine ⟨_, pss_one (ps_ret (pe_and (pe_call GI hr rfl gI kI bI .nil pass0 (pa_cons (pv 0) pa_nil))
      (pe_one (pe_chain op_le op_le pe_int (pv 0) (pv 1))))), ?_⟩
    refine ⟨_, rfl, v, t, rfl, ht, _, rfl, ?_⟩
    cases ht with
    | int i =>
      refine iteT ⟨_, rfl, _, _, rfl, rfl, _, rfl, ?_⟩
      refine ite2 (fun h => ?_) (fun h => ?_)
      · have h' : decide ((0 : Int) ≤ i) = true := h
        have e : numT most (.int i) = decide (i ≤ most) := by
          show (decide (0 ≤ i) && decide (i ≤ most)) = _
          rw [h', Bool.true_and]
        rw [e] at k
        exact ⟨_, rfl, _, _, rfl, rfl, k⟩
      · have h' : decide ((0 : Int) ≤ i) = false := by simpa using h
        have e : numT most (.int i) = false := by
          show (decide (0 ≤ i) && decide (i ≤ most)) = _
          rw [h', Bool.false_and]
        rw [e] at k
        exact k
    | bl b => exact iteF k
    | str z hz => exact iteF k
    | non => exact iteF k
    | lst h => exact iteF k
    | dct h => exact iteF k
    | tup h q => exact iteF k
theorem scTuple : FnScope ["thing", "count"] ["thing", "count"] (defScope sTuple) := ⟨rfl, rfl, rfl, by decide +kernel, rfl, by decide +kernel, by decide +kernel⟩
theorem ok_tuple {f : Addr} {fd : FuncData} (F : Fun K "is_tuple" "is_tuple" sTuple f fd) (T : Forms mg) : FnOk P w K mg base CX0 1 f fd ["thing", "count"] (spTuple K) := by
  refine F.ok scTuple (fun vs H Q E h => ?_) (fun cdv A outer s H vs Q E hr h => ?_)
  · obtain ⟨v, t, n, rfl, _⟩ := h
    rfl
  · obtain ⟨v, t, n, rfl, ht, k⟩ := h
    refine ⟨_, pss_one (ps_ret (pe_and (pe_callB call_isi (by rfl) T.isi boot_isinstance (pa_cons (pv 0) (pa_cons (pe_bltn (v := .ty "tuple") (u := .type "tuple") (by rfl) T.tuple (by decide +kernel) rfl) pa_nil)))
      (pe_one (pe_cmpR op_eq (pe_callB call_len_seq (by rfl) T.len boot_len (pa_cons (pv 0) pa_nil)) (pv 1) (nomark _))))), ?_⟩
    refine ⟨_, rfl, v, .ty "tuple", .type (tyT t), .type "tuple", isTup t, rfl, .ty "tuple", ht.ty, k_tup K t, _, rfl, ?_⟩
    cases ht with
    | @tup a xs ts h q =>
      refine iteT ⟨_, rfl, a, xs, rfl, .inr h, _, rfl, rfl, ?_⟩
      have e : decide (V.int (xs.length : Int) = V.int n) = decide ((ts.length : Int) = n) := by
        rw [dec_int, q.len]
        by_cases z : (ts.length : Int) = n
        · rw [z]
          simp
        · rw [decide_eq_false z, beq_eq_false_iff_ne]
          exact z
      rw [e]
      exact k
    | int i => exact iteF k
    | bl b => exact iteF k
    | str z hz => exact iteF k
    | non => exact iteF k
    | lst h => exact iteF k
    | dct h => exact iteF k
/-! the parts of a statement that are blocks -/
abbrev sBlocks : Stmt := top 24
def spBlocks (K : PySem.W.Frag) : Sp := fun vs H Q _ => ∃ v ts, vs = [v] ∧ TrAt K H v (.tup ts) ∧ ts.length ≤ 1000 ∧ ∀ (D : Addr) (bs : List V) (H' : Hp), Same H H' → H D = none → H' D = some (.lst bs) → TrAll K H' bs (ts.filter isTup) → Q (.ref D) H'
theorem scBlocks : FnScope ["statement", "part"] ["statement"] (defScope sBlocks) := ⟨rfl, rfl, rfl, by decide +kernel, rfl, by decide +kernel, by decide +kernel⟩
theorem TrAll.snoc {H : Hp} : ∀ {vs : List V} {ts : List Tr} {v : V} {t : Tr}, TrAll K H vs ts → TrAt K H v t → TrAll K H (vs ++ [v]) (ts ++ [t])
  | _, _, _, _, .nil, h => .cons h .nil
  | _, _, _, _, .cons a k, h => .cons a (k.snoc h)
theorem ok_blocks {f : Addr} {fd : FuncData} (F : Fun K "blocks_of" "blocks_of" sBlocks f fd) (T : Forms mg) : FnOk P w K mg base CX0 1 f fd ["statement"] (spBlocks K) := by
  refine F.ok scBlocks (fun vs H Q E h => ?_) (fun cdv A outer s H vs Q E hr h => ?_)
  · obtain ⟨v, ts, rfl, _⟩ := h
    rfl
  · obtain ⟨v, ts, rfl, ht, hl, k⟩ := h
    cases ht with
    | @tup a xs ts h q =>
    refine ⟨_, pss_one (ps_ret (pe_lc (own := [("part", 1)]) (g := gName 1) (tt := tB (tCB (rIsi K) (tCons (tVar 1) (tCons (tC (.ty "tuple")) tNil)))) (te := tVar 1) rfl scBlocks.nd (pi_tup (pv 0))
        (blkOk_by (N := ["statement", "part"]) (sc := defScope sBlocks) (by decide +kernel)) (fun _ _ _ _ _ => pg_name (i := 1) scBlocks.nd rfl (Or.inl rfl))
        (fun _ _ _ _ _ => pts_one (pt_val (by exact pe_callB call_isi (by rfl) T.isi boot_isinstance (pa_cons (pv 1) (pa_cons (pe_bltn (v := .ty "tuple") (u := .type "tuple") (by rfl) T.tuple (by decide +kernel) rfl) pa_nil)))))
        (fun _ _ _ _ _ => pv 1))), ?_⟩
    refine ⟨_, rfl, a, rfl, ⟨_, h⟩, fun D nD => ?_⟩
    refine lc_it (walk_tup (K := K) (a := a) (xs := xs)) (fun i H2 => Same H H2 ∧ ∃ bs, H2 D = some (.lst bs) ∧ TrAll K H2 bs ((ts.take i).filter isTup)) ⟨same_new nD, [], upd_same, .nil⟩ (fun i H2 _ ⟨s2, _⟩ => sqt_same s2 h) ?_ ?_
    · rintro i x H2 H3 hi ⟨s2, bs, e2, b2⟩ ⟨rfl, hx⟩
      obtain ⟨t, ht, tx⟩ := (q.same s2).get hx
      have et : ts.take (i + 1) = ts.take i ++ [t] := by rw [List.take_add_one, ht]; rfl
      refine ⟨rfl, _, rfl, x, .ty "tuple", .type (tyT t), .type "tuple", isTup t, rfl, .ty "tuple", tx.ty, k_tup K t, _, rfl, ?_⟩
      have s3 : ∀ o, Same H (upd H3 D o) := fun o b u e => by
        rw [upd_ne (ne_of_none e nD)]
        exact s2 b u e
      cases e : isTup t with
      | true =>
        refine iteT ⟨_, rfl, bs, e2, small1000 ?_, s3 _, _, upd_same, ?_⟩
        · rw [b2.len]
          exact Nat.le_trans (List.length_filter_le _ _) (by rw [List.length_take]; omega)
        · rw [et, List.filter_append]
          have e' : [t].filter isTup = [t] := by simp [List.filter, e]
          rw [e']
          exact (b2.updL e2).snoc (tx.updL e2)
      | false =>
        refine iteF ⟨s2, bs, e2, ?_⟩
        rw [et, List.filter_append]
        have e' : [t].filter isTup = [] := by simp [List.filter, e]
        rw [e', List.append_nil]
        exact b2
    · rintro H2 ⟨s2, bs, e2, b2⟩
      have e : ts.take xs.length = ts := by rw [q.len, List.take_length]
      rw [e] at b2
      exact k D bs H2 s2 nD e2 b2
end
end BK


set_option Elab.async false
set_option linter.all false
set_option maxRecDepth 100000
set_option maxHeartbeats 4000000
/-! A set of texts, of any number below 4000; its length. -/
namespace BS
open PySem PySem.Spec PyProof.Rows
/-- how many different ones among the first i -/
def cnt (xs : List Str) : Nat → Nat
  | 0 => 0
  | i + 1 => if ((xs.take i).any (· == xs.getD i Str.empty)) = true then cnt xs i else cnt xs i + 1
theorem cnt_le (xs : List Str) : ∀ i, cnt xs i ≤ i
  | 0 => Nat.le_refl 0
  | i + 1 => by
    have := cnt_le xs i
    unfold cnt
    split <;> omega
theorem take_get {xs : List Str} {i : Nat} (h : i < xs.length) : xs.take (i + 1) = xs.take i ++ [xs.getD i Str.empty] := by
  rw [List.take_add_one, List.getElem?_eq_getElem h]
  simp [List.getD, List.getElem?_eq_getElem h]
abbrev freshSet (led : Bool) : Obj := { cls := .type "set", dict := none, data := .set #[] 0 (.fresh 0 0 led) }
/-- the texts among the first i -/
abbrev met (xs : List Str) (i : Nat) : Str → Bool := fun y => (xs.take i).any (· == y)
section
variable {prog : Program} {w : World} {A : Around} {R : Result → Shared → Prop} {it : Addr} {fs ws : List Addr} {G : Array GenState → Array GenState → Prop} {n : Nat} {P : Nat → Value → Prop} {St : Nat → Shared → Prop}
theorem turns (W : WalksS prog w A.in1 it fs ws G n P St) (a : Addr) (na : a ∉ fs) (xs : List Str) (len : xs.length = n) (few : n + 1 < scanBound) (val : ∀ i v, P i v → ∃ t, v = .str (xs.getD i Str.empty) t) (d : Nat) :
    ∀ (i : Nat) (s : Shared), i + d = n → St i s → s.heap.SetOf (PySem.strKind prog w) a (met xs i) (cnt xs i) →
      (∀ s', Moved (a :: ws) G s s' → s'.heap.SetOf (PySem.strKind prog w) a (met xs n) (cnt xs n) → R (.ok (.ret .none)) s') → codeAny (model prog w) A (.builtin "set.update.loop" ⟨[.ref a, .ref it], []⟩) R s := by
  have nw : a ∉ ws := fun z => na (W.sub _ z)
  have wider : ∀ b ∈ ws, b ∈ a :: ws := fun b z => List.mem_cons_of_mem _ z
  have moved : ∀ {s s' : Shared} {S : Str → Bool} {m : Nat}, Moved ws G s s' → s.heap.SetOf (PySem.strKind prog w) a S m → s'.heap.SetOf (PySem.strKind prog w) a S m := fun mv ⟨o, es, ep, t, q, rest⟩ => ⟨o, es, ep, t, mv.heap a _ nw q, rest⟩
  induction d with
  | zero =>
    intro i s e st here then_
    obtain rfl : i = n := e
    refine codeAny_builtin PyProof.Rows.F.entry_set_update_loop ?_
    rw [Around.under_plainId PyProof.Rows.F.plain_set_update_loop _]
    show wpAny _ A.in1 (pyNext (.ref it) >>= _) _ _ s
    refine wpAny_bind (W.done s _ _ st fun s' mv => ?_)
    exact wpAny_pure (then_ s' (mv.mono wider) (moved mv here))
  | succ d ih =>
    intro i s e st here then_
    have lt : i < n := by omega
    refine codeAny_builtin PyProof.Rows.F.entry_set_update_loop ?_
    rw [Around.under_plainId PyProof.Rows.F.plain_set_update_loop _]
    show wpAny _ A.in1 (pyNext (.ref it) >>= _) _ _ s
    refine wpAny_bind (W.item i s _ _ lt st fun v s' pv st' mv => ?_)
    obtain ⟨t, rfl⟩ := val i v pv
    have here' := moved mv here
    have room : cnt xs i + 1 < scanBound := by have := cnt_le xs i; omega
    show wpAny _ A.in1 (holding [Value.str (xs.getD i Str.empty) t] (setAdd a (.str (xs.getD i Str.empty) t)) >>= _) _ _ s'
    refine wpAny_bind (wpAny_holding ?_)
    unfold setAdd
    refine wpAny_holding (wpAny_bind ((PySem.strKind prog w).pyHash (k := xs.getD i Str.empty) (strKind_is _ _ _ _) ?_))
    refine wpAny_setAddHashed_of (knd := PySem.strKind prog w) (s := { s' with toks := s'.toks + 1 }) (strKind_is _ _ _ _) rfl here' room fun h' but there => ?_
    have next : h'.SetOf (PySem.strKind prog w) a (met xs (i + 1)) (cnt xs (i + 1)) := by
      refine SetOf_congr there (fun y => ?_) rfl
      show ((xs.take i).any (· == y) || decide (y = xs.getD i Str.empty)) = (xs.take (i + 1)).any (· == y)
      rw [take_get (by omega), List.any_append]
      have one : ∀ x : Str, decide (y = x) = [x].any (· == y) := fun x => by
        by_cases z : y = x
        · simp [z]
        · have z' : ¬ x = y := fun q => z q.symm
          simp [z, z']
      rw [one]
    have keep : ∀ b, b ≠ a → h'.get? b = s'.heap.get? b := fun b nb => but.2 b nb
    refine wpAny_pure ⟨plainId_quiet PyProof.Rows.F.plain_set_update_loop _, ih (i + 1) _ (by omega) (W.frame _ s' _ _ st' (Nat.le_succ _) fun b z o q => ?_) next fun s'' mv2 done => ?_⟩
    · rw [keep b fun q => na (by rw [← q]; exact z)]
      exact q
    · refine then_ s'' (Moved.trans W.gtrans ((mv.mono wider).then_heap (Nat.le_succ _) fun b o z q => ?_) mv2) done
      rw [keep b fun q => z (by rw [q]; exact List.mem_cons_self)]
      exact q
end
section
variable {prog : Program} {w : World} {A : Around} {E : Value → Shared → Prop} {s : Shared}
/-- set(xs) of a list of texts -/
theorem set_list {l : Addr} {its : Array Value} {xs : List Str} {Q : Value → Shared → Prop} (calm : A.handled = none) (ml : s.heap.IsList l its) (tx : StrsAre its.toList xs) (few : xs.length + 1 < scanBound)
    (q : ∀ (h' : Heap) (tk : Nat), h'.SetOf (PySem.strKind prog w) s.heap.objs.size (met xs xs.length) (cnt xs xs.length) → (∀ b o, b < s.heap.objs.size → s.heap.get? b = some o → h'.get? b = some o) → Q (.ref s.heap.objs.size) { s with heap := h', toks := tk }) :
    wpAny (model prog w) A (call (.type "set") [.ref l]) Q E s := by
  have len : xs.length = its.size := by rw [← StrsAre.len_eq tx, Array.length_toList]
  obtain ⟨c, tl, hmro⟩ := PySem.F.called_set.mro
  have f1 := PySem.F.called_set.made
  have f2 := PySem.F.called_set.sub
  refine wpAny_call (codeAny_of_tree ?_)
  show wpAny _ _ (callAny (.type "set") _) _ _ _
  refine wpAny_pure ⟨Code.quiet_builtin _ (by decide +kernel), codeAny_builtin PySem.F.entry_type_call ?_⟩
  rw [Around.under_plain (weight_type_call_type "set" [.ref l] []) rfl]
  have f3 := PySem.F.called_set.notType
  have f4 := PySem.F.called_set.canCreate
  have f5 := PySem.F.typeCall_set_1 (.ref l)
  repeat (any_goals (first | assumption | wp_step))
  refine codeAny_mono (code_set_new_1 (.ref l) (E := E) (Q₁ := fun obj s₁ => ∃ led : Bool, obj = .ref s.heap.objs.size ∧ s₁ = { s with heap := s.heap.push (freshSet led) }) fun led => ⟨led, rfl, rfl⟩) fun r s₁ hr => ?_
  match r, hr with
  | .error e, hr => exact hr
  | .ok (.ret obj), hr =>
    obtain ⟨led, rfl, rfl⟩ := hr
    have at0 : (s.heap.push (freshSet led)).get? s.heap.objs.size = some (freshSet led) := Heap.get?_push_size _ rfl
    have ty0 : Shared.TypeIs { s with heap := s.heap.push (freshSet led) } (.ref s.heap.objs.size) "set" := ⟨_, at0, rfl⟩
    have f6 := PySem.F.called_set.init.lookup
    have f7 := PySem.F.called_set.init.bind (.ref s.heap.objs.size)
    repeat (any_goals (first | assumption | wp_step))
    refine codeAny_mono (codeAny_call_builtin (R := wants (fun r s₂ => r = .none ∧ ∃ h' tk, s₂ = { s with heap := h', toks := tk } ∧ h'.SetOf (PySem.strKind prog w) s.heap.objs.size (met xs xs.length) (cnt xs xs.length) ∧
        ∀ b o, b < s.heap.objs.size → s.heap.get? b = some o → h'.get? b = some o) E) PySem.F.called_set.init.plain PySem.F.entry_set_init (check_set_init_1 ty0 ?_)) fun r₂ s₂ hr₂ => ?_
    · obtain ⟨⟨oc, od, odt, osl⟩, gl, e1, nl, e2⟩ := ml
      simp only at e1 e2
      subst e1
      subst e2
      have gl' : (s.heap.push (freshSet led)).get? l = some { cls := .type "list", dict := od, data := .seq its nl, slots := osl } := Heap.get?_push_of_some _ gl
      have g1 := PySem.F.sub_list_set
      have g2 := PySem.F.sub_list_frozenset
      have g3 : (Value.type "list" == Value.type "dict") = false := by decide
      have ml' : (s.heap.push (freshSet led)).IsList l its := ⟨_, gl', rfl, nl, rfl⟩
      unfold Builtin.«set.__init__» noKeywords Builtin.Frozenset.updateFrom
      generalize eP : pyIter = PI
      wp_walk
      subst eP
      refine wpAny_pyIter_list ml' (wpAny_bind (wpAny_runValue ?_))
      have ll : l < s.heap.objs.size := Heap.lt_size gl
      have sz : (s.heap.push (freshSet led)).objs.size = s.heap.objs.size + 1 := Heap.size_push ..
      have ni : l ≠ (s.heap.push (freshSet led)).objs.size := sz ▸ Nat.ne_of_lt (Nat.lt_succ_of_lt ll)
      have nm : s.heap.objs.size ∉ [(s.heap.push (freshSet led)).objs.size, l] := by
        simp only [List.mem_cons, List.not_mem_nil, or_false, not_or, sz]
        exact ⟨Nat.ne_of_lt (Nat.lt_succ_self _), Nat.ne_of_gt ll⟩
      refine turns ((Walks.list (show A.in1.in1.in1.handled = none by simp [calm]) _ l ni its).toS) s.heap.objs.size nm xs len (by rw [← len]; exact few) (fun i v e => SS.strs_at tx i v (by rw [Array.getElem?_toList]; exact e)) its.size 0 _ (by omega)
        ⟨⟨_, Heap.get?_push_size _ rfl, rfl, rfl⟩, ml'.push _⟩ ?z0 ?z1
      case z0 =>
        refine SetOf_congr ((setObjOf_fresh (knd := PySem.strKind prog w) led).setOf (Heap.get?_push_of_some _ at0) (by unfold scanBound; omega)) (fun _ => rfl) rfl
      case z1 =>
        rintro ⟨h', g', d', tk', os'⟩ mv done
        obtain rfl : g' = s.gens := mv.gens
        obtain rfl : d' = s.drawn := mv.drawn
        obtain rfl : os' = s.os := mv.os
        rw [← len] at done
        show wpAny _ _ _ _ _ _
        refine wpAny_pure ?_
        show wpAny _ _ (ret Value.none) _ _ _
        refine wpAny_pure ⟨rfl, h', tk', rfl, done, fun b o z e => ?_⟩
        refine mv.heap b o ?_ (Heap.get?_push_of_some _ (Heap.get?_push_of_some _ e))
        simp only [List.mem_cons, List.not_mem_nil, or_false, not_or, sz]
        exact ⟨Nat.ne_of_lt z, Nat.ne_of_lt (Nat.lt_succ_of_lt z)⟩
    · match r₂, hr₂ with
      | .error e, hr₂ => exact hr₂
      | .ok (.ret r), hr₂ =>
        obtain ⟨rfl, h', tk, rfl, done, kp⟩ := hr₂
        repeat (any_goals (first | assumption | wp_step))
        exact q _ _ done kp
/-- set(xs) of a tuple of texts -/
theorem set_tuple {l : Addr} {its : Array Value} {xs : List Str} {Q : Value → Shared → Prop} (calm : A.handled = none) (ml : s.heap.IsTuple l its) (tx : StrsAre its.toList xs) (few : xs.length + 1 < scanBound)
    (q : ∀ (h' : Heap) (tk : Nat), h'.SetOf (PySem.strKind prog w) s.heap.objs.size (met xs xs.length) (cnt xs xs.length) → (∀ b o, b < s.heap.objs.size → s.heap.get? b = some o → h'.get? b = some o) → Q (.ref s.heap.objs.size) { s with heap := h', toks := tk }) :
    wpAny (model prog w) A (call (.type "set") [.ref l]) Q E s := by
  have len : xs.length = its.size := by rw [← StrsAre.len_eq tx, Array.length_toList]
  obtain ⟨c, tl, hmro⟩ := PySem.F.called_set.mro
  have f1 := PySem.F.called_set.made
  have f2 := PySem.F.called_set.sub
  refine wpAny_call (codeAny_of_tree ?_)
  show wpAny _ _ (callAny (.type "set") _) _ _ _
  refine wpAny_pure ⟨Code.quiet_builtin _ (by decide +kernel), codeAny_builtin PySem.F.entry_type_call ?_⟩
  rw [Around.under_plain (weight_type_call_type "set" [.ref l] []) rfl]
  have f3 := PySem.F.called_set.notType
  have f4 := PySem.F.called_set.canCreate
  have f5 := PySem.F.typeCall_set_1 (.ref l)
  repeat (any_goals (first | assumption | wp_step))
  refine codeAny_mono (code_set_new_1 (.ref l) (E := E) (Q₁ := fun obj s₁ => ∃ led : Bool, obj = .ref s.heap.objs.size ∧ s₁ = { s with heap := s.heap.push (freshSet led) }) fun led => ⟨led, rfl, rfl⟩) fun r s₁ hr => ?_
  match r, hr with
  | .error e, hr => exact hr
  | .ok (.ret obj), hr =>
    obtain ⟨led, rfl, rfl⟩ := hr
    have at0 : (s.heap.push (freshSet led)).get? s.heap.objs.size = some (freshSet led) := Heap.get?_push_size _ rfl
    have ty0 : Shared.TypeIs { s with heap := s.heap.push (freshSet led) } (.ref s.heap.objs.size) "set" := ⟨_, at0, rfl⟩
    have f6 := PySem.F.called_set.init.lookup
    have f7 := PySem.F.called_set.init.bind (.ref s.heap.objs.size)
    repeat (any_goals (first | assumption | wp_step))
    refine codeAny_mono (codeAny_call_builtin (R := wants (fun r s₂ => r = .none ∧ ∃ h' tk, s₂ = { s with heap := h', toks := tk } ∧ h'.SetOf (PySem.strKind prog w) s.heap.objs.size (met xs xs.length) (cnt xs xs.length) ∧
        ∀ b o, b < s.heap.objs.size → s.heap.get? b = some o → h'.get? b = some o) E) PySem.F.called_set.init.plain PySem.F.entry_set_init (check_set_init_1 ty0 ?_)) fun r₂ s₂ hr₂ => ?_
    · obtain ⟨⟨oc, od, odt, osl⟩, gl, e1, nl, e2⟩ := ml
      simp only at e1 e2
      subst e1
      subst e2
      have gl' : (s.heap.push (freshSet led)).get? l = some { cls := .type "tuple", dict := od, data := .seq its nl, slots := osl } := Heap.get?_push_of_some _ gl
      have g1 := PySem.F.sub_tuple_set
      have g2 := PySem.F.sub_tuple_frozenset
      have g3 : (Value.type "tuple" == Value.type "dict") = false := by decide
      have ml' : (s.heap.push (freshSet led)).IsTuple l its := ⟨_, gl', rfl, nl, rfl⟩
      unfold Builtin.«set.__init__» noKeywords Builtin.Frozenset.updateFrom
      generalize eP : pyIter = PI
      wp_walk
      subst eP
      refine wpAny_pyIter_tuple ml' (wpAny_bind (wpAny_runValue ?_))
      have ll : l < s.heap.objs.size := Heap.lt_size gl
      have sz : (s.heap.push (freshSet led)).objs.size = s.heap.objs.size + 1 := Heap.size_push ..
      have ni : l ≠ (s.heap.push (freshSet led)).objs.size := sz ▸ Nat.ne_of_lt (Nat.lt_succ_of_lt ll)
      have nm : s.heap.objs.size ∉ [(s.heap.push (freshSet led)).objs.size, l] := by
        simp only [List.mem_cons, List.not_mem_nil, or_false, not_or, sz]
        exact ⟨Nat.ne_of_lt (Nat.lt_succ_self _), Nat.ne_of_gt ll⟩
      refine turns ((Walks.tuple (show A.in1.in1.in1.handled = none by simp [calm]) _ l ni its).toS) s.heap.objs.size nm xs len (by rw [← len]; exact few) (fun i v e => SS.strs_at tx i v (by rw [Array.getElem?_toList]; exact e)) its.size 0 _ (by omega)
        ⟨⟨_, Heap.get?_push_size _ rfl, rfl, rfl⟩, ml'.push _⟩ ?z0 ?z1
      case z0 =>
        refine SetOf_congr ((setObjOf_fresh (knd := PySem.strKind prog w) led).setOf (Heap.get?_push_of_some _ at0) (by unfold scanBound; omega)) (fun _ => rfl) rfl
      case z1 =>
        rintro ⟨h', g', d', tk', os'⟩ mv done
        obtain rfl : g' = s.gens := mv.gens
        obtain rfl : d' = s.drawn := mv.drawn
        obtain rfl : os' = s.os := mv.os
        rw [← len] at done
        show wpAny _ _ _ _ _ _
        refine wpAny_pure ?_
        show wpAny _ _ (ret Value.none) _ _ _
        refine wpAny_pure ⟨rfl, h', tk', rfl, done, fun b o z e => ?_⟩
        refine mv.heap b o ?_ (Heap.get?_push_of_some _ (Heap.get?_push_of_some _ e))
        simp only [List.mem_cons, List.not_mem_nil, or_false, not_or, sz]
        exact ⟨Nat.ne_of_lt z, Nat.ne_of_lt (Nat.lt_succ_of_lt z)⟩
    · match r₂, hr₂ with
      | .error e, hr₂ => exact hr₂
      | .ok (.ret r), hr₂ =>
        obtain ⟨rfl, h', tk, rfl, done, kp⟩ := hr₂
        repeat (any_goals (first | assumption | wp_step))
        exact q _ _ done kp
end
end BS


set_option Elab.async false
set_option linter.all false
set_option maxRecDepth 100000
set_option maxHeartbeats 2000000
/-! len(set(texts)); different names. -/
namespace BK
open PySem PySem.Spec PyProof.Rows L2 BS
def tLenTexts (K : PySem.W.Frag) (ta : TE) : TE := fun σ H Q => ta σ H fun x H1 => ∃ l, ∃ xs : List Str, x = .ref l ∧ (SqL K H1 l (xs.map V.str) ∨ SqT K H1 l (xs.map V.str)) ∧ xs.length ≤ 4000 ∧ Q (.int (cnt xs xs.length)) H1
section
variable {X : Cx}
theorem pe_lenTexts {a : Expr} {ta : TE} {p p2 q pos : Pos} (hc : X.calm = true) (g1 : Gl X "len") (m1 : X.mg "len" = none) (g2 : Gl X "set") (m2 : X.mg "set" = none) (ha : PE X a ta)
    (na : starEach [a] X.env = (false, eval a X.env) :: starEach [] X.env := by rfl) : PE X (.Call (.Name "len" p) [.Call (.Name "set" p2) [a] [] q] [] pos) (tLenTexts X.K ta) := by
  refine ⟨fun pins s σ H Q I h => Call_ (ld_blt I g1 m1 boot_len (PyProof.Rows.callWith_builtin1 (PyProof.Rows.args_cons ?_ rfl) rfl rfl))⟩
  refine Call_ (ld_blt I g2 m2 boot_set (PyProof.Rows.callWith_type1 (PyProof.Rows.args_cons (thn (ha.run pins s σ H _ I h) fun v s1 z => PyProof.Rows.args_nil ?_) na) na rfl))
  obtain ⟨x, H1, I1, rx, l, xs, rfl, sq, few, k⟩ := z
  obtain rfl : v = Value.ref l := rx
  have room : xs.length + 1 < scanBound := by unfold scanBound; omega
  have after : ∀ (h' : Heap) (tk : Nat), h'.SetOf (PySem.strKind X.prog X.w) s1.heap.objs.size (met xs xs.length) (cnt xs xs.length) → (∀ b o, b < s1.heap.objs.size → s1.heap.get? b = some o → h'.get? b = some o) →
      wpAny (model X.prog X.w) X.A (spliced (backTo pos (starEach [] X.env))) (fun vs s₂ => wpAny (model X.prog X.w) X.A (call (.builtin "len") (Value.ref s1.heap.objs.size :: vs)) (EP X pins σ Q) X.xe s₂) X.xe { s1 with heap := h', toks := tk } := fun h' tk so kp => by
    have I2 : Inv X pins σ H1 { s1 with heap := h', toks := tk } := I1.kept fun b o e => kp b o (Heap.lt_size e) e
    obtain ⟨o, es, ep, t, e1, e2, e3, _, _, _, e4, e5⟩ := so
    have le := cnt_le xs xs.length
    exact PyProof.Rows.args_nil (call_len_set e1 e2 e3 e4 (by rw [e5]; omega) ⟨.int (cnt xs xs.length), H1, I2.tok _, ⟨_, by rw [e5]⟩, k⟩)
  rcases sq with sq | sq
  · obtain ⟨its, r, pl, _⟩ := I1.list sq
    exact set_list (I1.ok.hd hc) pl.isList (by simpa using strsAre_of r) room after
  · obtain ⟨its, r, pl, _⟩ := I1.tuple sq
    exact set_tuple (I1.ok.hd hc) pl (by simpa using strsAre_of r) room after
end
/-- all different: as many as there are -/
theorem cnt_all {xs : List Str} (h : xs.Nodup) : ∀ i, i ≤ xs.length → cnt xs i = i
  | 0, _ => rfl
  | i + 1, hi => by
    have ih := cnt_all h i (by omega)
    unfold BS.cnt
    rw [ih, if_neg]
    intro z
    rw [List.any_eq_true] at z
    obtain ⟨y, hy, e⟩ := z
    obtain ⟨j, hj⟩ := List.getElem?_of_mem hy
    have jl : j < i := by
      have := (List.getElem?_eq_some_iff.mp hj).1
      rw [List.length_take] at this
      omega
    rw [List.getElem?_take_of_lt jl] at hj
    have hi' : xs[i]? = some y := by
      have e' : y = xs.getD i Str.empty := by simpa using e
      rw [e']
      simp [List.getD, List.getElem?_eq_getElem (show i < xs.length by omega)]
    have := L2.nd_ix h hj hi'
    omega
theorem cnt_lt {xs : List Str} : ∀ i, i ≤ xs.length → cnt xs i = i → (xs.take i).Nodup
  | 0, _, _ => by simp
  | i + 1, hi, e => by
    have le := cnt_le xs i
    unfold BS.cnt at e
    by_cases z : ((xs.take i).any (· == xs.getD i Str.empty)) = true
    · rw [if_pos z] at e
      omega
    · rw [if_neg z] at e
      have ih := cnt_lt (xs := xs) i (by omega) (by omega)
      rw [take_get (xs := xs) (i := i) (by omega)]
      refine nd_snoc ih fun m => z ?_
      rw [List.any_eq_true]
      exact ⟨_, m, by simp⟩
theorem cnt_nodup (xs : List Str) : (cnt xs xs.length = xs.length) ↔ xs.Nodup :=
  ⟨fun h => by have := cnt_lt xs.length (Nat.le_refl _) h; rwa [List.take_length] at this, fun h => cnt_all h _ (Nat.le_refl _)⟩
end BK


set_option Elab.async false
set_option maxRecDepth 100000
set_option maxHeartbeats 1000000
/-! are_different_names. -/
namespace BK
open PySem PySem.Spec PyProof.Rows L2
theorem pi_two {X : Cx} {tg e : Expr} {u t : TI} (h1 : PI X tg e u) (h2 : PI X tg e t) : PI X tg e (fun σ H R => u σ H R ∨ t σ H R) := by
  refine ⟨fun pins s σ H R I h => ?_⟩
  rcases h with h | h
  · exact h1.run pins s σ H R I h
  · exact h2.run pins s σ H R I h
/-- a list or a tuple -/
def SqA (K : PySem.W.Frag) (H : Hp) (a : Addr) (xs : List V) : Prop := SqL K H a xs ∨ SqT K H a xs
theorem SqA.same {K : PySem.W.Frag} {H H' : Hp} {a : Addr} {xs : List V} (e : Same H H') (h : SqA K H a xs) : SqA K H' a xs := h.elim (fun h => .inl (e.seq h)) fun h => .inr (sqt_same e h)
def texts : List Tr → List Str
  | [] => []
  | .str s :: r => s :: texts r
  | _ :: r => texts r
def diffT (ts : List Tr) : Bool := ts.all nameT && decide (texts ts).Nodup
def spDiff (K : PySem.W.Frag) : Sp := fun vs H Q _ => ∃ a xs ts, vs = [.ref a] ∧ SqA K H a xs ∧ TrAll K H xs ts ∧ ts.length ≤ 1000 ∧ ∀ H', Same H H' → Q (.bl (diffT ts)) H'
theorem names_texts {K : PySem.W.Frag} {H : Hp} : ∀ {xs : List V} {ts : List Tr}, TrAll K H xs ts → ts.all nameT = true → xs = (texts ts).map V.str
  | _, _, .nil, _ => rfl
  | _, _, .cons (t := t) h k, e => by
    rw [List.all_cons, Bool.and_eq_true] at e
    cases h with
    | str s hs => exact congrArg (V.str s :: ·) (names_texts k e.2)
    | non => exact absurd e.1 (by simp [nameT])
    | bl b => exact absurd e.1 (by simp [nameT])
    | int i => exact absurd e.1 (by simp [nameT])
    | lst h => exact absurd e.1 (by simp [nameT])
    | dct h => exact absurd e.1 (by simp [nameT])
    | tup h q => exact absurd e.1 (by simp [nameT])
section
variable {P : Program} {w : World} {K : PySem.W.Frag} {mg : Str → Option Value} {base : Heap}
abbrev sDiff : Stmt := top 18
theorem scDiff : FnScope ["things", "thing"] ["things"] (defScope sDiff) := ⟨rfl, rfl, rfl, by decide +kernel, rfl, by decide +kernel, by decide +kernel⟩
theorem ok_diff {f fN : Addr} {fd fdN : FuncData} (F : Fun K "are_different_names" "are_different_names" sDiff f fd) (T : Forms mg) (mS : mg "set" = none) (GN : FnOk P w K mg base CX0 1 fN fdN ["thing"] (spOf nameT K)) (bN : Binds K fdN ["thing"] []) (gN : mg "is_name" = some (.ref fN))
    (kN : PySem.W.keepIn K (.ref fN) = true) : FnOk P w K mg base CX0 2 f fd ["things"] (spDiff K) := by
  refine F.ok scDiff (fun vs H Q E h => ?_) (fun cdv A outer s H vs Q E hr h => ?_)
  · obtain ⟨a, xs, ts, rfl, _⟩ := h
    rfl
  · obtain ⟨a, xs, ts, rfl, sq, tr, tl, k⟩ := h
    refine ⟨_, pss_one (ps_ret (pe_and (pe_callB (cr_all rfl) (by rfl) T.all (by decide +kernel) (pa_cons (pe_lc (own := [("thing", 1)]) (g := gName 1) (tt := tYes) (te := tCall (spOf nameT K) [] E0 (tCons (tVar 1) tNil)) rfl scDiff.nd (pi_two (pi_list (pv 0)) (pi_tup (pv 0)))
          (blkOk_by (N := ["things", "thing"]) (sc := defScope sDiff) (by decide +kernel)) (fun _ _ _ _ _ => pg_name (i := 1) scDiff.nd rfl (Or.inl rfl)) (fun _ _ _ _ _ => pts_nil)
          (fun _ _ _ _ _ => by exact pe_call GN hr rfl gN kN bN .nil pass0 (pa_cons (pv 1) pa_nil))) pa_nil))
        (pe_one (pe_cmpR op_eq (pe_lenTexts rfl rfl T.len rfl mS (pv 0)) (pe_callB call_len_seq (by rfl) T.len boot_len (pa_cons (pv 0) pa_nil)) rfl)))), ?_⟩
    -- the walk, by either road
    have step : ∀ (D : Addr) (i : Nat) (x : V) (H2 : Hp), H D = none → xs[i]? = some x → Same H H2 → H2 D = some (.lst (((ts.take i).map nameT).map V.bl)) → ∀ vs : List V, vs = [x] ++ [] → ∃ v t, vs = [v] ∧ TrAt K H2 v t ∧ ∀ H', Same H2 H' → 
        ∃ acc, H' D = some (.lst acc) ∧ acc.length < sizeLine ∧ (Same H (upd H' D (.lst (acc ++ [.bl (nameT t)]))) ∧ (upd H' D (.lst (acc ++ [.bl (nameT t)]))) D = some (.lst (((ts.take (i + 1)).map nameT).map V.bl))) := by
      intro D i x H2 nD hx s2 e2 vs ev
      obtain ⟨t, ht, tx⟩ := (tr.same s2).get hx
      have il : i < ts.length := (List.getElem?_eq_some_iff.mp ht).1
      refine ⟨x, t, by rw [ev]; rfl, tx, fun H' s' => ⟨_, s' _ _ e2, small1000 (by rw [List.length_map, List.length_map, List.length_take]; omega), fun b o e => ?_, ?_⟩⟩
      · rw [upd_ne (ne_of_none e nD)]
        exact s' _ _ (s2 b o e)
      · rw [upd_same, List.take_add_one, ht, List.map_append, List.map_append]
        rfl
    rcases sq with sq | sq
    · refine Or.inl ⟨_, rfl, a, rfl, ⟨xs, sq⟩, fun D nD => ?_⟩
      refine lc_it (walk_list (K := K) (a := a) (xs := xs)) (fun i H2 => Same H H2 ∧ H2 D = some (.lst (((ts.take i).map nameT).map V.bl))) ⟨same_new nD, upd_same⟩ (fun i H2 _ ⟨s2, _⟩ => s2.seq sq) ?_ ?_
      · rintro i x H2 H3 hi ⟨s2, e2⟩ ⟨rfl, hx⟩
        obtain ⟨v, t, ev, tv, more⟩ := step D i x H3 nD hx s2 e2 _ rfl
        refine ⟨rfl, ?_⟩
        refine tyes ?_
        exact ⟨_, rfl, v, t, ev, tv, more⟩
      · rintro H2 ⟨s2, e2⟩
        have et : ts.take xs.length = ts := by rw [tr.len, List.take_length]
        rw [et] at e2
        refine ⟨D, _, rfl, SqL.of e2, _, rfl, ?_⟩
        have ea : (ts.map nameT).all id = ts.all nameT := by rw [List.all_map]; rfl
        rw [ea]
        refine ite2 (fun h => ?_) (fun h => ?_)
        · have ex := names_texts tr h
          have el : (texts ts).length = ts.length := by rw [← tr.len, ex, List.length_map]
          refine ⟨_, rfl, a, texts ts, rfl, (by rw [← ex]; exact (.inl (s2.seq sq))), by omega, _, rfl, a, xs, rfl, (.inl (s2.seq sq)), rfl, ?_⟩
          have e : decide (V.int (BS.cnt (texts ts) (texts ts).length : Nat) = V.int (xs.length : Nat)) = decide (texts ts).Nodup := by
            rw [dec_int, tr.len, ← el]
            by_cases z : (texts ts).Nodup
            · rw [(cnt_nodup _).mpr z, decide_eq_true z]
              simp
            · rw [decide_eq_false z, beq_eq_false_iff_ne]
              intro q
              exact z ((cnt_nodup _).mp (by omega))
          rw [e]
          have q := k H2 s2
          unfold diffT at q
          rw [h, Bool.true_and] at q
          exact q
        · have q := k H2 s2
          unfold diffT at q
          rw [show ts.all nameT = false by simpa using h, Bool.false_and] at q
          exact q
    · refine Or.inr ⟨_, rfl, a, rfl, ⟨xs, sq⟩, fun D nD => ?_⟩
      refine lc_it (walk_tup (K := K) (a := a) (xs := xs)) (fun i H2 => Same H H2 ∧ H2 D = some (.lst (((ts.take i).map nameT).map V.bl))) ⟨same_new nD, upd_same⟩ (fun i H2 _ ⟨s2, _⟩ => sqt_same s2 sq) ?_ ?_
      · rintro i x H2 H3 hi ⟨s2, e2⟩ ⟨rfl, hx⟩
        obtain ⟨v, t, ev, tv, more⟩ := step D i x H3 nD hx s2 e2 _ rfl
        refine ⟨rfl, ?_⟩
        refine tyes ?_
        exact ⟨_, rfl, v, t, ev, tv, more⟩
      · rintro H2 ⟨s2, e2⟩
        have et : ts.take xs.length = ts := by rw [tr.len, List.take_length]
        rw [et] at e2
        refine ⟨D, _, rfl, SqL.of e2, _, rfl, ?_⟩
        have ea : (ts.map nameT).all id = ts.all nameT := by rw [List.all_map]; rfl
        rw [ea]
        refine ite2 (fun h => ?_) (fun h => ?_)
        · have ex := names_texts tr h
          have el : (texts ts).length = ts.length := by rw [← tr.len, ex, List.length_map]
          refine ⟨_, rfl, a, texts ts, rfl, (by rw [← ex]; exact (.inr (sqt_same s2 sq))), by omega, _, rfl, a, xs, rfl, (.inr (sqt_same s2 sq)), rfl, ?_⟩
          have e : decide (V.int (BS.cnt (texts ts) (texts ts).length : Nat) = V.int (xs.length : Nat)) = decide (texts ts).Nodup := by
            rw [dec_int, tr.len, ← el]
            by_cases z : (texts ts).Nodup
            · rw [(cnt_nodup _).mpr z, decide_eq_true z]
              simp
            · rw [decide_eq_false z, beq_eq_false_iff_ne]
              intro q
              exact z ((cnt_nodup _).mp (by omega))
          rw [e]
          have q := k H2 s2
          unfold diffT at q
          rw [h, Bool.true_and] at q
          exact q
        · have q := k H2 s2
          unfold diffT at q
          rw [show ts.all nameT = false by simpa using h, Bool.false_and] at q
          exact q
end
end BK


set_option Elab.async false
set_option maxRecDepth 100000
set_option maxHeartbeats 1000000
/-! are_names, is_part; None in a written dict. -/
namespace BK
open PySem PySem.Spec PyProof.Rows L2
def argsT : Tr → Bool
  | .tup ts => ts.all nameT
  | _ => false
def partT (t : Tr) (k : Str) : Bool := if k = "block" then isTup t else if k = "args" then argsT t else if k = "integer" then numT 99 t else if k = "value" then numT 9999 t else if k = "source" ∧ numT 99 t = true then true else nameT t
def spPart (K : PySem.W.Frag) : Sp := fun vs H Q _ => ∃ v t k, vs = [v, .str k] ∧ TrAt K H v t ∧ (k = "args" → ∀ ts, t = .tup ts → ts.length ≤ 4000000) ∧ ∀ H', Same H H' → Q (.bl (partT t k)) H'
abbrev sAreNames : Stmt := top 14
abbrev sPart : Stmt := top 19
theorem scAreNames : FnScope ["thing", "part"] ["thing"] (defScope sAreNames) := ⟨rfl, rfl, rfl, by decide +kernel, rfl, by decide +kernel, by decide +kernel⟩
theorem scPart : FnScope ["thing", "kind"] ["thing", "kind"] (defScope sPart) := ⟨rfl, rfl, rfl, by decide +kernel, rfl, by decide +kernel, by decide +kernel⟩
theorem eq_txt (a b : Str) : decide (V.str a = V.str b) = decide (a = b) := by
  by_cases h : a = b
  · simp [h]
  · rw [decide_eq_false h, decide_eq_false fun e => h (V.str.inj e)]
def spArgs (K : PySem.W.Frag) : Sp := fun vs H Q _ => ∃ v t, vs = [v] ∧ TrAt K H v t ∧ (∀ ts, t = .tup ts → ts.length ≤ 4000000) ∧ ∀ H', Same H H' → Q (.bl (argsT t)) H'
section
variable {P : Program} {w : World} {K : PySem.W.Frag} {mg : Str → Option Value} {base : Heap}
theorem ok_areNames {f fN : Addr} {fd fdN : FuncData} (F : Fun K "are_names" "are_names" sAreNames f fd) (T : Forms mg) (GN : FnOk P w K mg base CX0 1 fN fdN ["thing"] (spOf nameT K)) (bN : Binds K fdN ["thing"] []) (gN : mg "is_name" = some (.ref fN)) (kN : PySem.W.keepIn K (.ref fN) = true) :
    FnOk P w K mg base CX0 2 f fd ["thing"] (spArgs K) := by
  refine F.ok scAreNames (fun vs H Q E h => ?_) (fun cdv A outer s H vs Q E hr h => ?_)
  · obtain ⟨v, t, rfl, _⟩ := h
    rfl
  · obtain ⟨v, t, rfl, ht, hl, k⟩ := h
    refine ⟨_, pss_one (ps_ret (pe_and (pe_callB call_isi (by rfl) T.isi boot_isinstance (pa_cons (pv 0) (pa_cons (pe_bltn (v := .ty "tuple") (u := .type "tuple") (by rfl) T.tuple (by decide +kernel) rfl) pa_nil)))
      (pe_one (pe_callB (cr_all rfl) (by rfl) T.all (by decide +kernel) (pa_cons (pe_lc (own := [("part", 1)]) (g := gName 1) (tt := tYes) (te := tCall (spOf nameT K) [] E0 (tCons (tVar 1) tNil)) rfl scAreNames.nd (pi_tup (pv 0))
          (blkOk_by (N := ["thing", "part"]) (sc := defScope sAreNames) (by decide +kernel)) (fun _ _ _ _ _ => pg_name (i := 1) scAreNames.nd rfl (Or.inl rfl)) (fun _ _ _ _ _ => pts_nil)
          (fun _ _ _ _ _ => by exact pe_call GN hr rfl gN kN bN .nil pass0 (pa_cons (pv 1) pa_nil))) pa_nil))))), ?_⟩
    refine ⟨_, rfl, v, .ty "tuple", .type (tyT t), .type "tuple", isTup t, rfl, .ty "tuple", ht.ty, k_tup K t, _, rfl, ?_⟩
    have q0 := k H fun _ _ e => e
    cases ht with
    | int i => exact iteF q0
    | bl b => exact iteF q0
    | str z hz => exact iteF q0
    | non => exact iteF q0
    | lst h => exact iteF q0
    | dct h => exact iteF q0
    | @tup a xs ts h tr =>
    have el := tr.len
    have few : ts.length ≤ 4000000 := hl ts rfl
    refine iteT ⟨_, rfl, a, rfl, ⟨xs, h⟩, fun D nD => ?_⟩
    refine lc_it (walk_tup (K := K) (a := a) (xs := xs)) (fun i H2 => Same H H2 ∧ H2 D = some (.lst (((ts.take i).map nameT).map V.bl))) ⟨same_new nD, upd_same⟩ (fun i H2 _ ⟨s2, _⟩ => sqt_same s2 h) ?_ ?_
    · rintro i x H2 H3 hi ⟨s2, e2⟩ ⟨rfl, hx⟩
      obtain ⟨t, ht, tx⟩ := (tr.same s2).get hx
      have il : i < ts.length := (List.getElem?_eq_some_iff.mp ht).1
      refine ⟨rfl, ?_⟩
      refine tyes ?_
      refine ⟨_, rfl, x, t, rfl, tx, fun H' s' => ⟨_, s' _ _ e2, ?_, fun b o e => ?_, ?_⟩⟩
      · have : sizeLine = 16777216 := sizeLine_eq
        rw [List.length_map, List.length_map, List.length_take]; omega
      · rw [upd_ne (ne_of_none e nD)]
        exact s' _ _ (s2 b o e)
      · rw [upd_same, List.take_add_one, ht, List.map_append, List.map_append]
        rfl
    · rintro H2 ⟨s2, e2⟩
      have et : ts.take xs.length = ts := by rw [el, List.take_length]
      rw [et] at e2
      refine ⟨D, _, rfl, SqL.of e2, ?_⟩
      have ea : (ts.map nameT).all id = ts.all nameT := by rw [List.all_map]; rfl
      rw [ea]
      exact k H2 s2
theorem ok_part {f fN fM fA : Addr} {fd fdN fdM fdA : FuncData} (F : Fun K "is_part" "is_part" sPart f fd) (T : Forms mg) (mV : ∃ t, mg "MOST_VALUE" = some (.int 9999 t)) (GN : FnOk P w K mg base CX0 1 fN fdN ["thing"] (spOf nameT K)) (bN : Binds K fdN ["thing"] []) (gN : mg "is_name" = some (.ref fN)) (kN : PySem.W.keepIn K (.ref fN) = true)
    (GM : FnOk P w K mg base CX0 2 fM fdM ["thing", "most"] (spNumber K)) (bM : Binds K fdM ["thing", "most"] []) (gM : mg "is_number" = some (.ref fM)) (kM : PySem.W.keepIn K (.ref fM) = true)
    (GA : FnOk P w K mg base CX0 2 fA fdA ["thing"] (spArgs K)) (bA : Binds K fdA ["thing"] []) (gA : mg "are_names" = some (.ref fA)) (kA : PySem.W.keepIn K (.ref fA) = true) : FnOk P w K mg base CX0 3 f fd ["thing", "kind"] (spPart K) := by
  refine F.ok scPart (fun vs H Q E h => ?_) (fun cdv A outer s H vs Q E hr h => ?_)
  · obtain ⟨v, t, k, rfl, _⟩ := h
    rfl
  · obtain ⟨v, t, kd, rfl, tv, hl, k⟩ := h
    obtain ⟨t2, gX⟩ := T.mn
    obtain ⟨t3, gY⟩ := mV
    have hr1 : Room 1 _ := hr.mono (by decide)
    refine ⟨_, pss_cons (ps_if (pt_cmpR op_eq (pv 1) pe_str (nomark _)) (pss_one (ps_ret (pe_callB call_isi (by rfl) T.isi boot_isinstance (pa_cons (pv 0) (pa_cons (pe_bltn (v := .ty "tuple") (u := .type "tuple") (by rfl) T.tuple (by decide +kernel) rfl) pa_nil))))) pss_nil)
      (pss_cons (ps_if (pt_cmpR op_eq (pv 1) pe_str (nomark _)) (pss_one (ps_ret (pe_call GA hr rfl gA kA bA .nil pass0 (pa_cons (pv 0) pa_nil)))) pss_nil)
      (pss_cons (ps_if (pt_cmpR op_eq (pv 1) pe_str (nomark _)) (pss_one (ps_ret (pe_call GM hr rfl gM kM bM .nil pass0 (pa_cons (pv 0) (pa_cons (pe_glob (v := .int 99) rfl gX ⟨_, rfl⟩) pa_nil))))) pss_nil)
      (pss_cons (ps_if (pt_cmpR op_eq (pv 1) pe_str (nomark _)) (pss_one (ps_ret (pe_call GM hr rfl gM kM bM .nil pass0 (pa_cons (pv 0) (pa_cons (pe_glob (v := .int 9999) rfl gY ⟨_, rfl⟩) pa_nil))))) pss_nil)
      (pss_cons (ps_if (PW.pt (pw_and (pt_cmpR op_eq (pv 1) pe_str (nomark _)) (pw_and1 (pt_val (pe_call GM hr rfl gM kM bM .nil pass0 (pa_cons (pv 0) (pa_cons (pe_glob (v := .int 99) rfl gX ⟨_, rfl⟩) pa_nil))))))) (pss_one (ps_ret pe_bl)) pss_nil)
      (pss_one (ps_ret (pe_call GN hr1 rfl gN kN bN .nil pass0 (pa_cons (pv 0) pa_nil)))))))), ?_⟩
    refine ⟨_, rfl, rfl, _, rfl, ?_⟩
    rw [eq_txt]
    refine ite2 (fun h => ?_) (fun h => ?_)
    · have h1 : kd = "block" := of_decide_eq_true h
      refine ⟨_, rfl, v, .ty "tuple", .type (tyT t), .type "tuple", isTup t, rfl, .ty "tuple", tv.ty, k_tup K t, ?_⟩
      have q := k H fun _ _ e => e
      unfold partT at q
      rw [if_pos h1] at q
      exact q
    have h1 : ¬ kd = "block" := fun e => h (decide_eq_true e)
    refine ⟨_, rfl, rfl, _, rfl, ?_⟩
    rw [eq_txt]
    refine ite2 (fun h => ?_) (fun h => ?_)
    · have h2 : kd = "args" := of_decide_eq_true h
      refine ⟨_, rfl, v, t, rfl, tv, hl h2, fun H' s' => ?_⟩
      have q := k H' s'
      unfold partT at q
      rw [if_neg h1, if_pos h2] at q
      exact q
    have h2 : ¬ kd = "args" := fun e => h (decide_eq_true e)
    refine ⟨_, rfl, rfl, _, rfl, ?_⟩
    rw [eq_txt]
    refine ite2 (fun h => ?_) (fun h => ?_)
    · have h3 : kd = "integer" := of_decide_eq_true h
      refine ⟨_, rfl, v, t, 99, rfl, tv, ?_⟩
      have q := k H fun _ _ e => e
      unfold partT at q
      rw [if_neg h1, if_neg h2, if_pos h3] at q
      exact q
    have h3 : ¬ kd = "integer" := fun e => h (decide_eq_true e)
    refine ⟨_, rfl, rfl, _, rfl, ?_⟩
    rw [eq_txt]
    refine ite2 (fun h => ?_) (fun h => ?_)
    · have h4 : kd = "value" := of_decide_eq_true h
      refine ⟨_, rfl, v, t, 9999, rfl, tv, ?_⟩
      have q := k H fun _ _ e => e
      unfold partT at q
      rw [if_neg h1, if_neg h2, if_neg h3, if_pos h4] at q
      exact q
    have h4 : ¬ kd = "value" := fun e => h (decide_eq_true e)
    have last : ¬ (kd = "source" ∧ numT 99 t = true) → spOf nameT K [v] H Q E0 := fun h5 => ⟨v, t, rfl, tv, fun H' s' => by
      have q := k H' s'
      unfold partT at q
      rw [if_neg h1, if_neg h2, if_neg h3, if_neg h4, if_neg h5] at q
      exact q⟩
    refine ⟨_, rfl, rfl, _, rfl, ?_⟩
    rw [eq_txt]
    refine ite2 (fun h => ?_) (fun h => ?_)
    · have h5 : kd = "source" := of_decide_eq_true h
      refine ⟨_, rfl, v, t, 99, rfl, tv, _, rfl, ?_⟩
      cases e : numT 99 t with
      | true =>
        have q := k H fun _ _ e => e
        unfold partT at q
        rw [if_neg h1, if_neg h2, if_neg h3, if_neg h4, if_pos ⟨h5, e⟩] at q
        exact iteT q
      | false => exact iteF ⟨_, rfl, last fun z => by rw [e] at z; exact Bool.noConfusion z.2⟩
    · exact iteF ⟨_, rfl, last fun z => h (decide_eq_true z.1)⟩
end
/-! None in a dict of the module -/
section
variable {X : Cx} {d : Addr} {es : Array DictEntry} {n : Nat}
theorem kd_none {P : Program} {w : World} {h : Heap} {f : Str → Option Value} (m : h.MapOf (PySem.strKind P w) d f) : ∃ g, h.MapOf (noneKind P w) d g ∧ g none = none := by
  obtain ⟨o, es, ep, ho, hx, hdt, hk, hf⟩ := m
  refine ⟨fun k => findBy (noneKind P w).is es k, ⟨o, es, ep, ho, hx, hdt, fun e he => ?_, fun k => rfl⟩, ?_⟩
  · obtain ⟨k, h1, h2⟩ := hk e he
    exact ⟨some (.inr k), h1, h2⟩
  · have q : (es.find? fun e => nkIs none e.key) = none := by
      rw [Array.find?_eq_none]
      intro e he hq
      obtain ⟨k, h1, _⟩ := hk e he
      have e1 : keyIs (.inr k) e.key = true := h1
      rw [nk_none hq] at e1
      exact keyIs_none (.inr k) e1
    show (es.find? fun e => nkIs none e.key).map (·.val) = none
    rw [q] <;> rfl
/-- None or a text in a dict of the module -/
theorem op_in_kdN (D : KDict X.K X.w d es n) : OpR X (compareOp .In) (fun x y H Q => y = .ref d ∧ ((x = .non ∧ Q (.bl false) H) ∨ ∃ (z : Str) (r : Option Value), x = .str z ∧ PySem.W.nsIn X.K d z = some r ∧ Q (.bl r.isSome) H)) := by
  intro pins s σ H x y v u Q I rx ry h
  obtain ⟨rfl, ⟨rfl, q⟩ | ⟨z, r, rfl, e, q⟩⟩ := h
  · cases ry
    obtain rfl : v = Value.none := rx
    obtain ⟨g, m, e⟩ := kd_none (PySem.W.mapOf_K (prog := X.prog) I.kIn D.at_ D.lit)
    refine wpAny_in_of (show (noneKind X.prog X.w).is none .none = true from rfl) D.low m ?_
    rw [e]
    exact ⟨.bl false, H, I.tok _, rfl, q⟩
  · exact op_in_kd D pins s σ H _ _ _ _ Q I rx ry ⟨z, r, rfl, rfl, e, q⟩
end
end BK


set_option Elab.async false
set_option maxRecDepth 100000
set_option maxHeartbeats 1000000
/-! is_kind, are_params, is_triple. -/
namespace BK
open PySem PySem.Spec PyProof.Rows L2
def kindT : Tr → Bool
  | .str s => decide (s = "context") || decide (s = "token")
  | _ => false
def paramT : Tr → Bool
  | .tup [_, k] => kindT k
  | _ => false
def firstT : Tr → Tr
  | .tup (s :: _) => s
  | t => t
def paramsT : Tr → Bool
  | .tup ts => decide (ts.length ≤ 2) && ts.all paramT && diffT (ts.map firstT)
  | _ => false
def tripleT : Tr → Bool
  | .tup [n, p, b] => nameT n && paramsT p && isTup b
  | _ => false
/-- the kinds, the greatest number of params -/
structure Kinds (K : PySem.W.Frag) (mg : Str → Option Value) : Prop where
  kd : ∃ a, mg "KINDS" = some (.ref a) ∧ ∀ H, SqT K H a [.str "context", .str "token"]
  mp : ∃ t, mg "MOST_PARAMS" = some (.int 2 t)
section
variable {P : Program} {w : World} {K : PySem.W.Frag} {mg : Str → Option Value} {base : Heap}
abbrev sKind : Stmt := top 35
abbrev sParams : Stmt := top 36
abbrev sTriple : Stmt := top 37
theorem scKind : FnScope ["thing"] ["thing"] (defScope sKind) := ⟨rfl, rfl, rfl, by decide +kernel, rfl, by decide +kernel, by decide +kernel⟩
theorem ok_kind {f : Addr} {fd : FuncData} (F : Fun K "is_kind" "is_kind" sKind f fd) (T : Forms mg) (U : Kinds K mg) : FnOk P w K mg base CX0 1 f fd ["thing"] (spOf kindT K) := by
  refine F.ok scKind (fun vs H Q E h => ?_) (fun cdv A outer s H vs Q E hr h => ?_)
  · obtain ⟨v, t, rfl, _⟩ := h
    rfl
  · obtain ⟨v, t, rfl, ht, k⟩ := h
    obtain ⟨a, gK, sK⟩ := U.kd
    refine ⟨_, pss_one (ps_ret (pe_and (pe_callB call_isi (by rfl) T.isi boot_isinstance (pa_cons (pv 0) (pa_cons (pe_bltn (v := .ty "str") (u := .type "str") (by rfl) T.str (by decide +kernel) rfl) pa_nil)))
      (pe_one (pe_cmpR op_in_seq (pv 0) (pe_glob (v := .ref a) rfl gK rfl) rfl)))), ?_⟩
    refine ⟨_, rfl, v, .ty "str", .type (tyT t), .type "str", isStr t, rfl, .ty "str", ht.ty, k_str K t, _, rfl, ?_⟩
    have q := k H fun _ _ e => e
    cases ht with
    | str z hz =>
      refine iteT ⟨_, rfl, a, _, rfl, .inr (sK _), rfl, rfl, ?_⟩
      have e : inV (.str z) [.str "context", .str "token"] = kindT (.str z) := by
        show (eqV (.str "context") (.str z) || (eqV (.str "token") (.str z) || false)) = (decide (z = "context") || decide (z = "token"))
        rw [Bool.or_false]
        congr 1
        · show (("context" : Str) == z) = _
          by_cases e : z = "context"
          · simp [e]
          · have e' : ¬ ("context" : Str) = z := fun w => e w.symm
            simp [e, e']
        · show (("token" : Str) == z) = _
          by_cases e : z = "token"
          · simp [e]
          · have e' : ¬ ("token" : Str) = z := fun w => e w.symm
            simp [e, e']
      rw [e]
      exact q
    | int i => exact iteF q
    | bl b => exact iteF q
    | non => exact iteF q
    | lst h => exact iteF q
    | dct h => exact iteF q
    | tup h r => exact iteF q
theorem scParams : FnScope ["thing", "param", "slot", "kind"] ["thing"] (defScope sParams) := ⟨rfl, rfl, rfl, by decide +kernel, rfl, by decide +kernel, by decide +kernel⟩
theorem params_tup (ts : List Tr) : paramsT (.tup ts) = (decide (ts.length ≤ 2) && ts.all paramT && diffT (ts.map firstT)) := rfl
theorem param_not {ts : List Tr} (h : ¬ ts.length = 2) : paramT (.tup ts) = false := by
  match ts, h with
  | [], _ => rfl
  | [_], _ => rfl
  | [_, _], h => exact absurd rfl h
  | _ :: _ :: _ :: _, _ => rfl
theorem param_two : ∀ {t : Tr}, paramT t = true → ∃ s k, t = .tup [s, k]
  | .tup [s, k], _ => ⟨s, k, rfl⟩
theorem ok_params {f fT fK fD : Addr} {fd fdT fdK fdD : FuncData} (F : Fun K "are_params" "are_params" sParams f fd) (T : Forms mg) (U : Kinds K mg)
    (GT : FnOk P w K mg base CX0 1 fT fdT ["thing", "count"] (spTuple K)) (bT : Binds K fdT ["thing", "count"] []) (gT : mg "is_tuple" = some (.ref fT)) (kT : PySem.W.keepIn K (.ref fT) = true)
    (GK : FnOk P w K mg base CX0 1 fK fdK ["thing"] (spOf kindT K)) (bK : Binds K fdK ["thing"] []) (gK : mg "is_kind" = some (.ref fK)) (kK : PySem.W.keepIn K (.ref fK) = true)
    (GD : FnOk P w K mg base CX0 2 fD fdD ["things"] (spDiff K)) (bD : Binds K fdD ["things"] []) (gD : mg "are_different_names" = some (.ref fD)) (kD : PySem.W.keepIn K (.ref fD) = true) : FnOk P w K mg base CX0 3 f fd ["thing"] (spOf paramsT K) := by
  refine F.ok scParams (fun vs H Q E h => ?_) (fun cdv A outer s H vs Q E hr h => ?_)
  · obtain ⟨v, t, rfl, _⟩ := h
    rfl
  · obtain ⟨v, t, rfl, ht, k⟩ := h
    obtain ⟨t2, gM⟩ := U.mp
    have hr1 : Room 1 _ := hr.mono (by decide)
    refine ⟨_, pss_cons (ps_if (PW.pt (pw_or (pt_not (pt_val (pe_callB call_isi (by rfl) T.isi boot_isinstance (pa_cons (pv 0) (pa_cons (pe_bltn (v := .ty "tuple") (u := .type "tuple") (by rfl) T.tuple (by decide +kernel) rfl) pa_nil)))))
        (pw_or1 (pt_cmpR op_gt (pe_callB call_len_seq (by rfl) T.len boot_len (pa_cons (pv 0) pa_nil)) (pe_glob (v := .int 2) rfl gM ⟨_, rfl⟩) rfl)))) (pss_one (ps_ret pe_bl)) pss_nil)
      (pss_cons (ps_if (pt_not (pt_val (pe_callB (cr_all rfl) (by rfl) T.all (by decide +kernel) (pa_cons (pe_lc (own := [("param", 1)]) (g := gName 1) (tt := tYes)
          (te := tAndV (tCall (spTuple K) [] E0 (tCons (tVar 1) (tCons (tC (.int 2)) tNil))) (tCall (spOf kindT K) [] E0 (tCons (tOp (rIxT K) (tVar 1) (tC (.int 1))) tNil))) rfl scParams.nd (pi_tup (pv 0))
          (blkOk_by (N := ["thing", "param", "slot", "kind"]) (sc := defScope sParams) (by decide +kernel)) (fun _ _ _ _ _ => pg_name (i := 1) scParams.nd rfl (Or.inl rfl)) (fun _ _ _ _ _ => pts_nil)
          (fun _ _ _ _ _ => pe_and (by exact pe_call GT hr1 rfl gT kT bT .nil pass0 (pa_cons (pv 1) (pa_cons pe_int pa_nil))) (pe_one (by exact pe_call GK hr1 rfl gK kK bK .nil pass0 (pa_cons (pe_ix ix_tup (pv 1) pe_int (fun _ _ => rfl)) pa_nil))))) pa_nil)))) (pss_one (ps_ret pe_bl)) pss_nil)
      (pss_one (ps_ret (pe_call GD hr rfl gD kD bD .nil pass0 (pa_cons (pe_lc (own := [("slot", 2), ("kind", 3)]) (g := gTup K 2 (gCons (gName 2) (gCons (gName 3) gNil))) (tt := tYes) (te := tVar 2) rfl scParams.nd (pi_tup (pv 0))
          (blkOk_by (N := ["thing", "param", "slot", "kind"]) (sc := defScope sParams) (by decide +kernel))
          (fun _ _ _ _ _ => by exact pg_tup rfl (pgs_cons (pg_name (i := 2) scParams.nd rfl (Or.inl rfl)) (pgs_cons (pg_name (i := 3) scParams.nd rfl (Or.inl rfl)) pgs_nil))) (fun _ _ _ _ _ => pts_nil)
          (fun _ _ _ _ _ => pv 2)) pa_nil))))), ?_⟩
    refine ⟨_, rfl, v, .ty "tuple", .type (tyT t), .type "tuple", isTup t, rfl, .ty "tuple", ht.ty, k_tup K t, _, rfl, ?_⟩
    have q0 := k H fun _ _ e => e
    cases ht with
    | int i => exact iteT (iteT q0)
    | bl b => exact iteT (iteT q0)
    | str z hz => exact iteT (iteT q0)
    | non => exact iteT (iteT q0)
    | lst h => exact iteT (iteT q0)
    | dct h => exact iteT (iteT q0)
    | @tup a xs ts h tr =>
    refine iteF ⟨_, rfl, a, xs, rfl, .inr h, _, _, rfl, rfl, _, rfl, ?_⟩
    have el := tr.len
    refine ite2 (fun hgt => ?_) (fun hgt => ?_)
    · have hl : ¬ ts.length ≤ 2 := by
        have := of_decide_eq_true hgt
        omega
      have e : paramsT (.tup ts) = false := by
        rw [params_tup, decide_eq_false hl, Bool.false_and, Bool.false_and]
      rw [e] at q0
      exact q0
    have hl : ts.length ≤ 2 := by
      have : ¬ ((xs.length : Int) > 2) := fun z => hgt (decide_eq_true z)
      omega
    -- all([..])
    refine ⟨_, rfl, a, rfl, ⟨xs, h⟩, fun D nD => ?_⟩
    refine lc_it (walk_tup (K := K) (a := a) (xs := xs)) (fun i H2 => Same H H2 ∧ H2 D = some (.lst (((ts.take i).map paramT).map V.bl))) ⟨same_new nD, upd_same⟩ (fun i H2 _ ⟨s2, _⟩ => sqt_same s2 h) ?_ ?_
    · rintro i x H2 H3 hi ⟨s2, e2⟩ ⟨rfl, hx⟩
      obtain ⟨t, ht, tx⟩ := (tr.same s2).get hx
      have put : ∀ (b : Bool) (H' : Hp), b = paramT t → Same H3 H' → ∃ acc, H' D = some (.lst acc) ∧ acc.length < sizeLine ∧ Same H (upd H' D (.lst (acc ++ [.bl b]))) ∧ (upd H' D (.lst (acc ++ [.bl b]))) D = some (.lst (((ts.take (i + 1)).map paramT).map V.bl)) := by
        intro b H' eb s'
        refine ⟨_, s' _ _ e2, small1000 (by rw [List.length_map, List.length_map, List.length_take]; omega), fun b o e => ?_, ?_⟩
        · rw [upd_ne (ne_of_none e nD)]
          exact s' _ _ (s2 b o e)
        · rw [upd_same, List.take_add_one, ht, List.map_append, List.map_append, eb]
          rfl
      refine ⟨rfl, ?_⟩
      refine tyes ?_
      refine ⟨_, rfl, x, t, 2, rfl, tx, ?_⟩
      cases tx with
      | int i => exact ⟨_, rfl, iteF (put false _ rfl fun _ _ e => e)⟩
      | bl b => exact ⟨_, rfl, iteF (put false _ rfl fun _ _ e => e)⟩
      | str z hz => exact ⟨_, rfl, iteF (put false _ rfl fun _ _ e => e)⟩
      | non => exact ⟨_, rfl, iteF (put false _ rfl fun _ _ e => e)⟩
      | lst h => exact ⟨_, rfl, iteF (put false _ rfl fun _ _ e => e)⟩
      | dct h => exact ⟨_, rfl, iteF (put false _ rfl fun _ _ e => e)⟩
      | @tup b ys us hu tu =>
        refine ⟨_, rfl, ?_⟩
        refine ite2 (fun h2 => ?_) (fun h2 => ?_)
        · have l2 : us.length = 2 := by
            have := of_decide_eq_true h2
            omega
          obtain ⟨s0, k0, rfl⟩ : ∃ s0 k0, us = [s0, k0] := by
            match us, l2 with
            | [s0, k0], _ => exact ⟨s0, k0, rfl⟩
          obtain ⟨w, hw, tw⟩ := tu.get' (i := 1) (t := k0) rfl
          exact ⟨_, rfl, b, ys, 1, w, rfl, rfl, hu, at_of (j := 1) rfl hw, w, k0, rfl, tw, fun H' s' => put (kindT k0) H' rfl s'⟩
        · have l2 : ¬ us.length = 2 := fun z => h2 (decide_eq_true (by omega))
          exact put false _ (param_not l2).symm fun _ _ e => e
    rintro H2 ⟨s2, e2⟩
    have et : ts.take xs.length = ts := by rw [el, List.take_length]
    rw [et] at e2
    refine ⟨D, _, rfl, SqL.of e2, _, rfl, ?_⟩
    have ea : (ts.map paramT).all id = ts.all paramT := by rw [List.all_map]; rfl
    rw [ea]
    cases hp : ts.all paramT with
    | false =>
      have e : paramsT (.tup ts) = false := by rw [params_tup, hp, Bool.and_false, Bool.false_and]
      have q2 := k H2 s2
      rw [e] at q2
      exact iteT q2
    | true =>
    refine iteF ?_
    have e : paramsT (.tup ts) = diffT (ts.map firstT) := by rw [params_tup, hp, decide_eq_true hl, Bool.true_and, Bool.true_and]
    refine ⟨_, rfl, a, rfl, ⟨xs, sqt_same s2 h⟩, fun D2 nD2 => ?_⟩
    refine lc_it (walk_tup (K := K) (a := a) (xs := xs)) (fun i H3 => Same H2 H3 ∧ ∃ bs, H3 D2 = some (.lst bs) ∧ TrAll K H3 bs ((ts.take i).map firstT)) ⟨same_new nD2, [], upd_same, .nil⟩ (fun i H3 _ ⟨s3, _⟩ => sqt_same (s2.trans s3) h) ?_ ?_
    · rintro i x H3 H4 hi ⟨s3, bs, e3, b3⟩ ⟨rfl, hx⟩
      obtain ⟨t, ht, tx⟩ := (tr.same (s2.trans s3)).get hx
      have pt : paramT t = true := List.all_eq_true.mp hp t (List.mem_of_getElem? ht)
      obtain ⟨s0, k0, rfl⟩ := param_two pt
      cases tx with
      | @tup b ys us hu tu =>
        have l2 := tu.len
        obtain ⟨y0, y1, rfl⟩ : ∃ y0 y1, ys = [y0, y1] := by
          match ys, l2 with
          | [y0, y1], _ => exact ⟨y0, y1, rfl⟩
        obtain ⟨w, hw, tw⟩ := tu.get' (i := 0) (t := s0) rfl
        obtain rfl : y0 = w := Option.some.inj hw
        refine ⟨b, _, rfl, hu, rfl, _, _, rfl, _, _, rfl, rfl, rfl, ?_⟩
        refine tyes ?_
        refine ⟨_, rfl, bs, e3, small1000 (by rw [b3.len, List.length_map, List.length_take]; omega), fun b o e => ?_, _, upd_same, ?_⟩
        · rw [upd_ne (ne_of_none e nD2)]
          exact s3 b o e
        · rw [List.take_add_one, ht, List.map_append]
          exact (b3.updL e3).snoc (tw.updL e3)
    · rintro H3 ⟨s3, bs, e3, b3⟩
      rw [et] at b3
      refine ⟨D2, bs, ts.map firstT, rfl, .inl (SqL.of e3), b3, by rw [List.length_map]; omega, fun H4 s4 => ?_⟩
      have q2 := k H4 ((s2.trans s3).trans s4)
      rw [e] at q2
      exact q2
end
end BK


set_option Elab.async false
set_option maxRecDepth 100000
set_option maxHeartbeats 1000000
/-! is_triple. -/
namespace BK
open PySem PySem.Spec PyProof.Rows L2
section
variable {P : Program} {w : World} {K : PySem.W.Frag} {mg : Str → Option Value} {base : Heap}
theorem scTriple : FnScope ["thing"] ["thing"] (defScope sTriple) := ⟨rfl, rfl, rfl, by decide +kernel, rfl, by decide +kernel, by decide +kernel⟩
theorem triple_not {ts : List Tr} (h : ¬ ts.length = 3) : tripleT (.tup ts) = false := by
  match ts, h with
  | [], _ => rfl
  | [_], _ => rfl
  | [_, _], _ => rfl
  | [_, _, _], h => exact absurd rfl h
  | _ :: _ :: _ :: _ :: _, _ => rfl
theorem ok_triple {f fT fN fP : Addr} {fd fdT fdN fdP : FuncData} (F : Fun K "is_triple" "is_triple" sTriple f fd) (T : Forms mg)
    (GT : FnOk P w K mg base CX0 1 fT fdT ["thing", "count"] (spTuple K)) (bT : Binds K fdT ["thing", "count"] []) (gT : mg "is_tuple" = some (.ref fT)) (kT : PySem.W.keepIn K (.ref fT) = true)
    (GN : FnOk P w K mg base CX0 1 fN fdN ["thing"] (spOf nameT K)) (bN : Binds K fdN ["thing"] []) (gN : mg "is_name" = some (.ref fN)) (kN : PySem.W.keepIn K (.ref fN) = true)
    (GP : FnOk P w K mg base CX0 3 fP fdP ["thing"] (spOf paramsT K)) (bP : Binds K fdP ["thing"] []) (gP : mg "are_params" = some (.ref fP)) (kP : PySem.W.keepIn K (.ref fP) = true) : FnOk P w K mg base CX0 4 f fd ["thing"] (spOf tripleT K) := by
  refine F.ok scTriple (fun vs H Q E h => ?_) (fun cdv A outer s H vs Q E hr h => ?_)
  · obtain ⟨v, t, rfl, _⟩ := h
    rfl
  · obtain ⟨v, t, rfl, ht, k⟩ := h
    have hr1 : Room 1 _ := hr.mono (by decide)
    refine ⟨_, pss_one (ps_ret (pe_and (pe_call GT hr1 rfl gT kT bT .nil pass0 (pa_cons (pv 0) (pa_cons pe_int pa_nil)))
      (pe_and (pe_call GN hr1 rfl gN kN bN .nil pass0 (pa_cons (pe_ix ix_tup (pv 0) pe_int (fun _ _ => rfl)) pa_nil))
      (pe_and (pe_call GP hr rfl gP kP bP .nil pass0 (pa_cons (pe_ix ix_tup (pv 0) pe_int (fun _ _ => rfl)) pa_nil))
      (pe_one (pe_callB call_isi (by rfl) T.isi boot_isinstance (pa_cons (pe_ix ix_tup (pv 0) pe_int (fun _ _ => rfl)) (pa_cons (pe_bltn (v := .ty "tuple") (u := .type "tuple") (by rfl) T.tuple (by decide +kernel) rfl) pa_nil)))))))), ?_⟩
    refine ⟨_, rfl, v, t, 3, rfl, ht, _, rfl, ?_⟩
    have q0 := k H fun _ _ e => e
    cases ht with
    | int i => exact iteF q0
    | bl b => exact iteF q0
    | str z hz => exact iteF q0
    | non => exact iteF q0
    | lst h => exact iteF q0
    | dct h => exact iteF q0
    | @tup a xs ts h tr =>
      refine ite2 (fun h3 => ?_) (fun h3 => ?_)
      · have l3 : ts.length = 3 := by
          have := of_decide_eq_true h3
          omega
        obtain ⟨n, p, b, rfl⟩ : ∃ n p b, ts = [n, p, b] := by
          match ts, l3 with
          | [n, p, b], _ => exact ⟨n, p, b, rfl⟩
        have e : tripleT (.tup [n, p, b]) = (nameT n && paramsT p && isTup b) := rfl
        rw [e] at k
        obtain ⟨v0, g0, t0⟩ := tr.get' (i := 0) (t := n) rfl
        obtain ⟨v1, g1, t1⟩ := tr.get' (i := 1) (t := p) rfl
        obtain ⟨v2, g2, t2⟩ := tr.get' (i := 2) (t := b) rfl
        refine ⟨_, rfl, a, xs, 0, v0, rfl, rfl, h, at_of (j := 0) rfl g0, v0, n, rfl, t0, fun H1 s1 => ⟨_, rfl, ?_⟩⟩
        cases en : nameT n with
        | false =>
          have q := k H1 s1
          rw [en, Bool.false_and, Bool.false_and] at q
          exact iteF q
        | true =>
        refine iteT ⟨_, rfl, a, xs, 1, v1, rfl, rfl, sqt_same s1 h, at_of (j := 1) rfl g1, v1, p, rfl, t1.same s1, fun H2 s2 => ⟨_, rfl, ?_⟩⟩
        have s12 := s1.trans s2
        cases ep : paramsT p with
        | false =>
          have q := k H2 s12
          rw [en, ep, Bool.and_false, Bool.false_and] at q
          exact iteF q
        | true =>
        refine iteT ⟨_, rfl, a, xs, 2, v2, rfl, rfl, sqt_same s12 h, at_of (j := 2) rfl g2, v2, .ty "tuple", .type (tyT b), .type "tuple", isTup b, rfl, .ty "tuple", (t2.same s12).ty, k_tup K b, ?_⟩
        have q := k H2 s12
        rw [en, ep, Bool.true_and, Bool.true_and] at q
        exact q
      · have l3 : ¬ ts.length = 3 := fun z => h3 (decide_eq_true (by omega))
        rw [triple_not l3] at q0
        exact q0
end
end BK


set_option Elab.async false
set_option linter.all false
set_option maxRecDepth 100000
set_option maxHeartbeats 4000000
/-! list(zip(t, u)) of two tuples: a list of new pairs. -/
namespace LZ
open PySem PySem.Spec PyProof.Rows
section
variable {prog : Program} {w : World} {A : Around} {E : Value → Shared → Prop} {s : Shared}
/-- the next pair, the one ahead of it kept by somebody -/
theorem next_kept {z TI TO T i1 i2 a b : Addr} {f : Bool} {oT : Obj} {k : Nat} {xs ys : Array Value} {x y : Value} {Q : Option Value → Shared → Prop} (D : ZipApart z TI TO i1 i2 a b) (hz : IsZipHeld s.heap z TI TO T f) (hT : s.heap.get? T = some oT)
    (hp : IsPair s.heap TI (.ref i1) (.ref i2)) (h1 : s.heap.IsTupleIter i1 a k) (h2 : s.heap.IsTupleIter i2 b k) (ta : s.heap.IsTuple a xs) (tb : s.heap.IsTuple b ys) (hx : xs[k]? = some x) (hy : ys[k]? = some y)
    (q : ∀ h', IsZipHeld h' z TI TO T true → h'.IsTupleIter i1 a (k + 1) → h'.IsTupleIter i2 b (k + 1) → IsPair h' s.heap.objs.size x y → (∀ c o, c ≠ z → c ≠ i1 → c ≠ i2 → s.heap.get? c = some o → h'.get? c = some o) → Q (some (.ref s.heap.objs.size)) { s with heap := h' }) :
    wpAny (model prog w) A (pyNext (.ref z)) Q E s := by
  have ty : s.TypeIs (.ref z) "zip" := ⟨_, hz, rfl⟩
  unfold pyNext
  refine wpAny_bind (wpAny_attempt (wpAny_callSpecial?_slot (name := Str.ofString "__next__") ty F.slot_zip_next (wpAny_call_entry F.slot_zip_next ty F.entry_zip_next ?_ (F.args_zip_next_1 _))))
  show wpAny _ _ (field (.ref z) 2 >>= _) _ _ _
  refine wpAny_bind (wpAny_field hz rfl (x := .bool false) rfl ?_)
  show wpAny _ _ (field (.ref z) 3 >>= _) _ _ _
  refine wpAny_bind (wpAny_field hz rfl (x := .ref TI) rfl (wpAny_bind (wpAny_seqItems hp rfl ?_)))
  show wpAny _ _ (Builtin.SmallTypes.ownedTupleIsFree (.ref z) >>= _) _ _ _
  refine wpAny_bind (wpAny_tupleHeld_zip hz hT fun g₁ z₁ s₁ => ?_)
  simp only [Bool.false_eq_true, if_false]
  refine wpAny_bind ?_
  rw [← Array.forIn_toList]
  simp only [List.forIn_cons, List.forIn_nil]
  refine wpAny_bind (wpAny_bind (wpAny_holding ?_))
  show wpAny _ _ (Builtin.SmallTypes.nextOf (.ref i1) >>= _) _ _ _
  refine wpAny_bind (RZ.nextOf_tuple_item (s := { s with heap := g₁ }) (h1.extBut s₁.extBut D.i1z) (ta.extBut s₁.extBut D.l1z) hx fun g₂ n₁ s₂ => wpAny_pure (wpAny_pure ?_))
  refine wpAny_bind (wpAny_bind (wpAny_holding ?_))
  show wpAny _ _ (Builtin.SmallTypes.nextOf (.ref i2) >>= _) _ _ _
  refine wpAny_bind (RZ.nextOf_tuple_item (s := { s with heap := g₂ }) ((h2.extBut s₁.extBut D.i2z).extBut s₂.extBut D.i12.symm) ((tb.extBut s₁.extBut D.l2z).extBut s₂.extBut D.l2i1) hy fun g₃ n₂ s₃ => wpAny_pure (wpAny_pure (wpAny_pure ?_)))
  show wpAny _ _ (newTuple [x, y] >>= _) _ _ _
  refine wpAny_bind (wpAny_newTuple (wpAny_pure ?_))
  have sz : g₃.objs.size = s.heap.objs.size := by rw [s₃.1, s₂.1, s₁.1]
  have z₃ : IsZipHeld g₃ z TI TO T true := s₃.extBut _ _ D.i2z.symm (s₂.extBut _ _ D.i1z.symm z₁)
  have kp : ∀ c o, c ≠ z → c ≠ i1 → c ≠ i2 → s.heap.get? c = some o → g₃.get? c = some o := fun c o c1 c2 c3 e => s₃.extBut _ _ c3 (s₂.extBut _ _ c2 (s₁.extBut _ _ c1 e))
  have n₃ : g₃.IsTupleIter i1 a (k + 1) := n₁.extBut s₃.extBut D.i12
  have np : IsPair (g₃.push { cls := .type "tuple", data := .seq #[x, y] }) g₃.objs.size x y := Heap.get?_push_size _ rfl
  refine ⟨_, rfl, ?_⟩
  show wpAny _ _ (pure _) _ _ _
  refine wpAny_pure ?_
  show Q (some (.ref g₃.objs.size)) _
  rw [sz] at np ⊢
  exact q _ (Heap.get?_push_of_some _ z₃) (n₃.at fun o e => Heap.get?_push_of_some _ e) (n₂.at fun o e => Heap.get?_push_of_some _ e) np fun c o c1 c2 c3 e => Heap.get?_push_of_some _ (kp c o c1 c2 c3 e)
/-- no more -/
theorem end_kept {z TI TO T i1 i2 a b : Addr} {f : Bool} {oT : Obj} {k : Nat} {xs : Array Value} {Q : Option Value → Shared → Prop} (calm : A.handled = none) (D : ZipApart z TI TO i1 i2 a b) (hz : IsZipHeld s.heap z TI TO T f) (hT : s.heap.get? T = some oT)
    (hp : IsPair s.heap TI (.ref i1) (.ref i2)) (h1 : s.heap.IsTupleIter i1 a k) (ta : s.heap.IsTuple a xs) (hx : xs[k]? = none) (q : ∀ h', (∀ c o, c ≠ z → c ≠ i1 → s.heap.get? c = some o → h'.get? c = some o) → Q none { s with heap := h' }) :
    wpAny (model prog w) A (pyNext (.ref z)) Q E s := by
  have ty : s.TypeIs (.ref z) "zip" := ⟨_, hz, rfl⟩
  unfold pyNext
  refine wpAny_bind (wpAny_attempt (wpAny_callSpecial?_slot (name := Str.ofString "__next__") ty F.slot_zip_next (wpAny_call_entry F.slot_zip_next ty F.entry_zip_next ?_ (F.args_zip_next_1 _))))
  show wpAny _ _ (field (.ref z) 2 >>= _) _ _ _
  refine wpAny_bind (wpAny_field hz rfl (x := .bool false) rfl ?_)
  show wpAny _ _ (field (.ref z) 3 >>= _) _ _ _
  refine wpAny_bind (wpAny_field hz rfl (x := .ref TI) rfl (wpAny_bind (wpAny_seqItems hp rfl ?_)))
  show wpAny _ _ (Builtin.SmallTypes.ownedTupleIsFree (.ref z) >>= _) _ _ _
  refine wpAny_bind (wpAny_tupleHeld_zip hz hT fun g₁ z₁ s₁ => ?_)
  simp only [Bool.false_eq_true, if_false]
  refine wpAny_bind ?_
  rw [← Array.forIn_toList]
  simp only [List.forIn_cons, List.forIn_nil]
  refine wpAny_bind (wpAny_bind (wpAny_holding ?_))
  show wpAny _ _ (Builtin.SmallTypes.nextOf (.ref i1) >>= _) _ _ _
  refine wpAny_bind (RZ.nextOf_tuple_end (s := { s with heap := g₁ }) calm (h1.extBut s₁.extBut D.i1z) (ta.extBut s₁.extBut D.l1z) hx fun g₂ e s₂ he => ?_)
  obtain ⟨o, ho, hc⟩ := he
  refine wpAny_bind (wpAny_isInstance (T := "StopIteration") (b := true) ⟨o, ho, hc⟩ isSubtype_stop ?_)
  exact wpAny_pure (q _ fun c o c1 c2 x => s₂ _ _ c2 (s₁.extBut _ _ c1 x))
end
end LZ


set_option Elab.async false
set_option linter.all false
set_option maxRecDepth 100000
set_option maxHeartbeats 4000000
namespace LZ
open PySem PySem.Spec PyProof.Rows
theorem cls_ne {h : Heap} {c : Addr} {o o' : Obj} (e : h.get? c = some o) (e' : h.get? c = some o') (n : o.cls ≠ o'.cls) : False := n (congrArg Obj.cls (Option.some.inj (e.symm.trans e')))
abbrev lstO (vs : List Value) (c : Nat) : Obj := { cls := .type "list", dict := none, data := .seq vs.toArray c, slots := #[] }
/-- the zip at its turn i -/
structure ZS (h : Heap) (z TI TO i1 i2 a b : Addr) (xs ys : Array Value) (i : Nat) : Prop where
  p : IsPair h TI (.ref i1) (.ref i2)
  o : ∃ x y, IsPair h TO x y
  n1 : h.IsTupleIter i1 a i
  n2 : h.IsTupleIter i2 b i
  ta : h.IsTuple a xs
  tb : h.IsTuple b ys
  zz : (i = 0 ∧ IsZip h z TI TO .none) ∨ ∃ T f x y, IsZipHeld h z TI TO T f ∧ IsPair h T x y
section
variable {prog : Program} {w : World} {A : Around} {E : Value → Shared → Prop} {s : Shared} {z TI TO i1 i2 a b S : Addr} {xs ys : Array Value} {h h' : Heap} {i : Nat}
/-- only the list at S is written -/
theorem ZS.keep (Z : ZS h z TI TO i1 i2 a b xs ys i) {vs : List Value} {c : Nat} (hS : h.get? S = some (lstO vs c)) (k : ∀ c o, c ≠ S → h.get? c = some o → h'.get? c = some o) : ZS h' z TI TO i1 i2 a b xs ys i := by
  have ne : ∀ {c : Addr} {o : Obj}, h.get? c = some o → o.cls ≠ .type "list" → c ≠ S := fun e ho q => by
    rw [q, hS] at e
    cases e
    exact ho rfl
  have pr : ∀ {T : Addr} {x y : Value}, IsPair h T x y → IsPair h' T x y := fun e => k _ _ (ne e (by simp)) e
  obtain ⟨x0, y0, o0⟩ := Z.o
  obtain ⟨o1, e1, c1, d1⟩ := Z.n1
  obtain ⟨o2, e2, c2, d2⟩ := Z.n2
  obtain ⟨o3, e3, c3, n3, d3⟩ := Z.ta
  obtain ⟨o4, e4, c4, n4, d4⟩ := Z.tb
  refine ⟨pr Z.p, ⟨x0, y0, pr o0⟩, ⟨o1, k _ _ (ne e1 (by rw [c1]; simp)) e1, c1, d1⟩, ⟨o2, k _ _ (ne e2 (by rw [c2]; simp)) e2, c2, d2⟩, ⟨o3, k _ _ (ne e3 (by rw [c3]; simp)) e3, c3, n3, d3⟩, ⟨o4, k _ _ (ne e4 (by rw [c4]; simp)) e4, c4, n4, d4⟩, ?_⟩
  rcases Z.zz with ⟨e, q⟩ | ⟨T, f, x, y, q, t⟩
  · exact .inl ⟨e, k _ _ (ne q (by simp)) q⟩
  · exact .inr ⟨T, f, x, y, k _ _ (ne q (by simp)) q, pr t⟩
theorem ZS.zip (Z : ZS h z TI TO i1 i2 a b xs ys i) : ∃ f0 f1 : Value, h.get? z = some { cls := .type "zip", dict := none, data := .fields #[f0, f1, .bool false, .ref TI, .ref TO], slots := #[] } := by
  rcases Z.zz with ⟨e, q⟩ | ⟨T, f, x, y, q, t⟩
  · exact ⟨_, _, q⟩
  · exact ⟨_, _, q⟩
/-- one turn -/
theorem ZS.next (Z : ZS s.heap z TI TO i1 i2 a b xs ys i) (D : ZipApart z TI TO i1 i2 a b) {x y : Value} (hx : xs[i]? = some x) (hy : ys[i]? = some y) {Q : Option Value → Shared → Prop}
    (q : ∀ h', ZS h' z TI TO i1 i2 a b xs ys (i + 1) → IsPair h' s.heap.objs.size x y → (∀ c o, c ≠ z → c ≠ TO → c ≠ i1 → c ≠ i2 → s.heap.get? c = some o → h'.get? c = some o) → Q (some (.ref s.heap.objs.size)) { s with heap := h' }) :
    wpAny (model prog w) A (pyNext (.ref z)) Q E s := by
  obtain ⟨x0, y0, o0⟩ := Z.o
  rcases Z.zz with ⟨e, g⟩ | ⟨T, f, xT, yT, g, t⟩
  · refine RZ.pyNext_zipT_item D g Z.p o0 Z.n1 Z.n2 Z.ta Z.tb hx hy fun h' a1 a2 a3 a4 a5 a6 a7 => ?_
    have lt : ∀ {c o}, s.heap.get? c = some o → s.heap.objs.size ≠ c := fun e => Nat.ne_of_gt (Heap.lt_size e)
    exact q h' ⟨a7 _ _ D.TIz D.TITO D.TIi1 D.TIi2 Z.p, ⟨_, _, a2⟩, a3, a4, Z.ta.at fun o e => a7 _ o D.l1z D.l1TO D.l1i1 D.l1i2 e, Z.tb.at fun o e => a7 _ o D.l2z D.l2TO D.l2i1 D.l2i2 e, .inr ⟨_, false, x, y, a1, a5⟩⟩ a5 a7
  · refine next_kept D g t Z.p Z.n1 Z.n2 Z.ta Z.tb hx hy fun h' a1 a3 a4 a5 a7 => ?_
    have kp : ∀ c o, c ≠ z → c ≠ TO → c ≠ i1 → c ≠ i2 → s.heap.get? c = some o → h'.get? c = some o := fun c o c1 _ c3 c4 e => a7 c o c1 c3 c4 e
    have nz : T ≠ z := fun e => by
      rw [e] at t
      exact cls_ne t g (by simp)
    have n1 : T ≠ i1 := fun e => by
      obtain ⟨o, e1, e2, _⟩ := Z.n1
      rw [e] at t
      exact cls_ne t e1 (by rw [e2]; simp)
    have n2 : T ≠ i2 := fun e => by
      obtain ⟨o, e1, e2, _⟩ := Z.n2
      rw [e] at t
      exact cls_ne t e1 (by rw [e2]; simp)
    exact q h' ⟨kp _ _ D.TIz D.TITO D.TIi1 D.TIi2 Z.p, ⟨_, _, a7 _ _ D.TOz D.TOi1 D.TOi2 o0⟩, a3, a4, Z.ta.at fun o e => kp _ o D.l1z D.l1TO D.l1i1 D.l1i2 e, Z.tb.at fun o e => kp _ o D.l2z D.l2TO D.l2i1 D.l2i2 e, .inr ⟨T, true, _, _, a1, a7 _ _ nz n1 n2 t⟩⟩ a5 kp
theorem ZS.fin (Z : ZS s.heap z TI TO i1 i2 a b xs ys i) (D : ZipApart z TI TO i1 i2 a b) (calm : A.handled = none) (hx : xs[i]? = none) {Q : Option Value → Shared → Prop}
    (q : ∀ h', (∀ c o, c ≠ z → c ≠ TO → c ≠ i1 → c ≠ i2 → s.heap.get? c = some o → h'.get? c = some o) → Q none { s with heap := h' }) : wpAny (model prog w) A (pyNext (.ref z)) Q E s := by
  obtain ⟨x0, y0, o0⟩ := Z.o
  rcases Z.zz with ⟨e, g⟩ | ⟨T, f, xT, yT, g, t⟩
  · exact RZ.pyNext_zipT_end calm D g Z.p o0 Z.n1 Z.n2 Z.ta Z.tb (.inl hx) q
  · exact end_kept calm D g t Z.p Z.n1 Z.ta hx fun h' k => q h' fun c o c1 _ c3 _ e => k c o c1 c3 e
/-- the pairs made so far -/
def Made (h : Heap) (xs ys : Array Value) (ts : List Addr) : Prop := ∀ (j : Nat) (T : Addr), ts[j]? = some T → ∃ x y, xs[j]? = some x ∧ ys[j]? = some y ∧ IsPair h T x y
theorem loop {n N : Nat} {res : Value} {R : Result → Shared → Prop} (D : ZipApart z TI TO i1 i2 a b) (calm : A.handled = none) (lx : xs.size = n) (ly : ys.size = n) (few : n ≤ 1000) (lz : z < N) (lO : TO < N) (l1 : i1 < N) (l2 : i2 < N) (lS : S < N) (d : Nat) :
    ∀ (i : Nat) (s : Shared) (ts : List Addr) (c : Nat), i + d = n → ts.length = i → ZS s.heap z TI TO i1 i2 a b xs ys i → s.heap.get? S = some (lstO (ts.map Value.ref) c) → Made s.heap xs ys ts → ts.Nodup → (∀ T ∈ ts, N ≤ T) → N ≤ s.heap.objs.size →
      (∀ h' ts' c', ts'.length = n → h'.get? S = some (lstO (ts'.map Value.ref) c') → Made h' xs ys ts' → ts'.Nodup → (∀ T ∈ ts', N ≤ T) → (∀ c o, c ≠ S → c ≠ z → c ≠ TO → c ≠ i1 → c ≠ i2 → s.heap.get? c = some o → h'.get? c = some o) → R (.ok (.ret res)) { s with heap := h' }) →
      codeAny (model prog w) A (.builtin "list.extend.loop" ⟨[.ref S, .ref z, res], []⟩) R s := by
  have sz : sizeLine = 16777216 := sizeLine_eq
  induction d with
  | zero =>
    intro i s ts c e el Z hS mk nd ge le then_
    obtain rfl : i = n := e
    refine codeAny_builtin F.entry_extend_loop ?_
    rw [Around.under_plainId F.plain_extend_loop _]
    show wpAny _ A.in1 (pyNext (.ref z) >>= _) _ _ s
    refine wpAny_bind (Z.fin D (show A.in1.handled = none by simp [calm]) (by rw [Array.getElem?_eq_none_iff]; omega) fun h' k => ?_)
    have big : ∀ {c T : Nat}, c < N → N ≤ T → T ≠ c := fun h1 h2 => by omega
    have nS : S ≠ z ∧ S ≠ TO ∧ S ≠ i1 ∧ S ≠ i2 := by
      obtain ⟨f0, f1, gz⟩ := Z.zip
      obtain ⟨x0, y0, o0⟩ := Z.o
      obtain ⟨o1, e1, c1, _⟩ := Z.n1
      obtain ⟨o2, e2, c2, _⟩ := Z.n2
      refine ⟨fun q => ?_, fun q => ?_, fun q => ?_, fun q => ?_⟩
      · rw [q] at hS; exact cls_ne hS gz (by simp)
      · rw [q] at hS; exact cls_ne hS o0 (by simp)
      · rw [q] at hS; exact cls_ne hS e1 (by rw [c1]; simp)
      · rw [q] at hS; exact cls_ne hS e2 (by rw [c2]; simp)
    refine wpAny_pure (then_ h' ts c el (k _ _ nS.1 nS.2.1 nS.2.2.1 nS.2.2.2 hS) (fun j T hj => ?_) nd ge fun c o _ c1 c2 c3 c4 e => k c o c1 c2 c3 c4 e)
    obtain ⟨x, y, p1, p2, p3⟩ := mk j T hj
    have gT := ge T (List.mem_of_getElem? hj)
    exact ⟨x, y, p1, p2, k _ _ (big lz gT) (big lO gT) (big l1 gT) (big l2 gT) p3⟩
  | succ d ih =>
    intro i s ts c e el Z hS mk nd ge le then_
    have lt : i < n := by omega
    obtain ⟨x, hx⟩ : ∃ x, xs[i]? = some x := ⟨_, Array.getElem?_eq_getElem (by omega)⟩
    obtain ⟨y, hy⟩ : ∃ y, ys[i]? = some y := ⟨_, Array.getElem?_eq_getElem (by omega)⟩
    refine codeAny_builtin F.entry_extend_loop ?_
    rw [Around.under_plainId F.plain_extend_loop _]
    show wpAny _ A.in1 (pyNext (.ref z) >>= _) _ _ s
    refine wpAny_bind (Z.next D hx hy fun h' Z' np k => ?_)
    have big : ∀ {c T : Nat}, c < N → N ≤ T → T ≠ c := fun h1 h2 => by omega
    have nS : S ≠ z ∧ S ≠ TO ∧ S ≠ i1 ∧ S ≠ i2 := by
      obtain ⟨f0, f1, gz⟩ := Z.zip
      obtain ⟨x0, y0, o0⟩ := Z.o
      obtain ⟨o1, e1, c1, _⟩ := Z.n1
      obtain ⟨o2, e2, c2, _⟩ := Z.n2
      refine ⟨fun q => ?_, fun q => ?_, fun q => ?_, fun q => ?_⟩
      · rw [q] at hS; exact cls_ne hS gz (by simp)
      · rw [q] at hS; exact cls_ne hS o0 (by simp)
      · rw [q] at hS; exact cls_ne hS e1 (by rw [c1]; simp)
      · rw [q] at hS; exact cls_ne hS e2 (by rw [c2]; simp)
    have hS' := k _ _ nS.1 nS.2.1 nS.2.2.1 nS.2.2.2 hS
    show wpAny _ A.in1 (updateSeq S (·.push (.ref s.heap.objs.size)) >>= _) _ _ _
    have sm : ((ts.map Value.ref).toArray).size ≤ sizeLine := by rw [List.size_toArray, List.length_map]; omega
    refine wpAny_bind (wpAny_updateSeq hS' rfl ?_ sm (by show (((ts.map Value.ref).toArray).push _).size ≤ sizeLine + 1; rw [Array.size_push]; omega))
    have hS2 := Heap.get?_update_self (Obj.mapSeq (·.push (.ref s.heap.objs.size))) hS' rfl
    have oth : ∀ c o, c ≠ S → h'.get? c = some o → (h'.update S (Obj.mapSeq (·.push (.ref s.heap.objs.size)))).get? c = some o := fun c o nc e => (Heap.get?_update_other _ _ (Ne.symm nc)).trans e
    obtain ⟨c2, eS⟩ : ∃ c2, Obj.mapSeq (·.push (.ref s.heap.objs.size)) (lstO (ts.map Value.ref) c) = lstO ((ts ++ [s.heap.objs.size]).map Value.ref) c2 := by
      simp [Obj.mapSeq]
    rw [eS] at hS2
    have Z2 := Z'.keep hS' oth
    have nTS : s.heap.objs.size ≠ S := Nat.ne_of_gt (Heap.lt_size hS)
    have mk2 : Made (h'.update S (Obj.mapSeq (·.push (.ref s.heap.objs.size)))) xs ys (ts ++ [s.heap.objs.size]) := fun j T hj => by
      by_cases hj2 : j < ts.length
      · rw [List.getElem?_append_left hj2] at hj
        obtain ⟨x', y', p1, p2, p3⟩ := mk j T hj
        have gT := ge T (List.mem_of_getElem? hj)
        exact ⟨x', y', p1, p2, oth _ _ (big lS gT) (k _ _ (big lz gT) (big lO gT) (big l1 gT) (big l2 gT) p3)⟩
      · rw [List.getElem?_append_right (by omega)] at hj
        have j0 : j = ts.length := by
          have := (List.getElem?_eq_some_iff.mp hj).1
          simp at this
          omega
        subst j0
        rw [Nat.sub_self, List.getElem?_cons_zero] at hj
        obtain rfl : s.heap.objs.size = T := Option.some.inj hj
        rw [el]
        exact ⟨x, y, hx, hy, oth _ _ nTS np⟩
    have fresh : s.heap.objs.size ∉ ts := fun m => by
      obtain ⟨j, hj⟩ := List.getElem?_of_mem m
      obtain ⟨x', y', _, _, p3⟩ := mk j _ hj
      exact Nat.lt_irrefl _ (Heap.lt_size p3)
    refine wpAny_pure ⟨plainId_quiet F.plain_extend_loop _, ih (i + 1) _ (ts ++ [s.heap.objs.size]) c2 (by omega) (by rw [List.length_append, el]; rfl) Z2 hS2 mk2 (L2.nd_snoc nd fresh) (fun T hT => ?_) ?_ fun h2 ts' c' a1 a2 a3 a4 a5 a6 => ?_⟩
    · rcases List.mem_append.mp hT with q | q
      · exact ge T q
      · rw [List.mem_singleton.mp q]
        exact le
    · exact Nat.le_trans le (Nat.le_of_lt (Heap.lt_size (oth _ _ nTS np)))
    · exact then_ h2 ts' c' a1 a2 a3 a4 a5 fun c o c0 c1 c2 c3 c4 e => a6 c o c0 c1 c2 c3 c4 (oth _ _ c0 (k _ _ c1 c2 c3 c4 e))
end
end LZ


set_option Elab.async false
set_option linter.all false
set_option maxRecDepth 100000
set_option maxHeartbeats 4000000
namespace LZ
open PySem PySem.Spec PyProof.Rows
theorem zip_len : typeLookup (.type "zip") "__len__" = pure none := am_miss_of_fast (by decide +kernel)
theorem zip_hint : typeLookup (.type "zip") "__length_hint__" = pure none := am_miss_of_fast (by decide +kernel)
section
variable {prog : Program} {w : World} {A : Around} {E : Value → Shared → Prop} {s : Shared} {z TI TO i1 i2 a b : Addr} {xs ys : Array Value}
theorem ZS.mono {h h' : Heap} {i : Nat} (Z : ZS h z TI TO i1 i2 a b xs ys i) (k : ∀ c o, h.get? c = some o → h'.get? c = some o) : ZS h' z TI TO i1 i2 a b xs ys i := by
  obtain ⟨x0, y0, o0⟩ := Z.o
  refine ⟨k _ _ Z.p, ⟨x0, y0, k _ _ o0⟩, Z.n1.at fun o e => k _ o e, Z.n2.at fun o e => k _ o e, Z.ta.at fun o e => k _ o e, Z.tb.at fun o e => k _ o e, ?_⟩
  rcases Z.zz with ⟨e, q⟩ | ⟨T, f, x, y, q, t⟩
  · exact .inl ⟨e, k _ _ q⟩
  · exact .inr ⟨T, f, x, y, k _ _ q, k _ _ t⟩
/-- list(z), z a zip of two tuples of one length that nobody has asked -/
theorem list_zip {n : Nat} {Q : Value → Shared → Prop} (D : ZipApart z TI TO i1 i2 a b) (calm : A.handled = none) (Z : ZS s.heap z TI TO i1 i2 a b xs ys 0) (gz0 : IsZip s.heap z TI TO .none) (lx : xs.size = n) (ly : ys.size = n) (few : n ≤ 1000)
    (q : ∀ h' ts c, ts.length = n → h'.get? s.heap.objs.size = some (lstO (ts.map Value.ref) c) → Made h' xs ys ts → ts.Nodup → (∀ T ∈ ts, s.heap.objs.size < T) → (∀ c o, c ≠ z → c ≠ TO → c ≠ i1 → c ≠ i2 → s.heap.get? c = some o → h'.get? c = some o) →
      Q (.ref s.heap.objs.size) { s with heap := h' }) : wpAny (model prog w) A (call (.type "list") [.ref z]) Q E s := by
  obtain ⟨f0, f1, gz⟩ := Z.zip
  obtain ⟨x0, y0, gO⟩ := Z.o
  obtain ⟨o1, g1, _⟩ := id Z.n1
  obtain ⟨o2, g2, _⟩ := id Z.n2
  have lz : z < s.heap.objs.size := Heap.lt_size gz
  refine callType_codes (Q₁ := fun obj s₁ => obj = .ref s.heap.objs.size ∧ s₁ = { s with heap := s.heap.push (lstO [] 0) }) F.called_list (F.typeCall_list_1 _) F.entry_list_init (code_list_new _ ⟨rfl, rfl⟩) fun obj s₁ e => ?_
  obtain ⟨rfl, rfl⟩ := e
  have gS : (s.heap.push (lstO [] 0)).get? s.heap.objs.size = some (lstO [] 0) := Heap.get?_push_size _ rfl
  refine ⟨⟨_, gS, rfl⟩, F.args_list_init_2 _ _, ?_⟩
  show wpAny _ A.in1.in1 (do let old ← Builtin.List.listItems (.ref s.heap.objs.size); Builtin.List.listUpdate (.ref s.heap.objs.size) (fun _ => #[]); letGo old.toList.reverse; Builtin.List.listExtendWith (.ref s.heap.objs.size) (.ref z) .none) _ _ _
  refine wpAny_bind ?_
  unfold Builtin.List.listItems
  refine wpAny_bind (wpAny_seqItems gS rfl (wpAny_pure ?_))
  show wpAny _ A.in1.in1 (updateSeq s.heap.objs.size (fun _ => #[]) >>= fun _ => letGo (#[] : Array Value).toList.reverse >>= fun _ => Builtin.List.listExtendWith (.ref s.heap.objs.size) (.ref z) .none) _ _ _
  refine wpAny_bind (wpAny_updateSeq gS rfl ?_)
  have gS2 := Heap.get?_update_self (Obj.mapSeq (fun _ => (#[] : Array Value))) gS rfl
  refine wpAny_bind (wpAny_letGo ?_)
  have oth2 : ∀ c o, c ≠ s.heap.objs.size → (s.heap.push (lstO [] 0)).get? c = some o → ((s.heap.push (lstO [] 0)).update s.heap.objs.size (Obj.mapSeq (fun _ => (#[] : Array Value)))).get? c = some o := fun c o nc e => (Heap.get?_update_other _ _ (Ne.symm nc)).trans e
  have nzS : z ≠ s.heap.objs.size := Nat.ne_of_lt lz
  have gz2 : IsZip ((s.heap.push (lstO [] 0)).update s.heap.objs.size (Obj.mapSeq (fun _ => (#[] : Array Value)))) z TI TO .none := oth2 _ _ nzS (Heap.get?_push_of_some _ gz0)
  have ty : ∀ {h : Heap} {g d t os}, IsZip h z TI TO .none → Shared.TypeIs ⟨h, g, d, t, os⟩ (.ref z) "zip" := fun e => ⟨_, e, rfl⟩
  unfold Builtin.List.listExtendWith
  refine wpAny_bind (wpAny_typeOf (ty gz2) ?_)
  have c1 : Builtin.List.listSameRef (.ref s.heap.objs.size) (.ref z) = false := by simp [Builtin.List.listSameRef, Ne.symm nzS]
  have c2 : (Value.type "zip" == Value.type "list") = false := by decide
  have c3 : (Value.type "zip" == Value.type "tuple") = false := by decide
  simp only [c1, c2, c3, Bool.or_false, Bool.false_eq_true, if_false]
  refine wpAny_bind (wpAny_pyIter_zip gz2 (wpAny_bind (wpAny_holding ?_)))
  unfold Builtin.List.listLengthHint
  refine wpAny_bind (wpAny_specialOf (ty gz2) zip_len ?_)
  show wpAny _ A.in1.in1 (specialOf (Value.ref z) (Str.ofString "__length_hint__") >>= _) _ _ _
  refine wpAny_bind (wpAny_specialOf (ty gz2) zip_hint (wpAny_pure ?_))
  show wpAny _ A.in1.in1 (rule "list.extend.makes-room" >>= fun _ => Builtin.List.listTouch (.ref s.heap.objs.size) >>= fun _ => again (.builtin "list.extend.loop" ⟨[.ref s.heap.objs.size, .ref z, .none], []⟩)) _ _ _
  refine wpAny_bind (wpAny_rule (wpAny_bind ?_))
  show wpAny _ A.in1.in1 (updateSeq s.heap.objs.size (·.push .none) >>= fun _ => updateSeq s.heap.objs.size (·.pop)) _ _ _
  refine wpAny_bind (wpAny_updateSeq gS2 rfl ?_)
  have gS3 := Heap.get?_update_self (Obj.mapSeq (·.push Value.none)) gS2 rfl
  refine wpAny_updateSeq (hz := by seq_fits) gS3 rfl ?_
  have gS4 := Heap.get?_update_self (Obj.mapSeq (·.pop)) gS3 rfl
  have oth4 : ∀ c o, c ≠ s.heap.objs.size → (s.heap.push (lstO [] 0)).get? c = some o → ((((s.heap.push (lstO [] 0)).update s.heap.objs.size (Obj.mapSeq (fun _ => (#[] : Array Value)))).update s.heap.objs.size (Obj.mapSeq (·.push Value.none))).update s.heap.objs.size (Obj.mapSeq (·.pop))).get? c = some o :=
    fun c o nc e => (Heap.get?_update_other _ _ (Ne.symm nc)).trans ((Heap.get?_update_other _ _ (Ne.symm nc)).trans (oth2 c o nc e))
  obtain ⟨c4, e4⟩ : ∃ c4, Obj.mapSeq (·.pop) (Obj.mapSeq (·.push Value.none) (Obj.mapSeq (fun _ => (#[] : Array Value)) (lstO [] 0))) = lstO (([] : List Addr).map Value.ref) c4 := ⟨_, rfl⟩
  rw [e4] at gS4
  have Z4 := (Z.mono fun c o e => Heap.get?_push_of_some _ e).keep gS oth4
  have big : s.heap.objs.size + 1 ≤ ((((s.heap.push (lstO [] 0)).update s.heap.objs.size (Obj.mapSeq (fun _ => (#[] : Array Value)))).update s.heap.objs.size (Obj.mapSeq (·.push Value.none))).update s.heap.objs.size (Obj.mapSeq (·.pop))).objs.size := Nat.succ_le_of_lt (Heap.lt_size gS4)
  refine wpAny_pure ⟨plainId_quiet F.plain_extend_loop _, loop (N := s.heap.objs.size + 1) D (show A.in1.handled = none by simp [calm]) lx ly few (Nat.lt_succ_of_lt lz) (Nat.lt_succ_of_lt (Heap.lt_size gO)) (Nat.lt_succ_of_lt (Heap.lt_size g1)) (Nat.lt_succ_of_lt (Heap.lt_size g2)) (Nat.lt_succ_self _) n 0 _ [] c4 (by omega) rfl Z4 gS4
    (fun j T hj => by simp at hj) List.nodup_nil (fun T hT => by simp at hT) big fun h' ts c a1 a2 a3 a4 a5 a6 => ?_⟩
  exact ⟨rfl, q h' ts c a1 a2 a3 a4 a5 fun c o k1 k2 k3 k4 e => a6 c o (Nat.ne_of_lt (Heap.lt_size e)) k1 k2 k3 k4 (oth4 _ _ (Nat.ne_of_lt (Heap.lt_size e)) (Heap.get?_push_of_some _ e))⟩
end
end LZ


set_option Elab.async false
set_option linter.all false
set_option maxRecDepth 100000
set_option maxHeartbeats 2000000
/-! list(zip(t, u)): the rule. -/
namespace BK
open PySem PySem.Spec PyProof.Rows L2
section
variable {X : Cx} {pins : List (Addr × Obj)} {σ : L2.St} {H : Hp} {s : Shared}
/-- nothing knows of the place a -/
structure Fr (X : Cx) (pins : List (Addr × Obj)) (a : Addr) : Prop where
  n0 : ∀ u, X.s_0.heap.get? a = some u → a ∈ X.ex ∨ X.H_0 a ≠ none
  nL : a ≠ X.env.locals
  nC : ∀ x c, X.env.cells.lookup x = some c → c ≠ a
  nP : ∀ p ∈ X.pn ++ pins, p.1 ≠ a
/-- a place above the heap -/
theorem Fr.of (I : Inv X pins σ H s) {a : Addr} (h : s.heap.objs.size ≤ a) : Fr X pins a := by
  have no : ∀ o, s.heap.get? a = some o → False := fun o e => Nat.lt_irrefl _ (Nat.lt_of_lt_of_le (Heap.lt_size e) h)
  refine ⟨fun u e => ?_, fun e => ?_, fun x c e z => ?_, fun p hp z => ?_⟩
  · by_cases hx : a ∈ X.ex
    · exact .inl hx
    · obtain ⟨o, q⟩ := I.base.there a u e hx
      exact (no o q).elim
  · obtain ⟨m, ⟨o, es, ep, q, _⟩, _⟩ := I.loc
    rw [e] at no
    exact no o q
  · obtain ⟨v, o, q, _⟩ := I.cell x c e
    rw [z] at q
    exact no o q
  · have q := (I.pin p hp).1
    rw [z] at q
    exact no _ q
theorem tell {a : Addr} {o : HO} (I : Inv X pins σ H s) (na : H a = none) (F : Fr X pins a) (ok : ObjOk X.prog X.w (upd H a o) s.heap a o) : Inv X pins σ (upd H a o) s := by
  have at_ : ∀ b u, H b = some u → upd H a o b = some u := same_new na
  refine ⟨I.ok, I.os, I.bare, ⟨I.base.keep, I.base.slot, fun b u e n hx => ?_, I.base.there, fun b xs e => at_ _ _ (I.base.tups b xs e), fun b u v e => at_ _ _ (I.base.frzs b u v e), fun b ps e => ?_⟩, I.loc, I.cell, ?_, fun x c e => ?_, fun p hp => ?_, fun b u e => ?_, I.len⟩
  · by_cases hb : b = a
    · subst hb
      exact ((F.n0 u e).elim (fun z => absurd z hx) fun z => absurd n z)
    · rw [upd_ne hb]
      exact I.base.free b u e n hx
  · obtain ⟨more, e'⟩ := I.base.tbls b ps e
    exact ⟨more, at_ _ _ e'⟩
  · rw [upd_ne F.nL.symm]
    exact I.free
  · rw [upd_ne (F.nC x c e)]
    exact I.freeC x c e
  · obtain ⟨h1, h2, h3⟩ := I.pin p hp
    exact ⟨h1, by rw [upd_ne (F.nP p hp)]; exact h2, h3⟩
  · by_cases hb : b = a
    · subst hb
      rw [upd_same] at e
      cases e
      exact ok
    · rw [upd_ne hb] at e
      exact (I.hok b u e).stay (fun _ _ _ q => q) (fun b q => at_ _ _ q) fun b xs q => at_ _ _ q
/-- new pairs are told of -/
theorem tell_pairs : ∀ (zs : List (Addr × V × V)) {H : Hp}, (zs.map (·.1)).Nodup → (∀ z ∈ zs, Fr X pins z.1 ∧ H z.1 = none ∧ ∃ u v, RelV z.2.1 u ∧ RelV z.2.2 v ∧ IsPair s.heap z.1 u v) → Inv X pins σ H s →
    ∃ H', Inv X pins σ H' s ∧ Same H H' ∧ (∀ z ∈ zs, H' z.1 = some (.tup [z.2.1, z.2.2])) ∧ ∀ a, H a = none → a ∉ zs.map (·.1) → H' a = none
  | [], H, _, _, I => ⟨H, I, fun _ _ e => e, fun _ h => by simp at h, fun _ e _ => e⟩
  | (a, x, y) :: r, H, nd, h, I => by
    rw [List.map_cons] at nd
    obtain ⟨n1, n2⟩ := List.nodup_cons.mp nd
    obtain ⟨F, na, u, v, ru, rv, hp⟩ := h _ List.mem_cons_self
    have I1 : Inv X pins σ (upd H a (.tup [x, y])) s := tell I na F ⟨(by show 2 ≤ sizeLine; decide), [u, v], .cons ru (.cons rv .nil), ⟨_, hp, rfl, _, rfl⟩⟩
    obtain ⟨H', I2, s2, at2, no2⟩ := tell_pairs r n2 (fun z hz => by
      obtain ⟨F', nz, q⟩ := h z (List.mem_cons_of_mem _ hz)
      refine ⟨F', ?_, q⟩
      have : z.1 ≠ a := fun e => n1 (by rw [← e]; exact List.mem_map.mpr ⟨z, hz, rfl⟩)
      rw [upd_ne this]
      exact nz) I1
    refine ⟨H', I2, (same_new na).trans s2, fun z hz => ?_, fun b e nb => ?_⟩
    · rcases List.mem_cons.mp hz with q | q
      · rw [q]
        exact s2 _ _ upd_same
      · exact at2 z q
    · rw [List.map_cons, List.mem_cons, not_or] at nb
      refine no2 b ?_ nb.2
      rw [upd_ne nb.1]
      exact e
end
theorem vals_refs : ∀ ts : List Addr, Vals (ts.map V.ref) (ts.map Value.ref)
  | [] => .nil
  | t :: r => .cons rfl (vals_refs r)
def tListZip (K : PySem.W.Frag) (ta : TA) : TE := fun σ H Q => ta σ H fun vs H1 => ∃ a b xs ys, vs = [.ref a, .ref b] ∧ SqT K H1 a xs ∧ SqT K H1 b ys ∧ xs.length = ys.length ∧ xs.length ≤ 1000 ∧
  ∀ (L : Addr) (ts : List Addr) (H' : Hp), Same H1 H' → H1 L = none → H' L = some (.lst (ts.map V.ref)) → ts.length = xs.length → (∀ (j : Nat) (T : Addr), ts[j]? = some T → ∃ x y, xs[j]? = some x ∧ ys[j]? = some y ∧ H' T = some (.tup [x, y])) → Q (.ref L) H'
section
variable {X : Cx}
theorem pe_listZip {e e2 : Expr} {ta : TA} {p p2 q pos : Pos} (hc : X.calm = true) (g1 : Gl X "list") (m1 : X.mg "list" = none) (g2 : Gl X "zip") (m2 : X.mg "zip" = none) (ha : PA X [e, e2] ta)
    (hs : starEach [e, e2] X.env = (false, eval e X.env) :: starEach [e2] X.env := by rfl) (hpl : (backTo q (starEach [e2] X.env)).any (·.1) = false := by rfl) : PE X (.Call (.Name "list" p) [.Call (.Name "zip" p2) [e, e2] [] q] [] pos) (tListZip X.K ta) := by
  refine ⟨fun pins s σ H Q I h => Call_ (ld_blt I g1 m1 boot_list (PyProof.Rows.callWith_type1 (PyProof.Rows.args_cons ?_ rfl) rfl rfl))⟩
  refine Call_ (ld_blt I g2 m2 PyProof.Rows.boot_zip (PyProof.Rows.callWith_type1 (thn (ha.run q pins s σ H _ I h) fun us s1 z => ?_) hs hpl))
  obtain ⟨vs, H1, I1, r1, a, b, xs, ys, rfl, sa, sb, el, few, k⟩ := z
  obtain ⟨u1, u2, rfl, ra, rb⟩ := vals2 r1
  obtain rfl : u1 = Value.ref a := ra
  obtain rfl : u2 = Value.ref b := rb
  obtain ⟨its, rx, ta, zx⟩ := I1.tuple sa
  obtain ⟨its2, ry, tb, zy⟩ := I1.tuple sb
  obtain ⟨oa, ga, _⟩ := id ta
  obtain ⟨ob, gb, _⟩ := id tb
  have lx : its.toArray.size = xs.length := by rw [List.size_toArray, rx.length]
  have ly : its2.toArray.size = xs.length := by rw [List.size_toArray, ← ry.length, el]
  refine RZ.call_zipT (show s1.heap.IsTuple a its.toArray from ta) (show s1.heap.IsTuple b its2.toArray from tb) fun h' hz hTI hTO h1 h2 hsz hk => PyProof.Rows.args_nil ?_
  have Z : LZ.ZS h' (s1.heap.objs.size + 4) (s1.heap.objs.size + 2) (s1.heap.objs.size + 3) s1.heap.objs.size (s1.heap.objs.size + 1) a b its.toArray its2.toArray 0 :=
    ⟨hTI, ⟨_, _, hTO⟩, h1, h2, (show s1.heap.IsTuple a its.toArray from ta).at fun o e => hk _ o e, (show s1.heap.IsTuple b its2.toArray from tb).at fun o e => hk _ o e, .inl ⟨rfl, hz⟩⟩
  refine LZ.list_zip (s := { s1 with heap := h' }) (PySem.W.ktu_apart s1.heap.objs.size a b (Heap.lt_size ga) (Heap.lt_size gb)) (I1.ok.hd hc) Z hz lx ly few fun h2 ts c a1 a2 a3 a4 a5 a6 => ?_
  have lt : ∀ {c : Addr} {o : Obj} (m : Nat), s1.heap.get? c = some o → c ≠ s1.heap.objs.size + m := fun m e => Nat.ne_of_lt (Nat.lt_of_lt_of_le (Heap.lt_size e) (Nat.le_add_right _ _))
  have kp : ∀ c o, s1.heap.get? c = some o → h2.get? c = some o := fun c o e => a6 c o (lt 4 e) (lt 3 e) (Nat.ne_of_lt (Heap.lt_size e)) (lt 1 e) (hk c o e)
  have I2 : Inv X pins σ H1 { s1 with heap := h2 } := I1.kept (t' := s1.toks) kp
  have up : s1.heap.objs.size ≤ h'.objs.size := by rw [hsz]; exact Nat.le_add_right _ _
  have ezs : (ts.zip (xs.zip ys)).map (·.1) = ts := by
    rw [List.map_fst_zip]
    rw [List.length_zip]
    omega
  have inz : ∀ z ∈ ts.zip (xs.zip ys), ∃ j, ts[j]? = some z.1 ∧ xs[j]? = some z.2.1 ∧ ys[j]? = some z.2.2 := fun z hz => by
    obtain ⟨j, hj⟩ := List.getElem?_of_mem hz
    obtain ⟨T, x, y⟩ := z
    obtain ⟨q1, q2⟩ := List.getElem?_zip_eq_some.mp hj
    obtain ⟨q3, q4⟩ := List.getElem?_zip_eq_some.mp q2
    exact ⟨j, q1, q3, q4⟩
  obtain ⟨H2, I3, s3, at3, no3⟩ := tell_pairs (ts.zip (xs.zip ys)) (by rw [ezs]; exact a4) (fun z hz => by
    obtain ⟨j, q1, q2, q3⟩ := inz z hz
    obtain ⟨u', v', w1, w2, w3⟩ := a3 j z.1 q1
    obtain ⟨u, w4, ru⟩ := rx.get q2
    obtain ⟨v, w5, rv⟩ := ry.get q3
    have e1 : u' = u := Option.some.inj (w1.symm.trans (by rw [List.getElem?_toArray]; exact w4))
    have e2 : v' = v := Option.some.inj (w2.symm.trans (by rw [List.getElem?_toArray]; exact w5))
    rw [e1, e2] at w3
    have le : s1.heap.objs.size ≤ z.1 := Nat.le_trans up (Nat.le_of_lt (a5 z.1 (List.mem_of_getElem? q1)))
    exact ⟨Fr.of I1 le, I1.hok.fresh le, u, v, ru, rv, w3⟩) I2
  have nL : H2 h'.objs.size = none := no3 _ (I1.hok.fresh up) (by
    rw [ezs]
    intro m
    exact Nat.lt_irrefl _ (a5 _ m))
  have I4 : Inv X pins σ (upd H2 h'.objs.size (.lst (ts.map V.ref))) { s1 with heap := h2 } := tell I3 nL (Fr.of I1 up) ⟨by rw [List.length_map, a1]; exact Nat.le_of_lt (small1000 few), ts.map Value.ref, c, vals_refs ts, a2⟩
  refine ⟨.ref h'.objs.size, _, I4, rfl, k h'.objs.size ts _ (s3.trans (same_new nL)) (I1.hok.fresh up) upd_same a1 fun j T hj => ?_⟩
  have jl : j < ts.length := (List.getElem?_eq_some_iff.mp hj).1
  have hx : xs[j]? = some xs[j] := List.getElem?_eq_getElem (by omega)
  have hy : ys[j]? = some ys[j] := List.getElem?_eq_getElem (by omega)
  have mem : (T, xs[j], ys[j]) ∈ ts.zip (xs.zip ys) := List.mem_of_getElem? (i := j) (List.getElem?_zip_eq_some.mpr ⟨hj, List.getElem?_zip_eq_some.mpr ⟨hx, hy⟩⟩)
  exact ⟨xs[j], ys[j], hx, hy, same_new nL _ _ (at3 _ mem)⟩
end
end BK


set_option Elab.async false
set_option maxRecDepth 100000
set_option maxHeartbeats 1000000
/-! parts_of. -/
namespace BK
open PySem PySem.Spec PyProof.Rows L2
/-- the words and the kinds of their parts -/
def kindTab : List (Str × List Str) := [("set", ["variable", "source"]), ("hold", ["token", "variable", "source"]), ("reset", ["token"]), ("drop", ["variable"]), ("show", ["variable"]), ("copy", ["context"]), ("within", ["context", "block"]),
  ("if", ["variable", "integer", "block", "block"]), ("with", ["variable", "source", "block"]), ("guard", ["block", "block"]), ("loop", ["block"]), ("leave", []), ("yield", []), ("fail", [])]
def kindsOf (w : Str) : Option (List Str) := (kindTab.find? fun e => decide (e.1 = w)).map (·.2)
theorem tab_few : (kindTab.all fun e => decide (e.2.length ≤ 4)) = true := by decide +kernel
theorem kinds_few {w : Str} {ks : List Str} (h : kindsOf w = some ks) : ks.length ≤ 4 := by
  unfold kindsOf at h
  cases e : kindTab.find? fun e => decide (e.1 = w) with
  | none => rw [e] at h; cases h
  | some x =>
    rw [e] at h
    have q : x.2 = ks := Option.some.inj h
    rw [← q]
    exact of_decide_eq_true (List.all_eq_true.mp tab_few x (List.mem_of_find?_eq_some e))
structure Parts (K : PySem.W.Frag) (mg : Str → Option Value) (w : World) : Prop where
  at_ : ∃ p, mg "PARTS" = some (.ref p) ∧ ∀ x ks, kindsOf x = some ks → ∃ t, KDct K w p x (.ref t) ∧ ∀ H, SqT K H t (ks.map V.str)
theorem cut1 (x : V) (r : List V) : cutV (x :: r) (some 1) none = r := by
  have e : HT.sIx (x :: r).length 0 (some 1) = 1 := by
    simp [HT.sIx]
  have e2 : HT.sIx (x :: r).length (x :: r).length none = r.length + 1 := by
    simp [HT.sIx]
  unfold cutV
  rw [e, e2]
  simp
def spParts (K : PySem.W.Frag) : Sp := fun vs H Q _ => ∃ v x rest ks, vs = [v] ∧ TrAt K H v (.tup (.str x :: rest)) ∧ kindsOf x = some ks ∧ rest.length = ks.length ∧
  ∀ (L : Addr) (ts : List Addr) (H' : Hp), Same H H' → H' L = some (.lst (ts.map V.ref)) → ts.length = ks.length → (∀ (j : Nat) (T : Addr), ts[j]? = some T → ∃ y t k, rest[j]? = some t ∧ ks[j]? = some k ∧ TrAt K H' y t ∧ H' T = some (.tup [y, .str k])) → Q (.ref L) H'
abbrev sParts : Stmt := top 23
theorem scParts : FnScope ["statement"] ["statement"] (defScope sParts) := ⟨rfl, rfl, rfl, by decide +kernel, rfl, by decide +kernel, by decide +kernel⟩
section
variable {P : Program} {w : World} {K : PySem.W.Frag} {mg : Str → Option Value} {base : Heap}
theorem ok_parts {f : Addr} {fd : FuncData} (F : Fun K "parts_of" "parts_of" sParts f fd) (U : Parts K mg w) (mL : mg "list" = none) (mZ : mg "zip" = none) : FnOk P w K mg base CX0 1 f fd ["statement"] (spParts K) := by
  refine F.ok scParts (fun vs H Q E h => ?_) (fun cdv A outer s H vs Q E hr h => ?_)
  · obtain ⟨v, x, rest, ks, rfl, _⟩ := h
    rfl
  · obtain ⟨v, x, rest, ks, rfl, tv, ek, el, k⟩ := h
    obtain ⟨p, gP, at_⟩ := U.at_
    obtain ⟨t, kd, st⟩ := at_ x ks ek
    refine ⟨_, pss_one (ps_ret (pe_listZip rfl (by rfl) mL (by rfl) mZ (pa_cons (pe_slice sl_tup (pv 0) (po_some pe_int) po_none) (pa_cons (pe_ix ix_kdict (pe_glob (v := .ref p) rfl gP rfl) (pe_ix ix_tup (pv 0) pe_int (fun _ _ => rfl)) (fun _ _ => rfl)) pa_nil)))), ?_⟩
    cases tv with
    | @tup a xs _ h tr =>
    cases tr with
    | @cons y ys _ _ hy rs =>
    cases hy with
    | str _ hx =>
    refine ⟨_, rfl, 1, rfl, a, _, rfl, h, (by rintro ⟨e, _⟩; simp [HT.sIx] at e), fun q nq => ?_⟩
    rw [cut1]
    have s1 := same_new (o := .tup ys) nq
    refine ⟨_, rfl, a, _, 0, _, rfl, rfl, sqt_same s1 h, at_of (j := 0) rfl rfl, p, x, .ref t, rfl, rfl, kd, ?_⟩
    refine ⟨q, t, ys, ks.map V.str, rfl, SqT.of upd_same, st _, by rw [rs.len, List.length_map]; exact el, by rw [rs.len, el]; have := kinds_few ek; omega, fun L ts H' s2 nL eL lt at2 => ?_⟩
    refine k L ts H' (s1.trans s2) eL (by rw [lt, rs.len]; exact el) fun j T hj => ?_
    obtain ⟨y', k', q1, q2, q3⟩ := at2 j T hj
    obtain ⟨t', q4, q5⟩ := (rs.same (s1.trans s2)).get q1
    rw [List.getElem?_map] at q2
    cases e : ks[j]? with
    | none => rw [e] at q2; cases q2
    | some kk =>
      rw [e] at q2
      obtain rfl : V.str kk = k' := Option.some.inj q2
      exact ⟨y', t', kk, q4, rfl, q5, q3⟩
end
end BK


set_option Elab.async false
set_option maxRecDepth 100000
set_option maxHeartbeats 1000000
/-! has_form. -/
namespace BK
open PySem PySem.Spec PyProof.Rows L2 RZ
def wordV : Tr → V
  | .tup (.str w :: _) => .str w
  | _ => .non
def fitsT (rest : List Tr) (ks : List Str) : Bool := decide (rest.length = ks.length) && (rest.zip ks).all fun e => partT e.1 e.2
def formT : Tr → Bool
  | .tup (.str w :: rest) => match kindsOf w with
    | some ks => fitsT rest ks
    | none => false
  | _ => false
theorem no_args {w : Str} {ks : List Str} (h : kindsOf w = some ks) : ("args" : Str) ∉ ks := by
  have all : (kindTab.all fun e => decide (("args" : Str) ∉ e.2)) = true := by decide +kernel
  unfold kindsOf at h
  cases e : kindTab.find? fun e => decide (e.1 = w) with
  | none => rw [e] at h; cases h
  | some x =>
    rw [e] at h
    have q : x.2 = ks := Option.some.inj h
    rw [← q]
    exact of_decide_eq_true (List.all_eq_true.mp all x (List.mem_of_find?_eq_some e))
theorem walk_zipT {K : PySem.W.Frag} {a b : Addr} {xs ys : List V} {n : Nat} (hn : n = min xs.length ys.length) : Walk (ItzT K a b) n (fun H => SqT K H a xs ∧ SqT K H b ys) (YPair (fun i => xs[i]?) (fun i => ys[i]?)) := by
  subst hn
  refine ⟨fun i _ hi q => ?_, fun _ q => ⟨xs, ys, q.1, q.2, by omega⟩, fun i H v H' _ q y => ?_⟩
  · have h1 : i < xs.length := by omega
    have h2 : i < ys.length := by omega
    exact ⟨xs, ys, xs[i], ys[i], q.1, q.2, by simp [h1], by simp [h2]⟩
  · obtain ⟨T, x, z, h1, h2, h3, h4, h5⟩ := y
    exact ⟨T, x, z, h1, h2, h3, h4 xs q.1, h5 ys q.2⟩
def spWord (K : PySem.W.Frag) : Sp := fun vs H Q _ => ∃ v t, vs = [v] ∧ TrAt K H v t ∧ Q (wordV t) H
def spFits (K : PySem.W.Frag) : Sp := fun vs H Q _ => ∃ v b t0 rest ks, vs = [v, .ref b] ∧ TrAt K H v (.tup (t0 :: rest)) ∧ SqT K H b (ks.map V.str) ∧ ks.length ≤ 1000 ∧ (("args" : Str) ∈ ks → ∀ t ∈ rest, ∀ ts, t = .tup ts → ts.length ≤ 4000000) ∧
  ∀ H', Same H H' → Q (.bl (fitsT rest ks)) H'
/-- the dict of the words as it is written -/
structure PartsD (K : PySem.W.Frag) (mg : Str → Option Value) (w : World) (p : Addr) (es : Array DictEntry) (n : Nat) : Prop where
  d : KDict K w p es n
  g : mg "PARTS" = some (.ref p)
  at_ : ∀ x ks, kindsOf x = some ks → ∃ t, PySem.W.nsIn K p x = some (some (.ref t)) ∧ ∀ H, SqT K H t (ks.map V.str)
  no : ∀ x, kindsOf x = none → PySem.W.nsIn K p x = some none
theorem PartsD.parts {K : PySem.W.Frag} {mg : Str → Option Value} {w : World} {p : Addr} {es : Array DictEntry} {n : Nat} (D : PartsD K mg w p es n) : Parts K mg w := ⟨p, D.g, fun x ks e => by
  obtain ⟨t, h1, h2⟩ := D.at_ x ks e
  exact ⟨t, ⟨es, n, _, D.d.at_, D.d.lit, h1, rfl⟩, h2⟩⟩
abbrev sWord : Stmt := top 20
abbrev sFits : Stmt := top 21
abbrev sForm : Stmt := top 22
theorem scWord : FnScope ["thing"] ["thing"] (defScope sWord) := ⟨rfl, rfl, rfl, by decide +kernel, rfl, by decide +kernel, by decide +kernel⟩
theorem scFits : FnScope ["thing", "kinds", "part", "kind"] ["thing", "kinds"] (defScope sFits) := ⟨rfl, rfl, rfl, by decide +kernel, rfl, by decide +kernel, by decide +kernel⟩
theorem scForm : FnScope ["thing", "word"] ["thing"] (defScope sForm) := ⟨rfl, rfl, rfl, by decide +kernel, rfl, by decide +kernel, by decide +kernel⟩
section
variable {P : Program} {w : World} {K : PySem.W.Frag} {mg : Str → Option Value} {base : Heap}
theorem ok_word {f : Addr} {fd : FuncData} (F : Fun K "word_of" "word_of" sWord f fd) (T : Forms mg) : FnOk P w K mg base CX0 1 f fd ["thing"] (spWord K) := by
  refine F.ok scWord (fun vs H Q E h => ?_) (fun cdv A outer s H vs Q E hr h => ?_)
  · obtain ⟨v, t, rfl, _⟩ := h
    rfl
  · obtain ⟨v, t, rfl, ht, k⟩ := h
    refine ⟨_, pss_cons (ps_if (PW.pt (pw_and (pt_val (pe_callB call_isi (by rfl) T.isi boot_isinstance (pa_cons (pv 0) (pa_cons (pe_bltn (v := .ty "tuple") (u := .type "tuple") (by rfl) T.tuple (by decide +kernel) rfl) pa_nil))))
        (pw_and (pt_cmpR op_gt (pe_callB call_len_seq (by rfl) T.len boot_len (pa_cons (pv 0) pa_nil)) pe_int (nomark _))
        (pw_and1 (pt_val (pe_callB call_isi (by rfl) T.isi boot_isinstance (pa_cons (pe_ix ix_tup (pv 0) pe_int (fun _ _ => rfl)) (pa_cons (pe_bltn (v := .ty "str") (u := .type "str") (by rfl) T.str (by decide +kernel) rfl) pa_nil)))))))) (pss_one (ps_ret (pe_ix ix_tup (pv 0) pe_int (fun _ _ => rfl)))) pss_nil)
      (pss_one (ps_ret pe_non)), ?_⟩
    refine ⟨_, rfl, v, .ty "tuple", .type (tyT t), .type "tuple", isTup t, rfl, .ty "tuple", ht.ty, k_tup K t, _, rfl, ?_⟩
    cases ht with
    | int i => exact iteF k
    | bl b => exact iteF k
    | str z hz => exact iteF k
    | non => exact iteF k
    | lst h => exact iteF k
    | dct h => exact iteF k
    | @tup a xs ts h tr =>
    refine iteT ⟨_, rfl, a, xs, rfl, .inr h, _, _, rfl, rfl, _, rfl, ?_⟩
    cases tr with
    | nil => exact iteF k
    | @cons y ys t0 rest hy rs =>
    refine ite2 (fun _ => ?_) (fun z => ?_)
    · refine ⟨_, rfl, a, _, 0, y, rfl, rfl, h, at_of (j := 0) rfl rfl, y, .ty "str", .type (tyT t0), .type "str", isStr t0, rfl, .ty "str", hy.ty, k_str K t0, _, rfl, ?_⟩
      cases hy with
      | int i => exact iteF k
      | bl b => exact iteF k
      | non => exact iteF k
      | lst h => exact iteF k
      | dct h => exact iteF k
      | tup h r => exact iteF k
      | str x hx => exact iteT ⟨_, rfl, a, _, 0, _, rfl, rfl, h, at_of (j := 0) rfl rfl, k⟩
    · have : ((y :: ys).length : Int) > 0 := by rw [List.length_cons]; omega
      exact absurd (decide_eq_true this) z
theorem ok_fits {f fP : Addr} {fd fdP : FuncData} (F : Fun K "fits" "fits" sFits f fd) (T : Forms mg) (mZ : mg "zip" = none)
    (GP : FnOk P w K mg base CX0 3 fP fdP ["thing", "kind"] (spPart K)) (bP : Binds K fdP ["thing", "kind"] []) (gP : mg "is_part" = some (.ref fP)) (kP : PySem.W.keepIn K (.ref fP) = true) : FnOk P w K mg base CX0 4 f fd ["thing", "kinds"] (spFits K) := by
  refine F.ok scFits (fun vs H Q E h => ?_) (fun cdv A outer s H vs Q E hr h => ?_)
  · obtain ⟨v, b, t0, rest, ks, rfl, _⟩ := h
    rfl
  · obtain ⟨v, b, t0, rest, ks, rfl, ht, sb, kl, na, k⟩ := h
    refine ⟨_, pss_cons (ps_if (pt_cmpR op_ne (pe_callB call_len_seq (by rfl) T.len boot_len (pa_cons (pv 0) pa_nil)) (pe_op op_add pe_int (pe_callB call_len_seq (by rfl) T.len boot_len (pa_cons (pv 1) pa_nil))) (nomark _)) (pss_one (ps_ret pe_bl)) pss_nil)
      (pss_one (ps_ret (pe_callB (cr_all rfl) (by rfl) T.all (by decide +kernel) (pa_cons (pe_lc (own := [("part", 2), ("kind", 3)]) (g := gTup K 2 (gCons (gName 2) (gCons (gName 3) gNil))) (tt := tYes) (te := tCall (spPart K) [] E0 (tCons (tVar 2) (tCons (tVar 3) tNil))) rfl scFits.nd
          (pi_zipA (by rfl) mZ (pa_cons (pe_slice sl_tup (pv 0) (po_some pe_int) po_none) (pa_cons (pv 1) pa_nil))) (blkOk_by (N := ["thing", "kinds", "part", "kind"]) (sc := defScope sFits) (by decide +kernel))
          (fun _ _ _ _ _ => by exact pg_tup rfl (pgs_cons (pg_name (i := 2) scFits.nd rfl (Or.inl rfl)) (pgs_cons (pg_name (i := 3) scFits.nd rfl (Or.inl rfl)) pgs_nil))) (fun _ _ _ _ _ => pts_nil)
          (fun _ _ _ _ _ => by exact pe_call GP hr rfl gP kP bP .nil pass0 (pa_cons (pv 2) (pa_cons (pv 3) pa_nil)))) pa_nil)))), ?_⟩
    have q0 := k H fun _ _ e => e
    cases ht with
    | @tup a xs _ h tr =>
    cases tr with
    | @cons y ys _ _ hy rs =>
    have rl := rs.len
    refine ⟨_, rfl, a, _, rfl, .inr h, _, rfl, b, _, rfl, .inr sb, _, _, rfl, rfl, rfl, _, rfl, ?_⟩
    have el : decide (V.int ((y :: ys).length : Nat) = V.int (1 + ((ks.map V.str).length : Nat))) = decide (rest.length = ks.length) := by
      rw [dec_int, List.length_cons, List.length_map, rl]
      by_cases z : rest.length = ks.length
      · rw [decide_eq_true z, beq_iff_eq]
        omega
      · rw [decide_eq_false z, beq_eq_false_iff_ne]
        omega
    rw [el]
    unfold fitsT at k q0
    by_cases hl : rest.length = ks.length
    · rw [decide_eq_true hl] at k ⊢
      rw [Bool.true_and] at k
      refine iteF ?_
      refine ⟨_, rfl, 1, rfl, a, _, rfl, h, (by rintro ⟨e, _⟩; simp [HT.sIx] at e), fun q nq => ?_⟩
      rw [cut1]
      have s1 := same_new (o := .tup ys) nq
      refine ⟨_, rfl, q, b, ys, ks.map V.str, rfl, .inr ⟨SqT.of upd_same, sqt_same s1 sb, fun G nG => ?_⟩⟩
      generalize eH1 : upd H q (.tup ys) = H1 at s1 nG ⊢
      have sq : SqT K H1 q ys := by rw [← eH1]; exact SqT.of upd_same
      refine lc_it (walk_zipT (K := K) (a := q) (b := b) (xs := ys) (ys := ks.map V.str) rfl) (fun i H2 => Same H1 H2 ∧ H2 G = some (.lst ((((rest.zip ks).take i).map fun e => partT e.1 e.2).map V.bl))) ⟨same_new nG, upd_same⟩ (fun i H2 _ ⟨s2, _⟩ => ⟨sqt_same s2 sq, sqt_same (s1.trans s2) sb⟩) ?_ ?_
      · rintro i z H2 H3 hi ⟨s2, e2⟩ ⟨U, y', k', rfl, nU, rfl, q1, q2⟩
        have sU := same_new (o := .tup [y', k']) nU
        obtain ⟨t', q3, ty'⟩ := (rs.same ((s1.trans s2).trans sU)).get q1
        have q2 : (ks.map V.str)[i]? = some k' := q2
        rw [List.getElem?_map] at q2
        cases eK : ks[i]? with
        | none => rw [eK] at q2; cases q2
        | some kk =>
        rw [eK] at q2
        obtain rfl : V.str kk = k' := Option.some.inj q2
        have ez : (rest.zip ks)[i]? = some (t', kk) := List.getElem?_zip_eq_some.mpr ⟨q3, eK⟩
        have il : i < ks.length := (List.getElem?_eq_some_iff.mp eK).1
        refine ⟨U, _, rfl, SqT.of upd_same, rfl, _, _, rfl, _, _, rfl, rfl, rfl, ?_⟩
        refine tyes ?_
        refine ⟨_, rfl, _, rfl, y', t', kk, rfl, ty', fun ea ts et => na (by rw [← ea]; exact List.mem_of_getElem? eK) t' (List.mem_of_getElem? q3) ts et, fun H3 s3 => ⟨_, s3 _ _ (sU _ _ e2), small1000 (by rw [List.length_map, List.length_map, List.length_take]; omega), fun b o e => ?_, ?_⟩⟩
        · rw [upd_ne (ne_of_none e nG)]
          exact s3 _ _ (sU _ _ (s2 b o e))
        · rw [upd_same, List.take_add_one, ez, List.map_append, List.map_append]
          rfl
      · rintro H2 ⟨s2, e2⟩
        have et : (rest.zip ks).take (min ys.length (ks.map V.str).length) = rest.zip ks := by
          rw [List.take_of_length_le]
          rw [List.length_zip, List.length_map]
          omega
        rw [et] at e2
        refine ⟨G, _, rfl, SqL.of e2, ?_⟩
        have ea : ((rest.zip ks).map fun e => partT e.1 e.2).all id = (rest.zip ks).all fun e => partT e.1 e.2 := by rw [List.all_map]; rfl
        rw [ea]
        exact k H2 (s1.trans s2)
    · rw [decide_eq_false hl] at q0 ⊢
      rw [Bool.false_and] at q0
      exact iteT q0
theorem ok_form {f fW fF p : Addr} {fd fdW fdF : FuncData} {es : Array DictEntry} {n : Nat} (F : Fun K "has_form" "has_form" sForm f fd) (D : PartsD K mg w p es n)
    (GW : FnOk P w K mg base CX0 1 fW fdW ["thing"] (spWord K)) (bW : Binds K fdW ["thing"] []) (gW : mg "word_of" = some (.ref fW)) (kW : PySem.W.keepIn K (.ref fW) = true)
    (GF : FnOk P w K mg base CX0 4 fF fdF ["thing", "kinds"] (spFits K)) (bF : Binds K fdF ["thing", "kinds"] []) (gF : mg "fits" = some (.ref fF)) (kF : PySem.W.keepIn K (.ref fF) = true) : FnOk P w K mg base CX0 5 f fd ["thing"] (spOf formT K) := by
  refine F.ok scForm (fun vs H Q E h => ?_) (fun cdv A outer s H vs Q E hr h => ?_)
  · obtain ⟨v, t, rfl, _⟩ := h
    rfl
  · obtain ⟨v, t, rfl, ht, k⟩ := h
    have hr1 : Room 1 _ := hr.mono (by decide)
    refine ⟨_, pss_cons (ps_set (i := 1) scForm.nd rfl (Or.inl rfl) (pe_call GW hr1 rfl gW kW bW .nil pass0 (pa_cons (pv 0) pa_nil)))
      (pss_one (ps_ret (pe_and (pe_cmpR (op_in_kdN D.d) (pv 1) (pe_glob (v := .ref p) rfl D.g rfl) rfl) (pe_one (pe_call GF hr rfl gF kF bF .nil pass0 (pa_cons (pv 0) (pa_cons (pe_ix ix_kdict (pe_glob (v := .ref p) rfl D.g rfl) (pv 1) (fun _ _ => rfl)) pa_nil))))))), ?_⟩
    refine ⟨_, rfl, v, t, rfl, ht, ?_⟩
    have q0 := k H fun _ _ e => e
    have no : wordV t = .non → formT t = false := fun e => by
      unfold wordV at e
      unfold formT
      split at e
      · cases e
      · rfl
    by_cases hw : ∃ x rest, t = .tup (.str x :: rest)
    · obtain ⟨x, rest, rfl⟩ := hw
      cases ek : kindsOf x with
      | none =>
        have e : formT (.tup (.str x :: rest)) = false := by
          show (match kindsOf x with
            | some ks => fitsT rest ks
            | none => false) = false
          rw [ek]
        rw [e] at q0
        exact ⟨_, rfl, rfl, .inr ⟨x, none, rfl, D.no x ek, _, rfl, iteF q0⟩⟩
      | some ks =>
        have e : formT (.tup (.str x :: rest)) = fitsT rest ks := by
          show (match kindsOf x with
            | some ks => fitsT rest ks
            | none => false) = fitsT rest ks
          rw [ek]
        rw [e] at k
        obtain ⟨t, nt, st⟩ := D.at_ x ks ek
        refine ⟨_, rfl, rfl, .inr ⟨x, some (.ref t), rfl, nt, _, rfl, iteT ?_⟩⟩
        refine ⟨_, rfl, _, rfl, p, x, .ref t, rfl, rfl, ⟨es, n, _, D.d.at_, D.d.lit, nt, rfl⟩, v, t, _, rest, ks, rfl, ht, st _, by have := kinds_few ek; omega, fun z => absurd z (no_args ek), k⟩
    · have e : wordV t = .non := by
        unfold wordV
        split
        · exact absurd ⟨_, _, rfl⟩ hw
        · rfl
      rw [no e] at q0
      rw [e]
      exact ⟨_, rfl, rfl, .inl ⟨rfl, _, rfl, iteF q0⟩⟩
end
end BK


set_option Elab.async false
set_option maxRecDepth 100000
set_option maxHeartbeats 1000000
/-! has_yield, can_stand. -/
namespace BK
open PySem PySem.Spec PyProof.Rows L2
def isYield : Tr → Bool
  | .tup (.str w :: rest) => formT (.tup (.str w :: rest)) && decide (w = "yield")
  | _ => false
def yieldT (ts : List Tr) : Bool := ts.any isYield
def spYield (K : PySem.W.Frag) : Sp := fun vs H Q _ => ∃ v ts, vs = [v] ∧ TrAt K H v (.tup ts) ∧ ∀ H', Same H H' → Q (.bl (yieldT ts)) H'
abbrev sYield : Stmt := top 34
theorem scYield : FnScope ["block", "thing"] ["block"] (defScope sYield) := ⟨rfl, rfl, rfl, by decide +kernel, rfl, by decide +kernel, by decide +kernel⟩
theorem form_shape : ∀ {t : Tr}, formT t = true → ∃ w r, t = .tup (.str w :: r)
  | .tup (.str w :: r), _ => ⟨w, r, rfl⟩
theorem yield_form {t : Tr} (h : formT t = false) : isYield t = false := by
  unfold isYield
  split
  · rw [h, Bool.false_and]
  · rfl
section
variable {P : Program} {w : World} {K : PySem.W.Frag} {mg : Str → Option Value} {base : Heap}
theorem ok_yield {f fF : Addr} {fd fdF : FuncData} (F : Fun K "has_yield" "has_yield" sYield f fd) (GF : FnOk P w K mg base CX0 5 fF fdF ["thing"] (spOf formT K)) (bF : Binds K fdF ["thing"] []) (gF : mg "has_form" = some (.ref fF)) (kF : PySem.W.keepIn K (.ref fF) = true) :
    FnOk P w K mg base CX0 6 f fd ["block"] (spYield K) := by
  refine F.ok scYield (fun vs H Q E h => ?_) (fun cdv A outer s H vs Q E hr h => ?_)
  · obtain ⟨v, ts, rfl, _⟩ := h
    rfl
  · obtain ⟨v, ts, rfl, ht, k⟩ := h
    cases ht with
    | @tup a xs _ h tr =>
    refine ⟨_, pss_cons (ps_for PassesOwn.never rfl (pi_tup (pv 0)) (pg_name (i := 1) scYield.nd rfl (Or.inl rfl))
        (pss_one (ps_if (PW.pt (pw_and (pt_val (pe_call GF hr rfl gF kF bF .nil pass0 (pa_cons (pv 1) pa_nil))) (pw_and1 (pt_cmpR op_eq (pe_ix ix_tup (pv 1) pe_int (fun _ _ => rfl)) pe_str (nomark _))))) (pss_one (ps_ret pe_bl)) pss_nil)))
      (pss_one (ps_ret pe_bl)), ?_⟩
    refine ⟨_, rfl, a, rfl, ⟨xs, h⟩, for_tup (K := K) (a := a) (xs := xs) (fun i σ H2 => (∃ v1, σ = [some (.ref a), v1]) ∧ Same H H2 ∧ yieldT (ts.take i) = false) ⟨⟨none, rfl⟩, fun _ _ e => e, rfl⟩ (fun i σ H2 _ ⟨_, s2, _⟩ => sqt_same s2 h) ?_ ?_⟩
    · rintro i y σ H2 hi ⟨⟨v1, rfl⟩, s2, n2⟩
      obtain ⟨t, ht, ty⟩ := (tr.same s2).get hi
      have et : ts.take (i + 1) = ts.take i ++ [t] := by rw [List.take_add_one, ht]; rfl
      have ey : yieldT (ts.take (i + 1)) = isYield t := by
        unfold yieldT at n2 ⊢
        rw [et, List.any_append, n2, Bool.false_or]
        simp
      have all : isYield t = true → yieldT ts = true := fun e => by
        unfold yieldT
        rw [List.any_eq_true]
        exact ⟨t, List.mem_of_getElem? ht, e⟩
      refine ⟨_, rfl, y, t, rfl, ty, fun H3 s3 => ⟨_, rfl, ?_⟩⟩
      cases ef : formT t with
      | false => exact iteF (iteF ⟨⟨_, rfl⟩, s2.trans s3, by rw [ey, yield_form ef]⟩)
      | true =>
        obtain ⟨wd, r, rfl⟩ := form_shape ef
        cases ty with
        | @tup b ys _ hb tb =>
        obtain ⟨w0, hw, tw⟩ := tb.get' (i := 0) (t := .str wd) rfl
        cases tw with
        | str _ hz =>
        refine iteT ⟨_, rfl, b, ys, 0, _, rfl, rfl, sqt_same s3 hb, at_of (j := 0) rfl hw, rfl, _, rfl, ?_⟩
        rw [eq_txt]
        have e : isYield (.tup (.str wd :: r)) = decide (wd = "yield") := by
          show (formT (.tup (.str wd :: r)) && decide (wd = "yield")) = _
          rw [ef, Bool.true_and]
        refine ite2 (fun z => ?_) (fun z => ?_)
        · have q := k H3 (s2.trans s3)
          rw [all (e.trans z)] at q
          exact q
        · exact ⟨⟨_, rfl⟩, s2.trans s3, by rw [ey, e]; simpa using z⟩
    · rintro σ H2 ⟨⟨v1, rfl⟩, s2, n2⟩
      have q := k H2 s2
      have et : ts.take xs.length = ts := by rw [tr.len, List.take_length]
      rw [et] at n2
      rw [n2] at q
      exact q
end
end BK


set_option Elab.async false
set_option maxRecDepth 100000
set_option maxHeartbeats 1000000
/-! can_stand. -/
namespace BK
open PySem PySem.Spec PyProof.Rows L2
theorem in_txts (z : Str) : ∀ zs : List Str, inV (.str z) (zs.map V.str) = decide (z ∈ zs)
  | [] => rfl
  | y :: r => by
    have ih := in_txts z r
    unfold inV at ih ⊢
    rw [List.map_cons, List.any_cons, ih]
    show (y == z || decide (z ∈ r)) = _
    by_cases e : y = z
    · simp [e]
    · have e' : ¬ z = y := fun q => e q.symm
      simp [e, e', List.mem_cons]
theorem flat_txts : ∀ zs : List Str, (zs.map V.str).all flatV = true
  | [] => rfl
  | y :: r => by
    rw [List.map_cons, List.all_cons, flat_txts r]
    rfl
/-- may a statement of the word x stand within the words as? -/
def canT (x : Str) (rest : List Tr) (as : List Str) : Bool :=
  if x = "yield" then !decide (("within" : Str) ∈ as) else if x = "leave" then decide (("loop" : Str) ∈ as) && !decide (("within" : Str) ∈ as) else if x = "loop" then (match rest with
    | .tup ts :: _ => yieldT ts
    | _ => false) else true
def spCan (K : PySem.W.Frag) : Sp := fun vs H Q _ => ∃ v b x rest as, vs = [v, .ref b] ∧ TrAt K H v (.tup (.str x :: rest)) ∧ SqT K H b (as.map V.str) ∧ (x = "loop" → ∃ ts r, rest = .tup ts :: r) ∧ ∀ H', Same H H' → Q (.bl (canT x rest as)) H'
abbrev sCan : Stmt := top 33
theorem scCan : FnScope ["statement", "around", "word"] ["statement", "around"] (defScope sCan) := ⟨rfl, rfl, rfl, by decide +kernel, rfl, by decide +kernel, by decide +kernel⟩
section
variable {P : Program} {w : World} {K : PySem.W.Frag} {mg : Str → Option Value} {base : Heap}
theorem ok_can {f fY : Addr} {fd fdY : FuncData} (F : Fun K "can_stand" "can_stand" sCan f fd) (GY : FnOk P w K mg base CX0 6 fY fdY ["block"] (spYield K)) (bY : Binds K fdY ["block"] []) (gY : mg "has_yield" = some (.ref fY)) (kY : PySem.W.keepIn K (.ref fY) = true) :
    FnOk P w K mg base CX0 7 f fd ["statement", "around"] (spCan K) := by
  refine F.ok scCan (fun vs H Q E h => ?_) (fun cdv A outer s H vs Q E hr h => ?_)
  · obtain ⟨v, b, x, rest, as, rfl, _⟩ := h
    rfl
  · obtain ⟨v, b, x, rest, as, rfl, tv, sb, lp, k⟩ := h
    refine ⟨_, pss_cons (ps_set (i := 2) scCan.nd rfl (Or.inl rfl) (pe_ix ix_tup (pv 0) pe_int (fun _ _ => rfl)))
      (pss_cons (ps_if (pt_cmpR op_eq (pv 2) pe_str (nomark _)) (pss_one (ps_ret (pe_cmpR op_notIn_seq pe_str (pv 1) rfl))) pss_nil)
      (pss_cons (ps_if (pt_cmpR op_eq (pv 2) pe_str (nomark _)) (pss_one (ps_ret (pe_and (pe_cmpR op_in_seq pe_str (pv 1) rfl) (pe_one (pe_cmpR op_notIn_seq pe_str (pv 1) rfl))))) pss_nil)
      (pss_cons (ps_if (pt_cmpR op_eq (pv 2) pe_str (nomark _)) (pss_one (ps_ret (pe_call GY hr rfl gY kY bY .nil pass0 (pa_cons (pe_ix ix_tup (pv 0) pe_int (fun _ _ => rfl)) pa_nil)))) pss_nil)
      (pss_one (ps_ret pe_bl))))), ?_⟩
    have q0 := k H fun _ _ e => e
    cases tv with
    | @tup a xs _ h tr =>
    cases tr with
    | @cons y ys _ _ hy rs =>
    cases hy with
    | str _ hx =>
    refine ⟨_, rfl, a, _, 0, _, rfl, rfl, h, at_of (j := 0) rfl rfl, ?_⟩
    refine ⟨_, rfl, rfl, _, rfl, ?_⟩
    rw [eq_txt]
    refine ite2 (fun z => ?_) (fun z => ?_)
    · have e1 : x = "yield" := of_decide_eq_true z
      refine ⟨_, rfl, b, _, rfl, .inr sb, rfl, flat_txts as, ?_⟩
      show Q (.bl (!inV (.str "within") (as.map V.str))) H
      rw [in_txts]
      unfold canT at q0
      rw [if_pos e1] at q0
      exact q0
    have e1 : ¬ x = "yield" := fun q => z (decide_eq_true q)
    refine ⟨_, rfl, rfl, _, rfl, ?_⟩
    rw [eq_txt]
    refine ite2 (fun z => ?_) (fun z => ?_)
    · have e2 : x = "leave" := of_decide_eq_true z
      unfold canT at q0
      rw [if_neg e1, if_pos e2] at q0
      refine ⟨_, rfl, b, _, rfl, .inr sb, rfl, flat_txts as, inV (.str "loop") (as.map V.str), rfl, ?_⟩
      rw [in_txts]
      cases e : decide (("loop" : Str) ∈ as) with
      | false =>
        rw [e, Bool.false_and] at q0
        exact iteF q0
      | true =>
        rw [e, Bool.true_and] at q0
        refine iteT ⟨_, rfl, b, _, rfl, .inr sb, rfl, flat_txts as, ?_⟩
        show Q (.bl (!inV (.str "within") (as.map V.str))) H
        rw [in_txts]
        exact q0
    have e2 : ¬ x = "leave" := fun q => z (decide_eq_true q)
    refine ⟨_, rfl, rfl, _, rfl, ?_⟩
    rw [eq_txt]
    refine ite2 (fun z => ?_) (fun z => ?_)
    · have e3 : x = "loop" := of_decide_eq_true z
      obtain ⟨ts, r, rfl⟩ := lp e3
      cases rs with
      | @cons y2 _ _ _ h2 _ =>
      refine ⟨_, rfl, a, _, 1, y2, rfl, rfl, h, at_of (j := 1) rfl rfl, y2, ts, rfl, h2, fun H' s' => ?_⟩
      have q := k H' s'
      unfold canT at q
      rw [if_neg e1, if_neg e2, if_pos e3] at q
      exact q
    · have e3 : ¬ x = "loop" := fun q => z (decide_eq_true q)
      unfold canT at q0
      rw [if_neg e1, if_neg e2, if_neg e3] at q0
      exact q0
end
end BK


set_option Elab.async false
set_option linter.all false
set_option maxRecDepth 100000
set_option maxHeartbeats 2000000
/-! enumerate(tuple). -/
namespace ET
open PySem PySem.Spec PyProof.Rows L2
theorem meets_enumT (l : Addr) (items : Array Value) :
    Meets (Builtin.«enumerate.__new__» ⟨[.type "enumerate", .ref l], []⟩) (fun _ R s => s.heap.IsTuple l items ∧
      R (.ok (.ret (.ref (s.heap.push { cls := .type "tuple_iterator", data := .fields #[.ref l, .int 0 0] }).objs.size)))
        { s with heap := (s.heap.push { cls := .type "tuple_iterator", data := .fields #[.ref l, .int 0 0] }).push { cls := .type "enumerate", data := .fields #[.none, .bool false, .ref s.heap.objs.size, rawInt 0, .none, .none] } }) :=
  .of_wp fun prog w A R s h => by
    obtain ⟨hp, g, d, tk, os⟩ := s; obtain ⟨h1, h⟩ := h
    have hsub := sub_enumerate
    have q1 : ∀ {A' : Around} {E : Value → Shared → Prop} {Q : Value → Shared → Prop}, Q (.ref hp.objs.size) ⟨hp.push { cls := .type "tuple_iterator", data := .fields #[.ref l, .int 0 0] }, g, d, tk, os⟩ → wpAny (model prog w) A' (pyIter (.ref l)) Q E ⟨hp, g, d, tk, os⟩ :=
      fun q => wpAny_pyIter_tuple h1 q
    wp_walk using q1
    refine wpAny_stack_any fun st => wpAny_pure ?_
    split
    · rename_i c _ _ _ _ _
      cases (c == Value.type "enumerate")
      · wp_walk using q1
        exact ⟨_, rfl, h⟩
      · wp_walk using q1
        exact ⟨_, rfl, h⟩
    · wp_walk using q1
      exact ⟨_, rfl, h⟩
section
variable {prog : Program} {w : World} {A : Around} {E : Value → Shared → Prop} {s : Shared}
theorem call_enumT {l : Addr} {items : Array Value} {Q : Value → Shared → Prop} (hL : s.heap.IsTuple l items)
    (h : ∀ h', IsEnum h' (s.heap.objs.size + 1) s.heap.objs.size 0 .none → h'.IsTupleIter s.heap.objs.size l 0 → h'.objs.size = s.heap.objs.size + 2 →
      (∀ b o, s.heap.get? b = some o → h'.get? b = some o) → Q (.ref (s.heap.objs.size + 1)) { s with heap := h' }) :
    wpAny (model prog w) A (call (.type "enumerate") [.ref l]) Q E s := by
  refine callType_new F.called_enumerate (by decide) (F.typeCall_enumerate_1 _) (F.newCall_enumerate_1 _) (fun obj => F.args_object_init_2 obj _) F.entry_enumerate_new
    (meets_enumT l items) ⟨hL, ?_⟩
  have hz : (s.heap.push { cls := .type "tuple_iterator", data := .fields #[.ref l, .int 0 0] }).objs.size = s.heap.objs.size + 1 := Heap.size_push ..
  show _ ∧ _
  rw [hz]
  have he : IsEnum ((s.heap.push { cls := .type "tuple_iterator", data := .fields #[.ref l, .int 0 0] }).push
      { cls := .type "enumerate", data := .fields #[.none, .bool false, .ref s.heap.objs.size, rawInt 0, .none, .none] }) (s.heap.objs.size + 1) s.heap.objs.size 0 .none := by
    have := Heap.get?_push_size (s.heap.push { cls := .type "tuple_iterator", data := .fields #[.ref l, .int 0 0] })
      (o := { cls := .type "enumerate", data := .fields #[.none, .bool false, .ref s.heap.objs.size, rawInt 0, .none, .none] }) rfl
    rw [hz] at this; exact this
  refine ⟨⟨_, he, rfl⟩, h _ he ⟨_, Heap.get?_push_of_some _ (Heap.get?_push_size _ rfl), rfl, rfl⟩ (by rw [Heap.size_push, hz]) fun b o x => Heap.get?_push_of_some _ (Heap.get?_push_of_some _ x)⟩
end
/-- the tuple at a, each item in a new pair -/
def IteT (K : PySem.W.Frag) (a : Addr) : It :=
  ⟨fun i H => ∃ (xs : List V) (x : V), SqT K H a xs ∧ xs[i]? = some x, fun i H v H' => ∃ T x, v = .ref T ∧ H T = none ∧ H' = upd H T (.tup [.int (i : Nat), x]) ∧ ∀ xs, SqT K H a xs → xs[i]? = some x, fun i H => ∃ xs : List V, SqT K H a xs ∧ xs.length ≤ i⟩
theorem turn_enumT {P : Program} {w : World} {K : PySem.W.Frag} {elts : List Expr} {kk : Nat} {tpos : Pos} (a e it : Addr) :
    Turn P w K (.Tuple elts kk tpos) (IteT K a) [e, it] e (fun i h => (∃ old, IsEnum h e it ((i : Nat) : Int) old) ∧ h.IsTupleIter it a i ∧ e ≠ it ∧ a ≠ it ∧ e ≠ a) where
  mem := by simp
  obj := fun i h st b hb => by
    obtain ⟨⟨old, he⟩, ⟨o, ho, hc, hd⟩, _⟩ := st
    have e' : b = e ∨ b = it := by simpa using hb
    rcases e' with z | z
    · rw [z]; exact ⟨_, he, fun v q => nomatch q⟩
    · rw [z]; exact ⟨o, ho, fun v q => by rw [hd] at q; cases q⟩
  keep := fun i h h' st k => let ⟨⟨old, he⟩, hi, hne⟩ := st; ⟨⟨old, k e (by simp) _ he⟩, hi.at fun o q => k it (by simp) o q, hne⟩
  item := by
    intro X hP hw hK hc i pins s σ H E I hf st hg
    subst hP hw hK
    obtain ⟨⟨old, he⟩, hit, hne, hai, hea⟩ := st
    obtain ⟨xs, x, hq, hx⟩ := hg
    obtain ⟨its, rv, p, hz⟩ := I.tuple hq
    obtain ⟨u, hu, ru⟩ := rv.get hx
    have hel : e < s.heap.objs.size := Heap.lt_size he
    have hil : it < s.heap.objs.size := by obtain ⟨_, q, _⟩ := hit; exact Heap.lt_size q
    have pt : s.heap.IsTuple a its.toArray := p
    have il : i < its.toArray.size := by
      have := (List.getElem?_eq_some_iff.mp hu).1
      simpa using this
    refine wpAny_pyNext_enum_itemD (Draws.tuple (I.ok.hd hc |> fun h => (show X.A.in1.handled = none by simpa using h)) it a hai its.toArray) he ⟨hit, pt⟩ il hne (by simp; exact ⟨hne, hea⟩) fun y h' tk hy ho hst' hT hsz hk => ?_
    have ey : y = u := Option.some.inj (hy.symm.trans (by simpa using hu))
    subst ey
    refine ⟨_, rfl, wpAny_letOwnedTupleGo_enum (s := { s with heap := h', toks := tk + 1 }) ho fun h'' he' sb => ?_⟩
    have hT2 : h''.get? s.heap.objs.size = some { cls := .type "tuple", data := .seq #[.int i tk, y] } := (sb.2 _ (Nat.ne_of_gt hel)).trans hT
    have new : ObjOk X.prog X.w (upd H s.heap.objs.size (.tup [.int (i : Nat), x])) h'' s.heap.objs.size (.tup [.int (i : Nat), x]) :=
      ⟨by show 2 ≤ sizeLine; decide, [.int i tk, y], .cons ⟨_, rfl⟩ (.cons ru .nil), ⟨_, hT2, rfl, _, rfl⟩⟩
    have I1 : Inv X pins σ (upd H s.heap.objs.size (.tup [.int (i : Nat), x])) { s with heap := h'', toks := tk + 1 } :=
      I.turnedNew (ch := [e, it]) (fun b ob hb q => (sb.2 b (fun z => hb (by simp [z]))).trans (hk b ob (fun z => hb (by simp [z])) (fun z => hb (by simp [z])) q)) hf (Nat.le_refl _) new
    refine ⟨.ref s.heap.objs.size, _, I1, rfl, ⟨_, x, rfl, I.hok.fresh (Nat.le_refl _), rfl, fun ys hy => by rw [I.tuple_inj hy hq]; exact hx⟩, ⟨⟨y, ?_⟩, hst'.1.at fun o q => (sb.2 it (Ne.symm hne)).trans q, hne, hai, hea⟩, fun b hb => ?_⟩
    · have e1 : ((i + 1 : Nat) : Int) = (i : Int) + 1 := by omega
      rw [e1]; exact he'
    · have hb' : b < s.heap.objs.size := by
        have e' : b = e ∨ b = it := by simpa using hb
        rcases e' with z | z
        · rw [z]; exact hel
        · rw [z]; exact hil
      rw [upd_ne (Nat.ne_of_lt hb')]
      exact (hf b hb).1
  done := by
    intro X hP hw hK hc i pins s σ H E I hf st hg
    subst hP hw hK
    obtain ⟨⟨old, he⟩, hit, hne, hai, hea⟩ := st
    obtain ⟨xs, hq, hx⟩ := hg
    obtain ⟨its, rv, p, hz⟩ := I.tuple hq
    obtain ⟨f0, f1, f2, f3, f4, f5⟩ := hf it (by simp)
    have hl := rv.length
    have pt : s.heap.IsTuple a its.toArray := p
    have hT : s.TypeIs (.ref e) "enumerate" := ⟨_, he, rfl⟩
    unfold pyNext
    refine wpAny_bind (wpAny_attempt (wpAny_callSpecial?_slot (name := Str.ofString "__next__") hT F.slot_enumerate_next
      (wpAny_call_entry F.slot_enumerate_next hT F.entry_enumerate_next ?_ (F.args_enumerate_next_1 _))))
    show wpAny _ _ (field (.ref e) 2 >>= _) _ _ _
    refine wpAny_bind (wpAny_field he rfl (x := .ref it) rfl ?_)
    refine wpAny_bind (RZ.nextOf_tuple_end (show X.A.in1.handled = none by simpa using I.ok.hd hc) hit pt (by simp; omega) fun h' x he' hx' => ?_)
    obtain ⟨o, ho, hc⟩ := hx'
    refine wpAny_bind (wpAny_isInstance (T := "StopIteration") (b := true) ⟨o, ho, hc⟩ isSubtype_stop ?_)
    exact wpAny_pure ⟨rfl, I.turned (t' := s.toks) (fun b o hb q => he' b o hb q) f0 f1 f3 f4 f5⟩
  self := fun A i s Q E st h => let ⟨⟨_, he⟩, _⟩ := st; wpAny_pyIter_enum he h
def iEnumT (K : PySem.W.Frag) (ta : TA) : TI := fun σ H R => ta σ H fun vs H1 => ∃ a xs, vs = [.ref a] ∧ SqT K H1 a xs ∧ R (IteT K a) H1
theorem pi_enumT {X : Cx} {e : Expr} {ta : TA} {p pos tpos : Pos} {elts : List Expr} {kk : Nat} (hg : Gl X "enumerate") (hm : X.mg "enumerate" = none) (ha : PA X [e] ta) (hs : starEach [e] X.env = [(false, eval e X.env)] := by rfl) :
    PI X (.Tuple elts kk tpos) (.Call (.Name "enumerate" p) [e] [] pos) (iEnumT X.K ta) := by
  refine ⟨fun pins s σ H R I h => ?_⟩
  refine Call_ (ld_blt I hg hm boot_enumerate (PyProof.Rows.callWith_type1 (thn (ha.run pos pins s σ H _ I h) fun us s1 ⟨vs, H1, I1, r1, q1⟩ => ?_) hs rfl))
  obtain ⟨a, xs, ex, hq, q⟩ := q1
  subst ex
  cases r1 with
  | cons r rr =>
    cases rr
    cases r
    obtain ⟨its, rv, p', hz⟩ := I1.tuple hq
    have pt : s1.heap.IsTuple a its.toArray := p'
    obtain ⟨oa, ga, _⟩ := id pt
    have la : a < s1.heap.objs.size := Heap.lt_size ga
    refine call_enumT pt fun h' he hit hsz hk => wpAny_pyIter_enum he ?_
    have I2 : Inv X pins σ H1 { s1 with heap := h' } := I1.kept (t' := s1.toks) hk
    refine ⟨s1.heap.objs.size + 1, [s1.heap.objs.size + 1, s1.heap.objs.size], _, _, H1, rfl, I2, turn_enumT a (s1.heap.objs.size + 1) s1.heap.objs.size, ⟨⟨.none, he⟩, hit, Nat.succ_ne_self _, Nat.ne_of_lt la, Nat.ne_of_gt (Nat.lt_succ_of_lt la)⟩, fun b hb => ?_, q⟩
    have e' : b = s1.heap.objs.size + 1 ∨ b = s1.heap.objs.size := by simpa using hb
    have hle : s1.heap.objs.size ≤ b := by
      rcases e' with z | z
      · rw [z]; exact Nat.le_add_right _ _
      · rw [z]; exact Nat.le_refl _
    exact I1.fpOk hle (I1.hok.fresh hle)
theorem walk_enumT {K : PySem.W.Frag} {a : Addr} {xs : List V} : Walk (IteT K a) xs.length (fun H => SqT K H a xs) (YPair (fun i => some (.int (i : Nat))) (fun i => xs[i]?)) := by
  refine ⟨fun i _ hi q => ⟨xs, xs[i], q, by simp [hi]⟩, fun _ q => ⟨xs, q, Nat.le_refl _⟩, fun i H v H' _ q y => ?_⟩
  obtain ⟨T, x, h1, h2, h3, h4⟩ := y
  exact ⟨T, .int (i : Nat), x, h1, h2, h3, rfl, h4 xs q⟩
end ET


set_option Elab.async false
set_option maxRecDepth 100000
set_option maxHeartbeats 1000000
/-! Check: what it keeps; knows. -/
namespace BK
open PySem PySem.Spec PyProof.Rows L2 RZ ET
abbrev Km := List (Str × Str)
def kk (m : Km) : List (Key × V) := m.map fun e => (.inr e.1, .str e.2)
def kget (m : Km) (s : Str) : Option Str := (m.find? fun e => decide (e.1 = s)).map (·.2)
def slotK (k : Str) : Bool := decide (k = "context") || decide (k = "token")
def varK (k : Str) : Bool := decide (k = "variable") || decide (k = "source")
/-- the parts of a statement by the kinds so far: the slots' kinds, the variables -/
def knowsT (vars : List Str) : List (Tr × Str) → Km → Bool × Km
  | [], m => (true, m)
  | (.str s, k) :: r, m => if slotK k = true then (match kget m s with
      | none => knowsT vars r (m ++ [(s, k)])
      | some k' => if k' = k then knowsT vars r m else (false, m))
    else if varK k = true then (if s ∈ vars then knowsT vars r m else (false, m)) else knowsT vars r m
  | (_, _) :: r, m => knowsT vars r m
theorem kk_len (m : Km) : (kk m).length = m.length := by unfold kk; rw [List.length_map]
theorem inrE (a b : Str) : ((Sum.inr a : Key) = Sum.inr b) = (a = b) := propext ⟨fun h => Sum.inr.inj h, fun h => congrArg _ h⟩
theorem valV_kk (k : Str) : ∀ m : Km, valV (kk m) (.inr k) = (kget m k).map V.str
  | [] => rfl
  | e :: r => by
    have ih := valV_kk k r
    unfold valV kk kget at ih ⊢
    rw [List.map_cons, List.find?_cons, List.find?_cons]
    by_cases h : e.1 = k
    · simp [h]
    · simp only [inrE, decide_eq_false h]
      exact ih
theorem putK_kk {m : Km} {s k : Str} (h : kget m s = none) : putK (kk m) (.inr s) (.str k) = kk (m ++ [(s, k)]) := by
  unfold putK
  have z : ((kk m).any fun e => decide (e.1 = (.inr s : Key))) = false := by
    unfold kk
    rw [List.any_map, List.any_eq_false]
    intro e he
    simp only [Function.comp, inrE, decide_eq_true_eq]
    intro q
    unfold kget at h
    have : m.find? (fun e => decide (e.1 = s)) = none := by
      cases e : m.find? (fun e => decide (e.1 = s)) with
      | none => rfl
      | some x => rw [e] at h; cases h
    rw [List.find?_eq_none] at this
    exact this e he (decide_eq_true q)
  rw [z, if_neg Bool.false_ne_true]
  unfold kk
  rw [List.map_append]
  rfl
theorem knows_len {vars : List Str} : ∀ (l : List (Tr × Str)) (m : Km), (knowsT vars l m).2.length ≤ m.length + l.length
  | [], m => by simp [knowsT]
  | (.str s, k) :: r, m => by
    unfold knowsT
    have h1 := knows_len (vars := vars) r m
    have h2 := knows_len (vars := vars) r (m ++ [(s, k)])
    rw [List.length_append] at h2
    simp only [List.length_cons, List.length_nil] at h2 ⊢
    split
    · split
      · omega
      · split
        · omega
        · simp only; omega
    · split
      · split
        · omega
        · simp only; omega
      · omega
  | (.non, _) :: r, m => by have h1 := knows_len (vars := vars) r m; unfold knowsT; simp only [List.length_cons]; omega
  | (.bl _, _) :: r, m => by have h1 := knows_len (vars := vars) r m; unfold knowsT; simp only [List.length_cons]; omega
  | (.int _, _) :: r, m => by have h1 := knows_len (vars := vars) r m; unfold knowsT; simp only [List.length_cons]; omega
  | (.lst, _) :: r, m => by have h1 := knows_len (vars := vars) r m; unfold knowsT; simp only [List.length_cons]; omega
  | (.dct, _) :: r, m => by have h1 := knows_len (vars := vars) r m; unfold knowsT; simp only [List.length_cons]; omega
  | (.tup _, _) :: r, m => by have h1 := knows_len (vars := vars) r m; unfold knowsT; simp only [List.length_cons]; omega
/-- where a check keeps its things -/
structure CA where
  p : Addr
  v : Addr
  d : Addr
def cfs (a : CA) (met : Nat) : List (Str × V) := [("variables", .ref a.v), ("kinds", .ref a.d), ("met", .int (met : Nat))]
structure CkAt (K : PySem.W.Frag) (C : Addr) (H : Hp) (a : CA) (vars : List Str) (m : Km) (met : Nat) : Prop where
  ob : ∃ dx, H a.p = some (.ins C dx (cfs a met))
  dc : H a.d = some (.dK (kk m))
  vs : SqT K H a.v (vars.map V.str)
/-- all stays but the check and its dict of kinds -/
def ButC (a : CA) (H H' : Hp) : Prop := ∀ b o, H b = some o → b ≠ a.p → b ≠ a.d → H' b = some o
theorem ButC.refl (a : CA) (H : Hp) : ButC a H H := fun _ _ e _ _ => e
theorem ButC.trans {a : CA} {H H1 H2 : Hp} (x : ButC a H H1) (y : ButC a H1 H2) : ButC a H H2 := fun c o e h1 h2 => y c o (x c o e h1 h2) h1 h2
theorem ButC.of {a : CA} {H H' : Hp} (e : Same H H') : ButC a H H' := fun c o h _ _ => e c o h
section
variable {K : PySem.W.Frag} {C : Addr} {H H' : Hp} {a : CA} {vars : List Str} {m m' : Km} {met met' : Nat}
theorem CkAt.same (c : CkAt K C H a vars m met) (e : Same H H') : CkAt K C H' a vars m met := by
  obtain ⟨⟨dx, ob⟩, dc, vs⟩ := c
  exact ⟨⟨dx, e _ _ ob⟩, e _ _ dc, sqt_same e vs⟩
/-- a tuple stays -/
theorem ButC.tup (b : ButC a H H') (c : CkAt K C H a vars m met) {t : Addr} {xs : List V} (h : SqT K H t xs) : SqT K H' t xs := by
  obtain ⟨⟨dx, ob⟩, dc, _⟩ := c
  rcases h with (h | ⟨o, h⟩) | h
  · exact .inl (.inl (b _ _ h (ne_of h ob (by intro z; cases z)) (ne_of h dc (by intro z; cases z))))
  · exact .inl (.inr ⟨o, b _ _ h (ne_of h ob (by intro z; cases z)) (ne_of h dc (by intro z; cases z))⟩)
  · exact .inr h
theorem ButC.lst (b : ButC a H H') (c : CkAt K C H a vars m met) {t : Addr} {xs : List V} (h : SqL K H t xs) : SqL K H' t xs := by
  obtain ⟨⟨dx, ob⟩, dc, _⟩ := c
  rcases h with (h | ⟨o, h⟩) | h
  · exact .inl (.inl (b _ _ h (ne_of h ob (by intro z; cases z)) (ne_of h dc (by intro z; cases z))))
  · exact .inl (.inr ⟨o, b _ _ h (ne_of h ob (by intro z; cases z)) (ne_of h dc (by intro z; cases z))⟩)
  · exact .inr h
mutual
theorem TrAt.but (b : ButC a H H') (c : CkAt K C H a vars m met) (c' : CkAt K C H' a vars m' met') : ∀ {v : V} {t : Tr}, TrAt K H v t → TrAt K H' v t
  | _, _, .non => .non
  | _, _, .bl b => .bl b
  | _, _, .int i => .int i
  | _, _, .str s h => .str s h
  | _, _, .lst h => .lst (b.lst c h)
  | _, _, .dct (a := x) (kvs := kvs) h => by
    by_cases z : x = a.d
    · rw [z]
      exact .dct c'.dc
    · obtain ⟨⟨dx, ob⟩, dc, _⟩ := c
      exact .dct (b _ _ h (ne_of h ob (by intro z; cases z)) z)
  | _, _, .tup h k => .tup (b.tup c h) (TrAll.but b c c' k)
theorem TrAll.but (b : ButC a H H') (c : CkAt K C H a vars m met) (c' : CkAt K C H' a vars m' met') : ∀ {vs : List V} {ts : List Tr}, TrAll K H vs ts → TrAll K H' vs ts
  | _, _, .nil => .nil
  | _, _, .cons h k => .cons (h.but b c c') (k.but b c c')
end
theorem CkAt.ne (c : CkAt K C H a vars m met) : a.p ≠ a.d := by
  obtain ⟨⟨dx, ob⟩, dc, _⟩ := c
  exact ne_of ob dc (by intro z; cases z)
end
structure TxK (K : PySem.W.Frag) (mg : Str → Option Value) (C : Addr) : Prop where
  cl : Cls K C
  nV : NoAttr K C "variables"
  nK : NoAttr K C "kinds"
  nM : NoAttr K C "met"
  mgC : mg "Check" = some (.ref C)
theorem cfs_v (a : CA) (n : Nat) : (cfs a n).lookup ("variables" : Str) = some (.ref a.v) := by rfl
theorem cfs_k (a : CA) (n : Nat) : (cfs a n).lookup ("kinds" : Str) = some (.ref a.d) := by rfl
theorem cfs_m (a : CA) (n : Nat) : (cfs a n).lookup ("met" : Str) = some (.int (n : Nat)) := by rfl
theorem put_met (a : CA) (n : Nat) : putF "met" (.int ((n : Int) + 1)) (cfs a n) = cfs a (n + 1) := by rfl
theorem cfs_no (a : CA) (n : Nat) {m : Str} (h1 : ¬ m = "variables") (h2 : ¬ m = "kinds") (h3 : ¬ m = "met") : (cfs a n).lookup m = none := by
  have e1 : (m == ("variables" : Str)) = false := beq_eq_false_iff_ne.mpr h1
  have e2 : (m == ("kinds" : Str)) = false := beq_eq_false_iff_ne.mpr h2
  have e3 : (m == ("met" : Str)) = false := beq_eq_false_iff_ne.mpr h3
  unfold cfs
  simp only [List.lookup, e1, e2, e3]
end BK


set_option Elab.async false
set_option maxRecDepth 100000
set_option maxHeartbeats 1000000
/-! knows. -/
namespace BK
open PySem PySem.Spec PyProof.Rows L2 RZ ET
abbrev cCheck : Stmt := top 32
abbrev sCInit : Stmt := inClass cCheck 0
abbrev sFault : Stmt := inClass cCheck 1
abbrev sTakes : Stmt := inClass cCheck 2
abbrev sKnows : Stmt := inClass cCheck 3
def spKnows (K : PySem.W.Frag) (C : Addr) : Sp := fun vs H Q _ => ∃ a v vars m met x rest ks, vs = [.ref a.p, v] ∧ CkAt K C H a vars m met ∧ m.length ≤ 900 ∧ TrAt K H v (.tup (.str x :: rest)) ∧ kindsOf x = some ks ∧ fitsT rest ks = true ∧
  ∀ H', CkAt K C H' a vars (knowsT vars (rest.zip ks) m).2 met → ButC a H H' → Q (.bl (knowsT vars (rest.zip ks) m).1) H'
theorem scKnows : FnScope ["self", "statement", "part", "kind", "is_variable"] ["self", "statement"] (defScope sKnows) := ⟨rfl, rfl, rfl, by decide +kernel, rfl, by decide +kernel, by decide +kernel⟩
theorem inV_two (a b z : Str) : inV (.str z) [.str a, .str b] = (decide (z = a) || decide (z = b)) := by
  have := in_txts z [a, b]
  rw [show [V.str a, V.str b] = [a, b].map V.str from rfl, this]
  simp
/-- a part of a slot's kind is a name -/
theorem slot_name {t : Tr} {k : Str} (h : partT t k = true) (s : slotK k = true) : ∃ z, t = .str z := by
  unfold slotK at s
  have e : nameT t = true := by
    rcases Bool.or_eq_true_iff.mp s with s | s
    · have e := of_decide_eq_true s
      subst e
      exact h
    · have e := of_decide_eq_true s
      subst e
      exact h
  cases t with
  | str z => exact ⟨z, rfl⟩
  | non => cases e
  | bl b => cases e
  | int i => cases e
  | lst => cases e
  | dct => cases e
  | tup ts => cases e
theorem slot_not_var {k : Str} (s : slotK k = true) : varK k = false := by
  unfold slotK at s
  rcases Bool.or_eq_true_iff.mp s with s | s
  · have e := of_decide_eq_true s
    subst e
    decide
  · have e := of_decide_eq_true s
    subst e
    decide
theorem knows_other {vars : List Str} {t : Tr} {k : Str} {r : List (Tr × Str)} {m : Km} (h : slotK k = false) (h2 : varK k = false ∨ isStr t = false) : knowsT vars ((t, k) :: r) m = knowsT vars r m := by
  cases t with
  | str s =>
    rcases h2 with h2 | h2
    · show (if slotK k = true then _ else (if varK k = true then _ else knowsT vars r m)) = knowsT vars r m
      rw [h, h2, if_neg Bool.false_ne_true, if_neg Bool.false_ne_true]
    · cases h2
  | _ => rfl
section
variable {P : Program} {w : World} {K : PySem.W.Frag} {mg : Str → Option Value} {base : Heap}
theorem ok_knows {C f fQ : Addr} {fd fdQ : FuncData} (F : Fun K "knows" "Check.knows" sKnows f fd) (T : Forms mg) (U : Kinds K mg) (X : TxK K mg C)
    (GQ : FnOk P w K mg base CX0 1 fQ fdQ ["statement"] (spParts K)) (bQ : Binds K fdQ ["statement"] []) (gQ : mg "parts_of" = some (.ref fQ)) (kQ : PySem.W.keepIn K (.ref fQ) = true) : FnOk P w K mg base CX0 2 f fd ["self", "statement"] (spKnows K C) := by
  refine F.ok scKnows (fun vs H Q E h => ?_) (fun cdv A outer s H vs Q E hr h => ?_)
  · obtain ⟨a, v, vars, m, met, x, rest, ks, rfl, _⟩ := h
    rfl
  · obtain ⟨a, v, vars, m, met, x, rest, ks, rfl, cA, ml, ht, ek, ef, k⟩ := h
    obtain ⟨aK, gK, sK⟩ := U.kd
    have hu := hu_of hr
    refine ⟨_, pss_cons (ps_for PassesOwn.never rfl (pi_list (pe_call GQ hr rfl gQ kQ bQ .nil pass0 (pa_cons (pv 1) pa_nil)))
        (pg_tup rfl (pgs_cons (pg_name (i := 2) scKnows.nd rfl (Or.inl rfl)) (pgs_cons (pg_name (i := 3) scKnows.nd rfl (Or.inl rfl)) pgs_nil)))
        (C8.pss_cut (ps_if (PW.pt (pw_and (pt_cmpR op_in_seq (pv 3) (pe_glob (v := .ref aK) rfl gK rfl) rfl)
            (pw_and1 (pt_cmpR op_ne (pe_dsetd (pe_fld (pv 0) rfl) (pv 2) (pv 3) ⟨rfl, rfl, rfl, rfl⟩) (pv 3) (nomark _))))) (pss_one (ps_ret pe_bl)) pss_nil)
        (pss_cons (ps_set (i := 4) scKnows.nd rfl (Or.inl rfl) (pe_and (pe_cmpR op_in_seq (pv 3) (pe_tup (pa_cons pe_str (pa_cons pe_str pa_nil))) rfl)
            (pe_one (pe_callB call_isi (by rfl) T.isi boot_isinstance (pa_cons (pv 2) (pa_cons (pe_bltn (v := .ty "str") (u := .type "str") (by rfl) T.str (by decide +kernel) rfl) pa_nil))))))
        (pss_one (ps_if (PW.pt (pw_and (pt_val (pv 4)) (pw_and1 (pt_cmpR op_notIn_seq (pv 2) (pe_fld (pv 0) rfl) rfl)))) (pss_one (ps_ret pe_bl)) pss_nil)))))
      (pss_one (ps_ret pe_bl)), ?_⟩
    have el : rest.length = ks.length := by
      unfold fitsT at ef
      exact of_decide_eq_true (Bool.and_eq_true_iff.mp ef).1
    have ep : ∀ p ∈ rest.zip ks, partT p.1 p.2 = true := by
      unfold fitsT at ef
      exact List.all_eq_true.mp (Bool.and_eq_true_iff.mp ef).2
    have kl := kinds_few ek
    refine ⟨_, rfl, v, x, rest, ks, rfl, ht, ek, el, fun L ts H1 s1 eL lt at1 => ?_⟩
    have c1 := cA.same s1
    have zl : (rest.zip ks).length = ts.length := by rw [List.length_zip]; omega
    refine ⟨L, rfl, ⟨_, SqL.of eL⟩, for_list (K := K) (a := L) (xs := ts.map V.ref) (fun i σ H2 => ∃ (v2 v3 v4 : Option V) (mi : Km), σ = [some (.ref a.p), some v, v2, v3, v4] ∧ CkAt K C H2 a vars mi met ∧ ButC a H1 H2 ∧ knowsT vars (rest.zip ks) m = knowsT vars ((rest.zip ks).drop i) mi ∧ mi.length ≤ m.length + i)
      ⟨none, none, none, m, rfl, c1, ButC.refl _ _, rfl, Nat.le_refl _⟩ (fun i σ H2 _ ⟨_, _, _, mi, _, c2, b2, _⟩ => b2.lst c1 (SqL.of eL)) ?_ ?_⟩
    · rintro i y σ H2 hi ⟨v2, v3, v4, mi, rfl, c2, b2, e2, l2⟩
      rw [List.getElem?_map] at hi
      cases eT : ts[i]? with
      | none => rw [eT] at hi; cases hi
      | some U =>
      rw [eT] at hi
      obtain rfl : V.ref U = y := Option.some.inj hi
      obtain ⟨y', t', k', q1, q2, q3, q4⟩ := at1 i U eT
      have ez : (rest.zip ks)[i]? = some (t', k') := List.getElem?_zip_eq_some.mpr ⟨q1, q2⟩
      have il : i < (rest.zip ks).length := (List.getElem?_eq_some_iff.mp ez).1
      have ed : (rest.zip ks).drop i = (t', k') :: (rest.zip ks).drop (i + 1) := by
        rw [List.drop_eq_getElem_cons il]
        congr 1
        exact Option.some.inj ((List.getElem?_eq_getElem il).symm.trans ez)
      rw [ed] at e2
      have pt := ep _ (List.mem_of_getElem? ez)
      have ty : TrAt K H2 y' t' := q3.but b2 c1 c2
      refine ⟨U, _, rfl, b2.tup c1 (SqT.of q4), rfl, _, _, rfl, _, _, rfl, rfl, ?_⟩
      obtain ⟨⟨dx, ob⟩, dc, vs⟩ := id c2
      -- the slots' kinds
      refine ⟨fun σ H3 => ∃ mj : Km, σ = [some (.ref a.p), some v, some y', some (.str k'), v4] ∧ CkAt K C H3 a vars mj met ∧ ButC a H1 H3 ∧ mj.length ≤ m.length + (i + 1) ∧ (slotK k' = true → knowsT vars (rest.zip ks) m = knowsT vars ((rest.zip ks).drop (i + 1)) mj) ∧ (slotK k' = false → mj = mi), ?_, ?_⟩
      · refine ⟨_, rfl, aK, _, rfl, .inr (sK _), rfl, rfl, _, rfl, ?_⟩
        rw [show inV (.str k') [.str "context", .str "token"] = slotK k' from inV_two _ _ _]
        refine ite2 (fun hs => ?_) (fun hs => ?_)
        · have hs : slotK k' = true := hs
          obtain ⟨z, rfl⟩ := slot_name pt hs
          cases ty with
          | str _ hz =>
          have eq : knowsT vars (rest.zip ks) m = (match kget mi z with
              | none => knowsT vars ((rest.zip ks).drop (i + 1)) (mi ++ [(z, k')])
              | some k2 => if k2 = k' then knowsT vars ((rest.zip ks).drop (i + 1)) mi else (false, mi)) := by
            rw [e2]
            show (if slotK k' = true then _ else _) = _
            rw [if_pos hs]
            all_goals (cases kget mi z <;> rfl)
          refine ⟨_, rfl, a.p, C, dx, _, _, rfl, ob, X.cl, X.nK, cfs_k a met, a.d, rfl, .inl ⟨_, .inl dc⟩, _, rfl, _, rfl, kk mi, .inr z, dc, rfl, small1000 (by rw [kk_len]; rw [zl, lt] at il; omega), fun w hw => ?_, fun hno => ?_⟩
          · rw [valV_kk] at hw
            cases eg : kget mi z with
            | none => rw [eg] at hw; cases hw
            | some k2 =>
              rw [eg] at hw eq
              obtain rfl : V.str k2 = w := Option.some.inj hw
              refine ⟨_, rfl, rfl, _, rfl, ?_⟩
              rw [show decide (V.str k2 = V.str k') = decide (k2 = k') from eq_txt _ _]
              by_cases h2 : k2 = k'
              · rw [decide_eq_true h2]
                have e4 : knowsT vars (rest.zip ks) m = knowsT vars ((rest.zip ks).drop (i + 1)) mi := by
                  rw [eq]
                  exact if_pos h2
                exact iteF ⟨mi, rfl, c2, b2, by omega, fun _ => e4, fun hn => Bool.noConfusion (hs.symm.trans hn)⟩
              · rw [decide_eq_false h2]
                refine iteT ?_
                have e4 : knowsT vars (rest.zip ks) m = (false, mi) := by
                  rw [eq]
                  exact if_neg h2
                have q := k H2 (by rw [e4]; exact c2) ((ButC.of s1).trans b2)
                rw [e4] at q
                exact q
          · rw [valV_kk] at hno
            cases eg : kget mi z with
            | some k2 => rw [eg] at hno; cases hno
            | none =>
              rw [eg] at eq
              rw [putK_kk eg]
              refine ⟨_, rfl, rfl, _, rfl, ?_⟩
              rw [show decide (V.str k' = V.str k') = true from decide_eq_true rfl]
              have ne := c2.ne
              refine iteF ⟨mi ++ [(z, k')], rfl, ⟨⟨dx, by rw [upd_ne ne]; exact ob⟩, upd_same, ?_⟩, fun b o e h1 h2 => ?_, by rw [List.length_append]; simp; omega, fun _ => eq, fun hn => ?_⟩
              · rcases vs with (h | ⟨o, h⟩) | h
                · exact .inl (.inl (by rw [upd_ne (ne_of h dc (by intro z; cases z))]; exact h))
                · exact .inl (.inr ⟨o, by rw [upd_ne (ne_of h dc (by intro z; cases z))]; exact h⟩)
                · exact .inr h
              · rw [upd_ne h2]
                exact b2 b o e h1 h2
              · rw [hs] at hn; cases hn
        · have hs' : slotK k' = false := by
            have : ¬ (slotK k' = true) := hs
            simpa using this
          exact ⟨mi, rfl, c2, b2, by omega, fun z => Bool.noConfusion (hs'.symm.trans z), fun _ => rfl⟩
      rintro σ H3 ⟨mj, rfl, c3, b3, l3, yes, no⟩
      have ty3 : TrAt K H3 y' t' := q3.but b3 c1 c3
      obtain ⟨⟨dx3, ob3⟩, dc3, vs3⟩ := id c3
      refine ⟨_, rfl, (by show 2 ≤ sizeLine; decide), fun tp ntp => ?_⟩
      have s4 := same_new (o := .tup [.str "variable", .str "source"]) ntp
      refine ⟨tp, _, rfl, .inr (SqT.of upd_same), rfl, rfl, _, rfl, ?_⟩
      rw [show inV (.str k') [.str "variable", .str "source"] = varK k' from inV_two _ _ _]
      have fin : ∀ (v4 : Option V), knowsT vars (rest.zip ks) m = knowsT vars ((rest.zip ks).drop (i + 1)) mj → ∃ (v2 v3 v4' : Option V) (mi : Km), [some (V.ref a.p), some v, some y', some (V.str k'), v4] = [some (.ref a.p), some v, v2, v3, v4'] ∧ CkAt K C (upd H3 tp (.tup [.str "variable", .str "source"])) a vars mi met ∧
          ButC a H1 (upd H3 tp (.tup [.str "variable", .str "source"])) ∧ knowsT vars (rest.zip ks) m = knowsT vars ((rest.zip ks).drop (i + 1)) mi ∧ mi.length ≤ m.length + (i + 1) := fun v4 e => ⟨_, _, _, mj, rfl, c3.same s4, b3.trans (ButC.of s4), e, l3⟩
      cases hs : slotK k' with
      | true =>
        rw [slot_not_var hs]
        exact iteF ⟨_, rfl, _, rfl, iteF (fin _ (yes hs))⟩
      | false =>
        have em := no hs
        subst em
        cases hv : varK k' with
        | false =>
          refine iteF ⟨_, rfl, _, rfl, iteF (fin _ ?_)⟩
          rw [e2]
          exact knows_other hs (.inl hv)
        | true =>
          refine iteT ⟨_, rfl, y', .ty "str", .type (tyT t'), .type "str", isStr t', rfl, .ty "str", (ty3.same s4).ty, k_str K t', ?_⟩
          refine ⟨_, rfl, _, rfl, ?_⟩
          cases ei : isStr t' with
          | false =>
            refine iteF (fin _ ?_)
            rw [e2]
            exact knows_other hs (.inr ei)
          | true =>
            obtain ⟨z, rfl⟩ : ∃ z, t' = .str z := by
              cases t' with
              | str z => exact ⟨z, rfl⟩
              | _ => cases ei
            cases ty3 with
            | str _ hz =>
            have e5 : knowsT vars (rest.zip ks) m = if z ∈ vars then knowsT vars ((rest.zip ks).drop (i + 1)) mj else (false, mj) := by
              rw [e2]
              show (if slotK k' = true then _ else (if varK k' = true then _ else _)) = _
              rw [hs, hv, if_neg Bool.false_ne_true, if_pos rfl]
            refine iteT ⟨_, rfl, _, rfl, a.p, C, dx3, _, _, rfl, s4 _ _ ob3, X.cl, X.nV, cfs_v a met, a.v, _, rfl, .inr (sqt_same s4 vs3), rfl, flat_txts vars, _, rfl, ?_⟩
            rw [in_txts]
            by_cases hm : z ∈ vars
            · rw [decide_eq_true hm]
              refine iteF (fin _ ?_)
              rw [e5, if_pos hm]
            · rw [decide_eq_false hm]
              refine iteT ?_
              rw [if_neg hm] at e5
              have q := k (upd H3 tp (.tup [.str "variable", .str "source"])) (by rw [e5]; exact c3.same s4) (((ButC.of s1).trans b3).trans (ButC.of s4))
              rw [e5] at q
              exact q
    · rintro σ H2 ⟨v2, v3, v4, mi, rfl, c2, b2, e2, _⟩
      have e3 : (rest.zip ks).drop (ts.map V.ref).length = [] := by
        rw [List.length_map, ← zl, List.drop_length]
      rw [e3] at e2
      have e4 : knowsT vars (rest.zip ks) m = (true, mi) := e2
      have q := k H2 (by rw [e4]; exact c2) ((ButC.of s1).trans b2)
      rw [e4] at q
      exact q
end
end BK


set_option Elab.async false
set_option maxRecDepth 100000
set_option maxHeartbeats 1000000
/-! takes; __init__. -/
namespace BK
open PySem PySem.Spec PyProof.Rows L2 RZ ET
def takesT (vars : List Str) (t : Tr) (as : List Str) (m : Km) (n : Nat) : Bool × Km :=
  if 16 < n ∨ 4 < as.length then (false, m) else match t with
    | .tup (.str x :: rest) => match kindsOf x with
      | some ks => if fitsT rest ks = true then ((knowsT vars (rest.zip ks) m).1 && canT x rest as, (knowsT vars (rest.zip ks) m).2) else (false, m)
      | none => (false, m)
    | _ => (false, m)
def spTakes (K : PySem.W.Frag) (C : Addr) : Sp := fun vs H Q _ => ∃ a v ar vars m met t as, vs = [.ref a.p, v, .ref ar] ∧ CkAt K C H a vars m met ∧ m.length ≤ 900 ∧ TrAt K H v t ∧ SqT K H ar (as.map V.str) ∧
  ∀ H', CkAt K C H' a vars (takesT vars t as m (met + 1)).2 (met + 1) → ButC a H H' → Q (.bl (takesT vars t as m (met + 1)).1) H'
theorem scTakes : FnScope ["self", "statement", "around"] ["self", "statement", "around"] (defScope sTakes) := ⟨rfl, rfl, rfl, by decide +kernel, rfl, by decide +kernel, by decide +kernel⟩
theorem loop_kinds : kindsOf ("loop" : Str) = some [("block" : Str)] := by decide +kernel
theorem form_parts {x : Str} {rest : List Tr} (h : formT (.tup (.str x :: rest)) = true) : ∃ ks, kindsOf x = some ks ∧ fitsT rest ks = true := by
  have h : (match kindsOf x with
    | some ks => fitsT rest ks
    | none => false) = true := h
  cases e : kindsOf x with
  | none => rw [e] at h; cases h
  | some ks => rw [e] at h; exact ⟨ks, rfl, h⟩
theorem loop_block {rest : List Tr} {ks : List Str} (e : kindsOf ("loop" : Str) = some ks) (h : fitsT rest ks = true) : ∃ ts r, rest = .tup ts :: r := by
  rw [loop_kinds] at e
  obtain rfl := Option.some.inj e
  unfold fitsT at h
  obtain ⟨h1, h2⟩ := Bool.and_eq_true_iff.mp h
  have h1 := of_decide_eq_true h1
  match rest, h1 with
  | [t], _ =>
    have h2 : (partT t "block" && true) = true := h2
    rw [Bool.and_true] at h2
    have h3 : isTup t = true := h2
    cases t with
    | tup ts => exact ⟨ts, [], rfl⟩
    | _ => cases h3
theorem gt_cast (n : Nat) (k : Nat) : decide ((n : Int) > (k : Int)) = decide (k < n) := by
  by_cases h : k < n
  · rw [decide_eq_true h]
    exact decide_eq_true (by omega)
  · rw [decide_eq_false h]
    exact decide_eq_false (by omega)
structure Most (mg : Str → Option Value) : Prop where
  ms : ∃ t, mg "MOST_STATEMENTS" = some (.int 16 t)
  ma : ∃ t, mg "MOST_AROUND" = some (.int 4 t)
section
variable {P : Program} {w : World} {K : PySem.W.Frag} {mg : Str → Option Value} {base : Heap}
theorem ok_takes {C f fF fK fC : Addr} {fd fdF fdK fdC : FuncData} (F : Fun K "takes" "Check.takes" sTakes f fd) (T : Forms mg) (M : Most mg) (X : TxK K mg C)
    (GF : FnOk P w K mg base CX0 5 fF fdF ["thing"] (spOf formT K)) (bF : Binds K fdF ["thing"] []) (gF : mg "has_form" = some (.ref fF)) (kF : PySem.W.keepIn K (.ref fF) = true)
    (GK : FnOk P w K mg base CX0 2 fK fdK ["self", "statement"] (spKnows K C)) (bK : Binds K fdK ["self", "statement"] []) (mK : Meth K C "knows" fK)
    (GC : FnOk P w K mg base CX0 7 fC fdC ["statement", "around"] (spCan K)) (bC : Binds K fdC ["statement", "around"] []) (gC : mg "can_stand" = some (.ref fC)) (kC : PySem.W.keepIn K (.ref fC) = true) :
    FnOk P w K mg base CX0 8 f fd ["self", "statement", "around"] (spTakes K C) := by
  refine F.ok scTakes (fun vs H Q E h => ?_) (fun cdv A outer s H vs Q E hr h => ?_)
  · obtain ⟨a, v, ar, vars, m, met, t, as, rfl, _⟩ := h
    rfl
  · obtain ⟨a, v, ar, vars, m, met, t, as, rfl, cA, ml, ht, sa, k⟩ := h
    obtain ⟨t1, gS⟩ := M.ms
    obtain ⟨t2, gA⟩ := M.ma
    have hr5 : Room 5 _ := hr.mono (by decide)
    have hr2 : Room 2 _ := hr.mono (by decide)
    refine ⟨_, C8.pss_cut (ps_fldaug (pv 0) pe_int in_add)
      (pss_cons (ps_if (PW.pt (pw_or (pt_cmpR op_gt (pe_fld (pv 0) rfl) (pe_glob (v := .int 16) rfl gS ⟨_, rfl⟩) rfl)
          (pw_or1 (pt_cmpR op_gt (pe_callB call_len_seq (by rfl) T.len boot_len (pa_cons (pv 2) pa_nil)) (pe_glob (v := .int 4) rfl gA ⟨_, rfl⟩) rfl)))) (pss_one (ps_ret pe_bl)) pss_nil)
      (pss_one (ps_ret (pe_and (pe_call GF hr5 rfl gF kF bF .nil pass0 (pa_cons (pv 1) pa_nil)) (pe_and (pe_meth (pv 0) X.cl mK GK hr2 bK .nil pass0 (pa_cons (pv 1) pa_nil))
        (pe_one (pe_call GC hr rfl gC kC bC .nil pass0 (pa_cons (pv 1) (pa_cons (pv 2) pa_nil))))))))), ?_⟩
    obtain ⟨⟨dx, ob⟩, dc, vs⟩ := id cA
    have ne := cA.ne
    refine ⟨fun σ H1 => σ = [some (.ref a.p), some v, some (.ref ar)] ∧ CkAt K C H1 a vars m (met + 1) ∧ ButC a H H1, ?_, ?_⟩
    · refine ⟨_, rfl, a.p, C, dx, _, _, rfl, ob, X.cl, X.nM, cfs_m a met, _, _, rfl, rfl, dx, _, ob, (by decide : 3 < 1000), rfl, ⟨⟨dx, upd_same⟩, ?_, ?_⟩, fun b o e h1 _ => ?_⟩
      · rw [upd_ne ne.symm]; exact dc
      · rcases vs with (h | ⟨o, h⟩) | h
        · exact .inl (.inl (by rw [upd_ne (ne_of h ob (by intro z; cases z))]; exact h))
        · exact .inl (.inr ⟨o, by rw [upd_ne (ne_of h ob (by intro z; cases z))]; exact h⟩)
        · exact .inr h
      · rw [upd_ne h1]; exact e
    rintro σ H1 ⟨rfl, c1, b1⟩
    have ht1 := ht.but b1 cA c1
    have sa1 := b1.tup cA sa
    obtain ⟨⟨dx1, ob1⟩, dc1, vs1⟩ := id c1
    have over : 16 < met + 1 ∨ 4 < as.length → Q (.bl false) H1 := fun z => by
      have e : takesT vars t as m (met + 1) = (false, m) := if_pos z
      have q := k H1 (by rw [e]; exact c1) b1
      rw [e] at q
      exact q
    refine ⟨_, rfl, a.p, C, dx1, _, _, rfl, ob1, X.cl, X.nM, cfs_m a (met + 1), _, _, rfl, rfl, _, rfl, ?_⟩
    rw [show decide (((met + 1 : Nat) : Int) > 16) = decide (16 < met + 1) from gt_cast (met + 1) 16]
    refine ite2 (fun z => ?_) (fun z => ?_)
    · exact over (.inl (of_decide_eq_true z))
    have n1 : ¬ 16 < met + 1 := fun q => z (decide_eq_true q)
    refine ⟨_, rfl, ar, _, rfl, .inr sa1, _, _, rfl, rfl, _, rfl, ?_⟩
    rw [show decide (((as.map V.str).length : Int) > 4) = decide (4 < as.length) by rw [List.length_map]; exact gt_cast as.length 4]
    refine ite2 (fun z => ?_) (fun z => ?_)
    · exact over (.inr (of_decide_eq_true z))
    have n2 : ¬ 4 < as.length := fun q => z (decide_eq_true q)
    have n3 : ¬ (16 < met + 1 ∨ 4 < as.length) := fun q => q.elim n1 n2
    refine ⟨_, rfl, v, t, rfl, ht1, fun H2 s2 => ⟨_, rfl, ?_⟩⟩
    have c2 := c1.same s2
    have b2 := b1.trans (ButC.of s2)
    cases ef : formT t with
    | false =>
      refine iteF ?_
      have e : takesT vars t as m (met + 1) = (false, m) := by
        unfold takesT
        rw [if_neg n3]
        split
        · rename_i x rest
          have ef : (match kindsOf x with
            | some ks => fitsT rest ks
            | none => false) = false := ef
          cases ek : kindsOf x with
          | none => rfl
          | some ks =>
            rw [ek] at ef
            have ef : fitsT rest ks = false := ef
            simp only
            rw [ef, if_neg Bool.false_ne_true]
        · rfl
      have q := k H2 (by rw [e]; exact c2) b2
      rw [e] at q
      exact q
    | true =>
      obtain ⟨x, rest, rfl⟩ := form_shape ef
      obtain ⟨ks, ek, e1⟩ := form_parts ef
      have e : takesT vars (.tup (.str x :: rest)) as m (met + 1) = ((knowsT vars (rest.zip ks) m).1 && canT x rest as, (knowsT vars (rest.zip ks) m).2) := by
        unfold takesT
        rw [if_neg n3]
        simp only
        rw [ek]
        simp only
        rw [if_pos e1]
      rw [e] at k
      refine iteT ⟨_, rfl, a.p, dx1, _, rfl, s2 _ _ ob1, cfs_no a _ (by decide +kernel) (by decide +kernel) (by decide +kernel), _, rfl, a, v, vars, m, met + 1, x, rest, ks, rfl, c2, ml, ht1.same s2, ek, e1, fun H3 c3 b3 => ⟨_, rfl, ?_⟩⟩
      have b4 := b2.trans b3
      cases e5 : (knowsT vars (rest.zip ks) m).1 with
      | false =>
        have q := k H3 c3 b4
        rw [e5, Bool.false_and] at q
        exact iteF q
      | true =>
        refine iteT ⟨_, rfl, _, rfl, v, ar, x, rest, as, rfl, (ht1.same s2).but b3 c2 c3, b3.tup c2 (sqt_same s2 sa1), fun q => ?_, fun H4 s4 => ?_⟩
        · subst q
          exact loop_block ek e1
        · have q := k H4 (c3.same s4) (b4.trans (ButC.of s4))
          rw [e5, Bool.true_and] at q
          exact q
end
end BK


set_option Elab.async false
set_option maxRecDepth 100000
set_option maxHeartbeats 1000000
/-! Check's __init__. -/
namespace BK
open PySem PySem.Spec PyProof.Rows L2 RZ ET
def pairKm : Tr → Option (Str × Str)
  | .tup [.str s, .str k] => some (s, k)
  | _ => none
def kindsP : Tr → Km
  | .tup ts => ts.filterMap pairKm
  | _ => []
theorem kget_none {m : Km} {s : Str} (h : s ∉ m.map (·.1)) : kget m s = none := by
  unfold kget
  have : m.find? (fun e => decide (e.1 = s)) = none := by
    rw [List.find?_eq_none]
    intro e he
    simp only [decide_eq_true_eq]
    intro q
    exact h (List.mem_map.mpr ⟨e, he, q⟩)
  rw [this]
  rfl
theorem kind_str {t : Tr} (h : kindT t = true) : ∃ k, t = .str k := by
  cases t with
  | str k => exact ⟨k, rfl⟩
  | _ => cases h
theorem name_str {t : Tr} (h : nameT t = true) : ∃ k, t = .str k := by
  cases t with
  | str k => exact ⟨k, rfl⟩
  | _ => cases h
theorem param_shape {t : Tr} (h : paramT t = true) (n : nameT (firstT t) = true) : ∃ s k, t = .tup [.str s, .str k] ∧ kindT (.str k) = true := by
  obtain ⟨s, k, rfl⟩ := param_two h
  have h : kindT k = true := h
  have n : nameT s = true := n
  obtain ⟨k', rfl⟩ := kind_str h
  obtain ⟨s', rfl⟩ := name_str n
  exact ⟨s', k', rfl, h⟩
theorem kinds_keys : ∀ {ts : List Tr}, ts.all paramT = true → (ts.map firstT).all nameT = true → (ts.filterMap pairKm).map (·.1) = texts (ts.map firstT)
  | [], _, _ => rfl
  | t :: r, h, n => by
    rw [List.all_cons, Bool.and_eq_true] at h
    rw [List.map_cons, List.all_cons, Bool.and_eq_true] at n
    obtain ⟨s, k, rfl, _⟩ := param_shape h.1 n.1
    have ih := kinds_keys h.2 n.2
    show s :: (r.filterMap pairKm).map (·.1) = s :: texts (r.map firstT)
    rw [ih]
theorem params_split {ts : List Tr} (h : paramsT (.tup ts) = true) : ts.length ≤ 2 ∧ ts.all paramT = true ∧ (ts.map firstT).all nameT = true ∧ (texts (ts.map firstT)).Nodup := by
  rw [params_tup, Bool.and_eq_true, Bool.and_eq_true] at h
  obtain ⟨⟨h1, h2⟩, h3⟩ := h
  unfold diffT at h3
  rw [Bool.and_eq_true] at h3
  exact ⟨of_decide_eq_true h1, h2, h3.1, of_decide_eq_true h3.2⟩
theorem kindsP_len {t : Tr} (h : paramsT t = true) : (kindsP t).length ≤ 2 := by
  cases t with
  | tup ts =>
    have := (params_split h).1
    exact Nat.le_trans (List.length_filterMap_le _ _) this
  | _ => cases h
def spCInit (K : PySem.W.Frag) (C : Addr) : Sp := fun vs H Q _ => ∃ (x dx va : Addr) (pv : V) (vars : List Str) (pt : Tr), vs = [.ref x, .ref va, pv] ∧ H x = some (.ins C dx []) ∧ SqT K H va (vars.map V.str) ∧ TrAt K H pv pt ∧ paramsT pt = true ∧
  ∀ (d : Addr) (H' : Hp), H d = none → CkAt K C H' ⟨x, va, d⟩ vars (kindsP pt) 0 → (∀ b o, H b = some o → b ≠ x → H' b = some o) → Q .non H'
theorem scCInit : FnScope ["self", "variables", "params", "slot", "kind"] ["self", "variables", "params"] (defScope sCInit) := ⟨rfl, rfl, rfl, by decide +kernel, rfl, by decide +kernel, by decide +kernel⟩
section
variable {P : Program} {w : World} {K : PySem.W.Frag} {mg : Str → Option Value} {base : Heap}
theorem ok_cinit {C f : Addr} {fd : FuncData} (F : Fun K "__init__" "Check.__init__" sCInit f fd) (X : TxK K mg C) : FnOk P w K mg base CX0 1 f fd ["self", "variables", "params"] (spCInit K C) := by
  refine F.ok scCInit (fun vs H Q E h => ?_) (fun cdv A outer s H vs Q E hr h => ?_)
  · obtain ⟨x, dx, va, pv, vars, pt, rfl, _⟩ := h
    rfl
  · obtain ⟨x, dx, va, pvv, vars, pt, rfl, ob, sv, tp, hp, k⟩ := h
    have hu := hu_of hr
    refine ⟨_, pss_cons (ps_fld (pv 0) (pv 1) rfl)
      (pss_cons (ps_fld (pv 0) (pe_dc (own := [("slot", 3), ("kind", 4)]) (g := gTup K 2 (gCons (gName 3) (gCons (gName 4) gNil))) (tt := tYes) rfl scCInit.nd (pi_tup (pv 2))
          (blkOk_by (N := ["self", "variables", "params", "slot", "kind"]) (sc := defScope sCInit) (by decide +kernel))
          (fun _ _ _ _ _ => by exact pg_tup rfl (pgs_cons (pg_name (i := 3) scCInit.nd rfl (Or.inl rfl)) (pgs_cons (pg_name (i := 4) scCInit.nd rfl (Or.inl rfl)) pgs_nil))) (fun _ _ _ _ _ => pts_nil)
          (fun _ _ _ _ _ => pv 3) (fun _ _ _ _ _ => pv 4)) rfl)
      (pss_one (ps_fld (pv 0) pe_int rfl))), ?_⟩
    have keepT : ∀ {H1 H2 : Hp} {t : Addr} {xs : List V} {fs : List (Str × V)}, H1 x = some (.ins C dx fs) → (∀ b o, H1 b = some o → b ≠ x → H2 b = some o) → SqT K H1 t xs → SqT K H2 t xs := fun {H1 H2 t xs fs} e1 kp h => by
      rcases h with (h | ⟨o, h⟩) | h
      · exact .inl (.inl (kp _ _ h (ne_of h e1 (by intro z; cases z))))
      · exact .inl (.inr ⟨o, kp _ _ h (ne_of h e1 (by intro z; cases z))⟩)
      · exact .inr h
    cases tp with
    | @tup pa xs ts hT tr =>
    obtain ⟨l2, hall, hnm, hnd⟩ := params_split hp
    refine ⟨_, rfl, _, rfl, x, C, dx, _, rfl, ob, X.cl, X.nV, by decide, ?_⟩
    have kp1 : ∀ o b u, H b = some u → b ≠ x → (upd H x o) b = some u := fun o b u e n => by rw [upd_ne n]; exact e
    have hT1 := keepT ob (kp1 (.ins C dx (putF "variables" (.ref va) []))) hT
    have ob1 : (upd H x (.ins C dx (putF "variables" (.ref va) []))) x = some (.ins C dx [("variables", .ref va)]) := upd_same
    have k1 := kp1 (.ins C dx (putF "variables" (.ref va) []))
    generalize upd H x (.ins C dx (putF "variables" (.ref va) [])) = H1 at hT1 ob1 k1 ⊢
    have tr1 : TrAll K H1 xs ts := by
      have sm : ∀ b o, H b = some o → b ≠ x → H1 b = some o := k1
      have one : ∀ {v : V} {t : Tr}, TrAt K H v t → paramT t = true → nameT (firstT t) = true → TrAt K H1 v t := fun {v t} h p n => by
        obtain ⟨s, kd, rfl, _⟩ := param_shape p n
        cases h with
        | @tup b ys _ hb tb =>
        cases tb with
        | cons h1 r1 =>
        cases r1 with
        | cons h2 r2 =>
        cases r2 with
        | nil =>
        cases h1 with
        | str _ z1 =>
        cases h2 with
        | str _ z2 => exact .tup (keepT ob sm hb) (.cons (.str _ z1) (.cons (.str _ z2) .nil))
      have all : ∀ {vs : List V} {us : List Tr}, TrAll K H vs us → us.all paramT = true → (us.map firstT).all nameT = true → TrAll K H1 vs us := fun {vs us} h => by
        induction vs generalizing us with
        | nil => cases h; exact fun _ _ => .nil
        | cons v r ih =>
          cases h with
          | cons h1 h2 =>
            intro p n
            rw [List.all_cons, Bool.and_eq_true] at p
            rw [List.map_cons, List.all_cons, Bool.and_eq_true] at n
            exact .cons (one h1 p.1 n.1) (ih h2 p.2 n.2)
      exact all tr hall hnm
    refine ⟨_, rfl, pa, rfl, ⟨_, hT1⟩, fun D nD => ?_⟩
    have sD := same_new (o := .dK []) nD
    have nxD : x ≠ D := ne_of_none ob1 nD
    refine dc_tup (K := K) (a := pa) (xs := xs) (fun i H2 => H2 D = some (.dK (kk ((ts.take i).filterMap pairKm))) ∧ ∀ b o, H1 b = some o → H2 b = some o)
      ⟨upd_same, sD⟩ (fun i H2 _ ⟨_, s2⟩ => sqt_same s2 hT1) ?_ ?_
    · rintro i y H2 hi ⟨e2, s2⟩
      obtain ⟨t, ht, ty⟩ := (tr1.same s2).get hi
      have pt : paramT t = true := List.all_eq_true.mp hall t (List.mem_of_getElem? ht)
      have nt : nameT (firstT t) = true := List.all_eq_true.mp hnm _ (List.mem_map.mpr ⟨t, List.mem_of_getElem? ht, rfl⟩)
      obtain ⟨s, kd, rfl, hkd⟩ := param_shape pt nt
      have il : i < ts.length := (List.getElem?_eq_some_iff.mp ht).1
      have et : ts.take (i + 1) = ts.take i ++ [.tup [.str s, .str kd]] := by rw [List.take_add_one, ht]; rfl
      cases ty with
      | @tup b ys _ hb tb =>
      have l2 := tb.len
      cases tb with
      | cons h1 r1 =>
      cases r1 with
      | cons h2 r2 =>
      cases r2 with
      | nil =>
      cases h1 with
      | str _ z1 =>
      cases h2 with
      | str _ z2 =>
      refine ⟨b, _, rfl, hb, rfl, _, _, rfl, _, _, rfl, rfl, rfl, ?_⟩
      refine tyes ?_
      refine ⟨_, rfl, _, rfl, _, .inr s, rfl, e2, small1000 ?_, ?_, fun b o e => ?_⟩
      · rw [kk_len]
        have := List.length_filterMap_le pairKm (ts.take i)
        rw [List.length_take] at this
        omega
      · rw [upd_same, et, List.filterMap_append]
        have hk : (ts.filterMap pairKm).map (·.1) = texts (ts.map firstT) := kinds_keys hall hnm
        have none_ : kget ((ts.take i).filterMap pairKm) s = none := by
          refine kget_none fun hm => ?_
          rw [← hk] at hnd
          have ed : ts = ts.take i ++ (.tup [.str s, .str kd]) :: ts.drop (i + 1) := by
            have e1 := (List.take_append_drop i ts).symm
            rw [List.drop_eq_getElem_cons il] at e1
            rw [(Option.some.inj ((List.getElem?_eq_getElem il).symm.trans ht))] at e1
            exact e1
          rw [ed, List.filterMap_append, List.map_append] at hnd
          have := (List.nodup_append.mp hnd).2.2 _ hm s List.mem_cons_self
          exact this rfl
        rw [putK_kk none_]
        rfl
      · rw [upd_ne (ne_of_none e nD)]
        exact s2 b o e
    · rintro H2 ⟨e2, s2⟩
      have et : ts.take xs.length = ts := by rw [tr.len, List.take_length]
      rw [et] at e2
      refine ⟨_, rfl, x, C, dx, _, rfl, s2 _ _ ob1, X.cl, X.nK, (show 1 < 1000 by decide), ?_⟩
      refine ⟨_, rfl, x, C, dx, _, rfl, upd_same, X.cl, X.nM, (show 2 < 1000 by decide), ?_⟩
      have hD0 : H D = none := by
        cases e : H D with
        | none => rfl
        | some o =>
          by_cases z : D = x
          · exact absurd z.symm nxD
          · rw [k1 _ _ e z] at nD; cases nD
      refine k D _ hD0 ⟨⟨dx, upd_same⟩, ?_, ?_⟩ fun b o e n => ?_
      · rw [upd_ne nxD.symm, upd_ne nxD.symm]
        exact e2
      · refine keepT (H1 := H2) (s2 _ _ ob1) (fun b o e n => ?_) (sqt_same s2 (keepT ob k1 sv))
        rw [upd_ne n, upd_ne n]
        exact e
      · rw [upd_ne n, upd_ne n]
        exact s2 _ _ (k1 _ _ e n)
    | _ => cases hp
end
end BK


set_option Elab.async false
set_option maxRecDepth 100000
set_option maxHeartbeats 2000000
/-! fault_in. -/
namespace BK
open PySem PySem.Spec PyProof.Rows L2 RZ ET
def tupTs : Tr → List Tr
  | .tup ts => ts
  | _ => []
def blocksT (t : Tr) : List (List Tr) := ((tupTs t).filter isTup).map tupTs
def wordS : Tr → Str
  | .tup (.str w :: _) => w
  | _ => Str.empty
abbrev Ck := Km × Nat
abbrev Fl := Option (List Nat) × Ck
def blocksIn (f : List Tr → Ck → Fl) : List (List Tr) → Nat → Ck → Fl
  | [], _, c => (none, c)
  | b :: r, j, c => match f b c with
    | (some w, c') => (some (j :: w), c')
    | (none, c') => blocksIn f r (j + 1) c'
def faultL (vars : List Str) (rec : List Tr → List Str → Ck → Fl) (as : List Str) : List Tr → Nat → Ck → Fl
  | [], _, c => (none, c)
  | t :: r, i, c => match takesT vars t as c.1 (c.2 + 1) with
    | (false, m) => (some [i], (m, c.2 + 1))
    | (true, m) => match blocksIn (fun b c => rec b (as ++ [wordS t]) c) (blocksT t) 0 (m, c.2 + 1) with
      | (some w, c') => (some (i :: w), c')
      | (none, c') => faultL vars rec as r (i + 1) c'
def faultD (vars : List Str) : Nat → List Tr → List Str → Ck → Fl
  | 0, b, as, c => faultL vars (fun _ _ c => (none, c)) as b 0 c
  | d + 1, b, as, c => faultL vars (faultD vars d) as b 0 c
def recF (vars : List Str) : Nat → List Tr → List Str → Ck → Fl
  | 0 => fun _ _ c => (none, c)
  | d + 1 => faultD vars d
theorem faultD_eq (vars : List Str) (d : Nat) (b : List Tr) (as : List Str) (c : Ck) : faultD vars d b as c = faultL vars (recF vars d) as b 0 c := by cases d <;> rfl
def wayV (l : List Nat) : List V := l.map fun n : Nat => V.int (n : Int)
/-- the bounds of what was met -/
def Few (c : Ck) : Prop := c.2 ≤ 16 ∧ c.1.length ≤ 10 + 4 * c.2
def spFault (K : PySem.W.Frag) (C : Addr) (d : Nat) : Sp := fun vs H Q _ => ∃ a v wy ar vars c ts w0 as, vs = [.ref a.p, v, .ref wy, .ref ar] ∧ CkAt K C H a vars c.1 c.2 ∧ Few c ∧ TrAt K H v (.tup ts) ∧ SqT K H wy (wayV w0) ∧ w0.length + 2 * d ≤ 100 ∧ SqT K H ar (as.map V.str) ∧ as.length + d = 5 ∧
  ∀ H', CkAt K C H' a vars (faultD vars d ts as c).2.1 (faultD vars d ts as c).2.2 → ButC a H H' → ((faultD vars d ts as c).1 = none → Few (faultD vars d ts as c).2 → Q .non H') ∧ ∀ w t, (faultD vars d ts as c).1 = some w → SqT K H' t (wayV (w0 ++ w)) → Q (.ref t) H'
def spRec (K : PySem.W.Frag) (C : Addr) : Nat → Sp
  | 0 => fun _ _ _ _ => False
  | d + 1 => spFault K C d
theorem takes_deep {vars : List Str} {t : Tr} {as : List Str} {m : Km} {n : Nat} (h : 4 < as.length) : takesT vars t as m n = (false, m) := if_pos (.inr h)
theorem takes_few {vars : List Str} {t : Tr} {as : List Str} {m m' : Km} {n : Nat} (h : takesT vars t as m n = (true, m')) (hm : m.length + 4 ≤ 10 + 4 * n) : n ≤ 16 ∧ as.length ≤ 4 ∧ m'.length ≤ 10 + 4 * n ∧ ∃ x rest ks, t = .tup (.str x :: rest) ∧ kindsOf x = some ks ∧ fitsT rest ks = true := by
  unfold takesT at h
  by_cases z : 16 < n ∨ 4 < as.length
  · rw [if_pos z] at h
    cases h
  · rw [if_neg z] at h
    have z1 : ¬ 16 < n := fun q => z (.inl q)
    have z2 : ¬ 4 < as.length := fun q => z (.inr q)
    split at h
    · rename_i x rest
      cases ek : kindsOf x with
      | none => rw [ek] at h; cases h
      | some ks =>
        rw [ek] at h
        simp only at h
        by_cases ef : fitsT rest ks = true
        · rw [if_pos ef] at h
          have e2 := congrArg Prod.snd h
          simp only at e2
          have := knows_len (vars := vars) (rest.zip ks) m
          have kf := kinds_few ek
          rw [List.length_zip] at this
          rw [e2] at this
          exact ⟨by omega, by omega, by omega, x, rest, ks, rfl, ek, ef⟩
        · rw [if_neg ef] at h
          cases h
    · cases h
theorem blocks_form {x : Str} {rest : List Tr} : blocksT (.tup (.str x :: rest)) = (rest.filter isTup).map tupTs := rfl
end BK


set_option Elab.async false
set_option maxRecDepth 100000
set_option maxHeartbeats 4000000
/-! fault_in: the step. -/
namespace BK
open PySem PySem.Spec PyProof.Rows L2 RZ ET
theorem way_snoc (w : List Nat) (i : Nat) : wayV (w ++ [i]) = wayV w ++ [.int (i : Nat)] := by unfold wayV; rw [List.map_append]; rfl
theorem way_ne (w : List Nat) (i : Nat) : wayV (w ++ [i]) ≠ [] := by
  rw [way_snoc]
  simp
theorem way_len (w : List Nat) : (wayV w).length = w.length := by unfold wayV; rw [List.length_map]
abbrev nFault : List Str := ["self", "block", "way", "around", "number", "statement", "here", "inside", "at", "inner", "fault"]
theorem scFault : FnScope nFault ["self", "block", "way", "around"] (defScope sFault) := ⟨rfl, rfl, rfl, by decide +kernel, rfl, by decide +kernel, by decide +kernel⟩
section
variable {P : Program} {w : World} {K : PySem.W.Frag} {mg : Str → Option Value} {base : Heap}
/-- t + (x,) -/
theorem cat_one {X : Cx} {H : Hp} {wy : Addr} {xs : List V} {x : V} {Q : VK} (hw : SqT X.K H wy xs) (hl : xs.length ≤ 1000) (k : ∀ (q : Addr) (H' : Hp), Same H H' → SqT X.K H' q (xs ++ [x]) → Q (.ref q) H') :
    (∀ p, H p = none → rCatA X.K (.ref wy) (.ref p) (upd H p (.tup [x])) Q) := fun p np => by
  have s1 := same_new (o := .tup [x]) np
  have big : sizeLine = 16777216 := sizeLine_eq
  refine ⟨wy, p, xs, [x], rfl, rfl, sqt_same s1 hw, SqT.of upd_same, by simp; omega, fun e => ?_, fun _ e => (by cases e), fun _ _ q nq => ?_⟩
  · subst e
    exact k p _ s1 (SqT.of upd_same)
  · exact k q _ (s1.trans (same_new nq)) (SqT.of upd_same)
theorem ok_fault_step {C f fT fB : Addr} {fd fdT fdB : FuncData} (F : Fun K "fault_in" "Check.fault_in" sFault f fd) (X : TxK K mg C) (mE : mg "enumerate" = none)
    (GT : FnOk P w K mg base CX0 8 fT fdT ["self", "statement", "around"] (spTakes K C)) (bT : Binds K fdT ["self", "statement", "around"] []) (mT : Meth K C "takes" fT)
    (GB : FnOk P w K mg base CX0 1 fB fdB ["statement"] (spBlocks K)) (bB : Binds K fdB ["statement"] []) (gB : mg "blocks_of" = some (.ref fB)) (kB : PySem.W.keepIn K (.ref fB) = true)
    (bF : Binds K fd ["self", "block", "way", "around"] []) (mF : Meth K C "fault_in" f) (d : Nat)
    (GR : FnOk P w K mg base CX0 (8 + d) f fd ["self", "block", "way", "around"] (spRec K C d)) : FnOk P w K mg base CX0 (8 + d + 1) f fd ["self", "block", "way", "around"] (spFault K C d) := by
  refine F.ok scFault (fun vs H Q E h => ?_) (fun cdv A outer s H vs Q E hr h => ?_)
  · obtain ⟨a, v, wy, ar, vars, c, ts, w0, as, rfl, _⟩ := h
    rfl
  · obtain ⟨a, v, wy, ar, vars, c, ts, w0, as, rfl, cA, fw, ht, sw, wl, sa, al, k⟩ := h
    have hr8 : Room 8 _ := hr.mono (by omega)
    have hr1 : Room 1 _ := hr.mono (by omega)
    refine ⟨_, pss_cons (ps_for PassesOwn.never rfl (pi_enumT (by rfl) mE (pa_cons (pv 1) pa_nil))
        (pg_tup rfl (pgs_cons (pg_name (i := 4) scFault.nd rfl (Or.inl rfl)) (pgs_cons (pg_name (i := 5) scFault.nd rfl (Or.inl rfl)) pgs_nil)))
        (C8.pss_cut (ps_set (i := 6) scFault.nd rfl (Or.inl rfl) (pe_op op_catA (pv 2) (pe_tup (pa_cons (pv 4) pa_nil))))
        (C8.pss_cut (ps_if (pt_not (pt_val (pe_meth (pv 0) X.cl mT GT hr8 bT .nil pass0 (pa_cons (pv 5) (pa_cons (pv 3) pa_nil))))) (pss_one (ps_ret (pv 6))) pss_nil)
        (C8.pss_cut (ps_set (i := 7) scFault.nd rfl (Or.inl rfl) (pe_op op_catA (pv 3) (pe_tup (pa_cons (pe_ix ix_tup (pv 5) pe_int (fun _ _ => rfl)) pa_nil))))
        (pss_one (ps_for PassesOwn.never rfl (pi_enum (by rfl) mE (pa_cons (pe_call GB hr1 rfl gB kB bB .nil pass0 (pa_cons (pv 5) pa_nil)) pa_nil))
          (pg_tup rfl (pgs_cons (pg_name (i := 8) scFault.nd rfl (Or.inl rfl)) (pgs_cons (pg_name (i := 9) scFault.nd rfl (Or.inl rfl)) pgs_nil)))
          (pss_cons (ps_set (i := 10) scFault.nd rfl (Or.inl rfl) (pe_meth (pv 0) X.cl mF GR hr bF .nil pass0 (pa_cons (pv 9) (pa_cons (pe_op op_catA (pv 6) (pe_tup (pa_cons (pv 8) pa_nil))) (pa_cons (pv 7) pa_nil)))))
          (pss_one (ps_if (pt_cmp (pc_notN (pv 10))) (pss_one (ps_ret (pv 10))) pss_nil)))))))))
      (pss_one (ps_ret pe_non)), ?_⟩
    rw [faultD_eq] at k
    cases ht with
    | @tup b xs _ h tr =>
    have xl := tr.len
    refine ⟨_, rfl, b, xs, rfl, h, for_it (walk_enumT (K := K) (a := b) (xs := xs)) (fun i σ H2 => ∃ (v4 v5 v6 v7 v8 v9 v10 : Option V) (c2 : Ck), σ = [some (.ref a.p), some (.ref b), some (.ref wy), some (.ref ar), v4, v5, v6, v7, v8, v9, v10] ∧ CkAt K C H2 a vars c2.1 c2.2 ∧ ButC a H H2 ∧ Few c2 ∧
        faultL vars (recF vars d) as ts 0 c = faultL vars (recF vars d) as (ts.drop i) i c2)
      ⟨none, none, none, none, none, none, none, c, rfl, cA, ButC.refl _ _, fw, rfl⟩ (fun i σ H2 _ ⟨_, _, _, _, _, _, _, c2, _, _, b2, _⟩ => b2.tup cA h) ?_ ?_⟩
    · rintro i y σ H2 H3 hi ⟨v4, v5, v6, v7, v8, v9, v10, c2, rfl, k2, b2, f2, e2⟩ ⟨T, xi, y', rfl, nT, rfl, q1, q2⟩
      obtain rfl : V.int (i : Nat) = xi := Option.some.inj q1
      have q2 : xs[i]? = some y' := q2
      have sT := same_new (o := .tup [.int (i : Nat), y']) nT
      obtain ⟨t, q3, _⟩ := tr.get q2
      have il : i < ts.length := (List.getElem?_eq_some_iff.mp q3).1
      have ed : ts.drop i = t :: ts.drop (i + 1) := by
        rw [List.drop_eq_getElem_cons il]
        congr 1
        exact Option.some.inj ((List.getElem?_eq_getElem il).symm.trans q3)
      rw [ed] at e2
      have k3 := k2.same sT
      have b3 := b2.trans (ButC.of sT)
      have getY : ∀ {H' : Hp} {c' : Ck}, CkAt K C H' a vars c'.1 c'.2 → ButC a H H' → TrAt K H' y' t := fun {H' c'} kc bc => by
        obtain ⟨t', q4, ty⟩ := TrAll.get (tr.but bc cA kc) q2
        obtain rfl : t = t' := Option.some.inj (q3.symm.trans q4)
        exact ty
      refine ⟨T, _, rfl, SqT.of upd_same, rfl, _, _, rfl, _, _, rfl, rfl, ?_⟩
      generalize upd H2 T (.tup [.int (i : Nat), y']) = H3 at k3 b3 sT ⊢
      -- here
      refine ⟨fun σ H4 => ∃ hw : Addr, σ = [some (.ref a.p), some (.ref b), some (.ref wy), some (.ref ar), some (.int (i : Nat)), some y', some (.ref hw), v7, v8, v9, v10] ∧ SqT K H4 hw (wayV (w0 ++ [i])) ∧ CkAt K C H4 a vars c2.1 c2.2 ∧ ButC a H H4, ?_, ?_⟩
      · refine ⟨_, rfl, _, rfl, (by show 1 ≤ sizeLine; decide), ?_⟩
        refine cat_one (X := (cxOf CX0 P w K mg base nFault "Check.fault_in" (defScope sFault) f cdv A outer s H E).nox) (b3.tup cA sw) (by rw [way_len]; omega) fun q H4 s4 hq => ?_
        rw [← way_snoc] at hq
        exact ⟨q, rfl, hq, k3.same s4, b3.trans (ButC.of s4)⟩
      rintro σ H4 ⟨hw, rfl, hs, k4, b4⟩
      clear k3 b3 sT
      obtain ⟨⟨dx, ob⟩, dc, _⟩ := id k4
      -- takes
      refine ⟨fun σ H5 => ∃ m : Km, σ = [some (.ref a.p), some (.ref b), some (.ref wy), some (.ref ar), some (.int (i : Nat)), some y', some (.ref hw), v7, v8, v9, v10] ∧ takesT vars t as c2.1 (c2.2 + 1) = (true, m) ∧ CkAt K C H5 a vars m (c2.2 + 1) ∧ ButC a H H5 ∧ SqT K H5 hw (wayV (w0 ++ [i])), ?_, ?_⟩
      · refine ⟨_, rfl, a.p, dx, _, rfl, ob, cfs_no a _ (by decide +kernel) (by decide +kernel) (by decide +kernel), _, rfl, _, rfl, a, y', ar, vars, c2.1, c2.2, t, as, rfl, k4, by have := f2.1; have := f2.2; omega, getY k4 b4, b4.tup cA sa, fun H5 k5 b5 => ⟨_, rfl, ?_⟩⟩
        have b45 := b4.trans b5
        have hs5 := b5.tup k4 hs
        cases e5 : takesT vars t as c2.1 (c2.2 + 1) with
        | mk bt m =>
        rw [e5] at k5
        cases bt with
        | true => exact iteF ⟨m, rfl, rfl, k5, b45, hs5⟩
        | false =>
          have e6 : faultL vars (recF vars d) as ts 0 c = (some [i], (m, c2.2 + 1)) := by
            rw [e2]
            show (match takesT vars t as c2.1 (c2.2 + 1) with
              | (false, m) => (some [i], (m, c2.2 + 1))
              | (true, m) => match blocksIn (fun b c => recF vars d b (as ++ [wordS t]) c) (blocksT t) 0 (m, c2.2 + 1) with
                | (some w, c') => (some (i :: w), c')
                | (none, c') => faultL vars (recF vars d) as (ts.drop (i + 1)) (i + 1) c') = _
            rw [e5]
          rw [e6] at k
          exact iteT ⟨_, rfl, (k H5 k5 b45).2 [i] hw rfl hs5⟩
      rintro σ H5 ⟨m, rfl, e5, k5, b5, hs5⟩
      obtain ⟨n16, a4, ml, x, rest, ks, rfl, ek, ef⟩ := takes_few e5 (by have := f2.2; omega)
      have rl : rest.length = ks.length := by
        unfold fitsT at ef
        exact of_decide_eq_true (Bool.and_eq_true_iff.mp ef).1
      have kf := kinds_few ek
      -- inside
      refine ⟨fun σ H6 => ∃ ins : Addr, σ = [some (.ref a.p), some (.ref b), some (.ref wy), some (.ref ar), some (.int (i : Nat)), some y', some (.ref hw), some (.ref ins), v8, v9, v10] ∧ CkAt K C H6 a vars m (c2.2 + 1) ∧ ButC a H H6 ∧ SqT K H6 hw (wayV (w0 ++ [i])) ∧ SqT K H6 ins ((as ++ [x]).map V.str), ?_, ?_⟩
      · have ty5 := getY (c' := (m, c2.2 + 1)) k5 b5
        cases ty5 with
        | @tup yb ys _ hy ty =>
        cases ty with
        | @cons y0 yr _ _ h0 r0 =>
        cases h0 with
        | str _ hx =>
        refine ⟨_, rfl, _, rfl, yb, _, 0, _, rfl, rfl, hy, at_of (j := 0) rfl rfl, (by show 1 ≤ sizeLine; decide), ?_⟩
        refine cat_one (X := (cxOf CX0 P w K mg base nFault "Check.fault_in" (defScope sFault) f cdv A outer s H E).nox) (b5.tup cA sa) (by rw [List.length_map]; omega) fun q H6 s6 hq => ?_
        refine ⟨q, rfl, k5.same s6, b5.trans (ButC.of s6), sqt_same s6 hs5, ?_⟩
        rw [List.map_append]
        exact hq
      rintro σ H6 ⟨ins, rfl, k6, b6, hs6, si6⟩
      -- the blocks
      cases d with
      | zero => omega
      | succ d =>
      have eL : faultL vars (recF vars (d + 1)) as ts 0 c = (match blocksIn (fun b c => faultD vars d b (as ++ [x]) c) ((rest.filter isTup).map tupTs) 0 (m, c2.2 + 1) with
          | (some w, c') => (some (i :: w), c')
          | (none, c') => faultL vars (recF vars (d + 1)) as (ts.drop (i + 1)) (i + 1) c') := by
        rw [e2]
        show (match takesT vars (.tup (.str x :: rest)) as c2.1 (c2.2 + 1) with
          | (false, m) => (some [i], (m, c2.2 + 1))
          | (true, m) => match blocksIn (fun b c => faultD vars d b (as ++ [x]) c) ((rest.filter isTup).map tupTs) 0 (m, c2.2 + 1) with
            | (some w, c') => (some (i :: w), c')
            | (none, c') => faultL vars (recF vars (d + 1)) as (ts.drop (i + 1)) (i + 1) c') = _
        rw [e5]
      refine ⟨_, rfl, y', (.str x :: rest), rfl, getY (c' := (m, c2.2 + 1)) k6 b6, by rw [List.length_cons]; omega, fun D bs H7 s7 nD eD tb => ?_⟩
      have tb : TrAll K H7 bs (rest.filter isTup) := tb
      have k7 := k6.same s7
      have b7 := b6.trans (ButC.of s7)
      have hs7 := sqt_same s7 hs6
      have si7 := sqt_same s7 si6
      refine ⟨D, bs, rfl, SqL.of eD, for_it (walk_enum (K := K) (a := D) (xs := bs)) (fun j σ H8 => ∃ (v8 v9 v10 : Option V) (c3 : Ck), σ = [some (.ref a.p), some (.ref b), some (.ref wy), some (.ref ar), some (.int (i : Nat)), some y', some (.ref hw), some (.ref ins), v8, v9, v10] ∧ CkAt K C H8 a vars c3.1 c3.2 ∧ ButC a H7 H8 ∧ Few c3 ∧
          blocksIn (fun b c => faultD vars d b (as ++ [x]) c) ((rest.filter isTup).map tupTs) 0 (m, c2.2 + 1) = blocksIn (fun b c => faultD vars d b (as ++ [x]) c) (((rest.filter isTup).map tupTs).drop j) j c3)
        ⟨v8, v9, v10, (m, c2.2 + 1), rfl, k7, ButC.refl _ _, ⟨n16, ml⟩, rfl⟩ (fun j σ H8 _ ⟨_, _, _, c3, _, _, b8, _⟩ => b8.lst k7 (SqL.of eD)) ?_ ?_⟩
      · rintro j z σ H8 H9 hj ⟨v8, v9, v10, c3, rfl, k8, b8, f3, e3⟩ ⟨U, xj, z', rfl, nU, rfl, q5, q6⟩
        obtain rfl : V.int (j : Nat) = xj := Option.some.inj q5
        have q6 : bs[j]? = some z' := q6
        have sU := same_new (o := .tup [.int (j : Nat), z']) nU
        have k9 := k8.same sU
        have b9 := b8.trans (ButC.of sU)
        obtain ⟨u, q7, tz⟩ := TrAll.get (tb.but b9 k7 k9) q6
        have iu : isTup u = true := (List.mem_filter.mp (List.mem_of_getElem? q7)).2
        obtain ⟨us, rfl⟩ : ∃ us, u = .tup us := by
          cases u with
          | tup us => exact ⟨us, rfl⟩
          | _ => cases iu
        have q8 : ((rest.filter isTup).map tupTs)[j]? = some us := by rw [List.getElem?_map, q7]; rfl
        have jl : j < ((rest.filter isTup).map tupTs).length := (List.getElem?_eq_some_iff.mp q8).1
        have ed3 : ((rest.filter isTup).map tupTs).drop j = us :: ((rest.filter isTup).map tupTs).drop (j + 1) := by
          rw [List.drop_eq_getElem_cons jl]
          congr 1
          exact Option.some.inj ((List.getElem?_eq_getElem jl).symm.trans q8)
        rw [ed3] at e3
        obtain ⟨⟨dx9, ob9⟩, dc9, _⟩ := id k9
        refine ⟨U, _, rfl, SqT.of upd_same, rfl, _, _, rfl, _, _, rfl, rfl, ?_⟩
        generalize upd H8 U (.tup [.int (j : Nat), z']) = H9 at k9 b9 tz ob9 dc9 ⊢
        refine ⟨_, rfl, a.p, dx9, _, rfl, ob9, cfs_no a _ (by decide +kernel) (by decide +kernel) (by decide +kernel), _, rfl, _, rfl, _, rfl, (by show 1 ≤ sizeLine; decide), ?_⟩
        refine cat_one (X := (cxOf CX0 P w K mg base nFault "Check.fault_in" (defScope sFault) f cdv A outer s H E).nox) (b9.tup k7 hs7) (by rw [way_len, List.length_append]; simp; omega) fun q H10 s10 hq => ?_
        rw [← way_snoc] at hq
        have k10 := k9.same s10
        have b10 := b9.trans (ButC.of s10)
        refine ⟨_, rfl, a, z', q, ins, vars, c3, us, w0 ++ [i] ++ [j], as ++ [x], rfl, k10, f3, tz.same s10, hq, by simp; omega, b10.tup k7 si7, by simp; omega, fun H11 k11 b11 => ?_⟩
        have b711 := b10.trans b11
        cases e11 : faultD vars d us (as ++ [x]) c3 with
        | mk r c4 =>
        rw [e11] at k11
        have e12 : blocksIn (fun b c => faultD vars d b (as ++ [x]) c) ((rest.filter isTup).map tupTs) 0 (m, c2.2 + 1) = (match (r, c4) with
            | (some w, c') => (some (j :: w), c')
            | (none, c') => blocksIn (fun b c => faultD vars d b (as ++ [x]) c) (((rest.filter isTup).map tupTs).drop (j + 1)) (j + 1) c') := by
          rw [e3, ← e11]
          rfl
        refine ⟨fun er fw4 => ?_, fun w4 t4 er ht4 => ?_⟩
        · have er : r = none := er
          subst er
          refine ⟨_, rfl, _, rfl, iteF ⟨_, _, _, c4, rfl, k11, b711, fw4, e12⟩⟩
        · have er : r = some w4 := er
          subst er
          have e12 : blocksIn (fun b c => faultD vars d b (as ++ [x]) c) ((rest.filter isTup).map tupTs) 0 (m, c2.2 + 1) = (some (j :: w4), c4) := e12
          rw [e12] at eL
          have eL : faultL vars (recF vars (d + 1)) as ts 0 c = (some (i :: j :: w4), c4) := eL
          rw [eL] at k
          refine ⟨_, rfl, _, rfl, iteT ⟨_, rfl, (k H11 k11 (b7.trans b711)).2 _ t4 rfl ?_⟩⟩
          have : w0 ++ [i] ++ [j] ++ w4 = w0 ++ (i :: j :: w4) := by simp
          rw [this] at ht4
          exact ht4
      · rintro σ H8 ⟨v8, v9, v10, c3, rfl, k8, b8, f3, e3⟩
        have e0 : ((rest.filter isTup).map tupTs).drop bs.length = [] := by
          rw [tb.len, ← List.length_map (f := tupTs), List.drop_length]
        rw [e0] at e3
        have e3 : blocksIn (fun b c => faultD vars d b (as ++ [x]) c) ((rest.filter isTup).map tupTs) 0 (m, c2.2 + 1) = (none, c3) := e3
        rw [e3] at eL
        exact ⟨_, _, _, _, _, _, _, c3, rfl, k8, b7.trans b8, f3, eL⟩
    · rintro σ H2 ⟨v4, v5, v6, v7, v8, v9, v10, c2, rfl, k2, b2, f2, e2⟩
      have e0 : ts.drop xs.length = [] := by rw [xl, List.drop_length]
      rw [e0] at e2
      have e2 : faultL vars (recF vars d) as ts 0 c = (none, c2) := e2
      rw [e2] at k
      exact (k H2 k2 b2).1 rfl f2
end
end BK


set_option Elab.async false
set_option maxRecDepth 100000
set_option maxHeartbeats 2000000
/-! fault_of_pieces. -/
namespace BK
open PySem PySem.Spec PyProof.Rows L2 RZ ET
inductive Place where
  | empty
  | vars
  | at_ (i : Nat)
  | way (i : Nat) (w : List Nat)
def intsT (w : List Nat) : List Tr := w.map fun n : Nat => Tr.int (n : Int)
def placeT : Place → Tr
  | .empty => .tup []
  | .vars => .tup [.str "vars"]
  | .at_ i => .tup [.int (i : Nat)]
  | .way i w => .tup [.int (i : Nat), .tup (intsT w)]
def resT : Option Place → Tr
  | none => .non
  | some p => placeT p
def paramsOf : Tr → Tr
  | .tup [_, p, _] => p
  | _ => .non
def blockOf : Tr → List Tr
  | .tup [_, _, .tup ts] => ts
  | _ => []
def piecesL (vars : List Str) : List Tr → Nat → List Str → Option Place
  | [], _, _ => none
  | t :: r, i, ns => if tripleT t = true ∧ wordS t ∉ ns then
      match (faultD vars 5 (blockOf t) [] (kindsP (paramsOf t), 0)).1 with
      | some w => some (.way i w)
      | none => piecesL vars r (i + 1) (ns ++ [wordS t])
    else some (.at_ i)
theorem triple_shape {t : Tr} (h : tripleT t = true) : ∃ n p bts, t = .tup [.str n, p, .tup bts] ∧ paramsT p = true := by
  unfold tripleT at h
  split at h
  · rename_i n p b
    rw [Bool.and_eq_true, Bool.and_eq_true] at h
    obtain ⟨⟨h1, h2⟩, h3⟩ := h
    obtain ⟨s, rfl⟩ := name_str h1
    cases b with
    | tup bts => exact ⟨s, p, bts, rfl, h2⟩
    | _ => cases h3
  · cases h
def spPieces (K : PySem.W.Frag) : Sp := fun vs H Q _ => ∃ va pa vars xs ts, vs = [.ref va, .ref pa] ∧ SqT K H va (vars.map V.str) ∧ SqT K H pa xs ∧ TrAll K H xs ts ∧ ts.length ≤ 900 ∧ ∀ v H', Same H H' → TrAt K H' v (resT (piecesL vars ts 0 [])) → Q v H'
abbrev sPieces : Stmt := top 38
theorem scPieces : FnScope ["variables", "pieces", "names", "number", "piece", "way"] ["variables", "pieces"] (defScope sPieces) := ⟨rfl, rfl, rfl, by decide +kernel, rfl, by decide +kernel, by decide +kernel⟩
theorem wayV_tr {K : PySem.W.Frag} {H : Hp} : ∀ w : List Nat, TrAll K H (wayV w) (intsT w)
  | [] => .nil
  | n :: r => .cons (.int _) (wayV_tr r)
section
variable {P : Program} {w : World} {K : PySem.W.Frag} {mg : Str → Option Value} {base : Heap}
theorem fn_false {k : Nat} {f : Addr} {fd : FuncData} {ps : List Str} (bd : ∀ vs : List V, True) : FnOk P w K mg base CX0 k f fd ps (fun _ _ _ _ => False) := by
  constructor
  all_goals intros
  all_goals first | contradiction | (exfalso; assumption)
theorem ok_fault {C f fT fB : Addr} {fd fdT fdB : FuncData} (F : Fun K "fault_in" "Check.fault_in" sFault f fd) (X : TxK K mg C) (mE : mg "enumerate" = none)
    (GT : FnOk P w K mg base CX0 8 fT fdT ["self", "statement", "around"] (spTakes K C)) (bT : Binds K fdT ["self", "statement", "around"] []) (mT : Meth K C "takes" fT)
    (GB : FnOk P w K mg base CX0 1 fB fdB ["statement"] (spBlocks K)) (bB : Binds K fdB ["statement"] []) (gB : mg "blocks_of" = some (.ref fB)) (kB : PySem.W.keepIn K (.ref fB) = true)
    (bF : Binds K fd ["self", "block", "way", "around"] []) (mF : Meth K C "fault_in" f) : ∀ d, FnOk P w K mg base CX0 (8 + d + 1) f fd ["self", "block", "way", "around"] (spFault K C d)
  | 0 => ok_fault_step F X mE GT bT mT GB bB gB kB bF mF 0 (fn_false fun _ => trivial)
  | d + 1 => ok_fault_step F X mE GT bT mT GB bB gB kB bF mF (d + 1) (ok_fault F X mE GT bT mT GB bB gB kB bF mF d)
end
end BK


set_option Elab.async false
set_option maxRecDepth 100000
set_option maxHeartbeats 2000000
namespace BK
open PySem PySem.Spec PyProof.Rows L2 RZ ET
section
variable {P : Program} {w : World} {K : PySem.W.Frag} {mg : Str → Option Value} {base : Heap}
theorem ok_pieces {C f fT fI fF : Addr} {fd fdT fdI fdF : FuncData} (F : Fun K "fault_of_pieces" "fault_of_pieces" sPieces f fd) (X : TxK K mg C) (mE : mg "enumerate" = none)
    (GT : FnOk P w K mg base CX0 4 fT fdT ["thing"] (spOf tripleT K)) (bT : Binds K fdT ["thing"] []) (gT : mg "is_triple" = some (.ref fT)) (kT : PySem.W.keepIn K (.ref fT) = true)
    (M : Mk K C fI) (GI : FnOk P w K mg base CX0 1 fI fdI ["self", "variables", "params"] (spCInit K C)) (bI : Binds K fdI ["self", "variables", "params"] [])
    (GF : FnOk P w K mg base CX0 14 fF fdF ["self", "block", "way", "around"] (spFault K C 5)) (bF : Binds K fdF ["self", "block", "way", "around"] []) (mF : Meth K C "fault_in" fF) :
    FnOk P w K mg base CX0 15 f fd ["variables", "pieces"] (spPieces K) := by
  refine F.ok scPieces (fun vs H Q E h => ?_) (fun cdv A outer s H vs Q E hr h => ?_)
  · obtain ⟨va, pa, vars, xs, ts, rfl, _⟩ := h
    rfl
  · obtain ⟨va, pa, vars, xs, ts, rfl, sv, sp, tr, tl, k⟩ := h
    have hr4 : Room 4 _ := hr.mono (by decide)
    have hr2 : Room 2 _ := hr.mono (by decide)
    refine ⟨_, pss_cons (ps_set (i := 2) scPieces.nd rfl (Or.inl rfl) (pe_lst pa_nil))
      (pss_cons (ps_for PassesOwn.never rfl (pi_enumT (by rfl) mE (pa_cons (pv 1) pa_nil))
        (pg_tup rfl (pgs_cons (pg_name (i := 3) scPieces.nd rfl (Or.inl rfl)) (pgs_cons (pg_name (i := 4) scPieces.nd rfl (Or.inl rfl)) pgs_nil)))
        (C8.pss_cut (ps_if (PW.pt (pw_or (pt_not (pt_val (pe_call GT hr4 rfl gT kT bT .nil pass0 (pa_cons (pv 4) pa_nil))))
            (pw_or1 (pt_cmpR op_in_seq (pe_ix ix_tup (pv 4) pe_int (fun _ _ => rfl)) (pv 2) rfl)))) (pss_one (ps_ret (pe_tup (pa_cons (pv 3) pa_nil)))) pss_nil)
        (C8.pss_cut (ps_expr (pe_bm PySem.F.plainAttrs_list PySem.F.slot_list_append PySem.F.type_list_append mt_append (pv 2) (pa_cons (pe_ix ix_tup (pv 4) pe_int (fun _ _ => rfl)) pa_nil)))
        (pss_cons (ps_set (i := 5) scPieces.nd rfl (Or.inl rfl) (pe_meth (pe_make M GI hr2 rfl X.mgC bI .nil pass0 (pa_cons (pv 0) (pa_cons (pe_ix ix_tup (pv 4) pe_int (fun _ _ => rfl)) pa_nil))) X.cl mF GF hr bF .nil pass0
            (pa_cons (pe_ix ix_tup (pv 4) pe_int (fun _ _ => rfl)) (pa_cons (pe_tup pa_nil) (pa_cons (pe_tup pa_nil) pa_nil)))))
        (pss_one (ps_if (pt_cmp (pc_notN (pv 5))) (pss_one (ps_ret (pe_tup (pa_cons (pv 3) (pa_cons (pv 5) pa_nil))))) pss_nil))))))
      (pss_one (ps_ret pe_non))), ?_⟩
    refine ⟨Nat.zero_le _, fun nl nnl => ?_⟩
    have s0 := same_new (o := .lst []) nnl
    refine ⟨_, rfl, pa, xs, rfl, sqt_same s0 sp, for_it (walk_enumT (K := K) (a := pa) (xs := xs)) (fun i σ H2 => ∃ (v3 v4 v5 : Option V) (ns : List Str), σ = [some (.ref va), some (.ref pa), some (.ref nl), v3, v4, v5] ∧ Same H H2 ∧ H2 nl = some (.lst (ns.map V.str)) ∧ ns.length = i ∧ piecesL vars ts 0 [] = piecesL vars (ts.drop i) i ns)
      ⟨none, none, none, [], rfl, s0, upd_same, rfl, rfl⟩ (fun i σ H2 _ ⟨_, _, _, _, _, s2, _⟩ => sqt_same s2 sp) ?_ ?_⟩
    · rintro i y σ H2 H3 hi ⟨v3, v4, v5, ns, rfl, s2, en, nsl, e2⟩ ⟨T, xi, y', rfl, nT, rfl, q1, q2⟩
      obtain rfl : V.int (i : Nat) = xi := Option.some.inj q1
      have q2 : xs[i]? = some y' := q2
      have sT := same_new (o := .tup [.int (i : Nat), y']) nT
      obtain ⟨t, q3, _⟩ := tr.get q2
      have il : i < ts.length := (List.getElem?_eq_some_iff.mp q3).1
      have ed : ts.drop i = t :: ts.drop (i + 1) := by
        rw [List.drop_eq_getElem_cons il]
        congr 1
        exact Option.some.inj ((List.getElem?_eq_getElem il).symm.trans q3)
      rw [ed] at e2
      have getY : ∀ {H' : Hp}, Same H H' → TrAt K H' y' t := fun {H'} s' => by
        obtain ⟨t', q4, ty⟩ := (tr.same s').get q2
        obtain rfl : t = t' := Option.some.inj (q3.symm.trans q4)
        exact ty
      refine ⟨T, _, rfl, SqT.of upd_same, rfl, _, _, rfl, _, _, rfl, rfl, ?_⟩
      have s3 := s2.trans sT
      have en3 := sT _ _ en
      generalize upd H2 T (.tup [.int (i : Nat), y']) = H3 at s3 en3 ⊢
      clear sT
      have bad : ∀ H4, Same H H4 → ¬ (tripleT t = true ∧ wordS t ∉ ns) → 1 ≤ sizeLine ∧ ∀ p, H4 p = none → Q (.ref p) (upd H4 p (.tup [.int (i : Nat)])) := fun H4 s4 hn => by
        refine ⟨by decide, fun p np => k _ _ (s4.trans (same_new np)) ?_⟩
        have e : piecesL vars ts 0 [] = some (.at_ i) := by
          rw [e2]
          show (if tripleT t = true ∧ wordS t ∉ ns then _ else some (Place.at_ i)) = _
          rw [if_neg hn]
        rw [e]
        exact .tup (SqT.of upd_same) (.cons (.int _) .nil)
      -- is it a triple of a new name?
      refine ⟨fun σ H4 => σ = [some (.ref va), some (.ref pa), some (.ref nl), some (.int (i : Nat)), some y', v5] ∧ Same H H4 ∧ H4 nl = some (.lst (ns.map V.str)) ∧ tripleT t = true ∧ wordS t ∉ ns, ?_, ?_⟩
      · refine ⟨_, rfl, y', t, rfl, getY s3, fun H4 s4 => ⟨_, rfl, ?_⟩⟩
        have s34 := s3.trans s4
        cases et : tripleT t with
        | false => exact iteT ⟨_, rfl, bad H4 s34 fun z => by rw [et] at z; cases z.1⟩
        | true =>
          refine iteF ?_
          obtain ⟨n, p, bts, rfl, hp⟩ := triple_shape et
          have ty := getY s34
          cases ty with
          | @tup b ys _ hb tb =>
          obtain ⟨u0, g0, t0⟩ := tb.get' (i := 0) (t := .str n) rfl
          cases t0 with
          | str _ z0 =>
          refine ⟨_, rfl, b, ys, 0, _, rfl, rfl, hb, at_of (j := 0) rfl g0, _, rfl, nl, _, rfl, .inl (SqL.of (s4 _ _ en3)), rfl, flat_txts ns, _, rfl, ?_⟩
          rw [in_txts]
          by_cases hm : n ∈ ns
          · rw [decide_eq_true hm]
            exact iteT ⟨_, rfl, bad H4 s34 fun z => z.2 hm⟩
          · rw [decide_eq_false hm]
            exact iteF ⟨rfl, s34, s4 _ _ en3, rfl, hm⟩
      rintro σ H4 ⟨rfl, s4, en4, et, hm⟩
      obtain ⟨n, p, bts, rfl, hp⟩ := triple_shape et
      -- names.append
      refine ⟨fun σ H5 => σ = [some (.ref va), some (.ref pa), some (.ref nl), some (.int (i : Nat)), some y', v5] ∧ Same H H5 ∧ H5 nl = some (.lst ((ns ++ [n]).map V.str)), ?_, ?_⟩
      · have ty := getY s4
        cases ty with
        | @tup b ys _ hb tb =>
        obtain ⟨u0, g0, t0⟩ := tb.get' (i := 0) (t := .str n) rfl
        cases t0 with
        | str _ z0 =>
        refine ⟨_, rfl, .inl ⟨rfl, _, SqL.of en4⟩, _, rfl, b, ys, 0, _, rfl, rfl, hb, at_of (j := 0) rfl g0, nl, _, _, rfl, rfl, en4, small1000 (by rw [List.length_map]; omega), rfl, fun b o e => ?_, ?_⟩
        · rw [upd_ne (ne_of_none e nnl)]
          exact s4 b o e
        · rw [upd_same, List.map_append]
          rfl
      rintro σ H5 ⟨rfl, s5, en5⟩
      -- Check(..).fault_in(..)
      have ty := getY s5
      cases ty with
      | @tup b ys _ hb tb =>
      obtain ⟨u1, g1, t1⟩ := tb.get' (i := 1) (t := p) rfl
      obtain ⟨u2, g2, t2⟩ := tb.get' (i := 2) (t := .tup bts) rfl
      refine ⟨_, rfl, _, rfl, b, ys, 1, u1, rfl, rfl, hb, at_of (j := 1) rfl g1, fun x dx nx ndx nxd => ?_⟩
      have s6 : Same H5 (upd (upd H5 dx (.own x)) x (.ins C dx [])) := fun b o e => by
        rw [upd_ne (ne_of_none e nx), upd_ne (ne_of_none e ndx)]
        exact e
      refine ⟨x, dx, va, u1, vars, p, rfl, upd_same, sqt_same (s5.trans s6) sv, t1.same s6, hp, fun d H7 nd c7 kp => ⟨rfl, ?_⟩⟩
      have s57 : Same H5 H7 := fun b o e => kp b o (s6 b o e) (ne_of_none e nx)
      have nd5 : H5 d = none := s6.free nd
      obtain ⟨⟨dx7, ob7⟩, dc7, _⟩ := id c7
      refine ⟨x, dx7, _, rfl, ob7, cfs_no ⟨x, va, d⟩ 0 (by decide +kernel) (by decide +kernel) (by decide +kernel), _, rfl, b, ys, 2, u2, rfl, rfl, sqt_same s57 hb, at_of (j := 2) rfl g2, Nat.zero_le _, fun e1 ne1 => ⟨Nat.zero_le _, fun e2' ne2 => ?_⟩⟩
      have sE := (same_new (o := .tup []) ne1).trans (same_new (o := .tup []) ne2)
      have s59 := s57.trans sE
      refine ⟨⟨x, va, d⟩, u2, e1, e2', vars, (kindsP p, 0), bts, [], [], rfl, c7.same sE, ⟨Nat.zero_le _, by have := kindsP_len hp; show (kindsP p).length ≤ 10 + 4 * 0; omega⟩, t2.same s59, SqT.of (by rw [upd_ne (ne_of_none upd_same ne2), upd_same]; rfl), by decide, SqT.of upd_same, rfl, fun H10 c10 b10 => ?_⟩
      have s510 : Same H5 H10 := fun b o e => b10 b o (s59 b o e) (ne_of_none e nx) (ne_of_none e nd5)
      have sH := s5.trans s510
      have step : piecesL vars ts 0 [] = (match (faultD vars 5 bts [] (kindsP p, 0)).1 with
          | some w => some (.way i w)
          | none => piecesL vars (ts.drop (i + 1)) (i + 1) (ns ++ [n])) := by
        rw [e2]
        show (if tripleT (.tup [.str n, p, .tup bts]) = true ∧ n ∉ ns then _ else _) = _
        rw [if_pos ⟨et, hm⟩]
        rfl
      refine ⟨fun er fw => ?_, fun w4 t4 er ht4 => ?_⟩
      · have er : (faultD vars 5 bts [] (kindsP p, 0)).1 = none := er
        rw [er] at step
        refine ⟨_, rfl, _, rfl, iteF ⟨_, _, _, ns ++ [n], rfl, sH, s510 _ _ en5, by rw [List.length_append, nsl]; rfl, step⟩⟩
      · have er : (faultD vars 5 bts [] (kindsP p, 0)).1 = some w4 := er
        rw [er] at step
        have step : piecesL vars ts 0 [] = some (.way i w4) := step
        refine ⟨_, rfl, _, rfl, iteT ⟨_, rfl, _, rfl, (show 2 ≤ sizeLine by decide), fun q nq => k _ _ (sH.trans (same_new nq)) ?_⟩⟩
        rw [step]
        have ht5 : SqT K H10 t4 (wayV w4) := ht4
        exact .tup (SqT.of upd_same) (.cons (.int _) (.cons (.tup (sqt_same (same_new nq) ht5) (wayV_tr w4)) .nil))
    · rintro σ H2 ⟨v3, v4, v5, ns, rfl, s2, _, _, e2⟩
      have e0 : ts.drop xs.length = [] := by rw [tr.len, List.drop_length]
      rw [e0] at e2
      have q := k .non H2 s2
      rw [e2] at q
      exact q .non
end
end BK


set_option Elab.async false
set_option maxRecDepth 100000
set_option maxHeartbeats 2000000
/-! fault_of, need_book, is_book. -/
namespace BK
open PySem PySem.Spec PyProof.Rows L2 RZ ET
def faultT : Tr → Option Place
  | .tup [.tup vs, .tup ps] => if 6 < ps.length then some .empty else if 1 ≤ vs.length ∧ vs.length ≤ 3 ∧ diffT vs = true then piecesL (texts vs) ps 0 [] else some .vars
  | _ => some .empty
def spFaultOf (K : PySem.W.Frag) : Sp := fun vs H Q _ => ∃ v t, vs = [v] ∧ TrAt K H v t ∧ ∀ u H', Same H H' → TrAt K H' u (resT (faultT t)) → Q u H'
abbrev sFaultOf : Stmt := top 39
abbrev sNeed : Stmt := top 40
abbrev sIsBook : Stmt := top 41
abbrev sBadInit : Stmt := inClass (top 2) 0
theorem scFaultOf : FnScope ["thing", "variables", "pieces"] ["thing"] (defScope sFaultOf) := ⟨rfl, rfl, rfl, by decide +kernel, rfl, by decide +kernel, by decide +kernel⟩
theorem scIsBook : FnScope ["thing"] ["thing"] (defScope sIsBook) := ⟨rfl, rfl, rfl, by decide +kernel, rfl, by decide +kernel, by decide +kernel⟩
theorem scNeed : FnScope ["thing", "place"] ["thing"] (defScope sNeed) := ⟨rfl, rfl, rfl, by decide +kernel, rfl, by decide +kernel, by decide +kernel⟩
theorem scBadInit : FnScope ["self", "place"] ["self", "place"] (defScope sBadInit) := ⟨rfl, rfl, rfl, by decide +kernel, rfl, by decide +kernel, by decide +kernel⟩
structure MostB (mg : Str → Option Value) : Prop where
  mp : ∃ t, mg "MOST_PIECES" = some (.int 6 t)
  mv : ∃ t, mg "MOST_VARS" = some (.int 3 t)
def isBookT (t : Tr) : Bool := (faultT t).isNone
section
variable {P : Program} {w : World} {K : PySem.W.Frag} {mg : Str → Option Value} {base : Heap}
theorem ok_faultOf {f fT fD fP : Addr} {fd fdT fdD fdP : FuncData} (F : Fun K "fault_of" "fault_of" sFaultOf f fd) (T : Forms mg) (M : MostB mg)
    (GT : FnOk P w K mg base CX0 1 fT fdT ["thing", "count"] (spTuple K)) (bT : Binds K fdT ["thing", "count"] []) (gT : mg "is_tuple" = some (.ref fT)) (kT : PySem.W.keepIn K (.ref fT) = true)
    (GD : FnOk P w K mg base CX0 2 fD fdD ["things"] (spDiff K)) (bD : Binds K fdD ["things"] []) (gD : mg "are_different_names" = some (.ref fD)) (kD : PySem.W.keepIn K (.ref fD) = true)
    (GP : FnOk P w K mg base CX0 15 fP fdP ["variables", "pieces"] (spPieces K)) (bP : Binds K fdP ["variables", "pieces"] []) (gP : mg "fault_of_pieces" = some (.ref fP)) (kP : PySem.W.keepIn K (.ref fP) = true) :
    FnOk P w K mg base CX0 16 f fd ["thing"] (spFaultOf K) := by
  refine F.ok scFaultOf (fun vs H Q E h => ?_) (fun cdv A outer s H vs Q E hr h => ?_)
  · obtain ⟨v, t, rfl, _⟩ := h
    rfl
  · obtain ⟨v, t, rfl, ht, k⟩ := h
    obtain ⟨t1, gM⟩ := M.mp
    obtain ⟨t2, gV⟩ := M.mv
    have hr1 : Room 1 _ := hr.mono (by decide)
    have hr2 : Room 2 _ := hr.mono (by decide)
    refine ⟨_, C8.pss_cut (ps_if (PW.pt (pw_or (pt_not (pt_val (pe_call GT hr1 rfl gT kT bT .nil pass0 (pa_cons (pv 0) (pa_cons pe_int pa_nil)))))
        (pw_or (pt_not (pt_val (pe_callB call_isi (by rfl) T.isi boot_isinstance (pa_cons (pe_ix ix_tup (pv 0) pe_int (fun _ _ => rfl)) (pa_cons (pe_bltn (v := .ty "tuple") (u := .type "tuple") (by rfl) T.tuple (by decide +kernel) rfl) pa_nil)))))
        (pw_or1 (pt_not (pt_val (pe_callB call_isi (by rfl) T.isi boot_isinstance (pa_cons (pe_ix ix_tup (pv 0) pe_int (fun _ _ => rfl)) (pa_cons (pe_bltn (v := .ty "tuple") (u := .type "tuple") (by rfl) T.tuple (by decide +kernel) rfl) pa_nil))))))))) (pss_one (ps_ret (pe_tup pa_nil))) pss_nil)
      (pss_cons (ps_asg (pv 0) (pg_tup rfl (pgs_cons (pg_name (i := 1) scFaultOf.nd rfl (Or.inl rfl)) (pgs_cons (pg_name (i := 2) scFaultOf.nd rfl (Or.inl rfl)) pgs_nil))))
      (pss_cons (ps_if (pt_cmpR op_gt (pe_callB call_len_seq (by rfl) T.len boot_len (pa_cons (pv 2) pa_nil)) (pe_glob (v := .int 6) rfl gM ⟨_, rfl⟩) rfl) (pss_one (ps_ret (pe_tup pa_nil))) pss_nil)
      (C8.pss_cut (ps_if (PW.pt (pw_or (pt_not (pt_chain op_le op_le pe_int (pe_callB call_len_seq (by rfl) T.len boot_len (pa_cons (pv 1) pa_nil)) (pe_glob (v := .int 3) rfl gV ⟨_, rfl⟩)))
        (pw_or1 (pt_not (pt_val (pe_call GD hr2 rfl gD kD bD .nil pass0 (pa_cons (pv 1) pa_nil))))))) (pss_one (ps_ret (pe_tup (pa_cons pe_str pa_nil)))) pss_nil)
      (pss_one (ps_ret (pe_call GP hr rfl gP kP bP .nil pass0 (pa_cons (pv 1) (pa_cons (pv 2) pa_nil)))))))), ?_⟩
    have emp : ∀ H1, Same H H1 → faultT t = some .empty → ([] : List V).length ≤ sizeLine ∧ ∀ p, H1 p = none → Q (.ref p) (upd H1 p (.tup [])) := fun H1 s1 e => by
      refine ⟨Nat.zero_le _, fun p np => k _ _ (s1.trans (same_new np)) ?_⟩
      rw [e]
      exact .tup (SqT.of upd_same) .nil
    refine ⟨fun σ H1 => ∃ (a va pa : Addr) (vs ps : List V) (tv tp : List Tr), σ = [some (.ref a), none, none] ∧ H1 = H ∧ t = .tup [.tup tv, .tup tp] ∧ SqT K H a [.ref va, .ref pa] ∧ SqT K H va vs ∧ TrAll K H vs tv ∧ SqT K H pa ps ∧ TrAll K H ps tp, ?_, ?_⟩
    · refine ⟨_, rfl, v, t, 2, rfl, ht, _, rfl, ?_⟩
      cases ht with
      | int i => exact iteT (emp H (fun _ _ e => e) rfl)
      | bl b => exact iteT (emp H (fun _ _ e => e) rfl)
      | str z hz => exact iteT (emp H (fun _ _ e => e) rfl)
      | non => exact iteT (emp H (fun _ _ e => e) rfl)
      | lst h => exact iteT (emp H (fun _ _ e => e) rfl)
      | dct h => exact iteT (emp H (fun _ _ e => e) rfl)
      | @tup a xs ts h tr =>
      by_cases l2 : ts.length = 2
      · obtain ⟨x1, x2, rfl⟩ : ∃ x1 x2, ts = [x1, x2] := by
          match ts, l2 with
          | [x1, x2], _ => exact ⟨x1, x2, rfl⟩
        refine iteF ?_
        cases tr with
        | @cons y1 _ _ _ h1 r1 =>
        cases r1 with
        | @cons y2 _ _ _ h2 r2 =>
        cases r2 with
        | nil =>
        refine ⟨_, rfl, a, _, 0, y1, rfl, rfl, h, at_of (j := 0) rfl rfl, y1, .ty "tuple", .type (tyT x1), .type "tuple", isTup x1, rfl, .ty "tuple", h1.ty, k_tup K x1, _, rfl, ?_⟩
        cases e1 : isTup x1 with
        | false =>
          refine iteT (emp H (fun _ _ e => e) ?_)
          cases x1 with
          | tup _ => cases e1
          | _ => rfl
        | true =>
          refine iteF ⟨_, rfl, a, _, 1, y2, rfl, rfl, h, at_of (j := 1) rfl rfl, y2, .ty "tuple", .type (tyT x2), .type "tuple", isTup x2, rfl, .ty "tuple", h2.ty, k_tup K x2, _, rfl, ?_⟩
          cases e2 : isTup x2 with
          | false =>
            refine iteT (emp H (fun _ _ e => e) ?_)
            cases x2 with
            | tup _ => cases e2
            | _ => cases x1 <;> rfl
          | true =>
            cases h1 with
            | @tup va vs tv hv tv' =>
              cases h2 with
              | @tup pa ps tp hp tp' => exact iteF ⟨a, va, pa, vs, ps, tv, tp, rfl, rfl, rfl, h, hv, tv', hp, tp'⟩
              | _ => cases e2
            | _ => cases e1
      · have e0 : decide ((ts.length : Int) = 2) = false := decide_eq_false (by omega)
        show (if (!decide ((ts.length : Int) = 2)) = true then _ else _)
        rw [e0]
        refine iteT (emp H (fun _ _ e => e) ?_)
        match ts, l2 with
        | [], _ => rfl
        | [x1], _ => cases x1 <;> rfl
        | [_, _], h => exact absurd rfl h
        | x1 :: x2 :: _ :: _, _ => cases x1 <;> cases x2 <;> rfl
    rintro σ H1 ⟨a, va, pa, vs, ps, tv, tp, rfl, rfl, rfl, ha, hv, tv', hp, tp'⟩
    have vl := tv'.len
    have pl := tp'.len
    refine ⟨_, rfl, a, _, rfl, ha, rfl, _, _, rfl, _, _, rfl, rfl, ?_⟩
    refine ⟨_, rfl, pa, _, rfl, .inr hp, _, _, rfl, rfl, _, rfl, ?_⟩
    rw [show decide ((ps.length : Int) > 6) = decide (6 < ps.length) from gt_cast ps.length 6, pl]
    refine ite2 (fun z => ?_) (fun z => ?_)
    · have z := of_decide_eq_true z
      refine emp H1 (fun _ _ e => e) ?_
      show (if 6 < tp.length then some Place.empty else _) = _
      rw [if_pos z]
    have n6 : ¬ 6 < tp.length := fun q => z (decide_eq_true q)
    have eF : faultT (.tup [.tup tv, .tup tp]) = if 1 ≤ tv.length ∧ tv.length ≤ 3 ∧ diffT tv = true then piecesL (texts tv) tp 0 [] else some .vars := by
      show (if 6 < tp.length then some Place.empty else _) = _
      rw [if_neg n6]
    have bad : ∀ H2, Same H1 H2 → ¬ (1 ≤ tv.length ∧ tv.length ≤ 3 ∧ diffT tv = true) → 1 ≤ sizeLine ∧ ∀ p, H2 p = none → Q (.ref p) (upd H2 p (.tup [.str "vars"])) := fun H2 s2 hn => by
      refine ⟨by decide, fun p np => k _ _ (s2.trans (same_new np)) ?_⟩
      rw [eF, if_neg hn]
      exact .tup (SqT.of upd_same) (.cons (.str _ (by decide +kernel)) .nil)
    refine ⟨fun σ H2 => σ = [some (.ref a), some (.ref va), some (.ref pa)] ∧ Same H1 H2 ∧ 1 ≤ tv.length ∧ tv.length ≤ 3 ∧ diffT tv = true, ?_, ?_⟩
    · refine ⟨_, rfl, va, _, rfl, .inr hv, _, _, rfl, rfl, _, rfl, ?_⟩
      refine ite2 (fun z1 => ?_) (fun z1 => ?_)
      · have z1 : (1 : Int) ≤ (vs.length : Int) := of_decide_eq_true z1
        refine ⟨_, _, rfl, rfl, _, rfl, ?_⟩
        refine ite2 (fun z2 => ?_) (fun z2 => ?_)
        · have z2 : ¬ ((vs.length : Int) ≤ 3) := by simpa using z2
          exact bad H1 (fun _ _ e => e) fun q => by omega
        · have z2 : (vs.length : Int) ≤ 3 := by simpa using z2
          refine ⟨_, rfl, va, vs, tv, rfl, .inr hv, tv', by omega, fun H2 s2 => ⟨_, rfl, ?_⟩⟩
          cases ed : diffT tv with
          | false => exact iteT (bad H2 s2 fun q => by rw [ed] at q; cases q.2.2)
          | true => exact iteF ⟨rfl, s2, by omega, by omega, rfl⟩
      · have z1 : ¬ ((1 : Int) ≤ (vs.length : Int)) := fun q => z1 (decide_eq_true q)
        exact ⟨_, rfl, iteT (bad H1 (fun _ _ e => e) fun q => by omega)⟩
    rintro σ H2 ⟨rfl, s2, l1, l3, ed⟩
    have exs : vs = (texts tv).map V.str := by
      unfold diffT at ed
      exact names_texts tv' (Bool.and_eq_true_iff.mp ed).1
    refine ⟨_, rfl, _, rfl, va, pa, texts tv, ps, tp, rfl, ?_, sqt_same s2 hp, tp'.same s2, by omega, fun u H3 s3 tu => k u H3 (s2.trans s3) ?_⟩
    · rw [← exs]; exact sqt_same s2 hv
    · rw [eF, if_pos ⟨l1, l3, ed⟩]
      exact tu
theorem ok_isBook {f fO : Addr} {fd fdO : FuncData} (F : Fun K "is_book" "is_book" sIsBook f fd) (GO : FnOk P w K mg base CX0 16 fO fdO ["thing"] (spFaultOf K)) (bO : Binds K fdO ["thing"] []) (gO : mg "fault_of" = some (.ref fO)) (kO : PySem.W.keepIn K (.ref fO) = true) :
    FnOk P w K mg base CX0 17 f fd ["thing"] (spOf isBookT K) := by
  refine F.ok scIsBook (fun vs H Q E h => ?_) (fun cdv A outer s H vs Q E hr h => ?_)
  · obtain ⟨v, t, rfl, _⟩ := h
    rfl
  · obtain ⟨v, t, rfl, ht, k⟩ := h
    refine ⟨_, pss_one (ps_ret (pe_cmp (pc_isN (pe_call GO hr rfl gO kO bO .nil pass0 (pa_cons (pv 0) pa_nil))) rfl)), ?_⟩
    refine ⟨_, rfl, v, t, rfl, ht, fun u H1 s1 tu => ?_⟩
    have q := k H1 s1
    unfold isBookT at q
    cases e : faultT t with
    | none =>
      rw [e] at tu q
      have tu : TrAt K H1 u .non := tu
      cases tu
      exact q
    | some p =>
      rw [e] at tu q
      have : ∃ a, u = .ref a := by
        cases p <;> (cases tu; exact ⟨_, rfl⟩)
      obtain ⟨a, rfl⟩ := this
      exact q
/-! BadBook -/
def spBadI (K : PySem.W.Frag) (C : Addr) : Sp := fun vs H Q _ => ∃ a v, vs = [.ref a, v] ∧ H a = some (exo a C none) ∧ ∀ dx, H dx = none → dx ≠ a → Q .non (upd (upd H dx (exd dx [("place", v)])) a (exo a C (some dx)))
theorem ok_badInit {C f : Addr} {fd : FuncData} (F : Fun K "__init__" "BadBook.__init__" sBadInit f fd) (T : OexC K C) (np : PySem.W.findIn K (.ref C) "place" = some none) : FnOk P w K mg base CX0 1 f fd ["self", "place"] (spBadI K C) := by
  refine F.ok scBadInit (fun vs H Q E h => ?_) (fun cdv A outer s H vs Q E hr h => ?_)
  · obtain ⟨a, v, rfl, _⟩ := h
    rfl
  · obtain ⟨a, v, rfl, ha, k⟩ := h
    refine ⟨_, pss_one (ps_ost (pv 0) (pv 1)), ?_⟩
    exact ⟨_, rfl, _, rfl, a, C, rfl, T, np, .inl ⟨ha, fun dx nd ne => k dx nd ne⟩⟩
def spNeed (K : PySem.W.Frag) (CB : Addr) : Sp := fun vs H Q E => ∃ v t, vs = [v] ∧ TrAt K H v t ∧ (faultT t = none → ∀ H', Same H H' → Q v H') ∧
  ∀ p, faultT t = some p → ∀ pv d H', Same H H' → H d = none → H' d = some (.xd [("place", pv)]) → TrAt K H' pv (placeT p) → E (.ref CB) (some d) H'
theorem ok_need {CB f fO fI : Addr} {fd fdO fdI : FuncData} (F : Fun K "need_book" "need_book" sNeed f fd) (GO : FnOk P w K mg base CX0 16 fO fdO ["thing"] (spFaultOf K)) (bO : Binds K fdO ["thing"] []) (gO : mg "fault_of" = some (.ref fO)) (kO : PySem.W.keepIn K (.ref fO) = true)
    (T : OexC K CB) (gB : mg "BadBook" = some (.ref CB)) (iC : PySem.W.findIn K (.ref CB) "__init__" = some (some (.ref fI))) (tI : PySem.W.typeIn K (.ref fI) = some (.type "function")) (GI : FnOk P w K mg base CX0 1 fI fdI ["self", "place"] (spBadI K CB)) (bI : Binds K fdI ["self", "place"] []) :
    FnOk P w K mg base (L2.CX P w) 17 f fd ["thing"] (spNeed K CB) := by
  refine F.okX scNeed (fun vs H Q E h => ?_) (fun cdv A outer s H vs Q E hr h => ?_)
  · obtain ⟨v, t, rfl, _⟩ := h
    rfl
  · obtain ⟨v, t, rfl, ht, k1, k2⟩ := h
    have hr2 : Room 2 _ := hr.mono (by decide)
    refine ⟨_, pss_cons (ps_set (i := 1) scNeed.nd rfl (Or.inl rfl) (pe_call GO hr rfl gO kO bO .nil pass0 (pa_cons (pv 0) pa_nil)))
      (pss_cons (ps_if (pt_cmp (pc_notN (pv 1))) (pss_one (ps_raise rfl (takes_of rfl rfl rfl rfl) (pmk_oex T iC tI GI hr2 bI .nil pass0 (by rfl) gB (pa_cons (pv 1) pa_nil)))) pss_nil)
      (pss_one (ps_ret (pv 0)))), ?_⟩
    refine ⟨_, rfl, v, t, rfl, ht, fun u H1 s1 tu => ?_⟩
    cases e : faultT t with
    | none =>
      rw [e] at tu
      have tu : TrAt K H1 u .non := tu
      cases tu
      exact ⟨_, rfl, _, rfl, iteF ⟨_, rfl, k1 e H1 s1⟩⟩
    | some p =>
      rw [e] at tu
      have tu : TrAt K H1 u (placeT p) := tu
      have : ∃ a, u = .ref a := by
        cases p <;> (cases tu; exact ⟨_, rfl⟩)
      obtain ⟨a, rfl⟩ := this
      refine ⟨_, rfl, _, rfl, iteT ⟨_, rfl, (show 1 ≤ 1000 by decide), fun b nb => ⟨b, .ref a, rfl, upd_same, fun d nd ne => ⟨rfl, d, _, upd_same, by rw [upd_ne ne, upd_same], ?_, ?_⟩⟩⟩⟩
      · rw [upd_ne ne] at nd; exact nd
      · rw [upd_ne ne] at nd
        have sm : Same H1 (upd (del (upd (upd (upd H1 b (exo b CB none)) d (exd d [("place", .ref a)])) b (exo b CB (some d))) b) d (.xd [("place", .ref a)])) := fun c o ec => by
          have h1 := ne_of_none ec nb
          have h2 := ne_of_none ec nd
          rw [upd_ne h2, del_ne h1, upd_ne h1, upd_ne h2, upd_ne h1]
          exact ec
        exact k2 p e (.ref a) d _ (s1.trans sm) (s1.free nd) upd_same (tu.same sm)
end
end BK


set_option Elab.async false
set_option linter.all false
set_option maxRecDepth 100000
set_option maxHeartbeats 2000000
/-! try: .. except (four classes) as e: c = e, the error held behind the suite; what is asked of it. -/
namespace BK
open PySem PySem.Spec PyProof.Rows L2
theorem flying_keeps {B h h' : Heap} {l : List Env} {e : Addr} {Z : Obj → Prop} (R : HandSPX.FlyingZ B l e Z h) (k : ∀ b o, h.get? b = some o → h'.get? b = some o) : HandSPX.FlyingZ B l e Z h' := by
  obtain ⟨f1, f2, f3, oe, ws, T, oT, ts, he, hc, hd, h1, hn, hne, hT, hdT, h3⟩ := R
  exact ⟨fun b o q => k b o (f1 b o q), f2, f3.of_keeps fun b o q _ => ⟨o, k b o q, rfl⟩, oe, ws, T, oT, ts, k _ _ he, hc, hd, h1, hn, hne, k _ _ hT, hdT, h3⟩
/-- an error of the class cls with its own dict d stands at a -/
def EO (a : Addr) (cls : Value) (d : Option Addr) : HO := .ext fun h => ∃ (oe : Obj) (vs : Array Value), h.get? a = some oe ∧ oe.cls = cls ∧ oe.dict = d ∧ oe.data = .fields vs
theorem eo_ok {P : Program} {w : World} {H : Hp} {h : Heap} {a : Addr} {cls : Value} {d : Option Addr} {oe : Obj} {vs : Array Value} (he : h.get? a = some oe) (hc : oe.cls = cls) (hd : oe.dict = d) (hv : oe.data = .fields vs) : ObjOk P w H h a (EO a cls d) :=
  ⟨⟨oe, vs, he, hc, hd, hv⟩, ⟨_, he⟩, fun h1 h2 z k => by
    obtain ⟨oe, vs, q, r⟩ := z
    exact ⟨oe, vs, k _ q, r⟩⟩
theorem eo_at {P : Program} {w : World} {H : Hp} {h : Heap} {a : Addr} {cls : Value} {d : Option Addr} (hok : HOk P w H h) (he : H a = some (EO a cls d)) : ∃ (oe : Obj) (vs : Array Value), h.get? a = some oe ∧ oe.cls = cls ∧ oe.dict = d ∧ oe.data = .fields vs := by
  have z : ObjOk P w H h a (.ext fun h => ∃ (oe : Obj) (vs : Array Value), h.get? a = some oe ∧ oe.cls = cls ∧ oe.dict = d ∧ oe.data = .fields vs) := hok a _ he
  exact z.1
section
variable {X : Cx} {pins : List (Addr × Obj)} {σ : L2.St} {H : Hp} {s : Shared}
/-- an object that no entry knew is told of from now on -/
theorem inv_track {a : Addr} {o : HO} (I : Inv X pins σ H s) (na : H a = none) (n0 : ∀ u, X.s_0.heap.get? a = some u → a ∈ X.ex ∨ X.H_0 a ≠ none) (nL : a ≠ X.env.locals) (nC : ∀ x c, X.env.cells.lookup x = some c → c ≠ a) (nP : ∀ p ∈ X.pn ++ pins, p.1 ≠ a)
    (ok : ObjOk X.prog X.w (upd H a o) s.heap a o) : Inv X pins σ (upd H a o) s := by
  have at_ : ∀ b u, H b = some u → upd H a o b = some u := fun b u e => by
    rw [upd_ne (ne_of_none e na)]
    exact e
  refine ⟨I.ok, I.os, I.bare, ⟨I.base.keep, I.base.slot, fun b u e n hx => ?_, I.base.there, fun b xs e => at_ _ _ (I.base.tups b xs e), fun b u v e => at_ _ _ (I.base.frzs b u v e), fun b ps e => ?_⟩, I.loc, I.cell, ?_, fun x c e => ?_, fun p hp => ?_, fun b u e => ?_, I.len⟩
  · by_cases hb : b = a
    · rw [hb] at e n hx
      rcases n0 u e with z | z
      · exact absurd z hx
      · exact absurd n z
    · rw [upd_ne hb]
      exact I.base.free b u e n hx
  · obtain ⟨more, e'⟩ := I.base.tbls b ps e
    exact ⟨more, at_ _ _ e'⟩
  · rw [upd_ne nL.symm]
    exact I.free
  · rw [upd_ne (nC x c e)]
    exact I.freeC x c e
  · obtain ⟨h1, h2, h3⟩ := I.pin p hp
    exact ⟨h1, by rw [upd_ne (nP p hp)]; exact h2, h3⟩
  · by_cases hb : b = a
    · rw [hb, upd_same] at e
      cases e
      rw [hb]
      exact ok
    · rw [upd_ne hb] at e
      exact (I.hok b u e).stay (fun _ _ _ q => q) (fun b q => at_ _ _ q) fun b xs q => at_ _ _ q
/-- out of a suite, its error still pinned -/
theorem inv_unsuite {a : Addr} {q : Addr × Obj} {pn' : List (Addr × Obj)} (I : Inv (X.suite a (q :: (X.pn ++ pins))) pn' σ H s) (ok : X.Ok) : Inv X (q :: pins) σ H s :=
  ⟨ok, I.os, I.bare, I.base, I.loc, I.cell, I.free, I.freeC, fun p hp => by
    refine I.pin p (List.mem_append_left _ ?_)
    rcases List.mem_append.mp hp with z | z
    · exact List.mem_cons_of_mem _ (List.mem_append_left _ z)
    · rcases List.mem_cons.mp z with z | z
      · rw [z]
        exact List.mem_cons_self
      · exact List.mem_cons_of_mem _ (List.mem_append_right _ z), I.hok, I.len⟩
end
/-- what 'except x as n: m = n' wishes of an exception of the body: n in slot i, m in slot j -/
def wKeep (K : PySem.W.Frag) (cs : List Value) (len i j : Nat) (Wout : WX) (D : Ends) : WX := fun cls d σ H =>
  ∃ b, PySem.W.exmAny K cls cs = some b ∧ (b = true → σ.length = len → ∀ a, H a = none → D.nx (((σ.set i (some (.ref a))).set j (some (.ref a))).set i none) (upd H a (EO a cls d))) ∧ (b = false → Wout cls d σ H)
section
variable {X : Cx} {x1 x2 x3 x4 n m : Str} {c1 c2 c3 c4 : Value} {i j kk : Nat} {body : List Stmt} {np1 np2 np3 np4 tpos p1 p2 p3 pos pos' : Pos} {tb : WX → TS} {Wout : WX}
theorem ps_try_keep (hs : X.stack = X.env :: X.outer) (hf : X.env.frame = some X.env.locals) (hex : X.ex = []) (hN : X.N.Nodup) (hi : X.N[i]? = some n) (hln : X.env.kindOf n = some .local) (hj : X.N[j]? = some m) (hlm : X.env.scope.names.lookup m = some .local)
    (hlt : i < X.N.length) (hij : i ≠ j) (hc1 : Names X x1 c1) (hc2 : Names X x2 c2) (hc3 : Names X x3 c3) (hc4 : Names X x4 c4) (tk : Takes X Wout)
    (hb : ∀ (W : WX) (pn : List (Addr × Obj)) (xe : Value → Shared → Prop), Takes (X.tr pn xe) W → PassesOwn (model X.prog X.w) X.A X.env xe → PSs (X.tr pn xe) body (tb W))
    (hd1 : (n == ("__debug__" : Str)) = false := by decide) (hd2 : (n == ("__classdict__" : Str)) = false := by decide) :
    PS X (.Try body [.ExceptHandler (some (.Tuple [.Name x1 np1, .Name x2 np2, .Name x3 np3, .Name x4 np4] kk tpos)) (some n) [.Assign [.Name m p1] (.Name n p2) p3] pos'] [] [] pos) (fun D σ H => tb (wKeep X.K [c1, c2, c3, c4] X.N.length i j Wout D) D σ H) := by
  refine ⟨fun pins s σ H D I h => ?_⟩
  have ok := I.ok
  have frm : X.A.frames = some (X.env :: X.outer) := ok.frames.trans (congrArg some hs)
  refine wpAny_Try_except (wpAny_mono ((hb (wKeep X.K [c1, c2, c3, c4] X.N.length i j Wout D) (X.pn ++ pins) (fun e s₁ => wpAny (model X.prog X.w) X.A (noteFrame e X.env) (fun _ s₂ => wpAny (model X.prog X.w) X.A (setFlight e none)
    (fun _ s₃ => wpAny (model X.prog X.w) X.A (handleBy e X.env [.ExceptHandler (some (.Tuple [.Name x1 np1, .Name x2 np2, .Name x3 np3, .Name x4 np4] kk tpos)) (some n) [.Assign [.Name m p1] (.Name n p2) p3] pos']) (SP X pins D) X.xe s₃) X.xe s₂) X.xe s₁)
    (fun u s' air => ?_) PassesOwn.looking).run [] s σ H D (I.toTry _) h) (fun f s1 hsp => ?_) (fun _ _ z => z))
  · -- an error comes out of the body
    obtain ⟨a, B, sI, pins', σ', H', cls, d, rfl, JT, nb, up, sky, na, os, ag, b, hb1, hyes, hno⟩ := air
    have J : Inv X pins σ' H' sI := JT.ofTry ok
    have sky1 : Sky B (X.env :: X.outer) a (Zc cls d) X.env.locals s'.heap := hs ▸ sky
    show wpAny (model X.prog X.w) X.A (noteFrame (.ref a) X.env) _ _ _
    refine Sky.land Zc.steady frm hf sky1 fun hA flA upA => ?_
    have JA : Inv X pins σ' H' { s' with heap := hA } := J.landed nb flA.1 (up.trans upA) os ag
    obtain ⟨oA, vA, getA, zA, dA⟩ := flA.there
    have out : a ∉ frs (X.env :: X.outer) := fun hm => by
      obtain ⟨_, o', e', bad⟩ := flA.2.2.1.mem hm
      rw [getA] at e'
      cases e'
      exact bad _ dA
    have nL : a ≠ X.env.locals := fun z => out (List.mem_filterMap.mpr ⟨X.env, List.mem_cons_self, by rw [hf, z]⟩)
    have nF : a ∉ X.fs := fun hm => by
      obtain ⟨e, he, q⟩ := List.mem_filterMap.mp hm
      exact out (List.mem_filterMap.mpr ⟨e, List.mem_cons_of_mem _ he, q⟩)
    have noB : ∀ o, sI.heap.get? a = some o → False := fun o e => by
      have z := nb a o e (by rw [hs]; exact out)
      rw [flA.2.1] at z
      cases z
    have SA := JA.suite getA dA na nL nF
    refine wpAny_handleBy_cons (codeAny_handlers_test ?_) (by intro q; cases q)
    have name : ∀ {x : Str} {c : Value} {np : Pos} {Q : Value → Shared → Prop} {E : Value → Shared → Prop}, Names X x c → Q c { s' with heap := hA } → wpAny (model X.prog X.w) (X.A.mark (some (.ref a))) (eval (.Name x np) X.env) Q E { s' with heap := hA } := fun {x c np Q E} hc q => by
      obtain ⟨hg, hdbg, hm | ⟨hm, hv, hnn⟩⟩ := hc
      · exact ld_glob (X := X.suite a ((a, oA) :: (X.pn ++ pins))) SA hg hm q hdbg
      · exact ld_blt (X := X.suite a ((a, oA) :: (X.pn ++ pins))) SA hg hm hv q hnn hdbg
    refine wpAny_Tuple ?_
    refine wpAny_items_cons (name hc1 ?_)
    refine wpAny_items_cons (name hc2 ?_)
    refine wpAny_items_cons (name hc3 ?_)
    refine wpAny_items_cons (name hc4 ?_)
    refine wpAny_items_nil ⟨by size_fits, ?_⟩
    have kp : ∀ q o, hA.get? q = some o → (hA.push { cls := .type "tuple", data := .seq [c1, c2, c3, c4].toArray }).get? q = some o := fun _ _ z => Heap.get?_push_of_some _ z
    have LT : PySem.W.Looks (model X.prog X.w) hA (typeOf (.ref a)) cls := fun A Q E s k q => wpAny_typeOf_ref (k _ _ getA) (by rw [zA.1]; exact q)
    refine (PySem.W.exm_tup4 (fun c o e => kp c o (JA.kIn c o e)) (LT.keeps kp) (Heap.get?_push_size hA rfl) hb1).here ?_
    have flA := flying_keeps flA kp
    have upA : s'.heap.UpToSlots (hA.push { cls := .type "tuple", data := .seq [c1, c2, c3, c4].toArray }) := upA.trans fun c o e _ => ⟨o.slots, kp c o e⟩
    clear SA JA LT name
    dsimp only
    generalize hA.push { cls := .type "tuple", data := .seq [c1, c2, c3, c4].toArray } = hT at flA upA ⊢
    cases b with
    | false =>
      show wpAny _ X.A (handleBy (.ref a) X.env []) _ _ _
      refine wpAny_handleBy_nil ?_
      obtain ⟨_, _, _, oe, vs, T, oT, _, he, _, hd, h1, _⟩ := id flA
      have fin : wpAny (model X.prog X.w) X.A (setFlight (.ref a) X.env.frame) (fun _ s4 => wpAny (model X.prog X.w) X.A (throw (.ref a) : Sem Flow) (SP X pins D) X.xe s4) X.xe { s' with heap := hT } := by
        rw [hf]
        exact HandSPX.setFlight_upZ flA fun hB fB upB => wpAny_throw (tk _ _ ⟨a, B, sI, pins, σ', H', cls, d, rfl, J, nb, (up.trans upA).trans upB, .inr (.inr (by rw [hs]; exact fB)), na, os, ag, hno rfl⟩)
      unfold PySem.passOn
      refine wpAny_bind (wpAny_field he hd h1 ?_)
      rw [if_neg (show ¬ ((Value.ref T == Value.none) = true) from by simp)]
      first
        | exact wpAny_bind (wpAny_pure (wpAny_bind fin))
        | exact wpAny_bind fin
    | true =>
      refine codeAny_handlers_suite_as (HandSPX.lands_againZ flA fun hB flB upB => ?_)
      have JB : Inv X pins σ' H' { s' with heap := hB } := J.landed nb flB.1 ((up.trans upA).trans upB) os ag
      obtain ⟨oB, vB, getB, zB, dB⟩ := flB.there
      refine store_ok (X := X.suite a ((a, oB) :: (X.pn ++ pins))) (v := .ref a) (JB.suite getB dB na nL nF) hN hi (.inl hln) rfl (fun s5 S5 => ?_) (.inr hln)
      have li : i < σ'.length := by rw [J.len]; exact hlt
      have put : PSs (X.suite a ((a, oB) :: (X.pn ++ pins))) [.Assign [.Name m p1] (.Name n p2) p3] (tAsg (tVar i) (gName j)) := pss_one (ps_set (hf := .inr hlm) hN hj (.inl hlm) (pe_var hi (.inl hln) hd1 hd2))
      refine wpAny_mono (put.run [] s5 _ H' { nx := fun σ6 H6 => σ6 = (σ'.set i (some (.ref a))).set j (some (.ref a)) ∧ H6 = H', rt := fun _ _ => False, bk := fun _ _ => False, ct := fun _ _ => False } S5 ⟨_, List.getElem?_set_self li, rfl, rfl⟩) (fun f s6 hsp => ?_) (fun _ _ z => False.elim z)
      cases f with
      | next =>
        obtain ⟨σ6, H6, S6, rfl, rfl⟩ := hsp
        refine gone_ok (inv_unsuite S6 ok) hN hi hln fun s7 J7 => ?_
        obtain ⟨get7, _⟩ := J7.pin (a, oB) (List.mem_append_right _ List.mem_cons_self)
        have J8 : Inv X pins _ H6 s7 := J7.pins_of fun p hp => J7.pin p (List.mem_append_right _ (List.mem_cons_of_mem _ hp))
        refine ⟨_, _, inv_track J8 na (fun u e => ?_) nL (fun y cc e z => ?_) (fun p hp z => ?_) (eo_ok (cls := cls) (d := d) get7 zB.1 zB.2 dB), hyes rfl J.len a na⟩
        · refine .inr fun hz => ?_
          exact noB _ (J.base.keep a u e hz nF (by rw [hex]; simp))
        · obtain ⟨v, o, ho, hdd⟩ := J7.cell y cc e
          rw [z, get7] at ho
          cases ho
          rw [show oB.data = _ from hdd] at dB
          cases dB
        · obtain ⟨e, _⟩ := J.pin p hp
          rw [z] at e
          exact noB _ e
      | brk =>
        obtain ⟨_, _, _, z⟩ := hsp
        exact z.elim
      | cont =>
        obtain ⟨_, _, _, z⟩ := hsp
        exact z.elim
      | ret u =>
        obtain ⟨_, _, _, _, _, z⟩ := hsp
        exact z.elim
  · cases f with
    | next =>
      obtain ⟨σ', H', J', q⟩ := hsp
      exact wpAny_execs_nil ⟨σ', H', J'.ofTry ok, q⟩
    | brk =>
      obtain ⟨σ', H', J', q⟩ := hsp
      exact ⟨σ', H', J'.ofTry ok, q⟩
    | cont =>
      obtain ⟨σ', H', J', q⟩ := hsp
      exact ⟨σ', H', J'.ofTry ok, q⟩
    | ret u =>
      obtain ⟨v, σ', H', J', r, q⟩ := hsp
      exact ⟨v, σ', H', J'.ofTry ok, r, q⟩
end

structure ErrF (K : PySem.W.Frag) (C : Addr) : Prop where
  ga : PySem.W.findIn K (.ref C) "__getattribute__" = some (some (.builtin "BaseException.__getattribute__"))
  gg : PySem.W.findIn K (.ref C) "__getattr__" = some none
  exC : PySem.W.subIn K (.ref C) (.type "BaseException") = some true
  hdC : PySem.W.hasDictIn K C = true
  noN : PySem.W.findIn K (.ref C) "place" = some none
/-- what isinstance asks of the class at C -/
structure IsFacts (K : PySem.W.Frag) (C : Addr) : Prop where
  cl : (PySem.W.clsIn K C).isSome = true
  ha : PySem.W.findIn K (.ref C) "__class__" = some (some (.builtin "object.__class__"))
  hn : PySem.W.specialIn K (.builtin "object.__class__") "__get__" = some (some (.builtin "getset_descriptor.__get__"))
  tk : PySem.W.takesIn K (.builtin "object.__class__") = some true
  hm : PySem.W.mroIn K C (.type "object") = some true
section
variable {X : Cx} {pins : List (Addr × Obj)} {σ : L2.St} {H : Hp} {s : Shared} {CF : Addr}
theorem eo_inst {a d : Addr} {fs : List (Str × V)} (I : Inv X pins σ H s) (e : H a = some (EO a (.ref CF) (some d))) (ed : H d = some (.xd fs)) : ∃ oe od, PySem.W.InstAt s.heap a oe CF (some od) ∧ ∃ mA : Str → Option Value, (∀ name, PySem.W.lookIn name od = some (mA name)) ∧ ∀ f, RelO (fs.lookup f) (mA f) := by
  obtain ⟨oe, vs, h1, h2, h3, h4⟩ := eo_at I.hok e
  obtain ⟨mA, hns, hr⟩ := (show ObjOk X.prog X.w H s.heap d (.xd fs) from I.hok d _ ed)
  obtain ⟨od, ho, hl⟩ := lookIn_ns hns
  exact ⟨oe, od, ⟨h1, h2, by unfold PySem.W.notCls; rw [h4], by rw [h3]; exact ho⟩, mA, hl, hr⟩
/-- isinstance(e, c), isinstance(e, (c1, c2)) -/
theorem call_isiEO (R : ErrF X.K CF) (T : IsFacts X.K CF) : CallR X (.builtin "isinstance") (fun xs H Q => ∃ (a d : Addr) (fs : List (Str × V)) (c : V) (u : Value) (b : Bool), xs = [.ref a, c] ∧ ClsV c u ∧ H a = some (EO a (.ref CF) (some d)) ∧ H d = some (.xd fs) ∧
    PySem.W.kitOne X.K (.ref CF) u = some b ∧ Q (.bl b) H) := by
  intro pins s σ H xs us Q I r h
  obtain ⟨a, d, fs, c, u, b, rfl, k, ea, ed, e, q⟩ := h
  obtain ⟨u1, u2, rfl, r1, r2⟩ := vals2 r
  obtain rfl : u1 = Value.ref a := r1
  have e2 := k.eq r2
  subst e2
  obtain ⟨oe, od, J, _⟩ := eo_inst I ea ed
  exact PySem.W.kia_one (PySem.W.kitx_exc T.cl R.ga R.gg R.exC T.ha T.hn T.tk T.hm) I.kIn J e (fun z => nomatch z) fun tk => ⟨.bl b, H, I.tok tk, rfl, q⟩
theorem call_isiEOT (R : ErrF X.K CF) (T : IsFacts X.K CF) : CallR X (.builtin "isinstance") (fun xs H Q => ∃ (a d tp : Addr) (fs : List (Str × V)) (cs : List V) (us : List Value) (b : Bool), xs = [.ref a, .ref tp] ∧ H tp = some (.tup cs) ∧ Paired ClsV cs us ∧
    H a = some (EO a (.ref CF) (some d)) ∧ H d = some (.xd fs) ∧ PySem.W.kitAny X.K (.ref CF) us = some b ∧ Q (.bl b) H) := by
  intro pins s σ H xs us Q I r h
  obtain ⟨a, d, tp, fs, cs, ws, b, rfl, hT, k, ea, ed, e, q⟩ := h
  obtain ⟨u1, u2, rfl, r1, r2⟩ := vals2 r
  obtain rfl : u1 = Value.ref a := r1
  obtain rfl : u2 = Value.ref tp := r2
  obtain ⟨_, its, rv, o, h1, h2, n, h3⟩ := (show ObjOk X.prog X.w H s.heap tp (.tup cs) from I.hok tp _ hT)
  have e3 := ClsV.all k rv
  subst e3
  obtain ⟨oc, oc2, dt, sl⟩ := o
  simp only at h2 h3
  subst h2 h3
  obtain ⟨oe, od, J, _⟩ := eo_inst I ea ed
  exact PySem.W.kia_tup (PySem.W.kitx_exc T.cl R.ga R.gg R.exC T.ha T.hn T.tk T.hm) I.kIn J h1 e (fun z => nomatch z) fun tk => ⟨.bl b, H, I.tok tk, rfl, q⟩
/-- e.place -/
def tPlace (CF : Addr) (te : TE) : TE := fun σ H Q => te σ H fun x H1 => ∃ (a d : Addr) (v : V), x = .ref a ∧ H1 a = some (EO a (.ref CF) (some d)) ∧ H1 d = some (.xd [("place", v)]) ∧ Q v H1
theorem pe_place {e : Expr} {te : TE} {pos : Pos} (R : ErrF X.K CF) (he : PE X e te) (hb : attributeBase e "place" X.env (eval e X.env) = eval e X.env := by rfl) : PE X (.Attribute e "place" pos) (tPlace CF te) := by
  refine ⟨fun pins s σ H Q I h => ?_⟩
  refine attr_of hb (thn (he.run pins s σ H _ I h) fun u s1 hh => ?_)
  obtain ⟨x, H1, I1, rx, a, d, v, rfl, ea, ed, q⟩ := hh
  obtain rfl : u = Value.ref a := rx
  obtain ⟨oe, od, J, mA, hl, hr⟩ := eo_inst I1 ea ed
  have l : List.lookup ("place" : Str) [(("place" : Str), v)] = some v := by simp [List.lookup]
  obtain ⟨u, hu, ru⟩ := RelO.some_of (v := v) (o := mA "place") (by rw [← l]; exact hr "place")
  exact HandSPX.exc_get I1.kIn J R.ga R.gg R.exC (PySem.W.findObj_own R.hdC R.noN rfl (by rw [hl, hu])) (handed_of ru) ⟨v, H1, I1.tok _, ru, q⟩
end
end BK


set_option Elab.async false
set_option maxRecDepth 100000
set_option maxHeartbeats 1000000
/-! repr of data: where no repr runs around; trees that are shown. -/
namespace BK
open PySem PySem.Spec PyProof.Rows L2
/-- a def's promise, called where no guarded call runs around -/
structure FnG (P : Program) (w : World) (K : PySem.W.Frag) (mg : Str → Option Value) (base : Heap) (k : Nat) (f : Addr) (fd : FuncData) (ps : List Str) (sp : Sp) : Prop where
  len : ∀ vs H Q E, sp vs H Q E → vs.length = ps.length
  run : ∀ (A : Around) (outer : List Env) (s : Shared) (H : Hp) (us : List Value) (vs : List V) (Q : VK) (E : XK), A.guards = some [] → Room k A → Env0 P w K mg base A outer s H → BindsTo s fd ⟨us, []⟩ (ps.zip us) → Vals vs us → sp vs H Q E →
    codeAny (model P w) A (.call (.ref f) ⟨us, []⟩) (CR CX0 outer P w H s Q E) s
section
variable {P : Program} {w : World} {K : PySem.W.Frag} {mg : Str → Option Value} {base : Heap}
theorem fng_of {k : Nat} {f : Addr} {name qual : Str} {params : Arguments} {body : List Stmt} {scope : Scope} {dV kV doc pm cdv ct oc : Value} {an od : Option Addr} {osl : Array (Option Value)} {N ps : List Str} {sp : Sp}
    (lk : K.lookup f = some ⟨oc, od, .func (PySem.W.fnOf name qual params body scope dV kV doc pm an cdv ct), osl⟩) (hcd : PySem.W.codeIn K cdv qual = true) (S : FnScope N ps scope) (len : ∀ vs H Q E, sp vs H Q E → vs.length = ps.length)
    (hbody : ∀ (A : Around) (outer : List Env) (s : Shared) (H : Hp) (vs : List V) (Q : VK) (E : XK), A.guards = some [] → Room k (A.deeper (envOfC qual scope s.heap.objs.size f cdv)) → sp vs H Q E →
      ∃ t, PSs (cxOf CX0 P w K mg base N qual scope f cdv A outer s H E).nox body t ∧ t { nx := fun _ H' => Q .non H', rt := Q } (L2.start N vs) H) :
    FnG P w K mg base (k + 1) f (PySem.W.fnOf name qual params body scope dV kV doc pm an cdv ct) ps sp :=
  ⟨len, fun A outer s H us vs Q E gd hr e0 hb r hsp => LamX.run_ofS lk hcd S hr e0 hb r (len _ _ _ _ hsp) fun hr' => by
    obtain ⟨t, ht, q⟩ := hbody A outer s H vs Q E gd hr' hsp
    exact ⟨t, ht.nox, q⟩⟩
end
section
variable {X : Cx} {k : Nat} {f : Addr} {fd : FuncData} {ps : List Str} {sp : Sp} {x : Str} {p pos : Pos} {e : Expr} {es : List Expr} {t : TA}
theorem pe_callG (F : FnG X.prog X.w X.K X.mg X.base k f fd ps sp) (gd : X.A.guards = some []) (hr : Room k X.A) (hg : Gl X x) (hm : X.mg x = some (.ref f)) (hk : PySem.W.keepIn X.K (.ref f) = true) (hb : L2.Binds X.K fd ps []) (ha : PA X (e :: es) t)
    (hdb : (x == ("__debug__" : Str)) = false := by decide) (he : starEach (e :: es) X.env = (false, eval e X.env) :: starEach es X.env := by rfl) (hpl : (backTo pos (starEach es X.env)).any (·.1) = false := by rfl) :
    PE X (.Call (.Name x p) (e :: es) [] pos) (tCall sp [] E0 t) := by
  refine ⟨fun pins s σ H Q I h => wpAny_Call_Name_kw (ld_glob I hg hm (PySem.W.callWith_K (h₀ := X.base) I.ok.mod.kin hk (thn (ha.run pos pins s σ H _ I h) fun us s1 hh => ?_) he hpl) hdb)⟩
  obtain ⟨vs, H1, I1, r, q⟩ := hh
  rw [List.append_nil] at q
  have hl : (us ++ []).length = ps.length := by
    rw [List.append_nil, ← r.length]
    exact F.len _ _ _ _ q
  have bd := hb s1 us I1.kIn hl
  rw [List.append_nil] at bd
  refine ⟨I1.kIn, wpAny_call (codeAny_mono (F.run X.A X.stack s1 H1 us vs Q E0 gd hr I1.env0 bd r q) fun r s' hq => ?_)⟩
  match r, hq with
  | .ok (.ret u), hq => exact I1.after hq
/-- repr of lists and tuples of data -/
theorem call_reprD (gd : X.A.guards = some []) (hr : Room 0 X.A) : CallR X (.builtin "repr") (fun xs H Q => ∃ (a : Addr) (d : PyData), xs = [.ref a] ∧ Dp X.K H (.ref a) d ∧ d.showable = true ∧ d.hasDict = false ∧ d.depth ≤ 60 ∧ d.shown.length ≤ sizeLine ∧ Q (.str d.shown) H) := by
  intro pins s σ H xs us Q I r h
  obtain ⟨a, d, rfl, hd, hs, hn, hp, hz, q⟩ := h
  obtain ⟨u, rfl, rx⟩ := vals1 r
  obtain rfl : u = Value.ref a := rx
  obtain ⟨as, rd⟩ := Dp.reads I d (.ref a) _ hd rfl
  have hu := hr.units
  exact repr_of_reads' rd hs (PyData.noDict_hsm hn) gd (by omega) (fun _ _ e => e) (fun h' u tk hk => ⟨.str d.shown, H, I.kept hk, ⟨u, rfl⟩, q⟩) hz
end

/-! trees as data -/
mutual
def pdT : Tr → PyData
  | .non => .none
  | .bl b => .bool b
  | .int i => .int i
  | .str s => .str s
  | .lst => .none
  | .dct => .none
  | .tup ts => .tuple (pdTs ts)
def pdTs : List Tr → List PyData
  | [] => []
  | t :: r => pdT t :: pdTs r
end
mutual
/-- no list, no dict; short ints, short texts -/
def dataT : Tr → Bool
  | .non => true
  | .bl _ => true
  | .int i => decide (i.natAbs < 10 ^ 60)
  | .str s => s.cps.toList.all (fun c => decide (c ≤ 122)) && decide (s.length ≤ 100)
  | .lst => false
  | .dct => false
  | .tup ts => dataTs ts
def dataTs : List Tr → Bool
  | [] => true
  | t :: r => dataT t && dataTs r
end
mutual
def depT : Tr → Nat
  | .tup ts => depTs ts + 1
  | _ => 0
def depTs : List Tr → Nat
  | [] => 0
  | t :: r => max (depT t) (depTs r)
end
mutual
def sizT : Tr → Nat
  | .tup ts => sizTs ts
  | _ => 0
def sizTs : List Tr → Nat
  | [] => 0
  | t :: r => sizT t + 1 + sizTs r
end
structure ReprOk (t : Tr) : Prop where
  da : dataT t = true
  de : depT t ≤ 50
  si : (pdT t).weight ≤ 150000
section
variable {K : PySem.W.Frag} {H : Hp}
mutual
theorem TrAt.dp : ∀ {v : V} {t : Tr}, TrAt K H v t → dataT t = true → Dp K H v (pdT t)
  | _, _, .non, _ => by simp only [pdT]; exact .non
  | _, _, .bl b, _ => by simp only [pdT]; exact .bl b
  | _, _, .int i, _ => by simp only [pdT]; exact .int i
  | _, _, .str s _, _ => by simp only [pdT]; exact .str s
  | _, _, .lst _, e => by simp [dataT] at e
  | _, _, .dct _, e => by simp [dataT] at e
  | _, _, .tup h k, e => by
    simp only [dataT] at e
    simp only [pdT]
    exact .tup h (TrAll.dp k e)
theorem TrAll.dp : ∀ {vs : List V} {ts : List Tr}, TrAll K H vs ts → dataTs ts = true → DpAll K H vs (pdTs ts)
  | _, _, .nil, _ => by simp only [pdTs]; exact .nil
  | _, _, .cons h k, e => by
    simp only [dataTs, Bool.and_eq_true] at e
    simp only [pdTs]
    exact .cons (h.dp e.1) (k.dp e.2)
end
end
theorem ten_log {v : Int} (h : v.natAbs < 10 ^ 60) : v.natAbs.log2 < 200 := by
  by_cases z : v.natAbs = 0
  · rw [z]; decide
  · rw [Nat.log2_lt z]
    exact Nat.lt_trans h (by decide +kernel)
mutual
theorem pd_show : ∀ t : Tr, dataT t = true → (pdT t).showable = true
  | .non, _ => by simp [pdT, PyData.showable]
  | .bl _, _ => by simp [pdT, PyData.showable]
  | .int i, e => by
    simp only [dataT, decide_eq_true_eq] at e
    simp only [pdT, PyData.showable, decide_eq_true_eq]
    exact Nat.lt_trans (ten_log e) (by decide)
  | .str _, _ => by simp [pdT, PyData.showable]
  | .lst, _ => by simp [pdT, PyData.showable]
  | .dct, _ => by simp [pdT, PyData.showable]
  | .tup ts, e => by
    simp only [dataT] at e
    simp only [pdT, PyData.showable]
    exact pds_show ts e
theorem pds_show : ∀ ts : List Tr, dataTs ts = true → PyData.showableAll (pdTs ts) = true
  | [], _ => by simp [pdTs, PyData.showableAll]
  | t :: r, e => by
    simp only [dataTs, Bool.and_eq_true] at e
    simp only [pdTs, PyData.showableAll, pd_show t e.1, pds_show r e.2, Bool.and_self]
end
mutual
theorem pd_noDict : ∀ t : Tr, (pdT t).hasDict = false
  | .non => by simp [pdT, PyData.hasDict]
  | .bl _ => by simp [pdT, PyData.hasDict]
  | .int _ => by simp [pdT, PyData.hasDict]
  | .str _ => by simp [pdT, PyData.hasDict]
  | .lst => by simp [pdT, PyData.hasDict]
  | .dct => by simp [pdT, PyData.hasDict]
  | .tup ts => by
    simp only [pdT, PyData.hasDict]
    exact pds_noDict ts
theorem pds_noDict : ∀ ts : List Tr, PyData.hasDictAll (pdTs ts) = false
  | [] => by simp [pdTs, PyData.hasDictAll]
  | t :: r => by simp only [pdTs, PyData.hasDictAll, pd_noDict t, pds_noDict r, Bool.or_self]
end
mutual
theorem pd_depth : ∀ t : Tr, (pdT t).depth = depT t
  | .non => by simp [pdT, PyData.depth, depT]
  | .bl _ => by simp [pdT, PyData.depth, depT]
  | .int _ => by simp [pdT, PyData.depth, depT]
  | .str _ => by simp [pdT, PyData.depth, depT]
  | .lst => by simp [pdT, PyData.depth, depT]
  | .dct => by simp [pdT, PyData.depth, depT]
  | .tup ts => by simp only [pdT, PyData.depth, depT, pds_depth ts]
theorem pds_depth : ∀ ts : List Tr, PyData.depthAll (pdTs ts) = depTs ts
  | [] => by simp [pdTs, PyData.depthAll, depTs]
  | t :: r => by simp only [pdTs, PyData.depthAll, depTs, pd_depth t, pds_depth r]
end
mutual
theorem pd_leaves : ∀ t : Tr, dataT t = true → PyData.leavesShort 100 (pdT t) = true
  | .non, _ => by simp [pdT, PyData.leavesShort]
  | .bl _, _ => by simp [pdT, PyData.leavesShort]
  | .int i, e => by
    simp only [dataT, decide_eq_true_eq] at e
    simp only [pdT, PyData.leavesShort, decide_eq_true_eq]
    have : (toString i).length ≤ 60 + 1 := int_text_length_le10 (by decide) e
    have q := PyProof.Rows.int_text_len_1921 (Nat.lt_trans (ten_log e) (by decide : 200 < 1920))
    show (Str.ofString (toString i)).length ≤ 100
    rw [PySem.ofString_length]
    omega
  | .str s, e => by
    simp only [dataT, Bool.and_eq_true] at e
    simp only [pdT, PyData.leavesShort]
    rw [List.all_eq_true]
    intro c hc
    have := of_decide_eq_true (List.all_eq_true.mp e.1 c hc)
    exact decide_eq_true (by omega)
  | .lst, _ => by simp [pdT, PyData.leavesShort]
  | .dct, _ => by simp [pdT, PyData.leavesShort]
  | .tup ts, e => by
    simp only [dataT] at e
    simp only [pdT, PyData.leavesShort]
    exact pds_leaves ts e
theorem pds_leaves : ∀ ts : List Tr, dataTs ts = true → PyData.leavesShortAll 100 (pdTs ts) = true
  | [], _ => by simp [pdTs, PyData.leavesShortAll]
  | t :: r, e => by
    simp only [dataTs, Bool.and_eq_true] at e
    simp only [pdTs, PyData.leavesShortAll, pd_leaves t e.1, pds_leaves r e.2, Bool.and_self]
end
mutual
theorem pd_weight : ∀ t : Tr, dataT t = true → (pdT t).weight ≤ 300 * sizT t + 250
  | .non, _ => by simp [pdT, PyData.weight]
  | .bl _, _ => by simp [pdT, PyData.weight]
  | .int i, e => by
    simp only [dataT, decide_eq_true_eq] at e
    simp only [pdT, PyData.weight]
    have := ten_log e
    split <;> omega
  | .str s, e => by
    simp only [dataT, Bool.and_eq_true] at e
    simp only [pdT, PyData.weight]
    have : s.cps.size ≤ 100 := of_decide_eq_true e.2
    omega
  | .lst, _ => by simp [pdT, PyData.weight]
  | .dct, _ => by simp [pdT, PyData.weight]
  | .tup ts, e => by
    simp only [dataT] at e
    simp only [pdT, PyData.weight, sizT]
    have := pds_weight ts e
    omega
theorem pds_weight : ∀ ts : List Tr, dataTs ts = true → PyData.weightAll (pdTs ts) ≤ 300 * sizTs ts
  | [], _ => by simp [pdTs, PyData.weightAll]
  | t :: r, e => by
    simp only [dataTs, Bool.and_eq_true] at e
    have h1 := pd_weight t e.1
    have h2 := pds_weight r e.2
    simp only [pdTs, PyData.weightAll, sizTs]
    omega
end
/-- what repr asks of [t, b] -/
theorem repr_pair {t : Tr} (h : ReprOk t) (b : Bool) : (PyData.list [pdT t, .bool b]).showable = true ∧ (PyData.list [pdT t, .bool b]).hasDict = false ∧ (PyData.list [pdT t, .bool b]).depth ≤ 60 ∧ (PyData.list [pdT t, .bool b]).shown.length ≤ sizeLine := by
  refine ⟨by simp only [PyData.showable, PyData.showableAll, pd_show t h.da, Bool.and_self], by simp only [PyData.hasDict, PyData.hasDictAll, pd_noDict t, Bool.or_self], ?_, ?_⟩
  · simp only [PyData.depth, PyData.depthAll, pd_depth]
    have := h.de
    omega
  · have l : PyData.leavesShort 100 (.list [pdT t, .bool b]) = true := by simp only [PyData.leavesShort, PyData.leavesShortAll, pd_leaves t h.da, Bool.and_self]
    have := PyData.shown_le 100 (by decide) _ l
    have w := pd_weight t h.da
    have s := h.si
    simp only [PyData.weight, PyData.weightAll] at this
    rw [sizeLine_eq]
    omega
/-- what repr asks of [[t], b] -/
theorem repr_found {t : Tr} (h : ReprOk t) (b : Bool) : (PyData.list [.list [pdT t], .bool b]).showable = true ∧ (PyData.list [.list [pdT t], .bool b]).hasDict = false ∧ (PyData.list [.list [pdT t], .bool b]).depth ≤ 60 ∧ (PyData.list [.list [pdT t], .bool b]).shown.length ≤ sizeLine := by
  refine ⟨by simp only [PyData.showable, PyData.showableAll, pd_show t h.da, Bool.and_self], by simp only [PyData.hasDict, PyData.hasDictAll, pd_noDict t, Bool.or_self], ?_, ?_⟩
  · simp only [PyData.depth, PyData.depthAll, pd_depth]
    have := h.de
    omega
  · have l : PyData.leavesShort 100 (.list [.list [pdT t], .bool b]) = true := by simp only [PyData.leavesShort, PyData.leavesShortAll, pd_leaves t h.da, Bool.and_self]
    have := PyData.shown_le 100 (by decide) _ l
    have w := pd_weight t h.da
    have s := h.si
    simp only [PyData.weight, PyData.weightAll] at this
    rw [sizeLine_eq]
    omega
end BK


set_option Elab.async false
set_option maxRecDepth 100000
set_option maxHeartbeats 4000000
/-! _law_due_right. -/
namespace BK
open PySem PySem.Spec PyProof.Rows L2 RZ ET
abbrev sDue : Stmt := top 54
abbrev nDue : List Str := ["thing", "place", "found", "caught", "e", "others"]
theorem scDue : FnScope nDue ["thing", "place"] (defScope sDue) := ⟨rfl, rfl, rfl, by decide +kernel, rfl, by decide +kernel, by decide +kernel⟩
def spDue (K : PySem.W.Frag) : Sp := fun vs H Q _ => ∃ tv pl t, vs = [tv, pl] ∧ TrAt K H tv t ∧ TrAt K H pl (resT (faultT t)) ∧ (faultT t = none → ReprOk t) ∧ (∀ p, faultT t = some p → ReprOk (placeT p)) ∧ ∀ H', Same H H' → Q (.bl true) H'
/-- the classes of errors that the law names -/
structure Errs (K : PySem.W.Frag) (mg : Str → Option Value) (CB CP CQ CT CF CS : Addr) : Prop where
  gB : mg "BadBook" = some (.ref CB)
  gP : mg "BadProgram" = some (.ref CP)
  gQ : mg "BadQuestion" = some (.ref CQ)
  gT : mg "BadText" = some (.ref CT)
  gF : mg "Fails" = some (.ref CF)
  gS : mg "StepwhereError" = some (.ref CS)
  ex : PySem.W.exmAny K (.ref CB) [.ref CB, .ref CP, .ref CQ, .ref CT] = some true
  k4 : PySem.W.kitAny K (.ref CB) [.ref CP, .ref CQ, .ref CT, .ref CF] = some false
  kB : PySem.W.kitOne K (.ref CB) (.ref CB) = some true
  kS : PySem.W.kitOne K (.ref CB) (.ref CS) = some true
  kV : PySem.W.kitOne K (.ref CB) (.type "ValueError") = some true
section
variable {P : Program} {w : World} {K : PySem.W.Frag} {mg : Str → Option Value} {base : Heap}
theorem ok_due {f fN fB CB CP CQ CT CF CS : Addr} {fdN fdB : FuncData} {oc kV doc pm ct cdv : Value} {od an : Option Addr} {osl : Array (Option Value)} (lk : K.lookup f = some ⟨oc, od, .func (PySem.W.fnOf "_law_due_right" "_law_due_right" (defArgs sDue) (defBody sDue) (defScope sDue) .none kV doc pm an cdv ct), osl⟩)
    (hcd : PySem.W.codeIn K cdv "_law_due_right" = true) (Er : Errs K mg CB CP CQ CT CF CS) (R : ErrF K CB) (I : IsFacts K CB)
    (GN : FnOk P w K mg base (L2.CX P w) 17 fN fdN ["thing"] (spNeed K CB)) (bN : Binds K fdN ["thing"] []) (gN : mg "need_book" = some (.ref fN)) (kN : PySem.W.keepIn K (.ref fN) = true)
    (GB : FnOk P w K mg base CX0 17 fB fdB ["thing"] (spOf isBookT K)) (bB : Binds K fdB ["thing"] []) (gB : mg "is_book" = some (.ref fB)) (kB : PySem.W.keepIn K (.ref fB) = true)
    (mR : mg "repr" = none) (mI : mg "isinstance" = none) (mV : mg "ValueError" = none) :
    FnG P w K mg base 18 f (PySem.W.fnOf "_law_due_right" "_law_due_right" (defArgs sDue) (defBody sDue) (defScope sDue) .none kV doc pm an cdv ct) ["thing", "place"] (spDue K) := by
  refine fng_of lk hcd scDue (fun vs H Q E h => ?_) (fun A outer s H vs Q E gd hr h => ?_)
  · obtain ⟨tv, pl, t, rfl, _⟩ := h
    rfl
  · obtain ⟨tv, pl, t, rfl, ht, hp, ok1, ok2, k⟩ := h
    have hr0 : Room 0 _ := hr.mono (by decide)
    have gd' : (A.deeper (envOfC "_law_due_right" (defScope sDue) s.heap.objs.size f cdv)).guards = some [] := gd
    refine ⟨_, pss_cons (ps_par (i := 2) (j := 3) rfl scDue.nd rfl rfl (by decide) rfl rfl (pa_cons (pe_lst pa_nil) (pa_cons pe_non pa_nil)) (by rfl))
      (pss_cons (ps_try_keep (X := (cxOf C8.CX0 P w K mg base nDue "_law_due_right" (defScope sDue) f cdv A outer s H E).nox) (i := 4) (j := 3) (c1 := .ref CB) (c2 := .ref CP) (c3 := .ref CQ) (c4 := .ref CT)
          (tb := fun W => tDrop (tBM K "list" rAppend (tVar 2) (tCons (tCallS (spNeed K CB) (fun σ cls d H' => W cls d σ H') (tCons (tVar 0) tNil)) tNil)))
          (x1 := "BadBook") (x2 := "BadProgram") (x3 := "BadQuestion") (x4 := "BadText") rfl rfl rfl scDue.nd rfl rfl rfl rfl (by show 4 < 6; decide) (by decide) ⟨by rfl, by decide, .inl Er.gB⟩ ⟨by rfl, by decide, .inl Er.gP⟩ ⟨by rfl, by decide, .inl Er.gQ⟩ ⟨by rfl, by decide, .inl Er.gT⟩ LamX.takes0
          (fun W pn xe tk _ => pss_one (ps_expr (pe_bm PySem.F.plainAttrs_list PySem.F.slot_list_append PySem.F.type_list_append mt_append (pv 2) (pa_cons (by exact (pe_callS GN hr rfl gN kN bN (fun σ => passAt tk σ) (by exact (pa_cons (pv 0) pa_nil)))) pa_nil)))))
      (pss_cons (ps_if (pt_cmp (pc_isN (pv 3))) (pss_one (ps_ret (pe_and (pe_cmp (pc_isN (pv 1)) rfl) (pe_one (pe_cmpR op_eq
          (pe_callB (call_reprD gd' hr0) (by rfl) mR boot_repr (pa_cons (pe_lst (pa_cons (pv 2) (pa_cons (pe_call GB hr rfl gB kB bB .nil pass0 (pa_cons (pv 0) pa_nil)) pa_nil))) pa_nil))
          (pe_callB (call_reprD gd' hr0) (by rfl) mR boot_repr (pa_cons (pe_lst (pa_cons (pe_lst (pa_cons (pv 0) pa_nil)) (pa_cons pe_bl pa_nil))) pa_nil)) (nomark _)))))) pss_nil)
      (C8.pss_cut (ps_set (i := 5) scDue.nd rfl (Or.inl rfl) (pe_callB (call_isiEOT R I) (by rfl) mI boot_isinstance (pa_cons (pv 3) (pa_cons (pe_tup (pa_cons (pe_glob (v := .ref CP) rfl Er.gP rfl) (pa_cons (pe_glob (v := .ref CQ) rfl Er.gQ rfl) (pa_cons (pe_glob (v := .ref CT) rfl Er.gT rfl) (pa_cons (pe_glob (v := .ref CF) rfl Er.gF rfl) pa_nil))))) pa_nil))))
      (pss_cons (ps_if (PW.pt (pw_or (pt_val (pv 5)) (pw_or (pt_not (pt_val (pe_callB (call_isiEO R I) (by rfl) mI boot_isinstance (pa_cons (pv 3) (pa_cons (pe_glob (v := .ref CB) rfl Er.gB rfl) pa_nil)))))
          (pw_or (pt_not (pt_val (pe_callB (call_isiEO R I) (by rfl) mI boot_isinstance (pa_cons (pv 3) (pa_cons (pe_glob (v := .ref CS) rfl Er.gS rfl) pa_nil)))))
          (pw_or1 (pt_cmp (pc_isN (pv 1)))))))) (pss_one (ps_ret pe_bl)) pss_nil)
      (pss_one (ps_ret (pe_and (pe_callB (call_isiEO R I) (by rfl) mI boot_isinstance (pa_cons (pv 3) (pa_cons (pe_bltn (v := .ty "ValueError") (u := .type "ValueError") (by rfl) mV (by decide +kernel) rfl) pa_nil)))
        (pe_one (pe_cmpR op_eq
          (pe_callB (call_reprD gd' hr0) (by rfl) mR boot_repr (pa_cons (pe_lst (pa_cons (pe_place R (pv 3)) (pa_cons (pe_call GB hr rfl gB kB bB .nil pass0 (pa_cons (pv 0) pa_nil)) pa_nil))) pa_nil))
          (pe_callB (call_reprD gd' hr0) (by rfl) mR boot_repr (pa_cons (pe_lst (pa_cons (pv 1) (pa_cons pe_bl pa_nil))) pa_nil)) (nomark _)))))))))), ?_⟩
    have two : 2 ≤ sizeLine := by decide
    have one : 1 ≤ sizeLine := by decide
    refine ⟨Nat.zero_le _, fun L nL => ⟨_, _, rfl, ?_⟩⟩
    have sL := same_new (o := .lst []) nL
    have eL : (upd H L (.lst [])) L = some (.lst []) := upd_same
    have nL0 := nL
    generalize upd H L (.lst []) = H0 at sL eL ⊢
    refine ⟨_, rfl, .inl ⟨rfl, _, SqL.of eL⟩, _, rfl, tv, t, rfl, ht.same sL, fun e H1 s1 => ?_, fun p e pv d H1 s1 nd ed tp => ⟨true, Er.ex, fun _ _ a na => ?_, fun z => Bool.noConfusion z⟩⟩
    · -- a book
      rw [e] at hp
      have hp : TrAt K H pl .non := hp
      cases hp
      have ro := ok1 e
      refine ⟨L, [], tv, rfl, rfl, s1 _ _ eL, by decide, ?_⟩
      have eL2 : (upd H1 L (.lst ([] ++ [tv]))) L = some (.lst [tv]) := upd_same
      have s2 : Same H (upd H1 L (.lst ([] ++ [tv]))) := fun b o eb => by
        rw [upd_ne (ne_of_none eb nL0)]
        exact s1 _ _ (sL _ _ eb)
      generalize upd H1 L (.lst ([] ++ [tv])) = H2 at eL2 s2 ⊢
      refine ⟨_, rfl, _, rfl, iteT ?_⟩
      refine ⟨_, rfl, true, rfl, iteT ?_⟩
      have eb : isBookT t = true := by unfold isBookT; rw [e]; rfl
      refine ⟨_, rfl, _, rfl, tv, t, rfl, ht.same s2, fun H3 s3 => ⟨two, fun q nq => ?_⟩⟩
      rw [eb]
      have s4 := same_new (o := .lst [.ref L, .bl true]) nq
      obtain ⟨a1, a2, a3, a4⟩ := repr_found ro true
      have dp1 : Dp K (upd H3 q (.lst [.ref L, .bl true])) (.ref q) (.list [.list [pdT t], .bool true]) :=
        .lst (SqL.of upd_same) (.cons (.lst (SqL.of (s4 _ _ (s3 _ _ eL2))) (.cons ((ht.same ((s2.trans s3).trans s4)).dp ro.da) .nil)) (.cons (.bl true) .nil))
      generalize upd H3 q (.lst [.ref L, .bl true]) = H4 at s4 dp1 ⊢
      refine ⟨q, _, rfl, dp1, a1, a2, a3, a4, ?_⟩
      refine ⟨_, rfl, one, fun r nr => ⟨two, fun u nu => ?_⟩⟩
      have s5 := same_new (o := .lst [tv]) nr
      have s6 := same_new (o := .lst [.ref r, .bl true]) nu
      refine ⟨u, .list [.list [pdT t], .bool true], rfl, .lst (SqL.of upd_same) (.cons (.lst (SqL.of (s6 _ _ upd_same)) (.cons ((ht.same (((s2.trans s3).trans s4).trans (s5.trans s6))).dp ro.da) .nil)) (.cons (.bl true) .nil)), a1, a2, a3, a4, rfl, ?_⟩
      have := k _ (((s2.trans s3).trans s4).trans (s5.trans s6))
      rw [show decide (V.str (PyData.list [.list [pdT t], .bool true]).shown = V.str (PyData.list [.list [pdT t], .bool true]).shown) = true from decide_eq_true rfl]
      exact this
    · -- refused
      rw [e] at hp
      have hp : TrAt K H pl (placeT p) := hp
      have ro := ok2 p e
      obtain ⟨pa, rfl⟩ : ∃ pa, pl = .ref pa := by cases p <;> (cases hp; exact ⟨_, rfl⟩)
      have ea : (upd H1 a (EO a (.ref CB) (some d))) a = some (EO a (.ref CB) (some d)) := upd_same
      have edd : (upd H1 a (EO a (.ref CB) (some d))) d = some (.xd [("place", pv)]) := by
        rw [upd_ne (ne_of_none ed na)]
        exact ed
      have sm := same_new (o := EO a (.ref CB) (some d)) na
      have s2 : Same H (upd H1 a (EO a (.ref CB) (some d))) := (sL.trans s1).trans sm
      have tp2 := tp.same sm
      generalize upd H1 a (EO a (.ref CB) (some d)) = H2 at ea edd s2 tp2 ⊢
      refine ⟨_, rfl, _, rfl, iteF ?_⟩
      refine ⟨fun σ H3 => σ = [some tv, some (.ref pa), some (.ref L), some (.ref a), none, some (.bl false)] ∧ Same H2 H3, ?_, ?_⟩
      · refine ⟨_, rfl, (by show 4 ≤ sizeLine; decide), fun tq ntq => ?_⟩
        have s3 := same_new (o := .tup [.ref CP, .ref CQ, .ref CT, .ref CF]) ntq
        exact ⟨a, d, tq, _, _, _, false, rfl, upd_same, .cons (.own CP) (.cons (.own CQ) (.cons (.own CT) (.cons (.own CF) .nil))), s3 _ _ ea, s3 _ _ edd, Er.k4, rfl, s3⟩
      rintro σ H3 ⟨rfl, s3⟩
      have ea3 := s3 _ _ ea
      have ed3 := s3 _ _ edd
      refine ⟨_, rfl, _, rfl, iteF ?_⟩
      refine ⟨_, rfl, a, d, _, _, _, true, rfl, .own CB, ea3, ed3, Er.kB, _, rfl, iteF ?_⟩
      refine ⟨_, rfl, a, d, _, _, _, true, rfl, .own CS, ea3, ed3, Er.kS, _, rfl, iteF ?_⟩
      refine ⟨_, rfl, _, rfl, iteF ?_⟩
      refine ⟨_, rfl, a, d, _, _, _, true, rfl, .ty "ValueError", ea3, ed3, Er.kV, _, rfl, iteT ?_⟩
      have eb : isBookT t = false := by unfold isBookT; rw [e]; rfl
      refine ⟨_, rfl, a, d, pv, rfl, ea3, ed3, _, rfl, tv, t, rfl, ht.same (s2.trans s3), fun H4 s4 => ⟨two, fun q nq => ?_⟩⟩
      rw [eb]
      have s5 := same_new (o := .lst [pv, .bl false]) nq
      obtain ⟨a1, a2, a3, a4⟩ := repr_pair ro false
      have s25 := (s3.trans s4).trans s5
      refine ⟨q, .list [pdT (placeT p), .bool false], rfl, .lst (SqL.of upd_same) (.cons ((tp2.same s25).dp ro.da) (.cons (.bl false) .nil)), a1, a2, a3, a4, ?_⟩
      refine ⟨_, rfl, two, fun r nr => ?_⟩
      have s6 := same_new (o := .lst [.ref pa, .bl false]) nr
      refine ⟨r, .list [pdT (placeT p), .bool false], rfl, .lst (SqL.of upd_same) (.cons ((hp.same ((s2.trans s25).trans s6)).dp ro.da) (.cons (.bl false) .nil)), a1, a2, a3, a4, rfl, ?_⟩
      have := k _ ((s2.trans s25).trans s6)
      rw [show decide (V.str (PyData.list [pdT (placeT p), .bool false]).shown = V.str (PyData.list [pdT (placeT p), .bool false]).shown) = true from decide_eq_true rfl]
      exact this
end
end BK


set_option Elab.async false
set_option maxRecDepth 100000
set_option maxHeartbeats 1000000
/-! expressions that make trees. -/
namespace BK
open PySem PySem.Spec PyProof.Rows L2
/-- the slots that hold trees -/
def Gt (K : PySem.W.Frag) (L : List (Nat × Tr)) (σ : L2.St) (H : Hp) : Prop := ∀ p ∈ L, ∃ v, σ[p.1]? = some (some v) ∧ TrAt K H v p.2
theorem Gt.same {K : PySem.W.Frag} {L : List (Nat × Tr)} {σ : L2.St} {H H' : Hp} (g : Gt K L σ H) (e : Same H H') : Gt K L σ H' := fun p hp => by
  obtain ⟨v, h1, h2⟩ := g p hp
  exact ⟨v, h1, h2.same e⟩
def ETr (X : Cx) (L : List (Nat × Tr)) (e : Expr) (t : Tr) : Prop := ∃ te : TE, PE X e te ∧ ∀ σ H Q, Gt X.K L σ H → (∀ v H', Same H H' → TrAt X.K H' v t → Q v H') → te σ H Q
def EAr (X : Cx) (L : List (Nat × Tr)) (es : List Expr) (ts : List Tr) : Prop := ∃ ta : TA, PA X es ta ∧ ∀ σ H Q, Gt X.K L σ H → (∀ vs H', Same H H' → TrAll X.K H' vs ts → Q vs H') → ta σ H Q
/-- a new list of trees -/
def ELi (X : Cx) (L : List (Nat × Tr)) (e : Expr) (ts : List Tr) : Prop := ∃ te : TE, PE X e te ∧ ∀ σ H Q, Gt X.K L σ H → (∀ a vs H', Same H H' → H a = none → H' a = some (.lst vs) → TrAll X.K H' vs ts → Q (.ref a) H') → te σ H Q
section
variable {X : Cx} {L : List (Nat × Tr)}
theorem et_var {i : Nat} {x : Str} {pos : Pos} {t : Tr} (h : PE X (.Name x pos) (tVar i)) (m : (i, t) ∈ L) : ETr X L (.Name x pos) t := ⟨_, h, fun σ H Q g k => by
  obtain ⟨v, h1, h2⟩ := g _ m
  exact ⟨v, h1, k v H (fun _ _ e => e) h2⟩⟩
theorem et_str {s : Str} {j : Nat} {pos : Pos} (h : s.length ≤ sizeLine := by decide +kernel) : ETr X L (.Constant (.str s) j pos) (.str s) := ⟨_, pe_str, fun _ H _ _ k => k _ H (fun _ _ e => e) (.str s h)⟩
theorem et_int {i : Int} {j : Nat} {pos : Pos} : ETr X L (.Constant (.int i) j pos) (.int i) := ⟨_, pe_int, fun _ H _ _ k => k _ H (fun _ _ e => e) (.int i)⟩
theorem et_neg {i : Int} {j : Nat} {pos pos' : Pos} : ETr X L (.UnaryOp .USub (.Constant (.int i) j pos) pos') (.int (-i)) := ⟨_, pe_un un_neg pe_int, fun _ H _ _ k => ⟨i, rfl, k _ H (fun _ _ e => e) (.int (-i))⟩⟩
theorem et_bl {b : Bool} {j : Nat} {pos : Pos} : ETr X L (.Constant (.bool b) j pos) (.bl b) := ⟨_, pe_bl, fun _ H _ _ k => k _ H (fun _ _ e => e) (.bl b)⟩
theorem et_non {j : Nat} {pos : Pos} : ETr X L (.Constant .none j pos) .non := ⟨_, pe_non, fun _ H _ _ k => k _ H (fun _ _ e => e) .non⟩
theorem ea_nil : EAr X L [] [] := ⟨_, pa_nil, fun _ H _ _ k => k _ H (fun _ _ e => e) .nil⟩
theorem ea_cons {e : Expr} {es : List Expr} {t : Tr} {ts : List Tr} (h : ETr X L e t) (r : EAr X L es ts) (hs : starEach (e :: es) X.env = (false, eval e X.env) :: starEach es X.env := by rfl) : EAr X L (e :: es) (t :: ts) := by
  obtain ⟨te, p, q⟩ := h
  obtain ⟨ta, p2, q2⟩ := r
  exact ⟨_, pa_cons p p2 hs, fun σ H Q g k => q σ H _ g fun v H1 s1 h1 => q2 σ H1 _ (g.same s1) fun vs H2 s2 h2 => k _ H2 (s1.trans s2) (.cons (h1.same s2) h2)⟩
theorem et_tup {es : List Expr} {k : Nat} {pos : Pos} {ts : List Tr} (h : EAr X L es ts) (hl : es.length ≤ 1000 := by exact Nat.le_of_ble_eq_true rfl) (hl2 : ts.length = es.length := by rfl) : ETr X L (.Tuple es k pos) (.tup ts) := by
  obtain ⟨ta, p, q⟩ := h
  refine ⟨_, pe_tup p, fun σ H Q g k => q σ H _ g fun vs H1 s1 h1 => ⟨?_, fun p np => k _ _ (s1.trans (same_new np)) (.tup (SqT.of upd_same) (h1.same (same_new np)))⟩⟩
  rw [h1.len, hl2, sizeLine_eq]
  omega
theorem et_lst {es : List Expr} {pos : Pos} {ts : List Tr} (h : EAr X L es ts) (hl : es.length ≤ 1000 := by exact Nat.le_of_ble_eq_true rfl) (hl2 : ts.length = es.length := by rfl) : ETr X L (.List es pos) .lst := by
  obtain ⟨ta, p, q⟩ := h
  refine ⟨_, pe_lst p, fun σ H Q g k => q σ H _ g fun vs H1 s1 h1 => ⟨?_, fun p np => k _ _ (s1.trans (same_new np)) (.lst (SqL.of upd_same))⟩⟩
  rw [h1.len, hl2, sizeLine_eq]
  omega
theorem et_dct {pos : Pos} : ETr X L (.Dict [] [] pos) .dct := ⟨_, pe_dnewK, fun _ _ _ _ k => fun p np => k _ _ (same_new np) (.dct upd_same)⟩
theorem et_cat {a b : Expr} {pos : Pos} {xs ys : List Tr} (h1 : ETr X L a (.tup xs)) (h2 : ETr X L b (.tup ys)) (l1 : xs.length ≤ 1000 := by exact Nat.le_of_ble_eq_true rfl) (l2 : ys.length ≤ 1000 := by exact Nat.le_of_ble_eq_true rfl) : ETr X L (.BinOp a .Add b pos) (.tup (xs ++ ys)) := by
  obtain ⟨ta, p1, q1⟩ := h1
  obtain ⟨tb, p2, q2⟩ := h2
  refine ⟨_, pe_op op_catA p1 p2, fun σ H Q g k => q1 σ H _ g fun v H1 s1 t1 => q2 σ H1 _ (g.same s1) fun u H2 s2 t2 => ?_⟩
  have t1 := t1.same s2
  have s12 := s1.trans s2
  cases t1 with
  | @tup aa vs _ ha ta' =>
  cases t2 with
  | @tup bb us _ hb tb' =>
  have e1 := ta'.len
  have e2 := tb'.len
  refine ⟨aa, bb, vs, us, rfl, rfl, ha, hb, by rw [sizeLine_eq]; omega, fun e => ?_, fun _ e => ?_, fun _ _ p np => ?_⟩
  · subst e
    cases ta'
    exact k _ _ s12 (.tup hb tb')
  · subst e
    cases tb'
    rw [List.append_nil] at k
    exact k _ _ s12 (.tup ha ta')
  · have app : ∀ {vs us : List V} {xs ys : List Tr} {H : Hp}, TrAll X.K H vs xs → TrAll X.K H us ys → TrAll X.K H (vs ++ us) (xs ++ ys) := fun {vs us xs ys H} h1 h2 => by
      induction vs generalizing xs with
      | nil => cases h1; exact h2
      | cons v r ih => cases h1 with | cons a b => exact .cons a (ih b)
    exact k _ _ (s12.trans (same_new np)) (.tup (SqT.of upd_same) ((app ta' tb').same (same_new np)))
theorem el_disp {es : List Expr} {pos : Pos} {ts : List Tr} (h : EAr X L es ts) (hl : es.length ≤ 1000 := by exact Nat.le_of_ble_eq_true rfl) (hl2 : ts.length = es.length := by rfl) : ELi X L (.List es pos) ts := by
  obtain ⟨ta, p, q⟩ := h
  refine ⟨_, pe_lst p, fun σ H Q g k => q σ H _ g fun vs H1 s1 h1 => ⟨?_, fun p np => k p vs _ (s1.trans (same_new np)) (s1.free np) upd_same (h1.same (same_new np))⟩⟩
  rw [h1.len, hl2, sizeLine_eq]
  omega
end
theorem TrAll.app {K : PySem.W.Frag} {H : Hp} : ∀ {vs us : List V} {xs ys : List Tr}, TrAll K H vs xs → TrAll K H us ys → TrAll K H (vs ++ us) (xs ++ ys)
  | _, _, _, _, .nil, h => h
  | _, _, _, _, .cons a b, h => .cons a (TrAll.app b h)
/-- some = some + [..] -/
theorem some_cat {X : Cx} {L : List (Nat × Tr)} {i : Nat} {te : TE} {us ts : List Tr} {σ : L2.St} {H0 H : Hp} {a : Addr} {vs : List V} {Q : VK} (r : ∀ σ H Q, Gt X.K L σ H → (∀ a vs H', Same H H' → H a = none → H' a = some (.lst vs) → TrAll X.K H' vs us → Q (.ref a) H') → te σ H Q)
    (g : Gt X.K L σ H) (hσ : σ[i]? = some (some (.ref a))) (s : Same H0 H) (e : H a = some (.lst vs)) (tr : TrAll X.K H vs ts) (lt : ts.length ≤ 500) (lu : us.length ≤ 500)
    (k : ∀ p ws H', Same H0 H' → Same H H' → H0 p = none → H' p = some (.lst ws) → TrAll X.K H' ws (ts ++ us) → Q (.ref p) H') : tOp rCat (tVar i) te σ H Q := by
  refine ⟨.ref a, hσ, r σ H _ g fun b ws H1 s1 nb eb tb => ?_⟩
  have e1 := s1 _ _ e
  have l1 := tr.len
  have l2 := tb.len
  refine ⟨a, b, vs, ws, rfl, rfl, e1, eb, by rw [sizeLine_eq]; omega, fun p np => ?_⟩
  have s2 := same_new (o := .lst (vs ++ ws)) np
  exact k p _ _ ((s.trans s1).trans s2) (s1.trans s2) ((s.trans s1).free np) upd_same (((tr.same s1).app tb).same s2)
/-- some.append(..) -/
theorem some_app {X : Cx} {L : List (Nat × Tr)} {i : Nat} {te : TE} {u : Tr} {ts : List Tr} {σ : L2.St} {H0 H : Hp} {a : Addr} {vs : List V} {Q : VK} (r : ∀ σ H Q, Gt X.K L σ H → (∀ v H', Same H H' → TrAt X.K H' v u → Q v H') → te σ H Q)
    (g : Gt X.K L σ H) (hσ : σ[i]? = some (some (.ref a))) (s : Same H0 H) (na : H0 a = none) (e : H a = some (.lst vs)) (tr : TrAll X.K H vs ts) (lt : ts.length ≤ 500)
    (k : ∀ ws H', Same H0 H' → H' a = some (.lst ws) → TrAll X.K H' ws (ts ++ [u]) → (∀ v t, TrAt X.K H v t → TrAt X.K H' v t) → Q .non H') : tBM X.K "list" rAppend (tVar i) (tCons te tNil) σ H Q := by
  refine ⟨.ref a, hσ, .inl ⟨rfl, _, SqL.of e⟩, r σ H _ g fun v H1 s1 t1 => ?_⟩
  have e1 := s1 _ _ e
  have l1 := tr.len
  refine ⟨a, vs, v, rfl, rfl, e1, by rw [sizeLine_eq]; omega, ?_⟩
  refine k (vs ++ [v]) _ (fun b o eb => ?_) upd_same (((tr.same s1).updL e1).app (.cons (t1.updL e1) .nil)) fun v t h => (h.same s1).updL e1
  rw [upd_ne (ne_of_none eb na)]
  exact s1 _ _ (s _ _ eb)
/-! the parts of a text -/
def stAt (s : Stmt) (j : Nat) : Stmt := (defBody s).getD j (.Pass ⟨0, 0, 0, 0⟩)
def noE : Expr := .Constant .none 0 ⟨0, 0, 0, 0⟩
def valueOf : Stmt → Expr
  | .Assign _ v _ => v
  | .Return (some v) _ => v
  | .Expr v _ => v
  | _ => noE
def rightOf : Expr → Expr
  | .BinOp _ _ b _ => b
  | _ => noE
def argOf : Expr → Expr
  | .Call _ (a :: _) _ _ => a
  | _ => noE
def eltsOf : Expr → List Expr
  | .Tuple es _ _ => es
  | _ => []
end BK


set_option Elab.async false
set_option linter.all false
set_option maxRecDepth 100000
set_option maxHeartbeats 4000000
/-! tuple * int, of any number of times. -/
namespace L2
open PySem PySem.Spec PyProof.Rows
open AutoSeq1 (wpAny_loadPart')
theorem tuple_mul1 (l : Addr) (items : Array Value) (n : Nat) (dd : Option Addr) (sl : Array (Option Value)) (u : Tok) :
    Meets (Builtin.«tuple.__mul__» ⟨[.ref l, .int 1 u], []⟩) (fun _ R s => s.heap.get? l = some { cls := .type "tuple", dict := dd, data := .seq items n, slots := sl } ∧
      R (.ok (.ret (Value.ref l))) s) :=
  .of_wp fun prog w A R s h => by
    obtain ⟨hp, g, d, tk, os⟩ := s
    obtain ⟨hl, h⟩ := h
    have f1 := AutoSeq1.idx_int
    have c0 : (decide ((1 : Int) < -(2 ^ 63)) || decide ((1 : Int) ≥ 2 ^ 63)) = false := by decide
    have c1 : (items.isEmpty || (1 : Int) == 1) = true := by simp
    wp_walk using wpAny_loadPart' hl
    repeat (first
      | (refine wpAny_ite_false (decide_eq_false (by rw [c0]; exact Bool.false_ne_true)) ?_; wp_walk using wpAny_loadPart' hl)
      | (refine wpAny_ite_true (decide_eq_true c1) ?_; wp_walk using wpAny_loadPart' hl))
    exact ⟨_, rfl, h⟩
theorem tuple_mul0 (l : Addr) (items : Array Value) (n : Nat) (dd : Option Addr) (sl : Array (Option Value)) (u : Tok) (ne : items.isEmpty = false) :
    Meets (Builtin.«tuple.__mul__» ⟨[.ref l, .int 0 u], []⟩) (fun _ R s => s.heap.get? l = some { cls := .type "tuple", dict := dd, data := .seq items n, slots := sl } ∧
      R (.ok (.ret (Value.ref s.heap.objs.size))) { s with heap := s.heap.push { cls := Value.type "tuple", data := Data.seq #[] }, toks := s.toks }) :=
  .of_wp fun prog w A R s h => by
    obtain ⟨hp, g, d, tk, os⟩ := s
    obtain ⟨hl, h⟩ := h
    have f1 := AutoSeq1.idx_int
    have c0 : (decide ((0 : Int) < -(2 ^ 63)) || decide ((0 : Int) ≥ 2 ^ 63)) = false := by decide
    have c1 : (items.isEmpty || (0 : Int) == 1) = false := by rw [ne]; decide
    have c2 : (decide ((0 : Int) ≤ 0) || items.isEmpty) = true := by simp
    wp_walk using wpAny_loadPart' hl
    repeat (first
      | (refine wpAny_ite_false (decide_eq_false (by rw [c0]; exact Bool.false_ne_true)) ?_; wp_walk using wpAny_loadPart' hl)
      | (refine wpAny_ite_false (decide_eq_false (by rw [c1]; exact Bool.false_ne_true)) ?_; wp_walk using wpAny_loadPart' hl)
      | (refine wpAny_ite_true (decide_eq_true c2) ?_; wp_walk using wpAny_loadPart' hl))
    exact ⟨_, rfl, h⟩
end L2


set_option Elab.async false
set_option linter.all false
set_option maxRecDepth 100000
set_option maxHeartbeats 4000000
namespace L2
open PySem PySem.Spec PyProof.Rows
def rRepA (K : PySem.W.Frag) : R2 := fun x y H Q => ∃ l k xs, x = .ref l ∧ y = .int k ∧ SqT K H l xs ∧ xs ≠ [] ∧ 0 ≤ k ∧ k ≤ 1000 ∧ xs.length ≤ 1000 ∧ ∀ p H', Same H H' → SqT K H' p (List.replicate k.toNat xs).flatten → Q (.ref p) H'
section
variable {X : Cx}
theorem op_repA : OpR X (binaryOp .Mult) (rRepA X.K) := by
  intro pins s σ H x y v u Q I rx ry h
  obtain ⟨l, k, xs, rfl, rfl, hT, hne, h1, h2, hz, q⟩ := h
  by_cases hk : 2 ≤ k
  · exact op_repT pins s σ H _ _ _ _ Q I rx ry ⟨l, k, xs, rfl, rfl, hT, hne, hk, h2, hz, fun p np => q p _ (fun b o e => by rw [upd_ne (ne_of_none e np)]; exact e) (SqT.of upd_same)⟩
  cases rx
  obtain ⟨t, rfl⟩ := ry
  obtain ⟨its, r, ⟨⟨cls, dd, data, sl⟩, ho, hc, n, hd⟩, hs⟩ := I.tuple hT
  simp only at hc hd
  subst hc hd
  have hle : its.length = xs.length := r.length.symm
  have hn : its ≠ [] := fun e => hne (by
    rw [e] at hle
    exact List.eq_nil_of_length_eq_zero hle.symm)
  have hi : its.toArray.isEmpty = false := by
    cases its with
    | nil => exact absurd rfl hn
    | cons a b => rfl
  have k01 : k = 0 ∨ k = 1 := by omega
  rcases k01 with rfl | rfl
  · refine wpAny_binaryOp_repeat_ref (T := "tuple") (U := "int") (by decide) ⟨_, ho, rfl⟩ (fun s' => typeIs_int s' 0 t) noFill_tuple_mul F.fills_int_mul F.slot_int_rmul repeat_tuple F.slot_int_index.lookup
      (call_meets F.slot_int_rmul (typeIs_int s 0 t) F.entry_int_rmul (F.args_int_rmul_2 _ _) (int_rmul_tuple 0 t l its.toArray n dd sl)
        ⟨ho, rfl, ⟨_, ho, rfl⟩, call_meets F.slot_tuple_mul ⟨_, ho, rfl⟩ F.entry_tuple_mul (F.args_tuple_mul_2 _ _) (tuple_mul0 l its.toArray n dd sl t hi) ⟨ho, ?_⟩⟩)
    have nf : H s.heap.objs.size = none := I.hok.fresh (Nat.le_refl _)
    refine ⟨.ref s.heap.objs.size, _, I.laid (t' := s.toks) (o := .tup []) (fun b ob q => Heap.get?_push_of_some _ q) (Nat.le_refl _) ?_, rfl, q _ _ (fun b o e => by rw [upd_ne (ne_of_none e nf)]; exact e) (SqT.of upd_same)⟩
    exact ⟨Nat.zero_le _, [], .nil, IsTup.new _ _⟩
  · refine wpAny_binaryOp_repeat_ref (T := "tuple") (U := "int") (by decide) ⟨_, ho, rfl⟩ (fun s' => typeIs_int s' 1 t) noFill_tuple_mul F.fills_int_mul F.slot_int_rmul repeat_tuple F.slot_int_index.lookup
      (call_meets F.slot_int_rmul (typeIs_int s 1 t) F.entry_int_rmul (F.args_int_rmul_2 _ _) (int_rmul_tuple 1 t l its.toArray n dd sl)
        ⟨ho, rfl, ⟨_, ho, rfl⟩, call_meets F.slot_tuple_mul ⟨_, ho, rfl⟩ F.entry_tuple_mul (F.args_tuple_mul_2 _ _) (tuple_mul1 l its.toArray n dd sl t) ⟨ho, ?_⟩⟩)
    refine ⟨.ref l, H, I.tok _, rfl, q l H (fun _ _ e => e) ?_⟩
    have e : (List.replicate (1 : Int).toNat xs).flatten = xs := by simp
    rw [e]
    exact hT
end
end L2


set_option Elab.async false
set_option maxRecDepth 100000
set_option maxHeartbeats 1000000
set_option linter.unusedSimpArgs false
/-! evaluation of single statements -/
namespace BK
open PySem PySem.Spec PyProof.Rows L2
theorem ko_set : kindsOf ("set" : Str) = some [("variable" : Str), ("source" : Str)] := by decide +kernel
theorem ko_hold : kindsOf ("hold" : Str) = some [("token" : Str), ("variable" : Str), ("source" : Str)] := by decide +kernel
theorem ko_reset : kindsOf ("reset" : Str) = some [("token" : Str)] := by decide +kernel
theorem ko_drop : kindsOf ("drop" : Str) = some [("variable" : Str)] := by decide +kernel
theorem ko_show : kindsOf ("show" : Str) = some [("variable" : Str)] := by decide +kernel
theorem ko_copy : kindsOf ("copy" : Str) = some [("context" : Str)] := by decide +kernel
theorem ko_within : kindsOf ("within" : Str) = some [("context" : Str), ("block" : Str)] := by decide +kernel
theorem ko_if : kindsOf ("if" : Str) = some [("variable" : Str), ("integer" : Str), ("block" : Str), ("block" : Str)] := by decide +kernel
theorem ko_with : kindsOf ("with" : Str) = some [("variable" : Str), ("source" : Str), ("block" : Str)] := by decide +kernel
theorem ko_guard : kindsOf ("guard" : Str) = some [("block" : Str), ("block" : Str)] := by decide +kernel
theorem ko_loop : kindsOf ("loop" : Str) = some [("block" : Str)] := by decide +kernel
theorem ko_leave : kindsOf ("leave" : Str) = some [] := by decide +kernel
theorem ko_yield : kindsOf ("yield" : Str) = some [] := by decide +kernel
theorem ko_fail : kindsOf ("fail" : Str) = some [] := by decide +kernel
theorem ko_Set : kindsOf ("Set" : Str) = none := by decide +kernel
theorem ko_jump : kindsOf ("jump" : Str) = none := by decide +kernel
theorem ko_empty : kindsOf ("" : Str) = none := by decide +kernel
theorem ko_make : kindsOf ("make" : Str) = none := by decide +kernel
theorem ko_step : kindsOf ("step" : Str) = none := by decide +kernel
theorem ko_close : kindsOf ("close" : Str) = none := by decide +kernel
theorem pt_variable (t : Tr) : partT t "variable" = nameT t := rfl
theorem pt_token (t : Tr) : partT t "token" = nameT t := rfl
theorem pt_context (t : Tr) : partT t "context" = nameT t := rfl
theorem pt_block (t : Tr) : partT t "block" = isTup t := rfl
theorem pt_integer (t : Tr) : partT t "integer" = numT 99 t := rfl
theorem pt_source (t : Tr) : partT t "source" = (numT 99 t || nameT t) := by
  unfold partT
  rw [if_neg (by decide), if_neg (by decide), if_neg (by decide), if_neg (by decide)]
  cases numT 99 t <;> simp
theorem sl_context : slotK "context" = true := by decide
theorem sl_token : slotK "token" = true := by decide
theorem sl_variable : slotK "variable" = false := by decide
theorem sl_source : slotK "source" = false := by decide
theorem sl_block : slotK "block" = false := by decide
theorem sl_integer : slotK "integer" = false := by decide
theorem va_variable : varK "variable" = true := by decide
theorem va_source : varK "source" = true := by decide
theorem va_block : varK "block" = false := by decide
theorem va_integer : varK "integer" = false := by decide
theorem ct1 : (("context" : Str) = "token") = False := by simp only [eq_iff_iff, iff_false]; decide
theorem ct2 : (("token" : Str) = "context") = False := by simp only [eq_iff_iff, iff_false]; decide
def one1 (vars : List Str) (km : Km) (n : Nat) (t : Tr) : Fl := match takesT vars t [] km (n + 1) with
  | (false, m) => (some [], (m, n + 1))
  | (true, m) => blocksIn (fun b c => faultD vars 4 b [wordS t] c) (blocksT t) 0 (m, n + 1)
theorem ca_set (r : List Tr) (as : List Str) : canT "set" r as = true := by unfold canT; rw [if_neg (by decide), if_neg (by decide), if_neg (by decide)]
theorem ca_hold (r : List Tr) (as : List Str) : canT "hold" r as = true := by unfold canT; rw [if_neg (by decide), if_neg (by decide), if_neg (by decide)]
theorem ca_reset (r : List Tr) (as : List Str) : canT "reset" r as = true := by unfold canT; rw [if_neg (by decide), if_neg (by decide), if_neg (by decide)]
theorem ca_drop (r : List Tr) (as : List Str) : canT "drop" r as = true := by unfold canT; rw [if_neg (by decide), if_neg (by decide), if_neg (by decide)]
theorem ca_show (r : List Tr) (as : List Str) : canT "show" r as = true := by unfold canT; rw [if_neg (by decide), if_neg (by decide), if_neg (by decide)]
theorem ca_copy (r : List Tr) (as : List Str) : canT "copy" r as = true := by unfold canT; rw [if_neg (by decide), if_neg (by decide), if_neg (by decide)]
theorem ca_within (r : List Tr) (as : List Str) : canT "within" r as = true := by unfold canT; rw [if_neg (by decide), if_neg (by decide), if_neg (by decide)]
theorem ca_if (r : List Tr) (as : List Str) : canT "if" r as = true := by unfold canT; rw [if_neg (by decide), if_neg (by decide), if_neg (by decide)]
theorem ca_with (r : List Tr) (as : List Str) : canT "with" r as = true := by unfold canT; rw [if_neg (by decide), if_neg (by decide), if_neg (by decide)]
theorem ca_guard (r : List Tr) (as : List Str) : canT "guard" r as = true := by unfold canT; rw [if_neg (by decide), if_neg (by decide), if_neg (by decide)]
theorem ca_fail (r : List Tr) (as : List Str) : canT "fail" r as = true := by unfold canT; rw [if_neg (by decide), if_neg (by decide), if_neg (by decide)]
theorem ca_yield (r : List Tr) (as : List Str) : canT "yield" r as = !decide (("within" : Str) ∈ as) := by unfold canT; rw [if_pos rfl]
theorem ca_leave (r : List Tr) (as : List Str) : canT "leave" r as = (decide (("loop" : Str) ∈ as) && !decide (("within" : Str) ∈ as)) := by unfold canT; rw [if_neg (by decide), if_pos rfl]
theorem ca_loop (ts : List Tr) (r : List Tr) (as : List Str) : canT "loop" (.tup ts :: r) as = yieldT ts := by unfold canT; rw [if_neg (by decide), if_neg (by decide), if_pos rfl]
theorem isy (w : Str) (r : List Tr) : isYield (.tup (.str w :: r)) = (formT (.tup (.str w :: r)) && decide (w = "yield")) := rfl
theorem isy_l : isYield .lst = false := rfl
theorem isy_s (s : Str) : isYield (.str s) = false := rfl
theorem formW (w : Str) (r : List Tr) : formT (.tup (.str w :: r)) = (match kindsOf w with
    | some ks => fitsT r ks
    | none => false) := rfl
theorem na_Ab : nameS "Ab" = false := by decide +kernel
theorem na_empty : nameS "" = false := by decide +kernel
theorem na_nine : nameS "abcdefghi" = false := by decide +kernel
theorem na_ab : nameS "a b" = false := by decide +kernel
theorem na_x1 : nameS "x1" = false := by decide +kernel
theorem na_A : nameS "A" = false := by decide +kernel
theorem na_X : nameS "X" = false := by decide +kernel
def goodT (x y c t : Str) : List Tr := [(.tup [(.str "set"), (.str x), (.int 0)]),
  (.tup [(.str "set"), (.str x), (.int 99)]),
  (.tup [(.str "set"), (.str x), (.str y)]),
  (.tup [(.str "set"), (.str y), (.str y)]),
  (.tup [(.str "hold"), (.str t), (.str x), (.int 5)]),
  (.tup [(.str "hold"), (.str t), (.str y), (.str x)]),
  (.tup [(.str "reset"), (.str t)]),
  (.tup [(.str "drop"), (.str x)]),
  (.tup [(.str "show"), (.str y)]),
  (.tup [(.str "copy"), (.str c)]),
  (.tup [(.str "fail")]),
  (.tup [(.str "yield")]),
  (.tup [(.str "guard"), (.tup []), (.tup [])]),
  (.tup [(.str "within"), (.str c), (.tup [])]),
  (.tup [(.str "within"), (.str c), (.tup [(.tup [(.str "show"), (.str y)])])]),
  (.tup [(.str "if"), (.str x), (.int 0), (.tup []), (.tup [])]),
  (.tup [(.str "if"), (.str y), (.int 99), (.tup [(.tup [(.str "show"), (.str y)])]), (.tup [(.tup [(.str "yield")])])]),
  (.tup [(.str "with"), (.str x), (.str y), (.tup [])]),
  (.tup [(.str "with"), (.str y), (.int 7), (.tup [(.tup [(.str "yield")])])]),
  (.tup [(.str "guard"), (.tup [(.tup [(.str "fail")])]), (.tup ([(.tup [(.str "show"), (.str y)])] ++ [(.tup [(.str "yield")])]))]),
  (.tup [(.str "loop"), (.tup [(.tup [(.str "yield")])])]),
  (.tup [(.str "loop"), (.tup ([(.tup [(.str "show"), (.str y)])] ++ [(.tup [(.str "yield")])]))]),
  (.tup [(.str "loop"), (.tup ([(.tup [(.str "leave")])] ++ [(.tup [(.str "yield")])]))]),
  (.tup [(.str "loop"), (.tup ([(.tup [(.str "loop"), (.tup [(.tup [(.str "yield")])])])] ++ [(.tup [(.str "yield")])]))]),
  (.tup [(.str "loop"), (.tup ([(.tup [(.str "yield")])] ++ [(.tup [(.str "guard"), (.tup [(.tup [(.str "leave")])]), (.tup [(.tup [(.str "if"), (.str x), (.int 1), (.tup [(.tup [(.str "leave")])]), (.tup [])])])])]))]),
  (.tup [(.str "loop"), (.tup ([(.tup [(.str "yield")])] ++ [(.tup [(.str "with"), (.str x), (.int 0), (.tup ([(.tup [(.str "leave")])] ++ [(.tup [(.str "yield")])]))])]))])]
def plainT (x y c t none : Str) : List Tr := [.non,
  (.int 5),
  (.str "set"),
  (.tup []),
  .lst,
  .dct,
  (.tup [(.str "")]),
  (.tup [(.str "Set"), (.str x), (.int 0)]),
  (.tup [(.str "jump")]),
  .lst,
  (.tup [(.tup [(.str "yield")])]),
  (.tup [.non]),
  (.tup [(.str "set")]),
  (.tup [(.str "set"), (.str x)]),
  (.tup [(.str "set"), (.str x), (.int 0), (.int 0)]),
  (.tup [(.str "set"), (.str x), (.int 100)]),
  (.tup [(.str "set"), (.str x), (.int (-1))]),
  (.tup [(.str "set"), (.str x), (.bl true)]),
  (.tup [(.str "set"), (.str x), .non]),
  (.tup [(.str "set"), (.str x), (.str none)]),
  (.tup [(.str "set"), (.str none), (.int 0)]),
  (.tup [(.str "set"), (.int 5), (.int 0)]),
  (.tup [(.str "set"), (.str x), (.tup [(.str x)])]),
  (.tup [(.str "set"), (.str x), (.str "")]),
  .lst,
  (.tup [(.str "hold"), (.str t), (.str x)]),
  (.tup [(.str "hold"), (.str c), (.str x), (.int 5)]),
  (.tup [(.str "hold"), (.str t), (.str none), (.int 5)]),
  (.tup [(.str "hold"), (.str t), (.str x), (.str none)]),
  (.tup [(.str "hold"), (.str t), (.str x), (.int 100)]),
  (.tup [(.str "hold"), (.str "Ab"), (.str x), (.int 5)]),
  (.tup [(.str "hold"), (.str ""), (.str x), (.int 5)]),
  (.tup [(.str "hold"), (.str "abcdefghi"), (.str x), (.int 5)]),
  (.tup [(.str "hold"), .non, (.str x), (.int 5)]),
  (.tup [(.str "hold"), (.str x), (.int 5)]),
  (.tup [(.str "reset")]),
  (.tup [(.str "reset"), (.str c)]),
  (.tup [(.str "reset"), (.int 5)]),
  (.tup [(.str "reset"), (.str "a b")]),
  (.tup [(.str "reset"), (.str t), (.str t)]),
  (.tup [(.str "drop"), (.str none)]),
  (.tup [(.str "drop")]),
  (.tup [(.str "drop"), (.int 0)]),
  (.tup [(.str "show"), (.str none)]),
  (.tup [(.str "show"), (.str x), (.str y)]),
  (.tup [(.str "show"), .non]),
  (.tup [(.str "show"), (.int 7)]),
  (.tup [(.str "copy"), (.str t)]),
  (.tup [(.str "copy")]),
  (.tup [(.str "copy"), (.tup [(.str c)])]),
  (.tup [(.str "copy"), (.str "x1")]),
  (.tup [(.str "leave")]),
  (.tup [(.str "leave"), (.int 0)]),
  (.tup [(.str "yield"), (.int 0)]),
  (.tup [(.str "fail"), (.str "own")]),
  (.tup [(.str "yield"), (.tup [])]),
  (.tup [(.str "make"), (.str c), (.str x), (.tup [])]),
  (.tup [(.str "step"), (.str c)]),
  (.tup [(.str "close"), (.str c)]),
  (.tup [(.str "reset"), .lst])]
def blocksW (x y c t none : Str) : List Tr := [(.tup [(.str "within"), (.str t), (.tup [])]),
  (.tup [(.str "within"), (.str c)]),
  (.tup [(.str "within"), (.str c), .lst]),
  (.tup [(.str "within"), (.str c), .non]),
  (.tup [(.str "within"), (.str c), (.str "yield")]),
  (.tup [(.str "within"), (.tup []), (.str c)]),
  (.tup [(.str "within"), (.str c), (.tup []), (.tup [])]),
  (.tup [(.str "if"), (.str x), (.int 100), (.tup []), (.tup [])]),
  (.tup [(.str "if"), (.str x), (.int (-1)), (.tup []), (.tup [])]),
  (.tup [(.str "if"), (.str x), (.bl false), (.tup []), (.tup [])]),
  (.tup [(.str "if"), (.str x), (.str y), (.tup []), (.tup [])]),
  (.tup [(.str "if"), (.str none), (.int 0), (.tup []), (.tup [])]),
  (.tup [(.str "if"), (.str x), (.int 0), (.tup [])]),
  (.tup [(.str "if"), (.str x), (.int 0), (.tup []), .lst]),
  (.tup [(.str "if"), (.str x), (.int 0), .non, (.tup [])]),
  (.tup [(.str "if"), (.int 0), (.str x), (.tup []), (.tup [])]),
  (.tup [(.str "with"), (.str x), (.tup [])]),
  (.tup [(.str "with"), (.str x), (.int 0), .lst]),
  (.tup [(.str "with"), (.str none), (.int 0), (.tup [])]),
  (.tup [(.str "with"), (.str x), (.str none), (.tup [])]),
  (.tup [(.str "with"), (.str x), (.int 100), (.tup [])]),
  (.tup [(.str "with"), (.int 0), (.str x), (.tup [])]),
  (.tup [(.str "guard"), (.tup [])]),
  (.tup [(.str "guard"), (.tup []), (.tup []), (.tup [])]),
  (.tup [(.str "guard"), .lst, (.tup [])]),
  (.tup [(.str "guard"), (.tup []), (.int 0)]),
  (.tup [(.str "loop")]),
  (.tup [(.str "loop"), (.tup [])]),
  (.tup [(.str "loop"), .lst]),
  (.tup [(.str "loop"), (.tup [(.tup [(.str "show"), (.str x)])])]),
  (.tup [(.str "loop"), (.tup [.lst])]),
  (.tup [(.str "loop"), (.tup [(.tup [(.str "if"), (.str x), (.int 0), (.tup [(.tup [(.str "yield")])]), (.tup [(.tup [(.str "yield")])])])])]),
  (.tup [(.str "loop"), (.tup [(.str "yield")])]),
  (.tup [(.str "loop"), (.tup [(.tup [(.str "loop"), (.tup [(.tup [(.str "yield")])])])])]),
  (.tup [(.str "loop"), (.tup [(.tup [(.str "yield")])]), (.tup [(.tup [(.str "yield")])])]),
  (.tup [(.str "loop"), (.tup [(.tup [(.str "yield"), (.int 0)])])])]
def withinP (x c none : Str) : List (Tr × List Nat) := [((.tup [(.str "within"), (.str c), (.tup ([(.tup [(.str "show"), (.str x)])] ++ [(.tup [(.str "yield")])]))]), [0, 1]),
  ((.tup [(.str "within"), (.str c), (.tup [(.tup [(.str "loop"), (.tup [(.tup [(.str "yield")])])])])]), [0, 0, 0, 0]),
  ((.tup [(.str "within"), (.str c), (.tup [(.tup [(.str "guard"), (.tup []), (.tup [(.tup [(.str "if"), (.str x), (.int 0), (.tup []), (.tup [(.tup [(.str "yield")])])])])])])]), [0, 0, 1, 0, 1, 0]),
  ((.tup [(.str "guard"), (.tup [(.tup [(.str "show"), (.str x)])]), (.tup [(.tup [(.str "show"), (.str none)])])]), [1, 0]),
  ((.tup [(.str "if"), (.str x), (.int 0), (.tup [(.tup [(.str "fail")])]), (.tup [(.tup [(.str "fail")]), (.tup [(.str "leave")])])]), [1, 1]),
  ((.tup [(.str "with"), (.str x), (.int 0), (.tup [(.tup [(.str "loop"), (.tup [(.tup [(.str "fail")])])])])]), [0, 0]),
  ((.tup [(.str "loop"), (.tup ([(.tup [(.str "yield")])] ++ [(.tup [(.str "within"), (.str c), (.tup [(.tup [(.str "leave")])])])]))]), [0, 1, 0, 0]),
  ((.tup [(.str "within"), (.str c), (.tup [(.tup [(.str "loop"), (.tup ([(.tup [(.str "leave")])] ++ [(.tup [(.str "yield")])]))])])]), [0, 0, 0, 0]),
  ((.tup [(.str "within"), (.str c), (.tup [(.tup [(.str "show"), (.str x)]), (.tup [(.str "loop"), (.tup ([(.tup [(.str "yield")])] ++ [(.tup [(.str "leave")])]))])])]), [0, 1, 0, 0]),
  ((.tup [(.str "loop"), (.tup ([(.tup [(.str "show"), (.str none)])] ++ [(.tup [(.str "yield")])]))]), [0, 0]),
  ((.tup [(.str "loop"), (.tup ([(.tup [(.str "yield")])] ++ [.non]))]), [0, 1]),
  ((.tup [(.str "guard"), (.tup [(.tup [(.str "guard"), (.tup []), (.tup [(.tup [(.str "reset"), (.str c)])])])]), (.tup [])]), [0, 0, 1, 0])]
def withinT (x c none : Str) : List Tr := [(.tup [(.tup [(.str "within"), (.str c), (.tup ([(.tup [(.str "show"), (.str x)])] ++ [(.tup [(.str "yield")])]))]), (.tup [(.int 0), (.int 1)])]),
  (.tup [(.tup [(.str "within"), (.str c), (.tup [(.tup [(.str "loop"), (.tup [(.tup [(.str "yield")])])])])]), (.tup [(.int 0), (.int 0), (.int 0), (.int 0)])]),
  (.tup [(.tup [(.str "within"), (.str c), (.tup [(.tup [(.str "guard"), (.tup []), (.tup [(.tup [(.str "if"), (.str x), (.int 0), (.tup []), (.tup [(.tup [(.str "yield")])])])])])])]), (.tup [(.int 0), (.int 0), (.int 1), (.int 0), (.int 1), (.int 0)])]),
  (.tup [(.tup [(.str "guard"), (.tup [(.tup [(.str "show"), (.str x)])]), (.tup [(.tup [(.str "show"), (.str none)])])]), (.tup [(.int 1), (.int 0)])]),
  (.tup [(.tup [(.str "if"), (.str x), (.int 0), (.tup [(.tup [(.str "fail")])]), (.tup [(.tup [(.str "fail")]), (.tup [(.str "leave")])])]), (.tup [(.int 1), (.int 1)])]),
  (.tup [(.tup [(.str "with"), (.str x), (.int 0), (.tup [(.tup [(.str "loop"), (.tup [(.tup [(.str "fail")])])])])]), (.tup [(.int 0), (.int 0)])]),
  (.tup [(.tup [(.str "loop"), (.tup ([(.tup [(.str "yield")])] ++ [(.tup [(.str "within"), (.str c), (.tup [(.tup [(.str "leave")])])])]))]), (.tup [(.int 0), (.int 1), (.int 0), (.int 0)])]),
  (.tup [(.tup [(.str "within"), (.str c), (.tup [(.tup [(.str "loop"), (.tup ([(.tup [(.str "leave")])] ++ [(.tup [(.str "yield")])]))])])]), (.tup [(.int 0), (.int 0), (.int 0), (.int 0)])]),
  (.tup [(.tup [(.str "within"), (.str c), (.tup [(.tup [(.str "show"), (.str x)]), (.tup [(.str "loop"), (.tup ([(.tup [(.str "yield")])] ++ [(.tup [(.str "leave")])]))])])]), (.tup [(.int 0), (.int 1), (.int 0), (.int 0)])]),
  (.tup [(.tup [(.str "loop"), (.tup ([(.tup [(.str "show"), (.str none)])] ++ [(.tup [(.str "yield")])]))]), (.tup [(.int 0), (.int 0)])]),
  (.tup [(.tup [(.str "loop"), (.tup ([(.tup [(.str "yield")])] ++ [.non]))]), (.tup [(.int 0), (.int 1)])]),
  (.tup [(.tup [(.str "guard"), (.tup [(.tup [(.str "guard"), (.tup []), (.tup [(.tup [(.str "reset"), (.str c)])])])]), (.tup [])]), (.tup [(.int 0), (.int 0), (.int 1), (.int 0)])])]
def piecesW (name c : Str) : List Tr := [.non,
  (.int 5),
  (.str name),
  (.tup []),
  (.tup [(.str name)]),
  (.tup [(.str name), (.tup [])]),
  (.tup [(.str name), (.tup []), (.tup []), (.tup [])]),
  .lst,
  (.tup [(.str ""), (.tup []), (.tup [])]),
  (.tup [(.str "A"), (.tup []), (.tup [])]),
  (.tup [(.int 5), (.tup []), (.tup [])]),
  (.tup [(.str "abcdefghi"), (.tup []), (.tup [])]),
  (.tup [(.str "a b"), (.tup []), (.tup [])]),
  (.tup [(.str "x1"), (.tup []), (.tup [])]),
  (.tup [.non, (.tup []), (.tup [])]),
  (.tup [(.tup []), (.str name), (.tup [])]),
  (.tup [(.tup [(.str name)]), (.tup []), (.tup [])]),
  (.tup [(.str name), .non, (.tup [])]),
  (.tup [(.str name), .lst, (.tup [])]),
  (.tup [(.str name), (.tup [(.str c)]), (.tup [])]),
  (.tup [(.str name), (.tup [(.tup [(.str c)])]), (.tup [])]),
  (.tup [(.str name), (.tup [(.tup [(.str c), (.str "piece")])]), (.tup [])]),
  (.tup [(.str name), (.tup [(.tup [(.str c), (.str "context"), (.int 0)])]), (.tup [])]),
  (.tup [(.str name), (.tup [(.tup [(.str ""), (.str "context")])]), (.tup [])]),
  (.tup [(.str name), (.tup [.lst]), (.tup [])]),
  (.tup [(.str name), (.tup [(.tup [(.int 5), (.str "token")])]), (.tup [])]),
  (.tup [(.str name), (.tup [(.tup [(.str c), .non])]), (.tup [])]),
  (.tup [(.str name), (.tup [(.tup [(.str c), (.str "token")]), (.tup [(.str c), (.str "token")])]), (.tup [])]),
  (.tup [(.str name), (.tup [(.tup [(.str c), (.str "context")]), (.tup [(.str c), (.str "token")])]), (.tup [])]),
  (.tup [(.str name), (.tup [(.tup [(.str "context"), (.str "slot")])]), (.tup [])]),
  (.tup [(.str name), (.tup [(.tup [(.str c), (.tup [(.str "token")])])]), (.tup [])]),
  (.tup [(.str name), (.tup []), .non]),
  (.tup [(.str name), (.tup []), .lst]),
  (.tup [(.str name), (.tup []), (.str "yield")]),
  (.tup [(.str name), (.tup []), .lst]),
  (.tup [(.str name), (.tup []), (.int 0)]),
  (.tup [(.str name), (.tup []), .dct]),
  (.tup [.lst, (.tup []), (.tup [])])]
theorem fd4 (vars : List Str) (b : List Tr) (as : List Str) (c : Ck) : faultD vars 4 b as c = faultL vars (faultD vars 3) as b 0 c := rfl
theorem fd3 (vars : List Str) (b : List Tr) (as : List Str) (c : Ck) : faultD vars 3 b as c = faultL vars (faultD vars 2) as b 0 c := rfl
theorem fd2 (vars : List Str) (b : List Tr) (as : List Str) (c : Ck) : faultD vars 2 b as c = faultL vars (faultD vars 1) as b 0 c := rfl
theorem fd1 (vars : List Str) (b : List Tr) (as : List Str) (c : Ck) : faultD vars 1 b as c = faultL vars (faultD vars 0) as b 0 c := rfl
theorem good_ok (x y c t : Str) (hx : nameS x = true) (hy : nameS y = true) (hc : nameS c = true) (ht : nameS t = true) (km : Km) (kc : kget km c = some ("context" : Str)) (kt : kget km t = some ("token" : Str)) (n : Nat) (hn : n ≤ 3) :
   ∀ one ∈ goodT x y c t, (one1 [x, y] km n one).1 = none ∧ (one1 [x, y] km n one).2.1 = km ∧ (one1 [x, y] km n one).2.2 ≤ n + 8 := by
  have b1 : ¬ 16 < n + 1 := by omega
  have b2 : ¬ 16 < n + 2 := by omega
  have b3 : ¬ 16 < n + 3 := by omega
  have b4 : ¬ 16 < n + 4 := by omega
  have b5 : ¬ 16 < n + 5 := by omega
  have b6 : ¬ 16 < n + 6 := by omega
  have b7 : ¬ 16 < n + 7 := by omega
  have b8 : ¬ 16 < n + 8 := by omega
  have b9 : ¬ 16 < n + 9 := by omega
  intro one h
  simp only [goodT, List.mem_cons, List.not_mem_nil, or_false] at h
  rcases h with rfl | rfl | rfl | rfl | rfl | rfl | rfl | rfl | rfl | rfl | rfl | rfl | rfl | rfl | rfl | rfl | rfl | rfl | rfl | rfl | rfl | rfl | rfl | rfl | rfl | rfl
  all_goals simp (decide := true) [one1, takesT, ko_set, ko_hold, ko_reset, ko_drop, ko_show, ko_copy, ko_within, ko_if, ko_with, ko_guard, ko_loop, ko_leave, ko_yield, ko_fail, ko_Set, ko_jump, ko_empty, ko_make, ko_step, ko_close, fitsT, pt_variable, pt_token, pt_context, pt_block, pt_integer, pt_source, numT, nameT, hx, hy, hc, ht, knowsT, sl_token, sl_context, sl_variable, sl_source, sl_block, sl_integer, va_variable, va_source, va_block, va_integer, kc, kt, ct1, ct2, ca_set, ca_hold, ca_reset, ca_drop, ca_show, ca_copy, ca_within, ca_if, ca_with, ca_guard, ca_fail, ca_yield, ca_leave, ca_loop, yieldT, isy, formW, blocksT, tupTs, isTup, blocksIn, fd4, fd3, fd2, fd1, faultL, List.filter_cons, wordS, b1, b2, b3, b4, b5, b6, b7, b8, b9, Nat.add_assoc]
end BK


set_option Elab.async false
set_option maxRecDepth 100000
/-! The drawing of numbers: _law_mixed, _law_begin, _law_draw. -/
namespace SW
open PySem PySem.Spec PyProof.Rows L2
def top (i : Nat) : Stmt := PySem.Challenge.pw_stepwhere_k07_whole_books_at_their_bound.main.body.getD i (.Pass ⟨0, 0, 0, 0⟩)
abbrev sMixed : Stmt := top 49
abbrev sBegin : Stmt := top 50
abbrev sDraw : Stmt := top 51
/-- where the drawing keeps its things: the dict, the list of what is left, the cells -/
structure RA where
  s : Addr
  l : Addr
  c : Addr
/-- none of the three -/
structure Off (a : RA) (p : Addr) : Prop where
  s : p ≠ a.s
  l : p ≠ a.l
  c : p ≠ a.c
/-- what stays but for the two objects that a draw writes -/
def But (a : RA) (H H' : Hp) : Prop := ∀ b o, H b = some o → b ≠ a.s → b ≠ a.l → H' b = some o
theorem But.refl (a : RA) (H : Hp) : But a H H := fun _ _ e _ _ => e
theorem But.trans {a : RA} {H H1 H2 : Hp} (x : But a H H1) (y : But a H1 H2) : But a H H2 := fun c o e h1 h2 => y c o (x c o e h1 h2) h1 h2
theorem Same.but {a : RA} {H H' : Hp} (x : Same H H') : But a H H' := fun c o e _ _ => x c o e
theorem But.at {a : RA} {H H' : Hp} {p : Addr} {o : HO} (x : But a H H') (f : Off a p) (e : H p = some o) : H' p = some o := x p o e f.s f.l
theorem But.free {a : RA} {H H' : Hp} {p : Addr} (x : But a H H') (f : Off a p) (h : H' p = none) : H p = none := by
  cases e : H p with
  | none => rfl
  | some o =>
    rw [x.at f e] at h
    cases h
/-- an object that was not there is written -/
theorem But.new {a : RA} {H H' : Hp} {p : Addr} {o : HO} (x : But a H H') (h : H p = none) : But a H (upd H' p o) := fun b u e h1 h2 => by
  rw [upd_ne (ne_of_none e h)]
  exact x b u e h1 h2
theorem same_new {H : Hp} {p : Addr} {o : HO} (h : H p = none) : Same H (upd H p o) := fun b u e => by
  rw [upd_ne (ne_of_none e h)]
  exact e
theorem Same.new {H H' : Hp} {p : Addr} {o : HO} (x : Same H H') (h : H p = none) : Same H (upd H' p o) := fun b u e => by
  rw [upd_ne (ne_of_none e h)]
  exact x b u e
/-- a comprehension without an if -/
theorem tyes {σ : L2.St} {H : Hp} {f g : Hp → Prop} (h : f H) : tYes σ H fun b H3 => if b = true then f H3 else g H3 := by
  show (if true = true then f H else g H)
  exact iteT h
theorem int_at {ns : List Int} {i : Nat} {y : V} (h : (ns.map V.int)[i]? = some y) : ∃ z, ns[i]? = some z ∧ y = V.int z := by
  rw [List.getElem?_map] at h
  cases e : ns[i]? with
  | none =>
    rw [e] at h
    cases h
  | some z =>
    rw [e] at h
    exact ⟨z, rfl, (Option.some.inj h).symm⟩
/-- the pairs of the dict of draws -/
def rk (c l : Addr) (n : Nat) : List (Key × V) := [(.inr "cells", .ref c), (.inr "lefts", .ref l), (.inr "at", .int (n : Int)), (.inr "room", .int 0)]
structure Rnd (H : Hp) (a : RA) (n : Nat) : Prop where
  ex : ∃ (ns ls : List Int), H a.s = some (.dK (rk a.c a.l n)) ∧ H a.c = some (.lst (ns.map V.int)) ∧ H a.l = some (.lst (ls.map V.int)) ∧ ls.length = ns.length ∧ 0 < ns.length ∧ ns.length ≤ 63 ∧ (∀ x ∈ ls, 0 ≤ x) ∧ a.c ≠ a.s ∧ a.c ≠ a.l
theorem Rnd.same {H H' : Hp} {a : RA} {n : Nat} (R : Rnd H a n) (e : Same H H') : Rnd H' a n := by
  obtain ⟨ns, ls, h1, h2, h3, r⟩ := R
  exact ⟨ns, ls, e _ _ h1, e _ _ h2, e _ _ h3, r⟩
/-- an object beside is written -/
theorem Rnd.upd {H : Hp} {a : RA} {n : Nat} {p : Addr} {o : HO} (R : Rnd H a n) (f : Off a p) : Rnd (upd H p o) a n := by
  obtain ⟨ns, ls, h1, h2, h3, r⟩ := R
  exact ⟨ns, ls, by rw [upd_ne f.s.symm]; exact h1, by rw [upd_ne f.c.symm]; exact h2, by rw [upd_ne f.l.symm]; exact h3, r⟩
/-- a new object is none of the three -/
theorem Rnd.off {H : Hp} {a : RA} {p : Addr} {n : Nat} (R : Rnd H a n) (h : H p = none) : Off a p := by
  obtain ⟨ns, ls, h1, h2, h3, r⟩ := R
  exact ⟨(ne_of_none h1 h).symm, (ne_of_none h3 h).symm, (ne_of_none h2 h).symm⟩
/-- the numbers 48271 .. are mixed: some number below 2147483629 -/
def spMixed : Sp := fun vs H Q _ => ∃ (c k : Int), vs = [.int c, .int k] ∧ 0 ≤ k ∧ k ≤ 1000000 ∧ ∀ r : Int, 0 ≤ r → r < 2147483629 → Q (.int r) H
def spBegin (K : PySem.W.Frag) : Sp := fun vs H Q _ => ∃ (x : Addr) (ns : List Int), vs = [.ref x] ∧ SqL K H x (ns.map V.int) ∧ ns.length ≤ 63 ∧
  ∀ (a : RA) (H' : Hp), Same H H' → H a.s = none → H a.l = none → Rnd H' a 0 → Q (.ref a.s) H'
/-- a draw: a number below many; the dict and the list of what is left are written -/
def spDraw : Sp := fun vs H Q _ => ∃ (a : RA) (n : Nat) (many : Int), vs = [.ref a.s, .int many] ∧ Rnd H a n ∧ n + 60 ≤ 1000000 ∧ 0 < many ∧ many.natAbs < 2 ^ 200 ∧
  ∀ (r : Int) (H' : Hp), 0 ≤ r → r < many → Rnd H' a (n + 1) → But a H H' → Q (.int r) H'
section
variable {P : Program} {w : World} {K : PySem.W.Frag} {mg : Str → Option Value} {base : Heap}
theorem scMixed : FnScope ["cell", "k"] ["cell", "k"] (defScope sMixed) := ⟨rfl, rfl, rfl, by decide +kernel, rfl, by decide +kernel, by decide +kernel⟩
theorem ok_mixed {f : Addr} {fd : FuncData} (F : Fun K "_law_mixed" "_law_mixed" sMixed f fd) (mI : mg "int" = none) : FnOk P w K mg base CX0 1 f fd ["cell", "k"] spMixed := by
  refine F.ok scMixed (fun vs H Q E h => ?_) (fun cdv A outer s H vs Q E hr h => ?_)
  · obtain ⟨c, k, rfl, _⟩ := h
    rfl
  · obtain ⟨c, k, rfl, h0, h1, q⟩ := h
    refine ⟨_, pss_cons (ps_set (i := 0) scMixed.nd rfl (Or.inl rfl) (pe_op op_mod (pe_callTy call_int1 (by rfl) mI boot_int (pa_cons (pv 0) pa_nil)) pe_int))
      (pss_one (ps_ret (pe_op op_mod (pe_op op_mul (pe_op op_mod (pe_op op_add (pe_op op_add
        (pe_op op_mul (pv 0) (pe_op op_add pe_int (pe_op op_mul (pe_op op_mul pe_int (pv 1)) (pv 1)))) (pe_op op_mul pe_int (pv 1))) pe_int) pe_int) pe_int) pe_int))), ?_⟩
    refine ⟨_, rfl, .inl ⟨c, rfl, _, _, rfl, rfl, (by show (0 : Int) < 2147483647; decide), ?_⟩⟩
    have b0 : 0 ≤ c % 2147483647 := Int.emod_nonneg _ (by decide)
    have b1 : c % 2147483647 < 2147483647 := Int.emod_lt_of_pos _ (by decide)
    refine ⟨_, rfl, _, rfl, _, _, rfl, rfl, .inl ⟨by decide, by decide⟩, _, rfl, _, _, rfl, rfl, .inl ⟨by omega, by omega⟩, _, _, rfl, rfl, _, _, rfl, rfl, .inl ⟨by omega, by omega⟩, ?_⟩
    refine ⟨_, rfl, _, _, rfl, rfl, .inl ⟨by decide, by decide⟩, _, _, rfl, rfl, _, _, rfl, rfl, _, _, rfl, rfl, (by show (0 : Int) < 2147483647; decide), _, _, rfl, rfl, .inr ⟨by decide, by decide⟩, _, _, rfl, rfl, (by show (0 : Int) < 2147483629; decide), ?_⟩
    exact q _ (Int.emod_nonneg _ (by decide)) (Int.emod_lt_of_pos _ (by decide))
/-! _law_begin -/
theorem scBegin : FnScope ["script", "cells", "cell"] ["script"] (defScope sBegin) := ⟨rfl, rfl, rfl, by decide +kernel, rfl, by decide +kernel, by decide +kernel⟩
/-- the lefts of the cells -/
def leftOf (c : Int) : Int := if 1000000000000000000 ≤ c then c else 0
theorem leftOf_nn (c : Int) : 0 ≤ leftOf c := by unfold leftOf; split <;> omega
theorem canLay_ints : ∀ ns : List Int, PyData.canLayAll0 (ns.map PyData.int) = true
  | [] => rfl
  | n :: r => by rw [List.map_cons]; simp only [PyData.canLayAll0, PyData.canLay0, canLay_ints r, Bool.and_self]
theorem depth_ints : ∀ ns : List Int, PyData.depthAll (ns.map PyData.int) = 0
  | [] => rfl
  | n :: r => by rw [List.map_cons]; simp only [PyData.depthAll, PyData.depth, depth_ints r, Nat.max_self]
theorem shaped_ints (ns : List Int) : SeqAt.shaped (.list (ns.map PyData.int)) = true := by
  unfold SeqAt.shaped
  simp only [PyData.canLay0, PyData.depth, canLay_ints, depth_ints]
  decide
theorem dpAll_ints {K : PySem.W.Frag} {H : Hp} : ∀ ns : List Int, DpAll K H (ns.map V.int) (ns.map PyData.int)
  | [] => .nil
  | n :: r => .cons (.int n) (dpAll_ints r)
end
end SW


set_option Elab.async false
set_option maxRecDepth 100000
namespace SW
open PySem PySem.Spec PyProof.Rows L2
section
variable {P : Program} {w : World} {K : PySem.W.Frag} {mg : Str → Option Value} {base : Heap}
theorem eqv_ints_nil : ∀ ns : List Int, (!PyData.eqv (.list (ns.map PyData.int)) (.list [])) = decide (ns ≠ [])
  | [] => by simp [PyData.eqv, PyData.eqvAll]
  | n :: r => by simp [PyData.eqv, PyData.eqvAll]
theorem ok_begin {f : Addr} {fd : FuncData} (F : Fun K "_law_begin" "_law_begin" sBegin f fd) (mL : mg "list" = none) : FnOk P w K mg base CX0 1 f fd ["script"] (spBegin K) := by
  refine F.ok scBegin (fun vs H Q E h => ?_) (fun cdv A outer s H vs Q E hr h => ?_)
  · obtain ⟨a, ns, rfl, _⟩ := h
    rfl
  · obtain ⟨a, ns, rfl, hS, hl, k⟩ := h
    have hu := hr.units
    refine ⟨_, C8.pss_cut (ps_set (i := 1) scBegin.nd rfl (Or.inl rfl) (pe_ifExp (pt_cmpR (op_neD hu) (pv 0) (pe_lst pa_nil) (nomark _))
        (pe_callTy call_list_of (by rfl) mL boot_list (pa_cons (pv 0) pa_nil)) (pe_lst (pa_cons pe_int pa_nil))))
      (pss_one (ps_ret (pe_disp (pps_cons pe_str (pv 1) (pps_cons pe_str
        (pe_lc (own := [("cell", 2)]) (g := gName 2) (tt := tYes) rfl scBegin.nd (pi_list (pv 1)) (blkOk_by (N := ["script", "cells", "cell"]) (sc := defScope sBegin) (by decide +kernel))
          (fun _ _ _ _ _ => pg_name (i := 2) scBegin.nd rfl (Or.inl rfl)) (fun _ _ _ _ _ => pts_nil)
          (fun _ _ _ _ _ => pe_ifExp (pt_cmpR op_ge (pv 2) (pe_op op_pow pe_int pe_int) (nomark _)) (pv 2) pe_int))
        (pps_cons pe_str pe_int (pps_cons pe_str pe_int pps_nil)))) rfl rfl (by simp) (by decide)))), ?_⟩
    refine ⟨fun σ H1 => ∃ (c : Addr) (ms : List Int), σ = [some (.ref a), some (.ref c), none] ∧ Same H H1 ∧ H1 c = some (.lst (ms.map V.int)) ∧ 0 < ms.length ∧ ms.length ≤ 63, ?_, ?_⟩
    · refine ⟨_, rfl, Nat.zero_le _, fun p hp => ?_⟩
      have s1 : Same H (upd H p (.lst [])) := fun b o e => by
        rw [upd_ne (ne_of_none e hp)]
        exact e
      refine ⟨.list (ns.map .int), .list [], .lst (s1.seq hS) (dpAll_ints ns), .lst (SqL.of upd_same) .nil, shaped_ints ns, shaped_ints [], _, rfl, ?_⟩
      rw [eqv_ints_nil]
      refine ite2 (fun h => ?_) (fun h => ?_)
      · have hn : ns ≠ [] := of_decide_eq_true h
        refine ⟨_, rfl, _, _, rfl, .inl (s1.seq hS), fun l hl' => ?_⟩
        refine ⟨l, ns, rfl, fun b o e => ?_, upd_same, List.length_pos_iff.mpr hn, hl⟩
        rw [upd_ne (ne_of_none (s1 b o e) hl')]
        exact s1 b o e
      · refine ⟨(by show 1 ≤ sizeLine; decide), fun l hl' => ?_⟩
        refine ⟨l, [0], rfl, fun b o e => ?_, upd_same, (by decide), (by decide)⟩
        rw [upd_ne (ne_of_none (s1 b o e) hl')]
        exact s1 b o e
    · rintro σ H1 ⟨c, ms, rfl, s1, hc, h0, h1⟩
      intro p hp
      have s2 : Same H1 (upd H1 p (.dK [])) := fun b o e => by
        rw [upd_ne (ne_of_none e hp)]
        exact e
      refine ⟨_, rfl, ?_⟩
      refine ⟨_, rfl, c, rfl, ⟨_, s2.seq (SqL.of hc)⟩, fun D hD => ?_⟩
      have npD : p ≠ D := ne_of_none upd_same hD
      have hD1 : H1 D = none := by
        have z := hD
        rw [upd_ne npD.symm] at z
        exact z
      refine lc_list (K := K) (a := c) (xs := ms.map V.int) (fun i H2 => H2 p = some (.dK []) ∧ Same H1 H2 ∧ H2 D = some (.lst ((ms.take i).map fun z => V.int (leftOf z))))
        ⟨by rw [upd_ne npD, upd_same], fun b o e => by rw [upd_ne (ne_of_none e hD1)]; exact s2 b o e, upd_same⟩ (fun i H2 _ ⟨_, s3, _⟩ => s3.seq (SqL.of hc)) ?_ ?_
      · rintro i y H2 hi ⟨e1, s3, e2⟩
        obtain ⟨z, hz, rfl⟩ := int_at hi
        have hil : i < ms.length := (List.getElem?_eq_some_iff.mp hz).1
        have more : ∀ v : V, v = V.int (leftOf z) → (upd H2 D (.lst ((ms.take i).map (fun z => V.int (leftOf z)) ++ [v]))) D = some (.lst ((ms.take (i + 1)).map fun z => V.int (leftOf z))) := fun v ev => by
          rw [upd_same, List.take_add_one, hz, List.map_append, ev]
          all_goals rfl
        have keep : ∀ o, Same H1 (upd H2 D o) := fun o b u e => by
          rw [upd_ne (ne_of_none e hD1)]
          exact s3 b u e
        have kp : ∀ o, (upd H2 D o) p = some (.dK []) := fun o => by
          rw [upd_ne npD]
          exact e1
        have lt : ((ms.take i).map fun z => V.int (leftOf z)).length < sizeLine := small1000 (by rw [List.length_map, List.length_take]; omega)
        refine ⟨rfl, ?_⟩
        refine tyes ?_
        refine ⟨_, rfl, _, _, rfl, rfl, ⟨by decide, by decide, by decide⟩, _, _, rfl, rfl, _, rfl, ?_⟩
        refine ite2 (fun h => ?_) (fun h => ?_)
        · have h' : (1000000000000000000 : Int) ≤ z := of_decide_eq_true h
          exact ⟨_, rfl, _, e2, lt, kp _, keep _, more _ (by unfold leftOf; rw [if_pos h'])⟩
        · have h' : ¬ (1000000000000000000 : Int) ≤ z := fun q => h (decide_eq_true q)
          exact ⟨_, e2, lt, kp _, keep _, more _ (by unfold leftOf; rw [if_neg h'])⟩
      · rintro H2 ⟨e1, s3, e2⟩
        rw [List.length_map, List.take_length] at e2
        refine ⟨e1, rk c D 0, rfl, (by show 4 ≤ 15; decide), ?_⟩
        have hp1 : H p = none := s1.free hp
        have hD0 : H D = none := s1.free hD1
        have sp : Same H1 (upd H2 p (.dK (mergeK [] (rk c D 0)))) := fun b o e => by
          rw [upd_ne (ne_of_none e hp)]
          exact s3 b o e
        refine k ⟨p, D, c⟩ _ (s1.trans sp) hp1 hD0 ⟨ms, ms.map leftOf, ?_, sp _ _ hc, ?_, by rw [List.length_map], h0, h1, fun x hx => ?_, ?_, ?_⟩
        · show (upd H2 p _) p = _
          rw [upd_same]
          all_goals rfl
        · show (upd H2 p _) D = _
          rw [upd_ne npD.symm, e2, List.map_map]
          all_goals rfl
        · obtain ⟨z, _, rfl⟩ := List.mem_map.mp hx
          exact leftOf_nn z
        · exact ne_of_none hc hp
        · exact ne_of_none hc hD1
end
end SW


set_option Elab.async false
set_option maxRecDepth 100000
namespace SW
open PySem PySem.Spec PyProof.Rows L2
theorem rk_cells (c l : Addr) (n : Nat) : valV (rk c l n) (.inr "cells") = some (.ref c) := by with_unfolding_all rfl
theorem rk_lefts (c l : Addr) (n : Nat) : valV (rk c l n) (.inr "lefts") = some (.ref l) := by with_unfolding_all rfl
theorem rk_at (c l : Addr) (n : Nat) : valV (rk c l n) (.inr "at") = some (.int (n : Int)) := by with_unfolding_all rfl
theorem rk_put (c l : Addr) (n : Nat) : putK (rk c l n) (.inr "at") (.int ((n : Int) + 1)) = rk c l (n + 1) := by
  have e : ((n + 1 : Nat) : Int) = (n : Int) + 1 := by omega
  unfold rk
  rw [e]
  with_unfolding_all rfl
section
variable {P : Program} {w : World} {K : PySem.W.Frag} {mg : Str → Option Value} {base : Heap}
theorem scDraw : FnScope ["state", "many", "at", "place", "left", "number"] ["state", "many"] (defScope sDraw) := ⟨rfl, rfl, rfl, by decide +kernel, rfl, by decide +kernel, by decide +kernel⟩
theorem ok_draw {f fM : Addr} {fd fdM : FuncData} (F : Fun K "_law_draw" "_law_draw" sDraw f fd) (GM : FnOk P w K mg base CX0 1 fM fdM ["cell", "k"] spMixed) (bM : Binds K fdM ["cell", "k"] []) (gM : mg "_law_mixed" = some (.ref fM)) (kM : PySem.W.keepIn K (.ref fM) = true)
    (mI : mg "int" = none) (mL : mg "len" = none) : FnOk P w K mg base CX0 2 f fd ["state", "many"] spDraw := by
  refine F.ok scDraw (fun vs H Q E h => ?_) (fun cdv A outer s H vs Q E hr h => ?_)
  · obtain ⟨a, n, many, rfl, _⟩ := h
    rfl
  · obtain ⟨⟨a, l, c⟩, n, many, rfl, ⟨ns, ls, hd, hc, hls, e1, e2, e3, e4, e5, e6⟩, hn, hm, hm2, k⟩ := h
    dsimp only at hd hc hls e5 e6
    have hu := hu_of hr
    have nal : a ≠ l := ne_of hd hls (by intro z; cases z)
    refine ⟨_, pss_cons (ps_set (i := 2) scDraw.nd rfl (Or.inl rfl) (pe_dget hu (pv 0) pe_str (fun _ _ => rfl)))
      (pss_cons (ps_dput hu (pv 0) pe_str (pe_op op_add (pv 2) pe_int) rfl)
      (pss_cons (ps_set (i := 3) scDraw.nd rfl (Or.inl rfl) (pe_op op_mod (pe_callTy call_int1 (by rfl) mI boot_int (pa_cons (pv 2) pa_nil)) (pe_callB call_len_seq (by rfl) mL boot_len (pa_cons (pe_dget hu (pv 0) pe_str (fun _ _ => rfl)) pa_nil))))
      (pss_cons (ps_set (i := 4) scDraw.nd rfl (Or.inl rfl) (pe_ix ix_list (pe_dget hu (pv 0) pe_str (fun _ _ => rfl)) (pv 3) (fun _ _ => rfl)))
      (pss_cons (ps_if (pt_cmpR op_gt (pv 4) pe_int (nomark _))
        (pss_cons (ps_asg (pe_op op_fdivW (pv 4) (pv 1)) (pg_sub (pe_dget hu (pv 0) pe_str (fun _ _ => rfl)) (pv 3) set_list))
        (pss_one (ps_ret (pe_op op_mod (pe_callTy call_int1 (by rfl) mI boot_int (pa_cons (pv 4) pa_nil)) (pv 1))))) pss_nil)
      (pss_cons (ps_set (i := 5) scDraw.nd rfl (Or.inl rfl) (pe_call GM hr rfl gM kM bM .nil pass0
        (pa_cons (pe_call GM hr rfl gM kM bM .nil pass0 (pa_cons (pe_ix ix_list (pe_dget hu (pv 0) pe_str (fun _ _ => rfl)) (pv 3) (fun _ _ => rfl)) (pa_cons (pv 2) pa_nil))) (pa_cons (pe_op op_add pe_int (pv 2)) pa_nil))))
      (pss_one (ps_ret (pe_op op_mod (pe_op op_fdiv (pe_callTy call_int1 (by rfl) mI boot_int
        (pa_cons (pe_op op_add (pe_op op_mul (pv 5) pe_int) (pe_call GM hr rfl gM kM bM .nil pass0 (pa_cons (pv 5) (pa_cons (pe_op op_add pe_int (pv 2)) pa_nil)))) pa_nil)) pe_int) (pv 1))))))))), ?_⟩
    -- at = state["at"]
    refine ⟨_, rfl, a, _, rfl, (rk_at c l n) ▸ DGet.k (k := Sum.inr "at") hd, ?_⟩
    -- state["at"] = at + 1
    refine ⟨_, rfl, _, _, rfl, rfl, _, rfl, a, _, rfl, DPut.k (k := Sum.inr "at") hd (small1000 (by show 4 ≤ 1000; decide)), ?_⟩
    rw [rk_put]
    have d1 : (upd H a (.dK (rk c l (n + 1)))) a = some (.dK (rk c l (n + 1))) := upd_same
    have c1 : (upd H a (.dK (rk c l (n + 1)))) c = some (.lst (ns.map V.int)) := by
      rw [upd_ne e5]
      exact hc
    have l1 : (upd H a (.dK (rk c l (n + 1)))) l = some (.lst (ls.map V.int)) := by
      rw [upd_ne nal.symm]
      exact hls
    have b1 : But ⟨a, l, c⟩ H (upd H a (.dK (rk c l (n + 1)))) := fun b o e h1 _ => by
      rw [upd_ne h1]
      exact e
    generalize upd H a (.dK (rk c l (n + 1))) = H1 at d1 c1 l1 b1 ⊢
    -- place
    have hpos : (0 : Int) < (((ns.map V.int).length : Nat) : Int) := by rw [List.length_map]; omega
    refine ⟨_, rfl, .inl ⟨(n : Int), rfl, _, rfl, a, _, rfl, (rk_cells c l (n + 1)) ▸ DGet.k (k := Sum.inr "cells") d1, c, _, rfl, .inl (SqL.of c1), _, _, rfl, rfl, hpos, ?_⟩⟩
    obtain ⟨j, hj, hjl⟩ : ∃ j : Nat, (n : Int) % (((ns.map V.int).length : Nat) : Int) = (j : Int) ∧ j < ns.length := by
      refine ⟨n % ns.length, ?_, Nat.mod_lt _ e2⟩
      rw [List.length_map]
      omega
    have hL : (ls.map V.int)[j]? = some (V.int (ls[j]'(by omega))) := by
      rw [List.getElem?_map, List.getElem?_eq_getElem (by omega)]
      all_goals rfl
    have hC : (ns.map V.int)[j]? = some (V.int (ns[j]'hjl)) := by
      rw [List.getElem?_map, List.getElem?_eq_getElem hjl]
      all_goals rfl
    have left0 : 0 ≤ ls[j]'(by omega) := e4 _ (List.getElem_mem _)
    generalize ls[j]'(by omega) = left at hL left0
    generalize ns[j]'hjl = cell at hC
    -- left
    refine ⟨_, rfl, a, _, rfl, (rk_lefts c l (n + 1)) ▸ DGet.k (k := Sum.inr "lefts") d1, _, rfl, l, _, _, _, rfl, rfl, SqL.of l1, at_of hj hL, ?_⟩
    refine ⟨_, rfl, _, _, rfl, rfl, _, rfl, ?_⟩
    refine ite2 (fun h => ?_) (fun h => ?_)
    · -- a digit of the great cell
      have hlog : CDivW left many := wide_div hm hm2 (by decide) (by decide)
      refine ⟨_, rfl, _, rfl, _, _, rfl, rfl, hlog, ?_⟩
      refine ⟨_, rfl, a, _, rfl, (rk_lefts c l (n + 1)) ▸ DGet.k (k := Sum.inr "lefts") d1, _, rfl, l, _, _, j, rfl, rfl, l1, ?_, ?_⟩
      · show ixN (ls.map V.int).length ((n : Int) % (((ns.map V.int).length : Nat) : Int)) = some j
        rw [hj, List.length_map]
        unfold ixN
        rw [if_pos (by omega), if_pos (by omega)]
        rfl
      refine ⟨_, rfl, .inl ⟨left, rfl, _, rfl, _, _, rfl, rfl, hm, ?_⟩⟩
      have e0 : 0 ≤ left / many := Int.ediv_nonneg left0 (Int.le_of_lt hm)
      refine k _ _ (Int.emod_nonneg _ (by omega)) (Int.emod_lt_of_pos _ hm) ⟨ns, ls.set j (left / many), by rw [upd_ne nal]; exact d1, by rw [upd_ne e6]; exact c1, ?_, by rw [List.length_set]; exact e1, e2, e3, fun x hx => ?_, e5, e6⟩ fun b o e h1 h2 => ?_
      · rw [upd_same, List.map_set]
      · rcases List.mem_or_eq_of_mem_set hx with z | z
        · exact e4 x z
        · rw [z]
          exact e0
      · rw [upd_ne h2]
        exact b1 b o e h1 h2
    · -- mixed
      refine ⟨_, rfl, a, _, rfl, (rk_cells c l (n + 1)) ▸ DGet.k (k := Sum.inr "cells") d1, _, rfl, c, _, _, _, rfl, rfl, SqL.of c1, at_of hj hC, _, rfl, ?_⟩
      refine ⟨cell, (n : Int), rfl, by omega, by omega, fun r1 _ _ => ?_⟩
      refine ⟨_, rfl, _, _, rfl, rfl, ?_⟩
      refine ⟨r1, (40 : Int) + (n : Int), rfl, by omega, by omega, fun r2 r20 r2l => ?_⟩
      refine ⟨_, rfl, _, _, rfl, rfl, .inl ⟨by omega, by omega⟩, _, rfl, _, rfl, _, _, rfl, rfl, ?_⟩
      refine ⟨r2, (7 : Int) + (n : Int), rfl, by omega, by omega, fun r3 _ _ => ?_⟩
      refine ⟨_, _, rfl, rfl, .inl ⟨_, rfl, _, _, rfl, rfl, ⟨by decide, by decide⟩, _, rfl, _, _, rfl, rfl, hm, ?_⟩⟩
      exact k _ _ (Int.emod_nonneg _ (by omega)) (Int.emod_lt_of_pos _ hm) ⟨ns, ls, d1, c1, l1, e1, e2, e3, e4, e5, e6⟩ b1
end
end SW


set_option Elab.async false
set_option maxRecDepth 100000
/-! Names that are drawn: _law_name. -/
namespace SW
open PySem PySem.Spec PyProof.Rows L2
abbrev sName : Stmt := top 52
/-- a word of 1 to 8 letters a to z -/
def isNmB (z : Str) : Bool := decide (1 ≤ z.length) && decide (z.length ≤ 8) && z.cps.toList.all fun c => decide (97 ≤ c) && decide (c ≤ 122)
def isNm (z : Str) : Prop := isNmB z = true
def alpha : Str := "abcdefghijklmnopqrstuvwxyz"
theorem alpha_at : ∀ i : Fin 26, ∃ c, alpha.cps.toList[i.1]? = some c ∧ 97 ≤ c ∧ c ≤ 122 := by decide +kernel
def own1 : Str := "set hold reset drop show copy within if with guard loop leave yield fail make step close"
def own2 : Str := "vars piece context token unset used empty over ended shown failed"
def few : List Str := ["x", "y", "a", "b", "c", "t", "g", "ab", "abcdefgh"]
theorem few_ok : few.all isNmB = true := by decide +kernel
def owns : List Str := Txt.split own1 " " ++ Txt.split own2 " "
theorem owns_ok : owns.all isNmB = true ∧ owns.length = 28 := by decide +kernel
theorem nm_at {l : List Str} (h : l.all isNmB = true) {i : Nat} (hi : i < l.length) : ∃ z, (l.map V.str)[i]? = some (.str z) ∧ isNm z := by
  refine ⟨l[i], ?_, ?_⟩
  · rw [List.getElem?_map, List.getElem?_eq_getElem hi]
    rfl
  · exact List.all_eq_true.mp h _ (List.getElem_mem _)
theorem at_any {α : Type} {xs : List α} {z : Int} {j : Nat} {v : α} (e : z = (j : Int)) (h : xs[j]? = some v) : atI xs z = some v := by
  subst e
  exact atI_nat h
/-- a text of one sign for each code -/
def sgn (c : Nat) : Str := ⟨#[c]⟩
theorem fold_sgn : ∀ (rest : List Nat) (acc : Array Nat), (rest.map sgn).foldl (fun (acc : Array Nat) (p : Str) => acc ++ (Str.ofString "").cps ++ p.cps) acc = acc ++ rest.toArray
  | [], acc => by simp
  | c :: r, acc => by
    rw [List.map_cons, List.foldl_cons, fold_sgn r]
    have e : (Str.ofString "").cps = #[] := by decide +kernel
    rw [e]
    apply Array.ext'
    simp [sgn]
theorem join_sgn (cs : List Nat) : Txt.join (Str.ofString "") (cs.map sgn) = ⟨cs.toArray⟩ := by
  unfold Txt.join Builtin.Str.glued
  cases cs with
  | nil => rfl
  | cons c r =>
    rw [List.map_cons, List.drop_one, List.tail_cons, fold_sgn r]
    congr 1
    apply Array.ext'
    simp [sgn]
theorem sum_sgn : ∀ cs : List Nat, ((cs.map sgn).map fun x => x.length).sum = cs.length
  | [] => rfl
  | c :: r => by
    rw [List.map_cons, List.map_cons, List.sum_cons, sum_sgn r, List.length_cons]
    show 1 + r.length = _
    omega
theorem nm_cs {cs : List Nat} (h1 : 1 ≤ cs.length) (h2 : cs.length ≤ 8) (h : ∀ c ∈ cs, 97 ≤ c ∧ c ≤ 122) : isNm ⟨cs.toArray⟩ := by
  unfold isNm isNmB
  rw [Bool.and_eq_true, Bool.and_eq_true, List.all_eq_true]
  refine ⟨⟨decide_eq_true ?_, decide_eq_true ?_⟩, fun c hc => ?_⟩
  · show 1 ≤ cs.toArray.size
    rw [List.size_toArray]
    exact h1
  · show cs.toArray.size ≤ 8
    rw [List.size_toArray]
    exact h2
  · have z := h c (by simpa using hc)
    rw [Bool.and_eq_true]
    exact ⟨decide_eq_true z.1, decide_eq_true z.2⟩
/-- a name: some word; the draws are counted -/
def spName : Sp := fun vs H Q _ => ∃ (a : RA) (n : Nat), vs = [.ref a.s] ∧ Rnd H a n ∧ n + 100 ≤ 1000000 ∧
  ∀ (z : Str) (n' : Nat) (H' : Hp), isNm z → n' ≤ n + 10 → Rnd H' a n' → But a H H' → Q (.str z) H'
section
variable {P : Program} {w : World} {K : PySem.W.Frag} {mg : Str → Option Value} {base : Heap}
theorem scName : FnScope ["state", "few", "own", "way", "k"] ["state"] (defScope sName) := ⟨rfl, rfl, rfl, by decide +kernel, rfl, by decide +kernel, by decide +kernel⟩
theorem ok_name {f fD : Addr} {fd fdD : FuncData} (F : Fun K "_law_name" "_law_name" sName f fd) (GD : FnOk P w K mg base CX0 2 fD fdD ["state", "many"] spDraw) (bD : Binds K fdD ["state", "many"] []) (gD : mg "_law_draw" = some (.ref fD)) (kD : PySem.W.keepIn K (.ref fD) = true)
    (mR : mg "range" = none) : FnOk P w K mg base CX0 3 f fd ["state"] spName := by
  refine F.ok scName (fun vs H Q E h => ?_) (fun cdv A outer s H vs Q E hr h => ?_)
  · obtain ⟨a, n, rfl, _⟩ := h
    rfl
  · obtain ⟨a, n, rfl, R, hn, k⟩ := h
    refine ⟨_, pss_cons (ps_set (i := 1) scName.nd rfl (Or.inl rfl) (pe_lst (pa_cons pe_str (pa_cons pe_str (pa_cons pe_str (pa_cons pe_str (pa_cons pe_str (pa_cons pe_str (pa_cons pe_str (pa_cons pe_str (pa_cons pe_str pa_nil)))))))))))
      (pss_cons (ps_set (i := 2) scName.nd rfl (Or.inl rfl) (pe_split pe_str pe_str))
      (C8.pss_cut (ps_set (i := 2) scName.nd rfl (Or.inl rfl) (pe_op op_cat (pv 2) (pe_split pe_str pe_str)))
      (pss_cons (ps_set (i := 3) scName.nd rfl (Or.inl rfl) (pe_call GD hr rfl gD kD bD .nil pass0 (pa_cons (pv 0) (pa_cons pe_int pa_nil))))
      (pss_cons (ps_if (pt_cmpR op_lt (pv 3) pe_int (nomark _)) (pss_one (ps_ret (pe_ifExp (pt_cmpR op_eq (pv 3) pe_int (nomark _))
          (pe_ix ix_list (pv 1) (pe_call GD hr rfl gD kD bD .nil pass0 (pa_cons (pv 0) (pa_cons pe_int pa_nil))) (fun _ _ => rfl))
          (pe_ix ix_list (pv 2) (pe_call GD hr rfl gD kD bD .nil pass0 (pa_cons (pv 0) (pa_cons pe_int pa_nil))) (fun _ _ => rfl))))) pss_nil)
      (pss_one (ps_ret (pe_join pe_str (pe_lc (own := [("k", 4)]) (g := gName 4) (tt := tYes) rfl scName.nd
          (pi_range1 rfl mR (pa_cons (pe_op op_add pe_int (pe_call GD hr rfl gD kD bD .nil pass0 (pa_cons (pv 0) (pa_cons pe_int pa_nil)))) pa_nil))
          (blkOk_by (N := ["state", "few", "own", "way", "k"]) (sc := defScope sName) (by decide +kernel))
          (fun _ _ _ _ _ => pg_name (i := 4) scName.nd rfl (Or.inl rfl)) (fun _ _ _ _ _ => pts_nil)
          (fun _ _ _ _ _ => pe_ix ix_str pe_str (pe_call GD hr rfl gD kD bD .nil pass0 (pa_cons (pv 0) (pa_cons pe_int pa_nil))) (fun _ _ => rfl)))))))))), ?_⟩
    -- few
    refine ⟨(by show 9 ≤ sizeLine; decide), fun p1 np1 => ?_⟩
    -- own
    refine ⟨⟨_, rfl⟩, _, _, rfl, rfl, by decide +kernel, by decide +kernel, fun p2 np2 => ?_⟩
    refine ⟨fun σ H4 => ∃ p1 p4, σ = [some (.ref a.s), some (.ref p1), some (.ref p4), none, none] ∧ Same H H4 ∧ H4 p1 = some (.lst (few.map V.str)) ∧ H4 p4 = some (.lst (owns.map V.str)) ∧ Off a p1 ∧ Off a p4, ?_, ?_⟩
    · refine ⟨_, rfl, ⟨_, rfl⟩, _, _, rfl, rfl, by decide +kernel, by decide +kernel, fun p3 np3 => ?_⟩
      have n23 : p2 ≠ p3 := ne_of_none upd_same np3
      refine ⟨_, _, _, _, rfl, rfl, (upd_ne n23).trans upd_same, upd_same, by decide +kernel, fun p4 np4 => ?_⟩
      refine ⟨p1, p4, rfl, ((((same_new np1).trans (same_new np2)).trans (same_new np3)).trans (same_new np4)), (((same_new np2).trans (same_new np3)).trans (same_new np4)) p1 _ upd_same, ?_, R.off np1, (R.same (((same_new np1).trans (same_new np2)).trans (same_new np3))).off np4⟩
      rw [upd_same]
      unfold owns
      rw [List.map_append]
      rfl
    rintro σ H4 ⟨p1, p4, rfl, sA, hF, hO, nF, nO⟩
    have R4 := R.same sA
    have b4 : But a H H4 := Same.but sA
    -- way
    refine ⟨_, rfl, a, n, 3, rfl, R4, by omega, by decide, by decide, fun way H5 w0 wl R5 b5 => ?_⟩
    refine ⟨_, rfl, _, _, rfl, rfl, _, rfl, ?_⟩
    refine ite2 (fun h => ?_) (fun h => ?_)
    · refine ⟨_, rfl, rfl, _, rfl, ?_⟩
      refine ite2 (fun h => ?_) (fun h => ?_)
      · refine ⟨_, rfl, _, rfl, a, n + 1, 9, rfl, R5, by omega, by decide, by decide, fun i H6 i0 il R6 b6 => ?_⟩
        obtain ⟨z, hz, nz⟩ := nm_at few_ok (i := i.toNat) (by show i.toNat < 9; omega)
        exact ⟨p1, _, _, _, rfl, rfl, SqL.of (b6.at nF (b5.at nF hF)), at_of (by omega) hz, k z _ H6 nz (by omega) R6 ((b4.trans b5).trans b6)⟩
      · refine ⟨_, rfl, _, rfl, a, n + 1, 27, rfl, R5, by omega, by decide, by decide, fun i H6 i0 il R6 b6 => ?_⟩
        obtain ⟨z, hz, nz⟩ := nm_at owns_ok.1 (i := i.toNat) (by rw [owns_ok.2]; omega)
        exact ⟨p4, _, _, _, rfl, rfl, SqL.of (b6.at nO (b5.at nO hO)), at_of (by omega) hz, k z _ H6 nz (by omega) R6 ((b4.trans b5).trans b6)⟩
    · -- any letters
      refine ⟨⟨_, rfl⟩, _, rfl, a, n + 1, 8, rfl, R5, by omega, by decide, by decide, fun m H6 m0 ml R6 b6 => ?_⟩
      refine ⟨_, _, rfl, rfl, (1 : Int) + m, rfl, by omega, by omega, fun D nD => ?_⟩
      have nD2 := R6.off nD
      have bA := (b4.trans b5).trans b6
      have nDH := bA.free nD2 nD
      refine lc_range (lo := 0) (n := ((1 : Int) + m).toNat) (fun i H7 => ∃ (cs : List Nat), H7 D = some (.lst ((cs.map sgn).map V.str)) ∧ cs.length = i ∧ (∀ c ∈ cs, 97 ≤ c ∧ c ≤ 122) ∧ Rnd H7 a (n + 1 + 1 + i) ∧ But a H H7)
        ⟨[], upd_same, rfl, fun _ h => by simp at h, R6.same (same_new nD), ((b4.trans b5).trans b6).trans (Same.but (same_new nD))⟩ ?_ ?_
      · rintro i H7 hi ⟨cs, e1, e2, e3, R7, b7⟩
        refine ⟨rfl, ?_⟩
        refine tyes ?_
        refine ⟨_, rfl, a, n + 1 + 1 + i, 26, rfl, R7, by omega, by decide, by decide, fun r H8 r0 rl R8 b8 => ?_⟩
        obtain ⟨c, hc, c1, c2⟩ := alpha_at ⟨r.toNat, by omega⟩
        have e8 := b8.at nD2 e1
        refine ⟨_, _, c, rfl, rfl, by decide +kernel, at_any (by show r = ((r.toNat : Nat) : Int); omega) hc, _, e8, small1000 (by rw [List.length_map, List.length_map]; omega), ?_⟩
        refine ⟨cs ++ [c], ?_, by rw [List.length_append, e2]; rfl, fun x hx => ?_, R8.upd nD2, (b7.trans b8).new nDH⟩
        · rw [upd_same, List.map_append, List.map_append]
          rfl
        · rcases List.mem_append.mp hx with z | z
          · exact e3 x z
          · rw [List.mem_singleton.mp z]
            exact ⟨c1, c2⟩
      · rintro H7 ⟨cs, e1, e2, e3, R7, b7⟩
        refine ⟨_, D, cs.map sgn, rfl, rfl, .inl (SqL.of e1), ?_, ?_⟩
        · have el : (Str.ofString "").length = 0 := by decide +kernel
          rw [el, Nat.mul_zero, Nat.add_zero, sum_sgn]
          omega
        · rw [join_sgn]
          exact k _ _ H7 (nm_cs (by omega) (by omega) e3) (by omega) R7 b7
end
end SW


set_option Elab.async false
set_option maxRecDepth 100000
/-! Different names: _law_names. -/
namespace SW
open PySem PySem.Spec PyProof.Rows L2
abbrev sNames : Stmt := top 53
/-- a list without repeats within another one is no longer -/
theorem nodup_le {α : Type} [BEq α] [LawfulBEq α] : ∀ {ws zs : List α}, ws.Nodup → (∀ w ∈ ws, w ∈ zs) → ws.length ≤ zs.length
  | [], _, _, _ => Nat.zero_le _
  | w :: r, zs, hn, h => by
    obtain ⟨h1, h2⟩ := List.nodup_cons.mp hn
    have hw := h w List.mem_cons_self
    have ih := nodup_le (zs := zs.erase w) h2 fun x hx => (List.mem_erase_of_ne (fun e : x = w => h1 (by rw [← e]; exact hx))).mpr (h x (List.mem_cons_of_mem _ hx))
    rw [List.length_erase_of_mem hw] at ih
    have := List.length_pos_of_mem hw
    rw [List.length_cons]
    omega
theorem some_out {α : Type} [BEq α] [LawfulBEq α] {ws zs : List α} (hn : ws.Nodup) (h : zs.length < ws.length) : ∃ w ∈ ws, w ∉ zs := by
  by_cases q : ∃ w ∈ ws, w ∉ zs
  · exact q
  · have := nodup_le hn fun w hw => Classical.byContradiction fun z => q ⟨w, hw, z⟩
    omega
def qw (j : Nat) : Str := Str.ofString "q" ++ (⟨#[97 + j]⟩ : Str)
def qs : List Str := (List.range 26).map qw
theorem qs_ok : qs.length = 26 ∧ qs.all isNmB = true ∧ qs.Nodup := by decide +kernel
theorem alpha_qs : ∀ i : Fin 26, ∃ c, alpha.cps.toList[i.1]? = some c ∧ qs[i.1]? = some (Str.ofString "q" ++ (⟨#[c]⟩ : Str)) := by decide +kernel
theorem inV_str (z : Str) : ∀ zs : List Str, inV (.str z) (zs.map V.str) = decide (z ∈ zs)
  | [] => rfl
  | y :: r => by
    have ih := inV_str z r
    unfold inV at ih ⊢
    rw [List.map_cons, List.any_cons, ih]
    show (y == z || decide (z ∈ r)) = _
    by_cases e : y = z
    · simp [e]
    · have e' : ¬ z = y := fun q => e q.symm
      simp [e, e', List.mem_cons]
theorem flat_strs : ∀ zs : List Str, (zs.map V.str).all flatV = true
  | [] => rfl
  | y :: r => by
    rw [List.map_cons, List.all_cons, flat_strs r]
    rfl
theorem str_at {zs : List Str} {i : Nat} {y : V} (h : (zs.map V.str)[i]? = some y) : ∃ z, zs[i]? = some z ∧ y = V.str z := by
  rw [List.getElem?_map] at h
  cases e : zs[i]? with
  | none =>
    rw [e] at h
    cases h
  | some z =>
    rw [e] at h
    exact ⟨z, rfl, (Option.some.inj h).symm⟩
theorem filt_pos {α : Type} {p : α → Bool} {l : List α} {x : α} (h : p x = true) : (l ++ [x]).filter p = l.filter p ++ [x] := by
  rw [List.filter_append]
  simp [List.filter, h]
theorem filt_neg {α : Type} {p : α → Bool} {l : List α} {x : α} (h : p x = false) : (l ++ [x]).filter p = l.filter p := by
  rw [List.filter_append]
  simp [List.filter, h]
/-- so many different names -/
def spNames : Sp := fun vs H Q _ => ∃ (a : RA) (n m : Nat), vs = [.ref a.s, .int (m : Int)] ∧ Rnd H a n ∧ m ≤ 9 ∧ n + 1000 ≤ 1000000 ∧
  ∀ (p : Addr) (zs : List Str) (n' : Nat) (H' : Hp), H p = none → Off a p → H' p = some (.lst (zs.map V.str)) → zs.length = m → zs.Nodup → (∀ z ∈ zs, isNm z) → n' ≤ n + 10 * m → Rnd H' a n' → But a H H' → Q (.ref p) H'
section
variable {P : Program} {w : World} {K : PySem.W.Frag} {mg : Str → Option Value} {base : Heap}
theorem scNames : FnScope ["state", "many", "found", "k", "name", "some", "j", "one"] ["state", "many"] (defScope sNames) := ⟨rfl, rfl, rfl, by decide +kernel, rfl, by decide +kernel, by decide +kernel⟩
theorem ok_names {f fN : Addr} {fd fdN : FuncData} (F : Fun K "_law_names" "_law_names" sNames f fd) (GN : FnOk P w K mg base CX0 3 fN fdN ["state"] spName) (bN : Binds K fdN ["state"] []) (gN : mg "_law_name" = some (.ref fN)) (kN : PySem.W.keepIn K (.ref fN) = true)
    (mR : mg "range" = none) (mL : mg "len" = none) : FnOk P w K mg base CX0 4 f fd ["state", "many"] spNames := by
  refine F.ok scNames (fun vs H Q E h => ?_) (fun cdv A outer s H vs Q E hr h => ?_)
  · obtain ⟨a, n, m, rfl, _⟩ := h
    rfl
  · obtain ⟨a, n, m, rfl, R, hm, hn, k⟩ := h
    refine ⟨_, pss_cons (ps_set (i := 2) scNames.nd rfl (Or.inr rfl) (pe_lst pa_nil))
      (pss_cons (ps_for PassesOwn.never rfl (pi_range1 rfl mR (pa_cons (pv 1) pa_nil)) (pg_name (i := 3) scNames.nd rfl (Or.inl rfl))
        (pss_cons (ps_set (i := 4) scNames.nd rfl (Or.inl rfl) (pe_call GN hr rfl gN kN bN .nil pass0 (pa_cons (pv 0) pa_nil)))
        (pss_cons (ps_set (i := 5) scNames.nd rfl (Or.inl rfl) (pe_op op_cat (pe_lst (pa_cons (pv 4) pa_nil))
          (pe_lc (own := [("j", 6)]) (g := gName 6) (tt := tYes) rfl scNames.nd
            (pi_range1 rfl mR (pa_cons (pe_op op_add (pe_callB call_len_seq (by rfl) mL boot_len (pa_cons (pv 2) pa_nil)) pe_int) pa_nil))
            (blkOk_by (N := ["state", "many", "found", "k", "name", "some", "j", "one"]) (sc := defScope sNames) (by decide +kernel))
            (fun _ _ _ _ _ => pg_name (i := 6) scNames.nd rfl (Or.inl rfl)) (fun _ _ _ _ _ => pts_nil)
            (fun _ _ _ _ _ => pe_op op_add_str pe_str (pe_ix ix_str pe_str (pv 6) (fun _ _ => rfl))))))
        (pss_one (ps_expr (pe_bm PySem.F.plainAttrs_list PySem.F.slot_list_append PySem.F.type_list_append mt_append (pv 2) (pa_cons
          (pe_ix ix_list (pe_lc (own := [("one", 7)]) (g := gName 7) (tt := tTest (tOp (rIn K true) (tVar 7) (tVar 2))) rfl scNames.nd (pi_list (pv 5))
            (blkOk_by (N := ["state", "many", "found", "k", "name", "some", "j", "one"]) (sc := defScope sNames) (by decide +kernel))
            (fun _ _ _ _ _ => pg_name (i := 7) scNames.nd rfl (Or.inl rfl)) (fun _ _ _ _ _ => pts_one (pt_cmpR op_notIn_seq (pv 7) (pv 2) rfl))
            (fun _ _ _ _ _ => pv 7)) pe_int (fun _ _ => rfl)) pa_nil)))))))
      (pss_one (ps_ret (pv 2)))), ?_⟩
    -- found = []
    refine ⟨Nat.zero_le _, fun p np => ?_⟩
    have fp := R.off np
    refine ⟨_, rfl, (m : Int), rfl, by omega, by omega, for_range (lo := 0) (n := ((m : Int)).toNat) (fun i σ H' => ∃ (zs : List Str) (n' : Nat) (v3 v4 v5 : Option V), σ = [some (.ref a.s), some (.int (m : Int)), some (.ref p), v3, v4, v5, none, none] ∧
        H' p = some (.lst (zs.map V.str)) ∧ zs.length = i ∧ zs.Nodup ∧ (∀ z ∈ zs, isNm z) ∧ n' ≤ n + 10 * i ∧ Rnd H' a n' ∧ But a H H')
      ⟨[], n, none, none, none, rfl, upd_same, rfl, List.nodup_nil, (fun z h => by simp at h), Nat.le_refl _, R.same (same_new np), Same.but (same_new np)⟩ ?_ ?_⟩
    · rintro i σ H1 hi ⟨zs, n', v3, v4, v5, rfl, ep, el, nd, nm, hn', R1, b1⟩
      have him : i < m := by omega
      -- name = _law_name(state)
      refine ⟨_, rfl, a, n', rfl, R1, by omega, fun z n2 H2 nz hn2 R2 b2 => ?_⟩
      have ep2 := b2.at fp ep
      -- some = [name] + [..]
      refine ⟨_, rfl, (by show 1 ≤ sizeLine; decide), fun p1 np1 => ?_⟩
      have ep3 := same_new (o := .lst [.str z]) np1 _ _ ep2
      have hlen : (((((zs.map V.str).length : Nat) : Int) + 1).toNat) = i + 1 := by rw [List.length_map, el]; omega
      refine ⟨_, rfl, p, _, rfl, .inl (SqL.of ep3), _, _, rfl, rfl, _, rfl, (by rw [List.length_map]; omega), (by rw [List.length_map]; omega), fun D nD => ?_⟩
      refine lc_range (lo := 0) (n := (((((zs.map V.str).length : Nat) : Int) + 1).toNat)) (fun j H3 => H3 D = some (.lst ((qs.take j).map V.str)) ∧ Same (upd H2 p1 (.lst [.str z])) H3) ⟨upd_same, same_new nD⟩ ?_ ?_
      · rintro j H3 hj ⟨e1, s3⟩
        rw [hlen] at hj
        obtain ⟨c, hc, hq⟩ := alpha_qs ⟨j, by omega⟩
        refine ⟨rfl, ?_⟩
        refine tyes ?_
        have lt : ((qs.take j).map V.str).length < sizeLine := small1000 (by rw [List.length_map, List.length_take]; omega)
        refine ⟨_, rfl, _, _, c, rfl, rfl, by decide +kernel, at_any (by show (0 : Int) + (j : Int) = (j : Int); omega) hc, _, _, rfl, rfl, (by show (Str.ofString "q").length + 1 ≤ sizeLine; decide +kernel), _, e1, lt, ?_, Same.new s3 nD⟩
        rw [upd_same, List.take_add_one, hq, List.map_append]
        rfl
      · rintro H3 ⟨e1, s3⟩
        rw [hlen] at e1
        refine ⟨p1, D, _, _, rfl, rfl, s3 _ _ upd_same, e1, ?_, fun p2 np2 => ?_⟩
        · rw [List.length_map, List.length_take, qs_ok.1]
          show 1 + _ ≤ sizeLine
          have h7 : 1 + min (i + 1) 26 ≤ 1000 := by omega
          exact Nat.le_of_lt (small1000 h7)
        have ep4 := same_new (o := .lst ([V.str z] ++ (qs.take (i + 1)).map V.str)) np2 _ _ (s3 _ _ ep3)
        have b4 : But a H (upd H3 p2 (.lst ([V.str z] ++ (qs.take (i + 1)).map V.str))) := (b1.trans b2).trans (Same.but (((same_new np1).trans s3).trans (same_new np2)))
        have R4 : Rnd (upd H3 p2 (.lst ([V.str z] ++ (qs.take (i + 1)).map V.str))) a n2 := R2.same (((same_new np1).trans s3).trans (same_new np2))
        have ew : (upd H3 p2 (.lst ([V.str z] ++ (qs.take (i + 1)).map V.str))) p2 = some (.lst ((z :: qs.take (i + 1)).map V.str)) := upd_same
        generalize (upd H3 p2 (.lst ([V.str z] ++ (qs.take (i + 1)).map V.str))) = H4 at ep4 b4 R4 ew ⊢
        have hws : (qs.take (i + 1)).Nodup := qs_ok.2.2.sublist (List.take_sublist _ _)
        have hwl : (qs.take (i + 1)).length = i + 1 := by rw [List.length_take, qs_ok.1]; omega
        obtain ⟨w0, hw0, hw1⟩ := some_out (zs := zs) hws (by omega)
        have wsN : ∀ y ∈ z :: qs.take (i + 1), isNm y := fun y hy => by
          rcases List.mem_cons.mp hy with e | e
          · rw [e]
            exact nz
          · exact List.all_eq_true.mp qs_ok.2.1 _ (List.mem_of_mem_take e)
        have wsO : ∃ w ∈ z :: qs.take (i + 1), w ∉ zs := ⟨w0, List.mem_cons_of_mem _ hw0, hw1⟩
        have wsL : (z :: qs.take (i + 1)).length ≤ 100 := by rw [List.length_cons, hwl]; omega
        generalize z :: qs.take (i + 1) = ws at ew wsN wsO wsL
        -- found.append([..][0])
        refine ⟨_, rfl, Or.inl ⟨rfl, _, SqL.of ep4⟩, ?_⟩
        refine ⟨_, rfl, p2, rfl, ⟨_, SqL.of ew⟩, fun D2 nD2 => ?_⟩
        refine lc_list (K := K) (a := p2) (xs := ws.map V.str) (fun j H5 => H5 D2 = some (.lst (((ws.take j).filter fun y => decide (y ∉ zs)).map V.str)) ∧ Same H4 H5) ⟨upd_same, same_new nD2⟩ (fun j H5 _ ⟨_, s5⟩ => s5.seq (SqL.of ew)) ?_ ?_
        · rintro j y H5 hj ⟨e5, s5⟩
          obtain ⟨x, hx, rfl⟩ := str_at hj
          refine ⟨rfl, _, rfl, _, rfl, p, _, rfl, .inl (SqL.of (s5 _ _ ep4)), rfl, flat_strs zs, _, rfl, ?_⟩
          show (if (!inV (.str x) (zs.map V.str)) = true then _ else _)
          rw [inV_str]
          have et : ws.take (j + 1) = ws.take j ++ [x] := by rw [List.take_add_one, hx]; rfl
          refine ite2 (fun h => ?_) (fun h => ?_)
          · have hxz : decide (x ∉ zs) = true := by simpa using h
            refine ⟨_, rfl, _, e5, small1000 ?_, ?_, Same.new s5 nD2⟩
            · rw [List.length_map]
              exact Nat.le_trans (List.length_filter_le _ _) (by rw [List.length_take]; omega)
            · rw [upd_same, et, filt_pos (p := fun y => decide (y ∉ zs)) hxz, List.map_append]
              rfl
          · have hxz : ¬ decide (x ∉ zs) = true := by simpa using h
            refine ⟨?_, s5⟩
            rw [e5, et, filt_neg (p := fun y => decide (y ∉ zs)) (by simpa using hxz)]
        · rintro H5 ⟨e5, s5⟩
          rw [List.length_map, List.take_length] at e5
          obtain ⟨w, hw, hwz⟩ := wsO
          have hne : 0 < (ws.filter fun y => decide (y ∉ zs)).length := List.length_pos_of_mem (List.mem_filter.mpr ⟨hw, decide_eq_true hwz⟩)
          obtain ⟨g, hg⟩ : ∃ g, (ws.filter fun y => decide (y ∉ zs))[0]? = some g := ⟨_, List.getElem?_eq_getElem hne⟩
          have hgm := List.mem_filter.mp (List.mem_of_getElem? hg)
          have hgz : g ∉ zs := of_decide_eq_true hgm.2
          refine ⟨D2, _, 0, .str g, rfl, rfl, SqL.of e5, at_of (j := 0) rfl (by rw [List.getElem?_map, hg]; rfl), ?_⟩
          refine ⟨p, _, _, rfl, rfl, s5 _ _ ep4, small1000 (by rw [List.length_map]; omega), ?_⟩
          refine ⟨zs ++ [g], n2, _, _, _, rfl, ?_, by rw [List.length_append, el]; rfl, nd_snoc nd hgz, fun y hy => ?_, by omega, (R4.same s5).upd fp, (b4.trans (Same.but s5)).new np⟩
          · rw [upd_same, List.map_append]
            rfl
          · rcases List.mem_append.mp hy with e | e
            · exact nm y e
            · rw [List.mem_singleton.mp e]
              exact wsN g hgm.1
    · rintro σ H1 ⟨zs, n', v3, v4, v5, rfl, ep, el, nd, nm, hn', R1, b1⟩
      exact ⟨_, rfl, k p zs n' H1 np fp ep (by omega) nd nm (by omega) R1 b1⟩
end
end SW


set_option Elab.async false
set_option maxRecDepth 100000
set_option maxHeartbeats 2000000
/-! trees stay while the draws write. -/
namespace BK
open PySem PySem.Spec PyProof.Rows L2 SW
section
variable {K : PySem.W.Frag} {H H' : Hp} {a : RA} {n n' : Nat}
theorem lst_but (R : Rnd H a n) (R' : Rnd H' a n') (b : But a H H') {p : Addr} {xs : List V} (h : SqL K H p xs) : ∃ ys, SqL K H' p ys := by
  obtain ⟨ns, ls, e1, e2, e3, _⟩ := R.ex
  obtain ⟨ns', ls', f1, f2, f3, _⟩ := R'.ex
  by_cases q1 : p = a.l
  · subst q1
    exact ⟨_, SqL.of f3⟩
  by_cases q2 : p = a.s
  · subst q2
    rcases h with (h | ⟨o, h⟩) | h
    · rw [e1] at h
      cases h
    · rw [e1] at h
      cases h
    · exact ⟨xs, .inr h⟩
  rcases h with (h | ⟨o, h⟩) | h
  · exact ⟨xs, .inl (.inl (b _ _ h q2 q1))⟩
  · exact ⟨xs, .inl (.inr ⟨o, b _ _ h q2 q1⟩)⟩
  · exact ⟨xs, .inr h⟩
theorem sqt_but (R : Rnd H a n) (b : But a H H') {p : Addr} {xs : List V} (h : SqT K H p xs) : SqT K H' p xs := by
  obtain ⟨ns, ls, e1, e2, e3, _⟩ := R.ex
  have ne : ∀ o, H p = some o → (∀ kvs, o ≠ .dK kvs) → (∀ ys, o ≠ .lst ys) → H' p = some o := fun o e z1 z2 => b _ _ e (fun q => by
    subst q
    rw [e1] at e
    exact z1 _ (Option.some.inj e).symm) (fun q => by
    subst q
    rw [e3] at e
    exact z2 _ (Option.some.inj e).symm)
  rcases h with (h | ⟨o, h⟩) | h
  · exact .inl (.inl (ne _ h (fun _ z => by cases z) (fun _ z => by cases z)))
  · exact .inl (.inr ⟨o, ne _ h (fun _ z => by cases z) (fun _ z => by cases z)⟩)
  · exact .inr h
theorem dct_but (R : Rnd H a n) (R' : Rnd H' a n') (b : But a H H') {p : Addr} {kvs : List (Key × V)} (h : H p = some (.dK kvs)) : ∃ kvs', H' p = some (.dK kvs') := by
  obtain ⟨ns, ls, e1, e2, e3, _⟩ := R.ex
  obtain ⟨ns', ls', f1, f2, f3, _⟩ := R'.ex
  by_cases q2 : p = a.s
  · subst q2
    exact ⟨_, f1⟩
  · exact ⟨_, b _ _ h q2 fun q => by
      subst q
      rw [e3] at h
      cases h⟩
mutual
theorem TrAt.rnd (R : Rnd H a n) (R' : Rnd H' a n') (b : But a H H') : ∀ {v : V} {t : Tr}, TrAt K H v t → TrAt K H' v t
  | _, _, .non => .non
  | _, _, .bl b => .bl b
  | _, _, .int i => .int i
  | _, _, .str s h => .str s h
  | _, _, .lst h => by
    obtain ⟨ys, q⟩ := lst_but R R' b h
    exact .lst q
  | _, _, .dct h => by
    obtain ⟨kvs, q⟩ := dct_but R R' b h
    exact .dct q
  | _, _, .tup h k => .tup (sqt_but R b h) (TrAll.rnd R R' b k)
theorem TrAll.rnd (R : Rnd H a n) (R' : Rnd H' a n') (b : But a H H') : ∀ {vs : List V} {ts : List Tr}, TrAll K H vs ts → TrAll K H' vs ts
  | _, _, .nil => .nil
  | _, _, .cons h k => .cons (h.rnd R R' b) (k.rnd R R' b)
end
/-- xs + ys of two tuples -/
theorem cat_tr {v u : V} {xs ys : List Tr} {Q : VK} (t1 : TrAt K H v (.tup xs)) (t2 : TrAt K H u (.tup ys)) (l1 : xs.length ≤ 1000) (l2 : ys.length ≤ 1000) (k : ∀ r H', Same H H' → TrAt K H' r (.tup (xs ++ ys)) → Q r H') : rCatA K v u H Q := by
  cases t1 with
  | @tup aa vs _ ha ta' =>
  cases t2 with
  | @tup bb us _ hb tb' =>
  have e1 := ta'.len
  have e2 := tb'.len
  refine ⟨aa, bb, vs, us, rfl, rfl, ha, hb, by rw [sizeLine_eq]; omega, fun e => ?_, fun _ e => ?_, fun _ _ p np => ?_⟩
  · subst e
    cases ta'
    exact k _ _ (fun _ _ e => e) (.tup hb tb')
  · subst e
    cases tb'
    rw [List.append_nil] at k
    exact k _ _ (fun _ _ e => e) (.tup ha ta')
  · exact k _ _ (same_new np) (.tup (SqT.of upd_same) ((ta'.app tb').same (same_new np)))
theorem TrAll.rep {v : V} {t : Tr} (h : TrAt K H v t) : ∀ k : Nat, TrAll K H (List.replicate k [v]).flatten (List.replicate k t)
  | 0 => .nil
  | k + 1 => by
    rw [List.replicate_succ, List.replicate_succ, List.flatten_cons]
    exact .cons h (TrAll.rep h k)
/-- (t,) * k -/
theorem rep_tr {v : V} {t : Tr} {k : Int} {Q : VK} (h : TrAt K H v (.tup [t])) (h0 : 0 ≤ k) (h1 : k ≤ 1000) (q : ∀ r H', Same H H' → TrAt K H' r (.tup (List.replicate k.toNat t)) → Q r H') : rRepA K v (.int k) H Q := by
  cases h with
  | @tup aa vs _ ha ta =>
  cases ta with
  | cons t1 tn =>
  cases tn
  exact ⟨aa, k, _, rfl, rfl, ha, (fun z => by cases z), h0, h1, (Nat.le_of_ble_eq_true rfl), fun p H' s hT => q _ _ s (.tup hT ((TrAll.rep t1 _).same s))⟩
/-- a new tuple -/
theorem new_tr {p : Addr} {vs : List V} {ts : List Tr} (np : H p = none) (h : TrAll K H vs ts) : Same H (upd H p (.tup vs)) ∧ TrAt K (upd H p (.tup vs)) (.ref p) (.tup ts) := ⟨same_new np, .tup (SqT.of upd_same) (h.same (same_new np))⟩
end
/-- the law's own dict -/
def ownK (x y c t nn : Str) (nm : Addr) (pv : V) : List (Key × V) := [(.inr "x", .str x), (.inr "y", .str y), (.inr "c", .str c), (.inr "t", .str t), (.inr "names", .ref nm), (.inr "params", pv), (.inr "none", .str nn)]
section
variable {x y c t nn : Str} {nm : Addr} {pv : V}
theorem ow_x : valV (ownK x y c t nn nm pv) (.inr "x") = some (.str x) := by with_unfolding_all rfl
theorem ow_y : valV (ownK x y c t nn nm pv) (.inr "y") = some (.str y) := by with_unfolding_all rfl
theorem ow_c : valV (ownK x y c t nn nm pv) (.inr "c") = some (.str c) := by with_unfolding_all rfl
theorem ow_t : valV (ownK x y c t nn nm pv) (.inr "t") = some (.str t) := by with_unfolding_all rfl
theorem ow_names : valV (ownK x y c t nn nm pv) (.inr "names") = some (.ref nm) := by with_unfolding_all rfl
theorem ow_params : valV (ownK x y c t nn nm pv) (.inr "params") = some pv := by with_unfolding_all rfl
theorem ow_none : valV (ownK x y c t nn nm pv) (.inr "none") = some (.str nn) := by with_unfolding_all rfl
end
end BK


set_option Elab.async false
set_option maxRecDepth 100000
set_option maxHeartbeats 2000000
set_option linter.unusedVariables false
/-! what is right, is of statements; how many they are -/
namespace BK
open PySem PySem.Spec PyProof.Rows L2
def okD : Nat → List Tr → Prop
  | 0, ts => ts = []
  | d + 1, ts => ∀ t ∈ ts, formT t = true ∧ ∀ b ∈ blocksT t, okD d b
def metD : Nat → List Tr → Nat
  | 0, _ => 0
  | d + 1, ts => (ts.map fun t => 1 + ((blocksT t).map (metD d)).sum).sum
theorem blocksIn_none {f : List Tr → Ck → Fl} {m : List Tr → Nat} {p : List Tr → Prop} (hf : ∀ b c c', f b c = (none, c') → p b ∧ c'.2 = c.2 + m b) : ∀ (bs : List (List Tr)) (j : Nat) (c c' : Ck), blocksIn f bs j c = (none, c') → (∀ b ∈ bs, p b) ∧ c'.2 = c.2 + (bs.map m).sum
  | [], _, c, c', h => by
    cases h
    exact ⟨fun b hb => (by cases hb), rfl⟩
  | b :: r, j, c, c', h => by
    have h : (match f b c with
      | (some w, c') => (some (j :: w), c')
      | (none, c') => blocksIn f r (j + 1) c') = (none, c') := h
    cases e : f b c with
    | mk x c1 =>
    rw [e] at h
    cases x with
    | some w => cases h
    | none =>
      obtain ⟨h1, h2⟩ := hf b c c1 e
      obtain ⟨h3, h4⟩ := blocksIn_none hf r (j + 1) c1 c' h
      refine ⟨fun z hz => ?_, ?_⟩
      · rcases List.mem_cons.mp hz with rfl | hz
        · exact h1
        · exact h3 z hz
      · rw [List.map_cons, List.sum_cons]
        omega
theorem takes_form {vars : List Str} {t : Tr} {as : List Str} {m m' : Km} {n : Nat} (h : takesT vars t as m n = (true, m')) : formT t = true ∧ n ≤ 16 ∧ as.length ≤ 4 := by
  unfold takesT at h
  by_cases z : 16 < n ∨ 4 < as.length
  · rw [if_pos z] at h
    cases h
  · rw [if_neg z] at h
    have z1 : ¬ 16 < n := fun q => z (.inl q)
    have z2 : ¬ 4 < as.length := fun q => z (.inr q)
    split at h
    · rename_i x rest
      cases ek : kindsOf x with
      | none => rw [ek] at h; cases h
      | some ks =>
        rw [ek] at h
        simp only at h
        by_cases ef : fitsT rest ks = true
        · refine ⟨?_, by omega, by omega⟩
          show (match kindsOf x with
            | some ks => fitsT rest ks
            | none => false) = true
          rw [ek]
          exact ef
        · rw [if_neg ef] at h
          cases h
    · cases h
theorem faultL_none {vars : List Str} {rec : List Tr → List Str → Ck → Fl} {as : List Str} {m : List Tr → Nat} {p : List Tr → Prop} (hf : ∀ w b c c', as.length ≤ 4 → rec b (as ++ [w]) c = (none, c') → p b ∧ c'.2 = c.2 + m b) : ∀ (ts : List Tr) (i : Nat) (c c' : Ck), faultL vars rec as ts i c = (none, c') →
    (∀ t ∈ ts, formT t = true ∧ as.length ≤ 4 ∧ ∀ b ∈ blocksT t, p b) ∧ c'.2 = c.2 + (ts.map fun t => 1 + ((blocksT t).map m).sum).sum
  | [], _, c, c', h => by
    cases h
    exact ⟨fun b hb => (by cases hb), rfl⟩
  | t :: r, i, c, c', h => by
    have h : (match takesT vars t as c.1 (c.2 + 1) with
      | (false, m) => (some [i], (m, c.2 + 1))
      | (true, m) => match blocksIn (fun b c => rec b (as ++ [wordS t]) c) (blocksT t) 0 (m, c.2 + 1) with
        | (some w, c') => (some (i :: w), c')
        | (none, c') => faultL vars rec as r (i + 1) c') = (none, c') := h
    cases e : takesT vars t as c.1 (c.2 + 1) with
    | mk b k =>
    rw [e] at h
    cases b with
    | false => cases h
    | true =>
      obtain ⟨f1, f2, f3⟩ := takes_form e
      simp only at h
      cases e2 : blocksIn (fun b c => rec b (as ++ [wordS t]) c) (blocksT t) 0 (k, c.2 + 1) with
      | mk x c1 =>
      rw [e2] at h
      cases x with
      | some w => cases h
      | none =>
        obtain ⟨h1, h2⟩ := blocksIn_none (m := m) (p := p) (fun b c c' hb => hf _ b c c' f3 hb) _ _ _ _ e2
        obtain ⟨h3, h4⟩ := faultL_none hf r (i + 1) c1 c' h
        refine ⟨fun z hz => ?_, ?_⟩
        · rcases List.mem_cons.mp hz with rfl | hz
          · exact ⟨f1, f3, h1⟩
          · exact h3 z hz
        · rw [List.map_cons, List.sum_cons]
          have h2 : c1.2 = c.2 + 1 + ((blocksT t).map m).sum := h2
          omega
theorem fault_ok (vars : List Str) : ∀ (d : Nat) (ts : List Tr) (as : List Str) (c c' : Ck), as.length + d = 5 → faultD vars d ts as c = (none, c') → okD d ts ∧ c'.2 = c.2 + metD d ts
  | 0, ts, as, c, c', hl, h => by
    rw [faultD_eq] at h
    obtain ⟨h1, h2⟩ := faultL_none (m := fun _ => 0) (p := fun _ => True) (fun w b c c' q _ => absurd q (by omega)) ts 0 c c' h
    cases ts with
    | nil => cases h; exact ⟨rfl, rfl⟩
    | cons t r => exact absurd (h1 t List.mem_cons_self).2.1 (by omega)
  | d + 1, ts, as, c, c', hl, h => by
    rw [faultD_eq] at h
    obtain ⟨h1, h2⟩ := faultL_none (rec := faultD vars d) (m := metD d) (p := okD d) (fun w b c c' q hb => fault_ok vars d b (as ++ [w]) c c' (by simp; omega) hb) ts 0 c c' h
    exact ⟨fun t ht => ⟨(h1 t ht).1, (h1 t ht).2.2⟩, h2⟩
/-- no more than sixteen are met -/
theorem faultL_few {vars : List Str} {rec : List Tr → List Str → Ck → Fl} {as : List Str} (hf : ∀ b as c, c.2 ≤ 16 → (rec b as c).1 = none → (rec b as c).2.2 ≤ 16) : ∀ (ts : List Tr) (i : Nat) (c : Ck), c.2 ≤ 16 → (faultL vars rec as ts i c).1 = none → (faultL vars rec as ts i c).2.2 ≤ 16
  | [], _, c, hc, _ => hc
  | t :: r, i, c, hc, h => by
    unfold faultL at h ⊢
    cases e : takesT vars t as c.1 (c.2 + 1) with
    | mk b k =>
    rw [e] at h
    cases b with
    | false => cases h
    | true =>
      obtain ⟨_, f2, _⟩ := takes_form e
      simp only at h ⊢
      have bl : ∀ (bs : List (List Tr)) (j : Nat) (c : Ck), c.2 ≤ 16 → (blocksIn (fun b c => rec b (as ++ [wordS t]) c) bs j c).1 = none → (blocksIn (fun b c => rec b (as ++ [wordS t]) c) bs j c).2.2 ≤ 16 := by
        intro bs
        induction bs with
        | nil => exact fun _ c hc _ => hc
        | cons b bs ih =>
          intro j c hc h
          unfold blocksIn at h ⊢
          cases e3 : rec b (as ++ [wordS t]) c with
          | mk x c1 =>
          rw [e3] at h
          cases x with
          | some w => cases h
          | none =>
            have := hf b (as ++ [wordS t]) c hc (by rw [e3])
            rw [e3] at this
            exact ih (j + 1) c1 this h
      cases e2 : blocksIn (fun b c => rec b (as ++ [wordS t]) c) (blocksT t) 0 (k, c.2 + 1) with
      | mk x c1 =>
      rw [e2] at h
      cases x with
      | some w => cases h
      | none =>
        have := bl (blocksT t) 0 (k, c.2 + 1) f2 (by rw [e2])
        rw [e2] at this
        exact faultL_few hf r (i + 1) c1 this h
theorem faultD_few (vars : List Str) : ∀ (d : Nat) (ts : List Tr) (as : List Str) (c : Ck), c.2 ≤ 16 → (faultD vars d ts as c).1 = none → (faultD vars d ts as c).2.2 ≤ 16
  | 0, ts, as, c, hc, h => by
    rw [faultD_eq] at h ⊢
    exact faultL_few (fun _ _ _ hc _ => hc) ts 0 c hc h
  | d + 1, ts, as, c, hc, h => by
    rw [faultD_eq] at h ⊢
    exact faultL_few (fun b as c hc h => faultD_few vars d b as c hc h) ts 0 c hc h
/-- of a right piece: its statements, at most sixteen -/
theorem block_right {vars : List Str} {ts : List Tr} {km : Km} (h : (faultD vars 5 ts [] (km, 0)).1 = none) : okD 5 ts ∧ metD 5 ts ≤ 16 := by
  cases e : faultD vars 5 ts [] (km, 0) with
  | mk x c' =>
  rw [e] at h
  have h : x = none := h
  subst h
  obtain ⟨h1, h2⟩ := fault_ok vars 5 ts [] (km, 0) c' rfl e
  have h3 := faultD_few vars 5 ts [] (km, 0) (Nat.zero_le _) (by rw [e])
  rw [e] at h3
  have h2 : c'.2 = 0 + metD 5 ts := h2
  have h3 : c'.2 ≤ 16 := h3
  exact ⟨h1, by omega⟩
end BK

set_option Elab.async false
set_option maxRecDepth 100000
set_option maxHeartbeats 2000000
set_option linter.unusedVariables false
/-! dict(d) of a written dict of texts -/
namespace BK
open PySem PySem.Spec PyProof.Rows L2
def keyE (e : DictEntry) : Str := match e.key with
  | .str x _ => x
  | _ => ""
def valE (e : DictEntry) : V := match e.val with
  | .ref t => .ref t
  | _ => .non
def isRef : Value → Bool
  | .ref _ => true
  | _ => false
def refsE (l : List DictEntry) : Bool := l.all fun e => isRef e.val
theorem kd_pairs {P : Program} {w : World} : ∀ {l : List DictEntry}, PySem.W.KeysLit w.params l → Pairs (mixKind P w) l (l.map fun e => ((.inr (keyE e) : Key), e.val))
  | [], _ => .nil
  | e :: r, ⟨⟨x, t, e1, _⟩, hr⟩ => by
    refine .cons ?_ rfl (kd_pairs hr)
    show keyIs (.inr (keyE e)) e.key = true
    unfold keyE
    rw [e1]
    exact keyIs_str x t
theorem kd_kv : ∀ {l : List DictEntry}, refsE l = true → KV (l.map fun e => ((.inr (keyE e) : Key), valE e)) (l.map fun e => ((.inr (keyE e) : Key), e.val))
  | [], _ => .nil
  | e :: r, h => by
    unfold refsE at h
    rw [List.all_cons, Bool.and_eq_true] at h
    refine .cons ⟨rfl, ?_⟩ (kd_kv h.2)
    show RelV (valE e) e.val
    unfold valE
    cases q : e.val with
    | ref t => rfl
    | _ => rw [q] at h; exact absurd (show false = true from h.1) (by decide)
theorem kd_nodup {l : List DictEntry} (h : (l.map keyE).Nodup) : ((l.map fun e => ((.inr (keyE e) : Key), e.val)).map (·.1)).Nodup := by
  rw [List.map_map]
  have : ((fun x : Key × Value => x.1) ∘ fun e => ((.inr (keyE e) : Key), e.val)) = (fun x : Str => (.inr x : Key)) ∘ keyE := rfl
  rw [this, ← List.map_map]
  exact h.map _ fun a b n e => n (Sum.inr.inj e)
theorem kd_dictOf {X : Cx} {d : Addr} {es : Array DictEntry} {n : Nat} {h : Heap} (D : KDict X.K X.w d es n) (hK : X.K.In h) (hn : (es.toList.map keyE).Nodup) :
    h.DictOf (mixKind X.prog X.w) d (es.toList.map fun e => ((.inr (keyE e) : Key), e.val)) :=
  ⟨_, es, n, hK _ _ D.at_, ⟨rfl, rfl, rfl⟩, rfl, fun e he => by
    obtain ⟨x, t, e1, e2⟩ := D.lit.all e (Array.mem_toList_iff.mpr he)
    refine ⟨.inr x, ?_, e2⟩
    rw [e1]
    exact keyIs_str x t, kd_pairs D.lit, kd_nodup hn⟩
def rDictK (X : Cx) : List V → Hp → VK → Prop := fun xs H Q => ∃ (a : Addr) (es : Array DictEntry) (n : Nat), xs = [.ref a] ∧ KDict X.K X.w a es n ∧ refsE es.toList = true ∧ (es.toList.map keyE).Nodup ∧ es.toList.length ≤ 1000 ∧
  ∀ (p : Addr) (kvs : List (Key × V)), H p = none → (∀ x t, PySem.W.nsIn X.K a x = some (some (.ref t)) → valV kvs (.inr x) = some (.ref t)) → Q (.ref p) (upd H p (.dK kvs))
theorem call_dictKD {X : Cx} : CallR X (.type "dict") (rDictK X) := by
  intro pins s σ H xs us Q I r q
  obtain ⟨a, es, n, ex, D, hv, hn, hl, q⟩ := q
  subst ex
  obtain ⟨u, eu, rx⟩ := vals1 r
  subst eu
  cases rx
  have dd := kd_dictOf (X := X) D I.kIn hn
  have big : sizeLine = 16777216 := sizeLine_eq
  have rel := kd_kv hv
  refine kt_call_dict D.low dd (by rw [List.length_map]; omega) fun h' d' hs => ?_
  have hm : (s.heap.objs.size == sysModules) = false := beq_eq_false_iff_ne.mpr (Nat.ne_of_gt I.big)
  refine ⟨.ref s.heap.objs.size, upd H s.heap.objs.size (.dK (es.toList.map fun e => ((.inr (keyE e) : Key), valE e))), I.laid (t' := s.toks) (fun b u e => (hs.2 b (Nat.ne_of_lt (Heap.lt_size e))).trans (Heap.get?_push_of_some _ e)) (Nat.le_refl _)
    (show ObjOk X.prog X.w _ _ _ (.dK _) from ⟨by rw [List.length_map]; omega, hm, _, rel, d'⟩), rfl, q _ _ (I.hok.fresh (Nat.le_refl _)) fun x t e => ?_⟩
  have e1 := PySem.W.find_K D.at_ e
  have e2 : valueAt (es.toList.map fun e => ((.inr (keyE e) : Key), e.val)) (.inr x) = some (.ref t) := by
    rw [← (kd_pairs (P := X.prog) D.lit).find (.inr x), ← e1]
    obtain ⟨l⟩ := es
    simp [findBy]
    rfl
  have e3 := rel.val (.inr x)
  rw [e2] at e3
  cases e4 : valV (es.toList.map fun e => ((.inr (keyE e) : Key), valE e)) (.inr x) with
  | none => rw [e4] at e3; exact e3.elim
  | some v =>
    rw [e4] at e3
    have e3 : RelV v (.ref t) := e3
    rw [RelV.inj e3 (show RelV (.ref t) (.ref t) from rfl)]
end BK

set_option Elab.async false
set_option maxRecDepth 100000
set_option maxHeartbeats 4000000
set_option linter.unusedVariables false
/-! words_of_part, words_of_block -/
namespace BK
open PySem PySem.Spec PyProof.Rows L2 RZ ET
def cntT (d : Nat) : Tr → Nat
  | .tup ts => 10 * metD d ts
  | _ => 0
def FormsAt (K : PySem.W.Frag) (H : Hp) (q : Addr) : Prop := ∃ kvs : List (Key × V), H q = some (.dK kvs) ∧ ∀ x ks, kindsOf x = some ks → ∃ t, valV kvs (.inr x) = some (.ref t) ∧ ∀ H, SqT K H t (ks.map V.str)
theorem FormsAt.same {K : PySem.W.Frag} {H H' : Hp} {q : Addr} (h : FormsAt K H q) (s : Same H H') : FormsAt K H' q := let ⟨kvs, e, r⟩ := h; ⟨kvs, s _ _ e, r⟩
def spBw (K : PySem.W.Frag) (d : Nat) : Sp := fun vs H Q _ => ∃ v q ts, vs = [v, .ref q] ∧ TrAt K H v (.tup ts) ∧ FormsAt K H q ∧ okD d ts ∧ metD d ts ≤ 50 ∧
  ∀ (L : Addr) (ws : List Str) (H' : Hp), Same H H' → H' L = some (.lst (ws.map V.str)) → ws.length ≤ 10 * metD d ts → (∀ w ∈ ws, w.length ≤ 20) → Q (.ref L) H'
def spPw (K : PySem.W.Frag) (d : Nat) : Sp := fun vs H Q _ => ∃ v k q t, vs = [v, .str k, .ref q] ∧ TrAt K H v t ∧ FormsAt K H q ∧ partT t k = true ∧ k ≠ "args" ∧ k ≠ "value" ∧ (∀ ts, t = .tup ts → okD d ts) ∧ cntT d t ≤ 500 ∧
  ∀ (L : Addr) (ws : List Str) (H' : Hp), Same H H' → H' L = some (.lst (ws.map V.str)) → ws.length ≤ 2 + cntT d t → (∀ w ∈ ws, w.length ≤ 20) → Q (.ref L) H'
theorem no_value {w : Str} {ks : List Str} (h : kindsOf w = some ks) : ("value" : Str) ∉ ks := by
  have all : (kindTab.all fun e => decide (("value" : Str) ∉ e.2)) = true := by decide +kernel
  unfold kindsOf at h
  cases e : kindTab.find? fun e => decide (e.1 = w) with
  | none => rw [e] at h; cases h
  | some x =>
    rw [e] at h
    have q : x.2 = ks := Option.some.inj h
    rw [← q]
    exact of_decide_eq_true (List.all_eq_true.mp all x (List.mem_of_find?_eq_some e))
theorem word_few {w : Str} {ks : List Str} (h : kindsOf w = some ks) : w.length ≤ 20 := by
  have all : (kindTab.all fun e => decide (e.1.length ≤ 20)) = true := by decide +kernel
  unfold kindsOf at h
  cases e : kindTab.find? fun e => decide (e.1 = w) with
  | none => rw [e] at h; cases h
  | some x =>
    have q : x.1 = w := of_decide_eq_true (List.find?_some (p := fun e : Str × List Str => decide (e.1 = w)) e)
    rw [← q]
    exact of_decide_eq_true (List.all_eq_true.mp all x (List.mem_of_find?_eq_some e))
theorem part_shape {t : Tr} {k : Str} (h : partT t k = true) (n1 : k ≠ "args") (n2 : k ≠ "value") (n3 : k ≠ "block") : (∃ i, t = .int i ∧ 0 ≤ i ∧ i ≤ 99) ∨ ∃ s, t = .str s ∧ s.length ≤ 8 := by
  have num : numT 99 t = true → ∃ i, t = .int i ∧ 0 ≤ i ∧ i ≤ 99 := fun h => by
    cases t with
    | int i =>
      have h : (decide (0 ≤ i) && decide (i ≤ 99)) = true := h
      rw [Bool.and_eq_true, decide_eq_true_eq, decide_eq_true_eq] at h
      exact ⟨i, rfl, h.1, h.2⟩
    | _ => exact Bool.noConfusion h
  have nam : nameT t = true → ∃ s, t = .str s ∧ s.length ≤ 8 := fun h => by
    cases t with
    | str s =>
      have h : nameS s = true := h
      unfold nameS at h
      rw [Bool.and_eq_true, Bool.and_eq_true, decide_eq_true_eq, decide_eq_true_eq] at h
      exact ⟨s, rfl, h.1.2⟩
    | _ => exact Bool.noConfusion h
  unfold partT at h
  rw [if_neg n3, if_neg n1] at h
  split at h
  · exact .inl (num h)
  · split at h
    · rename_i z
      exact .inl (num z.2)
    · exact .inr (nam h)
theorem int_short : ∀ {i : Int}, 0 ≤ i → i ≤ 99 → ((toString i : Str)).length ≤ 20 := by
  intro i h0 h1
  have all : ∀ n : Fin 100, ((toString ((n.val : Nat) : Int) : Str)).length ≤ 20 := by decide +kernel
  obtain ⟨n, rfl⟩ := Int.eq_ofNat_of_zero_le h0
  exact all ⟨n, by omega⟩
abbrev sBw : Stmt := top 43
abbrev sPw : Stmt := top 44
abbrev nBw : List Str := ["block", "forms", "words", "number", "row", "part", "kind"]
theorem scPw : FnScope ["part", "kind", "forms"] ["part", "kind", "forms"] (defScope sPw) := ⟨rfl, rfl, rfl, by decide +kernel, rfl, by decide +kernel, by decide +kernel⟩
theorem scBw : FnScope nBw ["block", "forms"] (defScope sBw) := ⟨rfl, rfl, rfl, by decide +kernel, rfl, by decide +kernel, by decide +kernel⟩
section
variable {P : Program} {w : World} {K : PySem.W.Frag} {mg : Str → Option Value} {base : Heap}
theorem ok_pw {f fB : Addr} {fd fdB : FuncData} {m d : Nat} (F : Fun K "words_of_part" "words_of_part" sPw f fd) (mL : mg "list" = none) (mS : mg "str" = none)
    (GB : FnOk P w K mg base CX0 m fB fdB ["block", "forms"] (spBw K d)) (bB : Binds K fdB ["block", "forms"] []) (gB : mg "words_of_block" = some (.ref fB)) (kB : PySem.W.keepIn K (.ref fB) = true) :
    FnOk P w K mg base CX0 (m + 1) f fd ["part", "kind", "forms"] (spPw K d) := by
  refine F.ok scPw (fun vs H Q E h => ?_) (fun cdv A outer s H vs Q E hr h => ?_)
  · obtain ⟨v, k, q, t, rfl, _⟩ := h
    rfl
  · obtain ⟨v, kd, q, t, rfl, tv, fm, hp, n1, n2, ok, cn, k⟩ := h
    refine ⟨_, pss_cons (ps_if (pt_cmpR op_eq (pv 1) pe_str (nomark _)) (pss_one (ps_ret (pe_op op_cat (pe_op op_cat (pe_lst (pa_cons pe_str pa_nil)) (pe_call GB hr rfl gB kB bB .nil pass0 (pa_cons (pv 0) (pa_cons (pv 2) pa_nil)))) (pe_lst (pa_cons pe_str pa_nil))))) pss_nil)
      (pss_cons (ps_if (pt_cmpR op_eq (pv 1) pe_str (nomark _)) (pss_one (ps_ret (pe_callTy call_list_of (by rfl) mL (by decide +kernel) (pa_cons (pv 0) pa_nil)))) pss_nil)
      (pss_one (ps_ret (pe_lst (pa_cons (pe_callTy (call_str_int.or SkE.call_str_str) (by rfl) mS (by decide +kernel) (pa_cons (pv 0) pa_nil)) pa_nil))))), ?_⟩
    refine ⟨_, rfl, rfl, _, rfl, ?_⟩
    rw [eq_txt]
    refine ite2 (fun h => ?_) (fun h => ?_)
    · have h1 : kd = "block" := of_decide_eq_true h
      subst h1
      have ht : isTup t = true := hp
      obtain ⟨ts, rfl⟩ : ∃ ts, t = .tup ts := by
        cases t with
        | tup ts => exact ⟨ts, rfl⟩
        | _ => exact Bool.noConfusion ht
      have cn : 10 * metD d ts ≤ 500 := cn
      refine ⟨by decide, fun p np => ?_⟩
      have s1 := same_new (o := .lst [.str "{"]) np
      refine ⟨_, rfl, _, rfl, v, q, ts, rfl, tv.same s1, fm.same s1, ok ts rfl, by omega, fun L ws H2 s2 eL wl w2 => ?_⟩
      refine ⟨p, L, [.str "{"], ws.map V.str, rfl, rfl, s2 _ _ upd_same, eL, (by (have big : sizeLine = 16777216 := sizeLine_eq; simp only [List.length_cons, List.length_nil, List.length_append, List.length_map, List.length_singleton]; omega)), fun r nr => ?_⟩
      have s3 := same_new (o := .lst ([.str "{"] ++ ws.map V.str)) nr
      refine ⟨by decide, fun p3 np3 => ?_⟩
      have s4 := same_new (o := .lst [.str "}"]) np3
      refine ⟨r, p3, [.str "{"] ++ ws.map V.str, [.str "}"], rfl, rfl, s4 _ _ upd_same, upd_same, (by (have big : sizeLine = 16777216 := sizeLine_eq; simp only [List.length_cons, List.length_nil, List.length_append, List.length_map, List.length_singleton]; omega)), fun g ng => ?_⟩
      refine k g (([("{" : Str)] ++ ws) ++ [("}" : Str)]) _ ((s1.trans s2).trans ((s3.trans s4).trans (same_new ng))) ?_ ?_ ?_
      · rw [upd_same, List.map_append, List.map_append]
        rfl
      · show _ ≤ 2 + 10 * metD d ts
        rw [List.length_append, List.length_append, List.length_cons, List.length_nil, List.length_cons, List.length_nil]
        omega
      · intro z hz
        rcases List.mem_append.mp hz with hz | hz
        · rcases List.mem_append.mp hz with hz | hz
          · rw [List.mem_singleton.mp hz]; decide
          · exact w2 z hz
        · rw [List.mem_singleton.mp hz]; decide
    have h1 : ¬ kd = "block" := fun e => h (decide_eq_true e)
    refine ⟨_, rfl, rfl, _, rfl, ?_⟩
    rw [eq_txt]
    refine ite2 (fun h => absurd (of_decide_eq_true h) n1) (fun h => ?_)
    have fin : ∀ z : Str, z.length ≤ 20 → ([.str z] : List V).length ≤ sizeLine ∧ ∀ p, H p = none → Q (.ref p) (upd H p (.lst [.str z])) := fun z hz => by
      refine ⟨by show 1 ≤ sizeLine; decide, fun p np => k p [z] _ (same_new np) upd_same (by show 1 ≤ 2 + _; omega) fun y hy => ?_⟩
      rw [List.mem_singleton.mp hy]
      exact hz
    rcases part_shape hp n1 n2 h1 with ⟨i, rfl, i0, i1⟩ | ⟨z, rfl, hz⟩
    · cases tv with
      | int _ =>
      refine ⟨_, rfl, .inl ⟨i, rfl, ?_, fin _ (int_short i0 i1)⟩⟩
      have : i.natAbs ≤ 99 := by omega
      have : i.natAbs.log2 ≤ i.natAbs := Nat.log2_le_self _
      omega
    · cases tv with
      | str _ _ =>
      exact ⟨_, rfl, .inr ⟨z, rfl, fin z (by omega)⟩⟩
end
end BK

set_option Elab.async false
set_option maxRecDepth 100000
set_option maxHeartbeats 4000000
set_option linter.unusedVariables false
/-! words_of_block -/
namespace BK
open PySem PySem.Spec PyProof.Rows L2 RZ ET
theorem cnt_sum (d : Nat) : ∀ rest : List Tr, (rest.map (cntT d)).sum = 10 * (((rest.filter isTup).map tupTs).map (metD d)).sum
  | [] => rfl
  | t :: r => by
    have ih := cnt_sum d r
    rw [List.map_cons, List.sum_cons, ih]
    cases t with
    | tup ts =>
      rw [List.filter_cons_of_pos (show isTup (.tup ts) = true from rfl), List.map_cons, List.map_cons, List.sum_cons]
      show 10 * metD d ts + _ = 10 * (metD d ts + _)
      omega
    | _ => rw [List.filter_cons_of_neg (by intro z; exact Bool.noConfusion z)]; exact Nat.zero_add _
theorem sum_take (f : Tr → Nat) : ∀ (l : List Tr) (j : Nat) (t : Tr), l[j]? = some t → ((l.take (j + 1)).map f).sum = ((l.take j).map f).sum + f t := by
  intro l j t h
  rw [List.take_add_one, h, List.map_append, List.sum_append]
  simp
theorem sum_take_le (f : Tr → Nat) : ∀ (l : List Tr) (j : Nat), ((l.take j).map f).sum ≤ (l.map f).sum
  | [], j => by simp
  | t :: r, 0 => by simp
  | t :: r, j + 1 => by
    rw [List.take_succ_cons, List.map_cons, List.sum_cons, List.map_cons, List.sum_cons]
    have := sum_take_le f r j
    omega
theorem mem_sum (f : Tr → Nat) : ∀ {l : List Tr} {t : Tr}, t ∈ l → f t ≤ (l.map f).sum
  | t :: r, _, .head _ => by rw [List.map_cons, List.sum_cons]; omega
  | t :: r, u, .tail _ m => by
    rw [List.map_cons, List.sum_cons]
    have := mem_sum f m
    omega
/-- one statement's words -/
def oneD (d : Nat) (t : Tr) : Nat := 1 + ((blocksT t).map (metD d)).sum
theorem met_one (d : Nat) (ts : List Tr) : metD (d + 1) ts = (ts.map (oneD d)).sum := rfl
def recP (K : PySem.W.Frag) : Nat → Sp
  | 0 => fun _ _ _ _ => False
  | d + 1 => spPw K d
theorem snoc20 {ws : List Str} {z : Str} (h : ∀ w ∈ ws, w.length ≤ 20) (hz : z.length ≤ 20) : ∀ w ∈ ws ++ [z], w.length ≤ 20 := fun w hw => by
  rcases List.mem_append.mp hw with hw | hw
  · exact h w hw
  · rw [List.mem_singleton.mp hw]
    exact hz
section
variable {P : Program} {w : World} {K : PySem.W.Frag} {mg : Str → Option Value} {base : Heap}
theorem ok_bw_step {f fP : Addr} {fd fdP : FuncData} {m d : Nat} (F : Fun K "words_of_block" "words_of_block" sBw f fd) (mE : mg "enumerate" = none) (mZ : mg "zip" = none)
    (GP : FnOk P w K mg base CX0 m fP fdP ["part", "kind", "forms"] (recP K d)) (bP : Binds K fdP ["part", "kind", "forms"] []) (gP : mg "words_of_part" = some (.ref fP)) (kP : PySem.W.keepIn K (.ref fP) = true) :
    FnOk P w K mg base CX0 (m + 1) f fd ["block", "forms"] (spBw K d) := by
  refine F.ok scBw (fun vs H Q E h => ?_) (fun cdv A outer s H vs Q E hr h => ?_)
  · obtain ⟨v, q, ts, rfl, _⟩ := h
    rfl
  · obtain ⟨v, q, ts, rfl, tv, fm, ok, md, k⟩ := h
    have hu : A.units + 3 + 64 < cLine := hr.units
    refine ⟨_, pss_cons (ps_set (i := 2) scBw.nd rfl (Or.inl rfl) (pe_lst pa_nil))
      (pss_cons (ps_for PassesOwn.never rfl (pi_enumT (by rfl) mE (pa_cons (pv 0) pa_nil)) (pg_tup rfl (pgs_cons (pg_name (i := 3) scBw.nd rfl (Or.inl rfl)) (pgs_cons (pg_name (i := 4) scBw.nd rfl (Or.inl rfl)) pgs_nil)))
        (C8.pss_cut (ps_if (pt_cmpR op_gt (pv 3) pe_int (nomark _)) (pss_one (ps_expr (pe_bm PySem.F.plainAttrs_list PySem.F.slot_list_append PySem.F.type_list_append mt_append (pv 2) (pa_cons pe_str pa_nil)))) pss_nil)
        (C8.pss_cut (ps_expr (pe_bm PySem.F.plainAttrs_list PySem.F.slot_list_append PySem.F.type_list_append mt_append (pv 2) (pa_cons (pe_ix ix_tup (pv 4) pe_int (fun _ _ => rfl)) pa_nil)))
        (pss_one (ps_for PassesOwn.never rfl (pi_zipA (by rfl) mZ (pa_cons (pe_slice sl_tup (pv 4) (po_some pe_int) po_none) (pa_cons (pe_dget (by show A.units + 3 + 1 < cLine; omega) (pv 1) (pe_ix ix_tup (pv 4) pe_int (fun _ _ => rfl)) (fun _ _ => rfl)) pa_nil)))
          (pg_tup rfl (pgs_cons (pg_name (i := 5) scBw.nd rfl (Or.inl rfl)) (pgs_cons (pg_name (i := 6) scBw.nd rfl (Or.inl rfl)) pgs_nil)))
          (pss_one (ps_expr (pe_bm PySem.F.plainAttrs_list PySem.F.slot_list_extend PySem.F.type_list_extend mt_extend (pv 2) (pa_cons (pe_call GP hr rfl gP kP bP .nil pass0 (pa_cons (pv 5) (pa_cons (pv 6) (pa_cons (pv 1) pa_nil)))) pa_nil)))))))))
      (pss_one (ps_ret (pv 2)))), ?_⟩
    refine ⟨Nat.zero_le _, fun L nL => ?_⟩
    have s0 := same_new (o := .lst []) nL
    cases tv with
    | @tup b xs _ h tr =>
    have xl := tr.len
    refine ⟨_, rfl, b, xs, rfl, sqt_same s0 h, for_it (walk_enumT (K := K) (a := b) (xs := xs)) (fun i σ H2 => ∃ (v3 v4 v5 v6 : Option V) (ws : List Str), σ = [some (.ref b), some (.ref q), some (.ref L), v3, v4, v5, v6] ∧ Same H H2 ∧ H2 L = some (.lst (ws.map V.str)) ∧ ws.length ≤ 10 * metD d (ts.take i) ∧ ∀ w ∈ ws, w.length ≤ 20)
      ⟨none, none, none, none, [], rfl, s0, upd_same, Nat.zero_le _, fun _ hw => (by cases hw)⟩ (fun i σ H2 _ ⟨_, _, _, _, _, _, s2, _⟩ => sqt_same s2 h) ?_ ?_⟩
    · rintro i y σ H2 H3 hi ⟨v3, v4, v5, v6, ws, rfl, s2, e2, l2, w2⟩ ⟨T, xi, y', rfl, nT, rfl, q1, q2⟩
      obtain rfl : V.int (i : Nat) = xi := Option.some.inj q1
      have q2 : xs[i]? = some y' := q2
      have sT := same_new (o := .tup [.int (i : Nat), y']) nT
      obtain ⟨t, q3, _⟩ := tr.get q2
      have getY : ∀ {H' : Hp}, Same H H' → TrAt K H' y' t := fun {H'} s' => by
        obtain ⟨t', q4, ty⟩ := (tr.same s').get q2
        obtain rfl : t = t' := Option.some.inj (q3.symm.trans q4)
        exact ty
      have tm : t ∈ ts := List.mem_of_getElem? q3
      -- the depth
      cases d with
      | zero =>
        have ok : ts = [] := ok
        rw [ok] at tm
        cases tm
      | succ d =>
      obtain ⟨hf, hb⟩ := ok t tm
      obtain ⟨x, rest, ks, rfl, ek, ef⟩ : ∃ x rest ks, t = .tup (.str x :: rest) ∧ kindsOf x = some ks ∧ fitsT rest ks = true := by
        unfold formT at hf
        split at hf
        · rename_i x rest _
          cases ek : kindsOf x with
          | none => rw [ek] at hf; cases hf
          | some ks => rw [ek] at hf; exact ⟨x, rest, ks, rfl, ek, hf⟩
        · cases hf
      have rl : rest.length = ks.length := by
        unfold fitsT at ef
        exact of_decide_eq_true (Bool.and_eq_true_iff.mp ef).1
      have kf := kinds_few ek
      have one : oneD d (.tup (.str x :: rest)) = 1 + (((rest.filter isTup).map tupTs).map (metD d)).sum := rfl
      have cs := cnt_sum d rest
      have st := sum_take (oneD d) ts i _ q3
      have sl := sum_take_le (oneD d) ts (i + 1)
      rw [met_one] at l2 md
      have ty := getY (fun _ _ e => e)
      cases ty with
      | @tup yb ys _ hy ty =>
      cases ty with
      | @cons y0 yr _ _ h0 r0 =>
      cases h0 with
      | str _ hx =>
      have yl := r0.len
      -- the loop's head
      refine ⟨T, _, rfl, SqT.of upd_same, rfl, _, _, rfl, _, _, rfl, rfl, ?_⟩
      have s3 := s2.trans sT
      have e3 := sT _ _ e2
      generalize upd H2 T (.tup [.int (i : Nat), .ref yb]) = H3 at s3 e3 ⊢
      clear sT
      have app : ∀ {H' : Hp} {us : List V}, Same H H' → Same H (upd H' L (.lst us)) := fun {H' us} s' b o e => by
        rw [upd_ne (ne_of_none e nL)]
        exact s' b o e
      -- the ";"
      refine ⟨fun σ H4 => ∃ ws' : List Str, σ = [some (.ref b), some (.ref q), some (.ref L), some (.int (i : Nat)), some (.ref yb), v5, v6] ∧ Same H H4 ∧ H4 L = some (.lst (ws'.map V.str)) ∧ ws'.length ≤ ws.length + 1 ∧ ∀ w ∈ ws', w.length ≤ 20, ?_, ?_⟩
      · refine ⟨_, rfl, _, _, rfl, rfl, _, rfl, ?_⟩
        refine ite2 (fun _ => ?_) (fun _ => ?_)
        · refine ⟨_, rfl, .inl ⟨rfl, _, SqL.of e3⟩, L, _, _, rfl, rfl, e3, (by (have big : sizeLine = 16777216 := sizeLine_eq; simp only [List.length_cons, List.length_nil, List.length_append, List.length_map, List.length_singleton]; omega)), ws ++ [(";" : Str)], rfl, app s3, ?_, ?_, snoc20 w2 (by decide)⟩
          · rw [upd_same, List.map_append]
            rfl
          · rw [List.length_append, List.length_cons, List.length_nil]
            exact Nat.le_refl _
        · exact ⟨ws, rfl, s3, e3, Nat.le_succ _, w2⟩
      rintro σ H4 ⟨ws', rfl, s4, e4, l4, w4⟩
      -- the word
      refine ⟨fun σ H5 => ∃ ws' : List Str, σ = [some (.ref b), some (.ref q), some (.ref L), some (.int (i : Nat)), some (.ref yb), v5, v6] ∧ Same H H5 ∧ H5 L = some (.lst (ws'.map V.str)) ∧ ws'.length ≤ ws.length + 2 ∧ ∀ w ∈ ws', w.length ≤ 20, ?_, ?_⟩
      · refine ⟨_, rfl, .inl ⟨rfl, _, SqL.of e4⟩, _, rfl, yb, _, 0, _, rfl, rfl, sqt_same s4 hy, at_of (j := 0) rfl rfl, L, _, _, rfl, rfl, e4, (by (have big : sizeLine = 16777216 := sizeLine_eq; simp only [List.length_cons, List.length_nil, List.length_append, List.length_map, List.length_singleton]; omega)), ws' ++ [x], rfl, app s4, ?_, ?_, snoc20 w4 (word_few ek)⟩
        · rw [upd_same, List.map_append]
          rfl
        · rw [List.length_append, List.length_cons, List.length_nil]
          omega
      rintro σ H5 ⟨ws5, rfl, s5, e5, l5, w5⟩
      clear e3 e4 s3 s4 l4 w4 w2 e2 s2
      -- the parts
      obtain ⟨kvs, ev, at_⟩ := fm
      obtain ⟨kt, vk, sk⟩ := at_ x ks ek
      have fm' : FormsAt K H q := ⟨kvs, ev, at_⟩
      refine ⟨_, rfl, 1, rfl, yb, _, rfl, sqt_same s5 hy, (by rintro ⟨e, _⟩; simp [HT.sIx] at e), fun Z nZ => ?_⟩
      rw [cut1]
      have sZ := same_new (o := .tup yr) nZ
      have zL : Z ≠ L := fun e => by rw [e, e5] at nZ; cases nZ
      refine ⟨_, rfl, _, rfl, yb, _, 0, _, rfl, rfl, sqt_same (s5.trans sZ) hy, at_of (j := 0) rfl rfl, q, .ref kt, rfl, vk ▸ DGet.k (k := .inr x) (sZ _ _ (s5 _ _ ev)), ?_⟩
      refine ⟨Z, kt, yr, ks.map V.str, rfl, .inr ⟨SqT.of upd_same, sk _, ?_⟩⟩
      have e6 := sZ _ _ e5
      have s6 := s5.trans sZ
      have z6 : upd H5 Z (.tup yr) Z = some (.tup yr) := upd_same
      generalize upd H5 Z (.tup yr) = H6 at e6 s6 z6 ⊢
      refine for_it (walk_zipT (K := K) (a := Z) (b := kt) (xs := yr) (ys := ks.map V.str) rfl) (fun j σ H7 => ∃ (v5 v6 : Option V) (us : List Str), σ = [some (.ref b), some (.ref q), some (.ref L), some (.int (i : Nat)), some (.ref yb), v5, v6] ∧ Same H H7 ∧ H7 Z = some (.tup yr) ∧ H7 L = some (.lst (us.map V.str)) ∧
          us.length ≤ ws5.length + 2 * j + ((rest.take j).map (cntT d)).sum ∧ ∀ w ∈ us, w.length ≤ 20)
        ⟨v5, v6, ws5, rfl, s6, z6, e6, by simp, w5⟩ (fun j σ H7 _ ⟨_, _, _, _, _, z7, _⟩ => ⟨SqT.of z7, sk _⟩) ?_ ?_
      · rintro j z σ H7 H8 hj ⟨v5, v6, us, rfl, s7, z7, e7, l7, w7⟩ ⟨U, p', k', rfl, nU, rfl, p1, p2⟩
        have sU := same_new (o := .tup [p', k']) nU
        have s8 := s7.trans sU
        obtain ⟨t', p3, tp⟩ := (r0.same s8).get p1
        have p2 : (ks.map V.str)[j]? = some k' := p2
        rw [List.getElem?_map] at p2
        cases eK : ks[j]? with
        | none => rw [eK] at p2; cases p2
        | some kk =>
        rw [eK] at p2
        obtain rfl : V.str kk = k' := Option.some.inj p2
        have jl : j < ks.length := (List.getElem?_eq_some_iff.mp eK).1
        have ez : (rest.zip ks)[j]? = some (t', kk) := List.getElem?_zip_eq_some.mpr ⟨p3, eK⟩
        have ep : partT t' kk = true := by
          unfold fitsT at ef
          exact List.all_eq_true.mp (Bool.and_eq_true_iff.mp ef).2 _ (List.mem_of_getElem? ez)
        have tmem : t' ∈ rest := List.mem_of_getElem? p3
        have okt : ∀ ts', t' = .tup ts' → okD d ts' := fun ts' e => by
          subst e
          refine hb ts' ?_
          show ts' ∈ (rest.filter isTup).map tupTs
          exact List.mem_map.mpr ⟨.tup ts', List.mem_filter.mpr ⟨tmem, rfl⟩, rfl⟩
        have cm := mem_sum (cntT d) tmem
        have stj := sum_take (cntT d) rest j _ p3
        have slj := sum_take_le (cntT d) rest (j + 1)
        refine ⟨U, _, rfl, SqT.of upd_same, rfl, _, _, rfl, _, _, rfl, rfl, ?_⟩
        refine ⟨_, rfl, .inl ⟨rfl, _, SqL.of (sU _ _ e7)⟩, _, rfl, _, rfl, _, rfl, p', kk, q, t', rfl, tp, fm'.same s8, ep, fun e => no_args ek (e ▸ List.mem_of_getElem? eK), fun e => no_value ek (e ▸ List.mem_of_getElem? eK), okt, by omega, fun L2 zs H9 s9 eL2 lz wz => ?_⟩
        refine ⟨L, L2, _, _, rfl, rfl, s9 _ _ (sU _ _ e7), eL2, (by (have big : sizeLine = 16777216 := sizeLine_eq; simp only [List.length_cons, List.length_nil, List.length_append, List.length_map, List.length_singleton]; omega)), _, _, us ++ zs, rfl, app (s8.trans s9), ?_, ?_, ?_, ?_⟩
        · rw [upd_ne zL]
          exact s9 _ _ (sU _ _ z7)
        · rw [upd_same, List.map_append]
        · rw [List.length_append]
          omega
        · intro y hy
          rcases List.mem_append.mp hy with hy | hy
          · exact w7 y hy
          · exact wz y hy
      · rintro σ H7 ⟨v5, v6, us, rfl, s7, z7, e7, l7, w7⟩
        refine ⟨_, _, _, _, us, rfl, s7, e7, ?_, w7⟩
        have et : rest.take (min yr.length (ks.map V.str).length) = rest := List.take_of_length_le (by rw [List.length_map]; omega)
        rw [et] at l7
        rw [met_one]
        have : min yr.length (ks.map V.str).length ≤ 4 := by rw [List.length_map]; omega
        omega
    · rintro σ H2 ⟨v3, v4, v5, v6, ws, rfl, s2, e2, l2, w2⟩
      rw [xl, List.take_length] at l2
      exact ⟨_, rfl, k L ws H2 s2 e2 l2 w2⟩
end
end BK

set_option Elab.async false
set_option maxRecDepth 100000
set_option maxHeartbeats 4000000
set_option linter.unusedVariables false
/-! words_of_piece, book_text -/
namespace BK
open PySem PySem.Spec PyProof.Rows L2 RZ ET
abbrev sPiece : Stmt := top 46
abbrev sText : Stmt := top 47
abbrev nPiece : List Str := ["piece", "name", "params", "block", "words", "slot", "kind"]
abbrev nText : List Str := ["book", "variables", "pieces", "words", "piece"]
theorem scPiece : FnScope nPiece ["piece"] (defScope sPiece) := ⟨rfl, rfl, rfl, by decide +kernel, rfl, by decide +kernel, by decide +kernel⟩
theorem scText : FnScope nText ["book"] (defScope sText) := ⟨rfl, rfl, rfl, by decide +kernel, rfl, by decide +kernel, by decide +kernel⟩
def spPiece (K : PySem.W.Frag) : Sp := fun vs H Q _ => ∃ v t, vs = [v] ∧ TrAt K H v t ∧ tripleT t = true ∧ okD 5 (blockOf t) ∧ metD 5 (blockOf t) ≤ 16 ∧
  ∀ (L : Addr) (ws : List Str) (H' : Hp), Same H H' → H' L = some (.lst (ws.map V.str)) → ws.length ≤ 170 → (∀ w ∈ ws, w.length ≤ 20) → Q (.ref L) H'
def spText (K : PySem.W.Frag) (CB : Addr) : Sp := fun vs H Q E => ∃ v t, vs = [v] ∧ TrAt K H v t ∧ (faultT t = none → ∀ z H', Same H H' → Q (.str z) H') ∧
  ∀ p, faultT t = some p → ∀ pv d H', Same H H' → H d = none → H' d = some (.xd [("place", pv)]) → TrAt K H' pv (placeT p) → E (.ref CB) (some d) H'
theorem name_short {s : Str} (h : nameS s = true) : s.length ≤ 20 := by
  unfold nameS at h
  rw [Bool.and_eq_true, Bool.and_eq_true, decide_eq_true_eq, decide_eq_true_eq] at h
  have := h.1.2
  omega
theorem param_pair2 {t : Tr} (h : paramT t = true) (hn : nameT (firstT t) = true) : ∃ n k, t = .tup [.str n, .str k] ∧ n.length ≤ 20 ∧ k.length ≤ 20 := by
  unfold paramT at h
  split at h
  · rename_i a k
    have hn : nameT a = true := hn
    obtain ⟨n, rfl⟩ := name_str hn
    cases k with
    | str k =>
      have h : (decide (k = "context") || decide (k = "token")) = true := h
      refine ⟨n, k, rfl, name_short hn, ?_⟩
      rw [Bool.or_eq_true, decide_eq_true_eq, decide_eq_true_eq] at h
      rcases h with rfl | rfl <;> decide
    | _ => exact Bool.noConfusion (show false = true from h)
  · cases h
theorem pieces_right {vars : List Str} : ∀ (ts : List Tr) (i : Nat) (ns : List Str), piecesL vars ts i ns = none → ∀ t ∈ ts, tripleT t = true ∧ okD 5 (blockOf t) ∧ metD 5 (blockOf t) ≤ 16
  | [], _, _, _, t, ht => by cases ht
  | t :: r, i, ns, h, u, hu => by
    have h : (if tripleT t = true ∧ wordS t ∉ ns then
      match (faultD vars 5 (blockOf t) [] (kindsP (paramsOf t), 0)).1 with
      | some w => some (.way i w)
      | none => piecesL vars r (i + 1) (ns ++ [wordS t])
    else some (.at_ i)) = none := h
    by_cases z : tripleT t = true ∧ wordS t ∉ ns
    · rw [if_pos z] at h
      cases e : (faultD vars 5 (blockOf t) [] (kindsP (paramsOf t), 0)).1 with
      | some w => rw [e] at h; cases h
      | none =>
        rw [e] at h
        rcases List.mem_cons.mp hu with rfl | hu
        · exact ⟨z.1, block_right e⟩
        · exact pieces_right r _ _ h u hu
    · rw [if_neg z] at h
      cases h
theorem book_right {t : Tr} (h : faultT t = none) : ∃ vs ps, t = .tup [.tup vs, .tup ps] ∧ ps.length ≤ 6 ∧ vs.length ≤ 3 ∧ vs.all nameT = true ∧ ∀ u ∈ ps, tripleT u = true ∧ okD 5 (blockOf u) ∧ metD 5 (blockOf u) ≤ 16 := by
  unfold faultT at h
  split at h
  · rename_i vs ps
    split at h
    · cases h
    · rename_i n6
      split at h
      · rename_i z
        refine ⟨vs, ps, rfl, by omega, z.2.1, ?_, pieces_right ps 0 [] h⟩
        have := z.2.2
        unfold diffT at this
        exact (Bool.and_eq_true_iff.mp this).1
      · cases h
  · cases h
structure PartsC (es : Array DictEntry) : Prop where
  rf : refsE es.toList = true
  nd : (es.toList.map keyE).Nodup
  ln : es.toList.length ≤ 1000
section
variable {P : Program} {w : World} {K : PySem.W.Frag} {mg : Str → Option Value} {base : Heap}
theorem ok_words {fB fP : Addr} {fdB fdP : FuncData} (FB : Fun K "words_of_block" "words_of_block" sBw fB fdB) (FP : Fun K "words_of_part" "words_of_part" sPw fP fdP) (mE : mg "enumerate" = none) (mZ : mg "zip" = none) (mL : mg "list" = none) (mS : mg "str" = none)
    (bP : Binds K fdP ["part", "kind", "forms"] []) (gP : mg "words_of_part" = some (.ref fP)) (kP : PySem.W.keepIn K (.ref fP) = true)
    (bB : Binds K fdB ["block", "forms"] []) (gB : mg "words_of_block" = some (.ref fB)) (kB : PySem.W.keepIn K (.ref fB) = true) :
    ∀ d, FnOk P w K mg base CX0 (2 * d + 1) fB fdB ["block", "forms"] (spBw K d) ∧ FnOk P w K mg base CX0 (2 * d + 1 + 1) fP fdP ["part", "kind", "forms"] (spPw K d)
  | 0 =>
    have hB := ok_bw_step (d := 0) FB mE mZ (fn_false (k := 0) fun _ => trivial) bP gP kP
    ⟨hB, ok_pw FP mL mS hB bB gB kB⟩
  | d + 1 =>
    have hB := ok_bw_step (d := d + 1) FB mE mZ (ok_words FB FP mE mZ mL mS bP gP kP bB gB kB d).2 bP gP kP
    ⟨hB, ok_pw FP mL mS hB bB gB kB⟩
theorem ok_piece {f fB p : Addr} {fd fdB : FuncData} {es : Array DictEntry} {n : Nat} (F : Fun K "words_of_piece" "words_of_piece" sPiece f fd) (D : PartsD K mg w p es n) (C : PartsC es) (mD : mg "dict" = none)
    (GB : FnOk P w K mg base CX0 11 fB fdB ["block", "forms"] (spBw K 5)) (bB : Binds K fdB ["block", "forms"] []) (gB : mg "words_of_block" = some (.ref fB)) (kB : PySem.W.keepIn K (.ref fB) = true) :
    FnOk P w K mg base CX0 12 f fd ["piece"] (spPiece K) := by
  refine F.ok scPiece (fun vs H Q E h => ?_) (fun cdv A outer s H vs Q E hr h => ?_)
  · obtain ⟨v, t, rfl, _⟩ := h
    rfl
  · obtain ⟨v, t, rfl, tv, tp, ok, md, k⟩ := h
    refine ⟨_, pss_cons (ps_asg (pv 0) (pg_tup rfl (pgs_cons (pg_name (i := 1) scPiece.nd rfl (Or.inl rfl)) (pgs_cons (pg_name (i := 2) scPiece.nd rfl (Or.inl rfl)) (pgs_cons (pg_name (i := 3) scPiece.nd rfl (Or.inl rfl)) pgs_nil)))))
      (pss_cons (ps_set (i := 4) scPiece.nd rfl (Or.inl rfl) (pe_lst (pa_cons pe_str (pa_cons (pv 1) pa_nil))))
      (pss_cons (ps_for PassesOwn.never rfl (pi_tup (pv 2)) (pg_tup rfl (pgs_cons (pg_name (i := 5) scPiece.nd rfl (Or.inl rfl)) (pgs_cons (pg_name (i := 6) scPiece.nd rfl (Or.inl rfl)) pgs_nil)))
        (pss_one (ps_expr (pe_bm PySem.F.plainAttrs_list PySem.F.slot_list_extend PySem.F.type_list_extend mt_extend (pv 4) (pa_cons (pe_lst (pa_cons (pv 5) (pa_cons (pv 6) pa_nil))) pa_nil)))))
      (pss_one (ps_ret (pe_op op_cat (pe_op op_cat (pe_op op_cat (pv 4) (pe_lst (pa_cons pe_str pa_nil))) (pe_call GB hr rfl gB kB bB .nil pass0 (pa_cons (pv 3) (pa_cons (pe_callTy call_dictKD (by rfl) mD (by decide +kernel) (pa_cons (pe_glob (v := .ref p) rfl D.g rfl) pa_nil)) pa_nil)))) (pe_lst (pa_cons pe_str pa_nil))))))), ?_⟩
    obtain ⟨nm, pt, bts, rfl, hp⟩ := triple_shape tp
    have nn : nameS nm = true := by
      have tp : (nameS nm && paramsT pt && true) = true := tp
      rw [Bool.and_eq_true, Bool.and_eq_true] at tp
      exact tp.1.1
    have ok : okD 5 bts := ok
    have md : metD 5 bts ≤ 16 := md
    obtain ⟨ts, rfl⟩ : ∃ ts, pt = .tup ts := by
      cases pt with
      | tup ts => exact ⟨ts, rfl⟩
      | _ => exact Bool.noConfusion (show false = true from hp)
    obtain ⟨l2, hpar, na, _⟩ := params_split hp
    cases tv with
    | @tup b ys _ hb tb =>
    cases tb with
    | @cons y0 _ _ _ h0 tb =>
    cases tb with
    | @cons y1 _ _ _ h1 tb =>
    cases tb with
    | @cons y2 _ _ _ h2 tb =>
    cases tb with
    | nil =>
    cases h0 with
    | str _ hx =>
    cases h1 with
    | @tup pa xs _ hpa tr =>
    have xl := tr.len
    refine ⟨_, rfl, b, _, rfl, hb, rfl, _, _, rfl, _, _, rfl, _, _, rfl, rfl, ?_⟩
    refine ⟨_, rfl, (by show 2 ≤ sizeLine; decide), fun L nL => ?_⟩
    have s0 := same_new (o := .lst [.str "piece", .str nm]) nL
    refine ⟨_, rfl, pa, rfl, ⟨xs, sqt_same s0 hpa⟩, for_it (walk_tup (K := K) (a := pa) (xs := xs)) (fun i σ H2 => ∃ (v5 v6 : Option V) (ws : List Str), σ = [some (.ref b), some (.str nm), some (.ref pa), some y2, some (.ref L), v5, v6] ∧ Same H H2 ∧ H2 L = some (.lst (ws.map V.str)) ∧ ws.length ≤ 2 + 2 * i ∧ ∀ w ∈ ws, w.length ≤ 20)
      ⟨none, none, ["piece", nm], rfl, s0, upd_same, by show 2 ≤ 2 + 0; omega, fun w hw => ?_⟩ (fun i σ H2 _ ⟨_, _, _, _, s2, _⟩ => sqt_same s2 hpa) ?_ ?_⟩
    · rcases List.mem_cons.mp hw with rfl | hw
      · decide
      · rw [List.mem_singleton.mp hw]; exact name_short nn
    · rintro i y σ H2 H3 hi ⟨v5, v6, ws, rfl, s2, e2, wl, w2⟩ ⟨rfl, hy⟩
      obtain ⟨t, q3, ty⟩ := (tr.same s2).get hy
      have tm : t ∈ ts := List.mem_of_getElem? q3
      obtain ⟨n', k', rfl, n20, k20⟩ := param_pair2 (List.all_eq_true.mp hpar t tm) (List.all_eq_true.mp na _ (List.mem_map.mpr ⟨t, tm, rfl⟩))
      have il : i < ts.length := (List.getElem?_eq_some_iff.mp q3).1
      cases ty with
      | @tup c zs _ hc tz =>
      cases tz with
      | @cons z0 _ _ _ g0 tz =>
      cases tz with
      | @cons z1 _ _ _ g1 tz =>
      cases tz with
      | nil =>
      cases g0 with
      | str _ _ =>
      cases g1 with
      | str _ _ =>
      refine ⟨c, _, rfl, hc, rfl, _, _, rfl, _, _, rfl, rfl, ?_⟩
      refine ⟨_, rfl, .inl ⟨rfl, _, SqL.of e2⟩, _, rfl, _, rfl, (by show 2 ≤ sizeLine; decide), fun r nr => ?_⟩
      have sr := same_new (o := .lst [.str n', .str k']) nr
      refine ⟨L, r, _, _, rfl, rfl, sr _ _ e2, upd_same, (by (have big : sizeLine = 16777216 := sizeLine_eq; simp only [List.length_cons, List.length_nil, List.length_append, List.length_map, List.length_singleton]; omega)), _, _, ws ++ [n', k'], rfl, fun b o e => ?_, ?_, ?_, ?_⟩
      · rw [upd_ne (ne_of_none e nL)]
        exact sr _ _ (s2 b o e)
      · rw [upd_same, List.map_append]
        rfl
      · rw [List.length_append, List.length_cons, List.length_cons, List.length_nil]
        omega
      · intro w hw
        rcases List.mem_append.mp hw with hw | hw
        · exact w2 w hw
        · rcases List.mem_cons.mp hw with rfl | hw
          · exact n20
          · rw [List.mem_singleton.mp hw]; exact k20
    · rintro σ H2 ⟨v5, v6, ws, rfl, s2, e2, wl, w2⟩
      refine ⟨_, rfl, (by show 1 ≤ sizeLine; decide), fun p1 n1 => ?_⟩
      have s3 := same_new (o := .lst [.str "{"]) n1
      refine ⟨L, p1, _, _, rfl, rfl, s3 _ _ e2, upd_same, (by (have big : sizeLine = 16777216 := sizeLine_eq; simp only [List.length_cons, List.length_nil, List.length_append, List.length_map, List.length_singleton]; omega)), fun p2 n2 => ?_⟩
      have s4 := same_new (o := .lst (ws.map V.str ++ [.str "{"])) n2
      refine ⟨_, rfl, p, es, n, rfl, D.d, C.rf, C.nd, C.ln, fun q kvs nq at_ => ?_⟩
      have s5 := same_new (o := .dK kvs) nq
      have sm := (s2.trans s3).trans (s4.trans s5)
      refine ⟨y2, q, bts, rfl, h2.same sm, ⟨kvs, upd_same, fun x ks e => ?_⟩, ok, by omega, fun L2 us H3 s6 eL ul u2 => ?_⟩
      · obtain ⟨t, nt, st⟩ := D.at_ x ks e
        exact ⟨t, at_ x t nt, st⟩
      refine ⟨p2, L2, _, _, rfl, rfl, s6 _ _ (s5 _ _ upd_same), eL, (by (have big : sizeLine = 16777216 := sizeLine_eq; simp only [List.length_cons, List.length_nil, List.length_append, List.length_map, List.length_singleton]; omega)), fun p3 n3 => ?_⟩
      have s7 := same_new (o := .lst (ws.map V.str ++ [.str "{"] ++ us.map V.str)) n3
      refine ⟨(by show 1 ≤ sizeLine; decide), fun p4 n4 => ?_⟩
      have s8 := same_new (o := .lst [.str "}"]) n4
      refine ⟨p3, p4, _, _, rfl, rfl, s8 _ _ upd_same, upd_same, (by (have big : sizeLine = 16777216 := sizeLine_eq; simp only [List.length_cons, List.length_nil, List.length_append, List.length_map, List.length_singleton]; omega)), fun p5 n5 => ?_⟩
      refine k p5 (((ws ++ [("{" : Str)]) ++ us) ++ [("}" : Str)]) _ ((sm.trans s6).trans ((s7.trans s8).trans (same_new n5))) ?_ ?_ ?_
      · rw [upd_same, List.map_append, List.map_append, List.map_append]
        rfl
      · rw [List.length_append, List.length_append, List.length_append, List.length_singleton, List.length_singleton]
        omega
      · exact snoc20 (fun w hw => by
          rcases List.mem_append.mp hw with hw | hw
          · exact snoc20 w2 (by decide) w hw
          · exact u2 w hw) (by decide)
theorem sum20 : ∀ {ws : List Str}, (∀ w ∈ ws, w.length ≤ 20) → (ws.map (·.length)).sum ≤ 20 * ws.length
  | [], _ => Nat.le_refl _
  | w :: r, h => by
    rw [List.map_cons, List.sum_cons, List.length_cons]
    have := sum20 (ws := r) fun x hx => h x (List.mem_cons_of_mem _ hx)
    have := h w List.mem_cons_self
    omega
theorem texts_short : ∀ {vs : List Tr}, vs.all nameT = true → ∀ w ∈ texts vs, w.length ≤ 20
  | [], _, w, hw => by cases hw
  | t :: r, h, w, hw => by
    rw [List.all_cons, Bool.and_eq_true] at h
    obtain ⟨s, rfl⟩ := name_str h.1
    have e : texts (.str s :: r) = s :: texts r := rfl
    rw [e] at hw
    rcases List.mem_cons.mp hw with rfl | hw
    · exact name_short h.1
    · exact texts_short h.2 w hw
theorem ok_text {CB f fN fW : Addr} {fd fdN fdW : FuncData} (F : Fun K "book_text" "book_text" sText f fd)
    (GN : FnOk P w K mg base (L2.CX P w) 17 fN fdN ["thing"] (spNeed K CB)) (bN : Binds K fdN ["thing"] []) (gN : mg "need_book" = some (.ref fN)) (kN : PySem.W.keepIn K (.ref fN) = true)
    (GW : FnOk P w K mg base CX0 12 fW fdW ["piece"] (spPiece K)) (bW : Binds K fdW ["piece"] []) (gW : mg "words_of_piece" = some (.ref fW)) (kW : PySem.W.keepIn K (.ref fW) = true) :
    FnOk P w K mg base (L2.CX P w) 18 f fd ["book"] (spText K CB) := by
  refine F.okX scText (fun vs H Q E h => ?_) (fun cdv A outer s H vs Q E hr h => ?_)
  · obtain ⟨v, t, rfl, _⟩ := h
    rfl
  · obtain ⟨v, t, rfl, ht, k1, k2⟩ := h
    have hr12 : Room 12 _ := hr.mono (by decide)
    refine ⟨_, pss_cons (ps_asg (pe_call GN hr rfl gN kN bN .nil (E := E) (passes_call (takes_of rfl rfl rfl rfl) (fun _ _ _ _ h => h)) (pa_cons (pv 0) pa_nil)) (pg_tup rfl (pgs_cons (pg_name (i := 1) scText.nd rfl (Or.inl rfl)) (pgs_cons (pg_name (i := 2) scText.nd rfl (Or.inl rfl)) pgs_nil))))
      (pss_cons (ps_set (i := 3) scText.nd rfl (Or.inl rfl) (pe_lst (pa_cons pe_str (StX.pa_star (pv 1) pa_nil))))
      (pss_cons (ps_for (passes_of rfl) rfl (pi_tup (pv 2)) (pg_name (i := 4) scText.nd rfl (Or.inl rfl))
        (C8.pss_cut (ps_expr (pe_bm PySem.F.plainAttrs_list PySem.F.slot_list_append PySem.F.type_list_append mt_append (pv 3) (pa_cons pe_str pa_nil)))
        (pss_one (ps_expr (pe_bm PySem.F.plainAttrs_list PySem.F.slot_list_extend PySem.F.type_list_extend mt_extend (pv 3) (pa_cons (pe_call GW hr12 rfl gW kW bW .nil pass0 (pa_cons (pv 4) pa_nil)) pa_nil))))))
      (pss_one (ps_ret (pe_join pe_str (pv 3)))))), ?_⟩
    refine ⟨_, rfl, v, t, rfl, ht, fun e H1 s1 => ?_, k2⟩
    obtain ⟨vs, ps, rfl, l6, l3, nv, rp⟩ := book_right e
    have ht1 := ht.same s1
    cases ht1 with
    | @tup b ys _ hb tb =>
    cases tb with
    | @cons y0 _ _ _ h0 tb =>
    cases tb with
    | @cons y1 _ _ _ h1 tb =>
    cases tb with
    | nil =>
    cases h0 with
    | @tup va xs _ hva trv =>
    cases h1 with
    | @tup pa zs _ hpa trp =>
    have zl := trp.len
    have xe : xs = (texts vs).map V.str := names_texts trv nv
    have tl : (texts vs).length ≤ 3 := by
      have h1 := trv.len
      have h2 := congrArg List.length xe
      rw [List.length_map] at h2
      omega
    subst xe
    refine ⟨b, _, rfl, hb, rfl, _, _, rfl, _, _, rfl, rfl, ?_⟩
    refine ⟨_, rfl, va, _, rfl, .inl hva, ?_⟩
    refine ⟨(by (have big : sizeLine = 16777216 := sizeLine_eq; simp only [List.length_cons, List.length_nil, List.length_append, List.length_map, List.length_singleton]; omega)), fun L nL => ?_⟩
    have s0 := same_new (o := .lst (.str "vars" :: ((texts vs).map V.str ++ []))) nL
    refine ⟨_, rfl, pa, rfl, ⟨zs, sqt_same s0 hpa⟩, for_it (walk_tup (K := K) (a := pa) (xs := zs)) (fun i σ H2 => ∃ (v4 : Option V) (ws : List Str), σ = [some (.ref b), some (.ref va), some (.ref pa), some (.ref L), v4] ∧ Same H1 H2 ∧ H2 L = some (.lst (ws.map V.str)) ∧ ws.length ≤ 4 + 171 * i ∧ ∀ w ∈ ws, w.length ≤ 20)
      ⟨none, "vars" :: texts vs, rfl, s0, ?_, ?_, fun w hw => ?_⟩ (fun i σ H2 _ ⟨_, _, _, s2, _⟩ => sqt_same s2 hpa) ?_ ?_⟩
    · rw [upd_same, List.append_nil]
      rfl
    · rw [List.length_cons]
      omega
    · rcases List.mem_cons.mp hw with rfl | hw
      · decide
      · exact texts_short nv w hw
    · rintro i y σ H2 H3 hi ⟨v4, ws, rfl, s2, e2, wl, w2⟩ ⟨rfl, hy⟩
      obtain ⟨t, q3, ty⟩ := (trp.same s2).get hy
      have tm : t ∈ ps := List.mem_of_getElem? q3
      obtain ⟨r1, r2, r3⟩ := rp t tm
      have il : i < ps.length := (List.getElem?_eq_some_iff.mp q3).1
      have sA : ∀ us, Same H1 (upd H3 L (.lst us)) := fun us b o e => by
        rw [upd_ne (ne_of_none e nL)]
        exact s2 b o e
      refine ⟨fun σ H4 => σ = [some (.ref b), some (.ref va), some (.ref pa), some (.ref L), some y] ∧ Same H1 H4 ∧ TrAt K H4 y t ∧ H4 L = some (.lst ((ws ++ [(";" : Str)]).map V.str)), ?_, ?_⟩
      · refine ⟨_, rfl, .inl ⟨rfl, _, SqL.of e2⟩, L, _, _, rfl, rfl, e2, (by (have big : sizeLine = 16777216 := sizeLine_eq; simp only [List.length_cons, List.length_nil, List.length_append, List.length_map, List.length_singleton]; omega)), rfl, fun b o e => ?_, ?_, ?_⟩
        · rw [upd_ne (ne_of_none e nL)]
          exact s2 b o e
        · obtain ⟨t', q4, ty'⟩ := (trp.same (sA (ws.map V.str ++ [.str ";"]))).get hy
          obtain rfl : t = t' := Option.some.inj (q3.symm.trans q4)
          exact ty'
        · rw [upd_same, List.map_append]
          rfl
      rintro σ H4 ⟨rfl, s4, ty4, e4⟩
      refine ⟨_, rfl, .inl ⟨rfl, _, SqL.of e4⟩, _, rfl, y, t, rfl, ty4, r1, r2, r3, fun L2 us H5 s5 eL ul u2 => ?_⟩
      refine ⟨L, L2, _, _, rfl, rfl, s5 _ _ e4, eL, (by (have big : sizeLine = 16777216 := sizeLine_eq; simp only [List.length_cons, List.length_nil, List.length_append, List.length_map, List.length_singleton]; omega)), _, ws ++ [(";" : Str)] ++ us, rfl, fun b o e => ?_, ?_, ?_, ?_⟩
      · rw [upd_ne (ne_of_none e nL)]
        exact s5 _ _ (s4 b o e)
      · rw [upd_same, List.map_append (l₂ := us)]
      · rw [List.length_append, List.length_append, List.length_singleton]
        omega
      · intro w hw
        rcases List.mem_append.mp hw with hw | hw
        · exact snoc20 w2 (by decide) w hw
        · exact u2 w hw
    · rintro σ H2 ⟨v4, ws, rfl, s2, e2, wl, w2⟩
      have := sum20 w2
      refine ⟨⟨_, rfl⟩, _, rfl, " ", L, ws, rfl, rfl, .inl (SqL.of e2), ?_, k1 e _ H2 (s1.trans s2)⟩
      have : (" " : Str).length = 1 := by decide
      rw [this]
      omega
end
end BK

set_option Elab.async false
set_option maxRecDepth 100000
set_option maxHeartbeats 4000000
set_option linter.unusedVariables false
/-! _law_text_right -/
namespace BK
open PySem PySem.Spec PyProof.Rows L2 RZ ET
abbrev sTr : Stmt := top 63
abbrev nTr : List Str := ["thing", "place", "caught", "e"]
theorem scTr : FnScope nTr ["thing", "place"] (defScope sTr) := ⟨rfl, rfl, rfl, by decide +kernel, rfl, by decide +kernel, by decide +kernel⟩
theorem repr_one {t : Tr} (h : ReprOk t) : (pdT t).showable = true ∧ (pdT t).hasDict = false ∧ (pdT t).depth ≤ 60 ∧ (pdT t).shown.length ≤ sizeLine := by
  refine ⟨pd_show t h.da, pd_noDict t, ?_, ?_⟩
  · rw [pd_depth]
    have := h.de
    omega
  · have := PyData.shown_le 100 (by decide) _ (pd_leaves t h.da)
    have w := pd_weight t h.da
    have s := h.si
    rw [sizeLine_eq]
    omega
section
variable {P : Program} {w : World} {K : PySem.W.Frag} {mg : Str → Option Value} {base : Heap}
theorem ok_tr {f fX CB CP CQ CT CF CS : Addr} {fdX : FuncData} {oc kV doc pm ct cdv : Value} {od an : Option Addr} {osl : Array (Option Value)} (lk : K.lookup f = some ⟨oc, od, .func (PySem.W.fnOf "_law_text_right" "_law_text_right" (defArgs sTr) (defBody sTr) (defScope sTr) .none kV doc pm an cdv ct), osl⟩)
    (hcd : PySem.W.codeIn K cdv "_law_text_right" = true) (Er : Errs K mg CB CP CQ CT CF CS) (R : ErrF K CB) (I : IsFacts K CB)
    (GX : FnOk P w K mg base (L2.CX P w) 18 fX fdX ["book"] (spText K CB)) (bX : Binds K fdX ["book"] []) (gX : mg "book_text" = some (.ref fX)) (kX : PySem.W.keepIn K (.ref fX) = true)
    (mR : mg "repr" = none) (mI : mg "isinstance" = none) :
    FnG P w K mg base 19 f (PySem.W.fnOf "_law_text_right" "_law_text_right" (defArgs sTr) (defBody sTr) (defScope sTr) .none kV doc pm an cdv ct) ["thing", "place"] (spDue K) := by
  refine fng_of lk hcd scTr (fun vs H Q E h => ?_) (fun A outer s H vs Q E gd hr h => ?_)
  · obtain ⟨tv, pl, t, rfl, _⟩ := h
    rfl
  · obtain ⟨tv, pl, t, rfl, ht, hp, ok1, ok2, k⟩ := h
    have hr0 : Room 0 _ := hr.mono (by decide)
    have gd' : (A.deeper (envOfC "_law_text_right" (defScope sTr) s.heap.objs.size f cdv)).guards = some [] := gd
    refine ⟨_, pss_cons (ps_set (i := 2) scTr.nd rfl (Or.inl rfl) pe_non)
      (pss_cons (ps_try_keep (X := (cxOf C8.CX0 P w K mg base nTr "_law_text_right" (defScope sTr) f cdv A outer s H E).nox) (i := 3) (j := 2) (c1 := .ref CB) (c2 := .ref CP) (c3 := .ref CQ) (c4 := .ref CT)
          (tb := fun W => tDrop (tCallS (spText K CB) (fun σ cls d H' => W cls d σ H') (tCons (tVar 0) tNil)))
          (x1 := "BadBook") (x2 := "BadProgram") (x3 := "BadQuestion") (x4 := "BadText") rfl rfl rfl scTr.nd rfl rfl rfl rfl (by show 3 < 4; decide) (by decide) ⟨by rfl, by decide, .inl Er.gB⟩ ⟨by rfl, by decide, .inl Er.gP⟩ ⟨by rfl, by decide, .inl Er.gQ⟩ ⟨by rfl, by decide, .inl Er.gT⟩ LamX.takes0
          (fun W pn xe tk _ => pss_one (ps_expr (by exact (pe_callS GX hr rfl gX kX bX (fun σ => passAt tk σ) (by exact (pa_cons (pv 0) pa_nil)))))))
      (pss_cons (ps_if (PW.pt (pw_or (pt_cmp (pc_isN (pv 2))) (pw_or1 (pt_cmp (pc_isN (pv 1)))))) (pss_one (ps_ret (pe_and (pe_cmp (pc_isN (pv 2)) rfl) (pe_one (pe_cmp (pc_isN (pv 1)) rfl))))) pss_nil)
      (C8.pss_cut (ps_if (PW.pt (pw_or (pt_val (pe_callB (call_isiEOT R I) (by rfl) mI boot_isinstance (pa_cons (pv 2) (pa_cons (pe_tup (pa_cons (pe_glob (v := .ref CP) rfl Er.gP rfl) (pa_cons (pe_glob (v := .ref CQ) rfl Er.gQ rfl) (pa_cons (pe_glob (v := .ref CT) rfl Er.gT rfl) (pa_cons (pe_glob (v := .ref CF) rfl Er.gF rfl) pa_nil))))) pa_nil))))
          (pw_or1 (pt_not (pt_val (pe_callB (call_isiEO R I) (by rfl) mI boot_isinstance (pa_cons (pv 2) (pa_cons (pe_glob (v := .ref CB) rfl Er.gB rfl) pa_nil)))))))) (pss_one (ps_ret pe_bl)) pss_nil)
      (pss_one (ps_ret (pe_cmpR op_eq
          (pe_callB (call_reprD gd' hr0) (by rfl) mR boot_repr (pa_cons (pe_place R (pv 2)) pa_nil))
          (pe_callB (call_reprD gd' hr0) (by rfl) mR boot_repr (pa_cons (pv 1) pa_nil)) (nomark _))))))), ?_⟩
    refine ⟨_, rfl, tv, t, rfl, ht, fun e z H1 s1 => ?_, fun p e pv d H1 s1 nd ed tp => ⟨true, Er.ex, fun _ _ a na => ?_, fun z => Bool.noConfusion z⟩⟩
    · -- a book
      rw [e] at hp
      have hp : TrAt K H pl .non := hp
      cases hp
      refine ⟨_, rfl, _, rfl, iteT ?_⟩
      refine ⟨_, rfl, true, rfl, iteT ?_⟩
      exact ⟨_, rfl, k H1 s1⟩
    · -- refused
      rw [e] at hp
      have hp : TrAt K H pl (placeT p) := hp
      have ro := ok2 p e
      obtain ⟨pa, rfl⟩ : ∃ pa, pl = .ref pa := by cases p <;> (cases hp; exact ⟨_, rfl⟩)
      obtain ⟨pb, rfl⟩ : ∃ pa, pv = .ref pa := by cases p <;> (cases tp; exact ⟨_, rfl⟩)
      have ea : (upd H1 a (EO a (.ref CB) (some d))) a = some (EO a (.ref CB) (some d)) := upd_same
      have edd : (upd H1 a (EO a (.ref CB) (some d))) d = some (.xd [("place", .ref pb)]) := by
        rw [upd_ne (ne_of_none ed na)]
        exact ed
      have sm := same_new (o := EO a (.ref CB) (some d)) na
      have s2 : Same H (upd H1 a (EO a (.ref CB) (some d))) := s1.trans sm
      have tp2 := tp.same sm
      generalize upd H1 a (EO a (.ref CB) (some d)) = H2 at ea edd s2 tp2 ⊢
      refine ⟨_, rfl, _, rfl, iteF ⟨_, rfl, _, rfl, iteF ?_⟩⟩
      refine ⟨fun σ H3 => σ = [some tv, some (.ref pa), some (.ref a), none] ∧ Same H2 H3, ?_, ?_⟩
      · refine ⟨_, rfl, (by show 4 ≤ sizeLine; decide), fun tq ntq => ?_⟩
        have s3 := same_new (o := .tup [.ref CP, .ref CQ, .ref CT, .ref CF]) ntq
        refine ⟨a, d, tq, _, _, _, false, rfl, upd_same, .cons (.own CP) (.cons (.own CQ) (.cons (.own CT) (.cons (.own CF) .nil))), s3 _ _ ea, s3 _ _ edd, Er.k4, _, rfl, iteF ?_⟩
        exact ⟨_, rfl, a, d, _, _, _, true, rfl, .own CB, s3 _ _ ea, s3 _ _ edd, Er.kB, _, rfl, iteF ⟨rfl, s3⟩⟩
      rintro σ H3 ⟨rfl, s3⟩
      have ea3 := s3 _ _ ea
      have ed3 := s3 _ _ edd
      obtain ⟨a1, a2, a3, a4⟩ := repr_one ro
      refine ⟨_, rfl, a, d, .ref pb, rfl, ea3, ed3, ?_⟩
      refine ⟨pb, pdT (placeT p), rfl, (tp2.same s3).dp ro.da, a1, a2, a3, a4, ?_⟩
      refine ⟨_, rfl, pa, pdT (placeT p), rfl, (hp.same (s2.trans s3)).dp ro.da, a1, a2, a3, a4, rfl, ?_⟩
      rw [show decide (V.str (pdT (placeT p)).shown = V.str (pdT (placeT p)).shown) = true from decide_eq_true rfl]
      exact k _ (s2.trans s3)
end
end BK

set_option Elab.async false
set_option maxRecDepth 100000
set_option maxHeartbeats 4000000
set_option linter.unusedVariables false
set_option linter.unusedSimpArgs false
/-! what is right can be shown; statements within others -/
namespace BK
open PySem PySem.Spec PyProof.Rows L2
theorem name_data {z : Str} (h : nameS z = true) : dataT (.str z) = true := by
  unfold nameS at h
  rw [Bool.and_eq_true, Bool.and_eq_true, decide_eq_true_eq, decide_eq_true_eq] at h
  simp only [dataT, Bool.and_eq_true, decide_eq_true_eq]
  refine ⟨?_, by have := h.1.2; omega⟩
  rw [List.all_eq_true]
  intro c hc
  have hm := of_decide_eq_true (List.all_eq_true.mp h.2 c hc)
  have al : (alpha.cps.toList.all fun c => decide (c ≤ 122)) = true := by decide +kernel
  exact List.all_eq_true.mp al c hm
theorem words_data {w : Str} {ks : List Str} (h : kindsOf w = some ks) : dataT (.str w) = true := by
  have all : (kindTab.all fun e => dataT (.str e.1)) = true := by decide +kernel
  unfold kindsOf at h
  cases e : kindTab.find? fun e => decide (e.1 = w) with
  | none => rw [e] at h; cases h
  | some x =>
    have q : x.1 = w := of_decide_eq_true (List.find?_some (p := fun e : Str × List Str => decide (e.1 = w)) e)
    rw [← q]
    exact List.all_eq_true.mp all x (List.mem_of_find?_eq_some e)
/-- a tree that is shown, so deep, so great -/
structure Sh (t : Tr) (de si : Nat) : Prop where
  da : dataT t = true
  de : depT t ≤ de
  si : (pdT t).weight ≤ si
structure Shs (ts : List Tr) (de si : Nat) : Prop where
  da : dataTs ts = true
  de : depTs ts ≤ de
  si : PyData.weightAll (pdTs ts) ≤ si
theorem Shs.nil : Shs [] 0 0 := ⟨rfl, Nat.le_refl _, by simp only [pdTs, PyData.weightAll]; exact Nat.le_refl _⟩
theorem Shs.cons {t : Tr} {r : List Tr} {d d' s s' : Nat} (h : Sh t d s) (k : Shs r d' s') : Shs (t :: r) (max d d') (s + 1 + s') :=
  ⟨by simp only [dataTs, h.da, k.da, Bool.and_self], by simp only [depTs]; have := h.de; have := k.de; omega, by simp only [pdTs, PyData.weightAll]; have := h.si; have := k.si; omega⟩
theorem Shs.tup {ts : List Tr} {d s : Nat} (h : Shs ts d s) : Sh (.tup ts) (d + 1) s := ⟨by simp only [dataT, h.da], by simp only [depT]; have := h.de; omega, by simp only [pdT, PyData.weight]; exact h.si⟩
theorem Shs.all : ∀ {ts : List Tr} {d s : Nat}, (∀ t ∈ ts, Sh t d s) → Shs ts d (ts.length * (s + 1))
  | [], _, _, _ => ⟨rfl, Nat.zero_le _, by simp only [pdTs, PyData.weightAll]; exact Nat.zero_le _⟩
  | t :: r, d, s, h => by
    have k := (Shs.cons (h t List.mem_cons_self) (Shs.all (ts := r) fun x hx => h x (List.mem_cons_of_mem _ hx)))
    exact ⟨k.da, Nat.le_trans k.de (by omega), by
      have := k.si
      rw [List.length_cons, Nat.add_mul]
      omega⟩
theorem Sh.mono {t : Tr} {d s d' s' : Nat} (h : Sh t d s) (h1 : d ≤ d') (h2 : s ≤ s') : Sh t d' s' := ⟨h.da, Nat.le_trans h.de h1, Nat.le_trans h.si h2⟩
theorem Shs.mono {t : List Tr} {d s d' s' : Nat} (h : Shs t d s) (h1 : d ≤ d') (h2 : s ≤ s') : Shs t d' s' := ⟨h.da, Nat.le_trans h.de h1, Nat.le_trans h.si h2⟩
theorem sh_str {z : Str} (h : dataT (.str z) = true) (hl : z.length ≤ 20) : Sh (.str z) 0 20 := ⟨h, by simp [depT], by simp only [pdT, PyData.weight]; exact hl⟩
theorem sh_int {i : Int} (h : i.natAbs ≤ 1000) : Sh (.int i) 0 20 := ⟨by
    simp only [dataT, decide_eq_true_eq]
    exact Nat.lt_of_le_of_lt h (by decide +kernel), by simp [depT], by
    simp only [pdT, PyData.weight]
    split
    · exact Nat.zero_le _
    · rename_i z
      have nz : i.natAbs ≠ 0 := by simpa using z
      have : i.natAbs.log2 < 10 := (Nat.log2_lt nz).mpr (Nat.lt_of_le_of_lt h (by decide))
      omega⟩
def sumBig (f : Tr → Nat) (ts : List Tr) : Nat := (ts.map f).sum
theorem right_part {t : Tr} {k : Str} (h : partT t k = true) (n1 : k ≠ "args") (n2 : k ≠ "value") (nt : isTup t = false) : Sh t 0 20 := by
  by_cases n3 : k = "block"
  · subst n3
    have h : isTup t = true := h
    rw [nt] at h
    cases h
  have num : numT 99 t = true → Sh t 0 20 := fun h => by
    cases t with
    | int i =>
      have h : (decide (0 ≤ i) && decide (i ≤ 99)) = true := h
      rw [Bool.and_eq_true, decide_eq_true_eq, decide_eq_true_eq] at h
      exact sh_int (by omega)
    | _ => exact Bool.noConfusion (show false = true from h)
  have nam : nameT t = true → Sh t 0 20 := fun h => by
    cases t with
    | str s => exact sh_str (name_data h) (name_short h)
    | _ => exact Bool.noConfusion (show false = true from h)
  unfold partT at h
  rw [if_neg n3, if_neg n1] at h
  split at h
  · exact num h
  · split at h
    · rename_i z
      exact num z.2
    · exact nam h
theorem right_parts (d : Nat) (m : List Tr → Nat) : ∀ (rest : List Tr) (ks : List Str), (rest.zip ks).all (fun e => partT e.1 e.2) = true → rest.length = ks.length → ("args" : Str) ∉ ks → ("value" : Str) ∉ ks →
    (∀ b ∈ (rest.filter isTup).map tupTs, Shs b (2 * d) (130 * m b)) → Shs rest (2 * d + 1) (21 * rest.length + 130 * (((rest.filter isTup).map tupTs).map m).sum)
  | [], ks, _, _, _, _, _ => ⟨rfl, Nat.zero_le _, by simp only [pdTs, PyData.weightAll]; exact Nat.zero_le _⟩
  | t :: r, [], _, h, _, _, _ => by cases h
  | t :: r, k :: ks, h, hl, na, nv, hb => by
    have h : (partT t k && (r.zip ks).all fun e => partT e.1 e.2) = true := h
    rw [Bool.and_eq_true] at h
    have hl2 : r.length = ks.length := Nat.succ.inj hl
    cases t with
    | tup ts =>
      rw [List.filter_cons_of_pos (show isTup (.tup ts) = true from rfl), List.map_cons] at hb
      rw [List.filter_cons_of_pos (show isTup (.tup ts) = true from rfl), List.map_cons, List.map_cons, List.sum_cons]
      have ih := right_parts d m r ks h.2 hl2 (fun z => na (List.mem_cons_of_mem _ z)) (fun z => nv (List.mem_cons_of_mem _ z)) fun b q => hb b (List.mem_cons_of_mem _ q)
      have hd := (hb _ List.mem_cons_self).tup
      have k := Shs.cons hd ih
      refine Shs.mono k (by omega) ?_
      rw [List.length_cons]
      show 130 * m ts + 1 + _ ≤ 21 * (r.length + 1) + 130 * (m ts + _)
      omega
    | _ =>
      rw [List.filter_cons_of_neg (by intro z; exact Bool.noConfusion z)] at hb
      rw [List.filter_cons_of_neg (by intro z; exact Bool.noConfusion z)]
      have ih := right_parts d m r ks h.2 hl2 (fun z => na (List.mem_cons_of_mem _ z)) (fun z => nv (List.mem_cons_of_mem _ z)) hb
      have hd := right_part h.1 (fun z => na (by rw [z]; exact List.mem_cons_self)) (fun z => nv (by rw [z]; exact List.mem_cons_self)) rfl
      have k := Shs.cons hd ih
      refine Shs.mono k (by omega) ?_
      rw [List.length_cons]
      omega
theorem sums_le {f g : Tr → Nat} : ∀ {ts : List Tr}, (∀ t ∈ ts, Sh t (f t) (g t)) → ∀ D, (∀ t ∈ ts, f t ≤ D) → Shs ts D ((ts.map fun t => 1 + g t).sum)
  | [], _, _, _ => ⟨rfl, Nat.zero_le _, by simp only [pdTs, PyData.weightAll]; exact Nat.zero_le _⟩
  | t :: r, h, D, hD => by
    have k := Shs.cons ((h t List.mem_cons_self).mono (hD t List.mem_cons_self) (Nat.le_refl _)) (sums_le (ts := r) (fun x hx => h x (List.mem_cons_of_mem _ hx)) D fun x hx => hD x (List.mem_cons_of_mem _ hx))
    refine k.mono (by omega) ?_
    rw [List.map_cons, List.sum_cons]
    omega
theorem form_three {t : Tr} (h : formT t = true) : ∃ x rest ks, t = .tup (.str x :: rest) ∧ kindsOf x = some ks ∧ fitsT rest ks = true := by
  cases t with
  | tup l =>
    cases l with
    | nil => exact Bool.noConfusion (show false = true from h)
    | cons y rest =>
      cases y with
      | str x =>
        have h : (match kindsOf x with
          | some ks => fitsT rest ks
          | none => false) = true := h
        cases ek : kindsOf x with
        | none => rw [ek] at h; cases h
        | some ks => rw [ek] at h; exact ⟨x, rest, ks, rfl, ek, h⟩
      | _ => exact Bool.noConfusion (show false = true from h)
  | _ => exact Bool.noConfusion (show false = true from h)
theorem right_block : ∀ (d : Nat) (ts : List Tr), okD d ts → Shs ts (2 * d) (130 * metD d ts)
  | 0, ts, h => by
    have h : ts = [] := h
    subst h
    exact ⟨rfl, Nat.zero_le _, by simp only [pdTs, PyData.weightAll]; exact Nat.zero_le _⟩
  | d + 1, ts, h => by
    have q : Shs ts (2 * d + 2) ((ts.map fun t => 1 + (105 + 130 * ((blocksT t).map (metD d)).sum)).sum) := by
      refine sums_le (f := fun _ => 2 * d + 2) (g := fun t => 105 + 130 * ((blocksT t).map (metD d)).sum) (fun t ht => ?_) _ fun _ _ => Nat.le_refl _
      obtain ⟨hf, hb⟩ := h t ht
      obtain ⟨x, rest, ks, rfl, ek, hf⟩ := form_three hf
      unfold fitsT at hf
      rw [Bool.and_eq_true, decide_eq_true_eq] at hf
      have kf := kinds_few ek
      have k := Shs.tup (Shs.cons (sh_str (words_data ek) (word_few ek)) (right_parts d (metD d) rest ks hf.2 hf.1 (no_args ek) (no_value ek) fun b hb' => right_block d b (hb b hb')))
      refine k.mono (by omega) ?_
      show 20 + 1 + (21 * rest.length + 130 * (((rest.filter isTup).map tupTs).map (metD d)).sum) ≤ 105 + 130 * (((rest.filter isTup).map tupTs).map (metD d)).sum
      omega
    refine q.mono (by omega) ?_
    show _ ≤ 130 * (ts.map fun t => 1 + ((blocksT t).map (metD d)).sum).sum
    clear q h
    induction ts with
    | nil => exact Nat.le_refl _
    | cons t r ih =>
      rw [List.map_cons, List.sum_cons, List.map_cons, List.sum_cons]
      omega
theorem kind_data {t : Tr} (h : paramT t = true) (hn : nameT (firstT t) = true) : Sh t 1 42 := by
  unfold paramT at h
  split at h
  · rename_i a k
    have hn : nameT a = true := hn
    obtain ⟨n, rfl⟩ := name_str hn
    cases k with
    | str k =>
      have h : (decide (k = "context") || decide (k = "token")) = true := h
      rw [Bool.or_eq_true, decide_eq_true_eq, decide_eq_true_eq] at h
      have hk : dataT (.str k) = true := by rcases h with rfl | rfl <;> decide +kernel
      have hl : k.length ≤ 20 := by rcases h with rfl | rfl <;> decide
      exact Shs.tup (Shs.cons (sh_str (name_data hn) (name_short hn)) (Shs.cons (sh_str hk hl) Shs.nil))
    | _ => exact Bool.noConfusion (show false = true from h)
  · cases h
theorem piece_shown {t : Tr} (ht : tripleT t = true) (ho : okD 5 (blockOf t)) (hm : metD 5 (blockOf t) ≤ 16) : Sh t 12 2200 := by
  obtain ⟨nm, pt, bts, rfl, hp⟩ := triple_shape ht
  have nn : nameS nm = true := by
    have tp : (nameS nm && paramsT pt && true) = true := ht
    rw [Bool.and_eq_true, Bool.and_eq_true] at tp
    exact tp.1.1
  obtain ⟨ts, rfl⟩ : ∃ ts, pt = .tup ts := by
    cases pt with
    | tup ts => exact ⟨ts, rfl⟩
    | _ => exact Bool.noConfusion (show false = true from hp)
  obtain ⟨l2, hpar, na, _⟩ := params_split hp
  have k1 : Shs ts 1 (ts.length * 43) := Shs.all fun t ht => kind_data (List.all_eq_true.mp hpar t ht) (List.all_eq_true.mp na _ (List.mem_map.mpr ⟨t, ht, rfl⟩))
  have hm : metD 5 bts ≤ 16 := hm
  exact (Shs.tup (Shs.cons (sh_str (name_data nn) (name_short nn)) (Shs.cons k1.tup (Shs.cons (right_block 5 bts ho).tup Shs.nil)))).mono (by omega) (by omega)
theorem right_repr {t : Tr} (h : faultT t = none) : ReprOk t := by
  obtain ⟨vs, ps, rfl, l6, l3, nv, rp⟩ := book_right h
  have k1 : Shs vs 0 (vs.length * 21) := Shs.all fun t ht => by
    have := List.all_eq_true.mp nv t ht
    obtain ⟨s, rfl⟩ := name_str this
    exact sh_str (name_data this) (name_short this)
  have k2 : Shs ps 12 (ps.length * 2201) := Shs.all fun t ht => piece_shown (rp t ht).1 (rp t ht).2.1 (rp t ht).2.2
  have k := (Shs.tup (Shs.cons k1.tup (Shs.cons k2.tup Shs.nil)))
  exact ⟨k.da, Nat.le_trans k.de (by omega), Nat.le_trans k.si (by omega)⟩
/-- a book and its place, as the law asks -/
def PairK (p : Tr) : Prop := ∃ t pl, p = .tup [t, pl] ∧ pl = resT (faultT t) ∧ (faultT t = none → ReprOk t) ∧ ∀ q, faultT t = some q → ReprOk (placeT q)
theorem pair_none {t : Tr} (h : faultT t = none) : PairK (.tup [t, .non]) := ⟨t, .non, rfl, (by rw [h]; rfl), fun _ => right_repr h, fun q e => (by rw [h] at e; cases e)⟩
theorem pair_some {t : Tr} {q : Place} (h : faultT t = some q) (r : ReprOk (placeT q)) : PairK (.tup [t, placeT q]) := ⟨t, placeT q, rfl, (by rw [h]; rfl), fun e => (by rw [h] at e; cases e), fun q' e => (by rw [h] at e; cases e; exact r)⟩
theorem ints_shown : ∀ {w : List Nat}, (∀ n ∈ w, n ≤ 1000) → Shs (intsT w) 0 (21 * w.length)
  | [], _ => Shs.nil
  | n :: r, h => by
    have k := Shs.cons (sh_int (i := (n : Int)) (by have := h n List.mem_cons_self; omega)) (ints_shown (w := r) fun x hx => h x (List.mem_cons_of_mem _ hx))
    exact Shs.mono k (by omega) (by rw [List.length_cons]; omega)
theorem way_shown {i : Nat} {w : List Nat} (hi : i ≤ 1000) (h : ∀ n ∈ w, n ≤ 1000) (hl : w.length ≤ 1000) : ReprOk (placeT (.way i w)) := by
  have a := sh_int (i := (i : Int)) (by omega)
  have k := Shs.tup (Shs.cons a (Shs.cons (ints_shown h).tup Shs.nil))
  exact ⟨k.da, Nat.le_trans k.de (by decide), Nat.le_trans k.si (by omega)⟩
end BK

set_option Elab.async false
set_option maxRecDepth 100000
set_option maxHeartbeats 4000000
set_option linter.unusedVariables false
set_option linter.unusedSimpArgs false
/-! statements within others, evaluated -/
namespace BK
open PySem PySem.Spec PyProof.Rows L2
def stF (vars : List Str) (d : Nat) (as : List Str) (km : Km) (n : Nat) (t : Tr) : Fl := match takesT vars t as km (n + 1) with
  | (false, m) => (some [], (m, n + 1))
  | (true, m) => blocksIn (fun b c => recF vars d b (as ++ [wordS t]) c) (blocksT t) 0 (m, n + 1)
theorem faultL_st (vars : List Str) (d : Nat) (as : List Str) (t : Tr) (r : List Tr) (i : Nat) (km : Km) (n : Nat) : faultL vars (recF vars d) as (t :: r) i (km, n) = (match stF vars d as km n t with
    | (some w, c') => (some (i :: w), c')
    | (none, c') => faultL vars (recF vars d) as r (i + 1) c') := by
  show (match takesT vars t as km (n + 1) with
    | (false, m) => (some [i], (m, n + 1))
    | (true, m) => match blocksIn (fun b c => recF vars d b (as ++ [wordS t]) c) (blocksT t) 0 (m, n + 1) with
      | (some w, c') => (some (i :: w), c')
      | (none, c') => faultL vars (recF vars d) as r (i + 1) c') = _
  unfold stF
  cases takesT vars t as km (n + 1) with
  | mk b m => cases b <;> rfl
def showS (x : Str) : Tr := .tup [.str "show", .str x]
def yieldS : Tr := .tup [.str "yield"]
def failS : Tr := .tup [.str "fail"]
def guardS (a b : List Tr) : Tr := .tup [.str "guard", .tup a, .tup b]
def loopS (a : List Tr) : Tr := .tup [.str "loop", .tup a]
def withS (x : Str) (n : Tr) (a : List Tr) : Tr := .tup [.str "with", .str x, n, .tup a]
def ifS (x : Str) (n : Tr) (a b : List Tr) : Tr := .tup [.str "if", .str x, n, .tup a, .tup b]
section
variable {vars : List Str} {x : Str} {as : List Str} {km : Km} {n : Nat}
theorem tk_show (hx : nameS x = true) (hm : x ∈ vars) (ha : as.length ≤ 4) (hn : n ≤ 16) : takesT vars (showS x) as km n = (true, km) := by
  have b1 : ¬ 16 < n := by omega
  have b2 : ¬ 4 < as.length := by omega
  simp (decide := true) [takesT, showS, ko_show, fitsT, pt_variable, nameT, hx, knowsT, sl_variable, va_variable, hm, ca_show, b1, b2]
theorem tk_yield (hw : ("within" : Str) ∉ as) (ha : as.length ≤ 4) (hn : n ≤ 16) : takesT vars yieldS as km n = (true, km) := by
  have b1 : ¬ 16 < n := by omega
  have b2 : ¬ 4 < as.length := by omega
  simp (decide := true) [takesT, yieldS, ko_yield, fitsT, knowsT, ca_yield, b1, b2, hw]
theorem tk_fail (ha : as.length ≤ 4) (hn : n ≤ 16) : takesT vars failS as km n = (true, km) := by
  have b1 : ¬ 16 < n := by omega
  have b2 : ¬ 4 < as.length := by omega
  simp (decide := true) [takesT, failS, ko_fail, fitsT, knowsT, ca_fail, b1, b2]
theorem tk_guard {a b : List Tr} (ha : as.length ≤ 4) (hn : n ≤ 16) : takesT vars (guardS a b) as km n = (true, km) := by
  have b1 : ¬ 16 < n := by omega
  have b2 : ¬ 4 < as.length := by omega
  simp (decide := true) [takesT, guardS, ko_guard, fitsT, pt_block, isTup, knowsT, ca_guard, b1, b2]
theorem yield_yes {a : List Tr} : yieldT (yieldS :: a) = true := by
  have e : isYield yieldS = true := by decide +kernel
  simp [yieldT, e]
theorem tk_loop {a : List Tr} (hy : yieldT a = true) (ha : as.length ≤ 4) (hn : n ≤ 16) : takesT vars (loopS a) as km n = (true, km) := by
  have b1 : ¬ 16 < n := by omega
  have b2 : ¬ 4 < as.length := by omega
  simp (decide := true) [takesT, loopS, ko_loop, fitsT, pt_block, isTup, knowsT, ca_loop, b1, b2, hy]
theorem tk_with {a : List Tr} (hx : nameS x = true) (hm : x ∈ vars) (ha : as.length ≤ 4) (hn : n ≤ 16) : takesT vars (withS x (.int 0) a) as km n = (true, km) := by
  have b1 : ¬ 16 < n := by omega
  have b2 : ¬ 4 < as.length := by omega
  simp (decide := true) [takesT, withS, ko_with, fitsT, pt_variable, pt_source, pt_block, isTup, nameT, numT, hx, knowsT, sl_variable, va_variable, sl_source, va_source, sl_block, va_block, hm, ca_with, b1, b2]
theorem tk_if {a b : List Tr} (hx : nameS x = true) (hm : x ∈ vars) (ha : as.length ≤ 4) (hn : n ≤ 16) : takesT vars (ifS x (.int 0) a b) as km n = (true, km) := by
  have b1 : ¬ 16 < n := by omega
  have b2 : ¬ 4 < as.length := by omega
  simp (decide := true) [takesT, ifS, ko_if, fitsT, pt_variable, pt_integer, pt_block, isTup, nameT, numT, hx, knowsT, sl_variable, va_variable, sl_integer, va_integer, sl_block, va_block, hm, ca_if, b1, b2]
theorem tk_over {t : Tr} (ha : 4 < as.length) : takesT vars t as km n = (false, km) := by
  unfold takesT
  rw [if_pos (.inr ha)]
theorem tk_many {t : Tr} (hn : 16 < n) : takesT vars t as km n = (false, km) := by
  unfold takesT
  rw [if_pos (.inl hn)]
end
/-- a statement's answer, at depth d -/
def Ok1 (vars : List Str) (d : Nat) (t : Tr) (r : Option (List Nat)) (s : Nat) : Prop := ∀ (as : List Str) (km : Km) (n : Nat), ("within" : Str) ∉ as → as.length + d = 5 → n + s ≤ 16 → ∃ n', stF vars d as km n t = (r, (km, n')) ∧ n' ≤ n + s
section
variable {vars : List Str} {x : Str} {d s : Nat} {one : Tr} {r : Option (List Nat)}
theorem k_over (t : Tr) : Ok1 vars 0 t (some []) 1 := fun as km n _ hl _ => ⟨n + 1, by
  unfold stF
  rw [tk_over (by omega)], Nat.le_refl _⟩
theorem k_show (hx : nameS x = true) (hm : x ∈ vars) : Ok1 vars (d + 1) (showS x) none 1 := fun as km n _ hl hn => ⟨n + 1, by
  unfold stF
  rw [tk_show hx hm (by omega) (by omega)]
  rfl, Nat.le_refl _⟩
theorem k_yield : Ok1 vars (d + 1) yieldS none 1 := fun as km n hw hl hn => ⟨n + 1, by
  unfold stF
  rw [tk_yield hw (by omega) (by omega)]
  rfl, Nat.le_refl _⟩
theorem k_fail : Ok1 vars (d + 1) failS none 1 := fun as km n hw hl hn => ⟨n + 1, by
  unfold stF
  rw [tk_fail (by omega) (by omega)]
  rfl, Nat.le_refl _⟩
theorem nilD (vars : List Str) (d : Nat) (as : List Str) (c : Ck) : faultD vars d [] as c = (none, c) := by rw [faultD_eq]; rfl
theorem k_guard0 : Ok1 vars (d + 1) (guardS [] []) none 1 := fun as km n hw hl hn => ⟨n + 1, by
  unfold stF
  rw [tk_guard (by omega) (by omega)]
  show blocksIn (fun b c => faultD vars d b (as ++ [("guard" : Str)]) c) [[], []] 0 (km, n + 1) = _
  unfold blocksIn
  simp only [nilD]
  unfold blocksIn
  simp only [nilD]
  rfl, Nat.le_refl _⟩
def nestK (x k : Str) (one : Tr) : Tr := if k = "guard" then guardS [] [one] else if k = "loop" then loopS [yieldS, one] else if k = "with" then withS x (.int 0) [one] else ifS x (.int 0) [one] []
def wayK (k : Str) : List Nat := if k = "guard" then [1, 0] else if k = "loop" then [0, 1] else [0, 0]
def four : List Str := ["guard", "loop", "with", "if"]
/-- one statement in a block -/
theorem run_one (h : Ok1 vars d one r s) (as : List Str) (km : Km) (n i : Nat) (hw : ("within" : Str) ∉ as) (hl : as.length + d = 5) (hn : n + s ≤ 16) : ∃ n', faultL vars (recF vars d) as [one] i (km, n) = (r.map (i :: ·), (km, n')) ∧ n' ≤ n + s := by
  obtain ⟨n', e, hn'⟩ := h as km n hw hl hn
  refine ⟨n', ?_, hn'⟩
  rw [faultL_st, e]
  cases r <;> rfl
theorem nin (as : List Str) {k : Str} (hw : ("within" : Str) ∉ as) (hk : k ≠ "within") : ("within" : Str) ∉ as ++ [k] := fun z => by
  rcases List.mem_append.mp z with z | z
  · exact hw z
  · exact hk (List.mem_singleton.mp z).symm
theorem k_nest {k : Str} (hk : k ∈ four) (hx : nameS x = true) (hm : x ∈ vars) (h : Ok1 vars d one r s) (hd : k = "loop" → 1 ≤ d) : Ok1 vars (d + 1) (nestK x k one) (r.map (wayK k ++ ·)) (s + 2) := by
  intro as km n hw hl hn
  have ha : as.length ≤ 4 := by omega
  simp only [four, List.mem_cons, List.not_mem_nil, or_false] at hk
  have l1 : ∀ k : Str, (as ++ [k]).length + d = 5 := fun k => by rw [List.length_append, List.length_singleton]; omega
  rcases hk with rfl | rfl | rfl | rfl
  · obtain ⟨n', e, hn'⟩ := run_one h (as ++ [("guard" : Str)]) km (n + 1) 0 (nin as hw (by decide)) (l1 _) (by omega)
    refine ⟨n', ?_, by omega⟩
    show stF vars (d + 1) as km n (guardS [] [one]) = (r.map (fun z => 1 :: 0 :: z), (km, n'))
    unfold stF
    rw [tk_guard ha (by omega)]
    show blocksIn (fun b c => faultD vars d b (as ++ [("guard" : Str)]) c) [[], [one]] 0 (km, n + 1) = _
    unfold blocksIn
    simp only [nilD]
    unfold blocksIn
    simp only [faultD_eq, e]
    cases r <;> rfl
  · obtain ⟨d, rfl⟩ : ∃ d', d = d' + 1 := ⟨d - 1, by have := hd rfl; omega⟩
    obtain ⟨n1, e1, hn1⟩ := k_yield (vars := vars) (d := d) (as ++ [("loop" : Str)]) km (n + 1) (nin as hw (by decide)) (l1 _) (by omega)
    obtain ⟨n', e, hn'⟩ := run_one h (as ++ [("loop" : Str)]) km n1 1 (nin as hw (by decide)) (l1 _) (by omega)
    refine ⟨n', ?_, by omega⟩
    show stF vars (d + 1 + 1) as km n (loopS [yieldS, one]) = (r.map (fun z => 0 :: 1 :: z), (km, n'))
    unfold stF
    rw [tk_loop yield_yes ha (by omega)]
    show blocksIn (fun b c => faultD vars (d + 1) b (as ++ [("loop" : Str)]) c) [[yieldS, one]] 0 (km, n + 1) = _
    unfold blocksIn
    simp only [faultD_eq, faultL_st vars (d + 1) (as ++ [("loop" : Str)]) yieldS, e1, e]
    cases r <;> rfl
  · obtain ⟨n', e, hn'⟩ := run_one h (as ++ [("with" : Str)]) km (n + 1) 0 (nin as hw (by decide)) (l1 _) (by omega)
    refine ⟨n', ?_, by omega⟩
    show stF vars (d + 1) as km n (withS x (.int 0) [one]) = (r.map (fun z => 0 :: 0 :: z), (km, n'))
    unfold stF
    rw [tk_with hx hm ha (by omega)]
    show blocksIn (fun b c => faultD vars d b (as ++ [("with" : Str)]) c) [[one]] 0 (km, n + 1) = _
    unfold blocksIn
    simp only [faultD_eq, e]
    cases r <;> rfl
  · obtain ⟨n', e, hn'⟩ := run_one h (as ++ [("if" : Str)]) km (n + 1) 0 (nin as hw (by decide)) (l1 _) (by omega)
    refine ⟨n', ?_, by omega⟩
    show stF vars (d + 1) as km n (ifS x (.int 0) [one] []) = (r.map (fun z => 0 :: 0 :: z), (km, n'))
    unfold stF
    rw [tk_if hx hm ha (by omega)]
    show blocksIn (fun b c => faultD vars d b (as ++ [("if" : Str)]) c) [[one], []] 0 (km, n + 1) = _
    unfold blocksIn
    simp only [faultD_eq, e]
    cases r with
    | some w => rfl
    | none =>
      show blocksIn _ [[]] 1 (km, n') = _
      unfold blocksIn
      rfl
theorem k_loop_in (hx : nameS x = true) (t : Tr) : Ok1 vars 1 (nestK x "loop" t) (some [0, 0]) 2 := by
  intro as km n hw hl hn
  have l1 : (as ++ [("loop" : Str)]).length + 0 = 5 := by rw [List.length_append, List.length_singleton]; omega
  obtain ⟨n1, e1, hn1⟩ := k_over (vars := vars) yieldS (as ++ [("loop" : Str)]) km (n + 1) (nin as hw (by decide)) l1 (by omega)
  refine ⟨n1, ?_, by omega⟩
  show stF vars 1 as km n (loopS [yieldS, t]) = _
  unfold stF
  rw [tk_loop yield_yes (by omega) (by omega)]
  show blocksIn (fun b c => faultD vars 0 b (as ++ [("loop" : Str)]) c) [[yieldS, t]] 0 (km, n + 1) = _
  unfold blocksIn
  simp only [faultD_eq, faultL_st vars 0 (as ++ [("loop" : Str)]) yieldS, e1]
def nestL (x : Str) (ks : List Str) (one : Tr) : Tr := ks.foldr (nestK x) one
def wayL (ks : List Str) : List Nat := (ks.map wayK).flatten
theorem k_nests (hx : nameS x = true) (hm : x ∈ vars) : ∀ (ks : List Str) {d s : Nat} {r : Option (List Nat)}, (∀ k ∈ ks, k ∈ four) → 1 ≤ d → Ok1 vars d one r s → Ok1 vars (d + ks.length) (nestL x ks one) (r.map (wayL ks ++ ·)) (s + 2 * ks.length)
  | [], d, s, r, _, _, h => by
    have e : r.map (wayL [] ++ ·) = r := by cases r <;> rfl
    rw [e]
    exact h
  | k :: ks, d, s, r, hk, hd, h => by
    have ih := k_nests hx hm ks (fun z hz => hk z (List.mem_cons_of_mem _ hz)) hd h
    have q := k_nest (hk k List.mem_cons_self) hx hm ih (fun _ => by omega)
    have e : (r.map (wayL ks ++ ·)).map (wayK k ++ ·) = r.map (wayL (k :: ks) ++ ·) := by
      cases r with
      | none => rfl
      | some w => simp [wayL]
    rw [e] at q
    rw [List.length_cons, show s + 2 * (ks.length + 1) = s + 2 * ks.length + 2 from by omega]
    exact q
end
end BK

set_option Elab.async false
set_option maxRecDepth 100000
set_option maxHeartbeats 4000000
set_option linter.unusedVariables false
set_option linter.unusedSimpArgs false
/-! books and their places -/
namespace BK
open PySem PySem.Spec PyProof.Rows L2
def pieT (n : Str) (ps : Tr) (blk : List Tr) : Tr := .tup [.str n, ps, .tup blk]
def bkT (x name : Str) (blk : List Tr) : Tr := .tup [.tup [.str x], .tup [pieT name (.tup []) blk]]
theorem params0 : paramsT (.tup []) = true := by decide +kernel
section
variable {vars : List Str} {x name : Str} {r : List Tr} {i : Nat} {ns : List Str} {ps : Tr} {blk : List Tr}
theorem pie_step (hn : nameS name = true) (hp : paramsT ps = true) (hm : name ∉ ns) : piecesL vars (pieT name ps blk :: r) i ns = (match (faultD vars 5 blk [] (kindsP ps, 0)).1 with
      | some w => some (.way i w)
      | none => piecesL vars r (i + 1) (ns ++ [name])) := by
  have e : tripleT (pieT name ps blk) = true := by
    show (nameT (.str name) && paramsT ps && isTup (.tup blk)) = true
    rw [hp]
    show (nameS name && true && true) = true
    rw [hn]; rfl
  show (if tripleT (pieT name ps blk) = true ∧ name ∉ ns then (match (faultD vars 5 blk [] (kindsP ps, 0)).1 with
      | some w => some (Place.way i w)
      | none => piecesL vars r (i + 1) (ns ++ [name])) else some (.at_ i)) = _
  rw [if_pos ⟨e, hm⟩]
theorem pie_bad {t : Tr} (h : ¬ (tripleT t = true ∧ wordS t ∉ ns)) : piecesL vars (t :: r) i ns = some (.at_ i) := by
  show (if tripleT t = true ∧ wordS t ∉ ns then _ else some (Place.at_ i)) = _
  rw [if_neg h]
theorem one_var (hx : nameS x = true) : 1 ≤ [Tr.str x].length ∧ [Tr.str x].length ≤ 3 ∧ diffT [.str x] = true := ⟨by simp, by simp, by simp [diffT, nameT, hx, texts]⟩
theorem book_one (hx : nameS x = true) {ps : List Tr} (h6 : ps.length ≤ 6) : faultT (.tup [.tup [.str x], .tup ps]) = piecesL [x] ps 0 [] := by
  show (if 6 < ps.length then some Place.empty else if _ then _ else _) = _
  rw [if_neg (by omega), if_pos (one_var hx)]
  rfl
theorem bk_fault (hx : nameS x = true) (hn : nameS name = true) : faultT (bkT x name blk) = (match (faultD [x] 5 blk [] ([], 0)).1 with
      | some w => some (.way 0 w)
      | none => none) := by
  rw [bkT, book_one hx (by simp), pie_step hn params0 (by simp)]
  rfl
theorem bk_ok (hx : nameS x = true) (hn : nameS name = true) (h : (faultD [x] 5 blk [] ([], 0)).1 = none) : PairK (.tup [bkT x name blk, .non]) := pair_none (by rw [bk_fault hx hn, h])
theorem bk_no (hx : nameS x = true) (hn : nameS name = true) {w : List Nat} (h : (faultD [x] 5 blk [] ([], 0)).1 = some w) (hw : (∀ n ∈ w, n ≤ 1000) ∧ w.length ≤ 1000) : PairK (.tup [bkT x name blk, .tup [.int 0, .tup (intsT w)]]) := by
  have e : faultT (bkT x name blk) = some (.way 0 w) := by rw [bk_fault hx hn, h]
  exact pair_some e (way_shown (by omega) hw.1 hw.2)
theorem at_shown {i : Nat} (hi : i ≤ 1000) : ReprOk (placeT (.at_ i)) := by
  have k := Shs.tup (Shs.cons (sh_int (i := (i : Int)) (by omega)) Shs.nil)
  exact ⟨k.da, Nat.le_trans k.de (by decide), Nat.le_trans k.si (by omega)⟩
theorem vars_shown : ReprOk (placeT .vars) := by
  have k := Shs.tup (Shs.cons (sh_str (z := "vars") (by decide +kernel) (by decide)) Shs.nil)
  exact ⟨k.da, Nat.le_trans k.de (by decide), Nat.le_trans k.si (by omega)⟩
theorem empty_shown : ReprOk (placeT .empty) := by
  have k := Shs.tup Shs.nil
  exact ⟨k.da, Nat.le_trans k.de (by decide), Nat.le_trans k.si (by omega)⟩
theorem pair_at {t : Tr} {i : Nat} (hi : i ≤ 1000) (h : faultT t = some (.at_ i)) : PairK (.tup [t, .tup [.int (i : Nat)]]) := pair_some h (at_shown hi)
theorem pair_vars {t : Tr} (h : faultT t = some .vars) : PairK (.tup [t, .tup [.str "vars"]]) := pair_some h vars_shown
theorem pair_empty {t : Tr} (h : faultT t = some .empty) : PairK (.tup [t, .tup []]) := pair_some h empty_shown
theorem pair_way {t : Tr} {i : Nat} {w : List Nat} (h : faultT t = some (.way i w)) (hi : i ≤ 1000) (hw : (∀ n ∈ w, n ≤ 1000) ∧ w.length ≤ 1000) : PairK (.tup [t, .tup [.int (i : Nat), .tup (intsT w)]]) := pair_some h (way_shown hi hw.1 hw.2)
end
/-! the depths -/
section
variable {x name : Str} {ks : List Str} {last : Tr}
theorem wayK_le (k : Str) : (∀ n ∈ wayK k, n ≤ 1) ∧ (wayK k).length = 2 := by
  unfold wayK
  split
  · simp
  · split <;> simp
theorem wayL_le : ∀ ks : List Str, (∀ n ∈ wayL ks, n ≤ 1) ∧ (wayL ks).length = 2 * ks.length
  | [] => ⟨fun n h => (by cases h), rfl⟩
  | k :: r => by
    have h1 := wayK_le k
    have h2 := wayL_le r
    have e : wayL (k :: r) = wayK k ++ wayL r := by simp [wayL]
    rw [e]
    refine ⟨fun n h => ?_, by rw [List.length_append, h1.2, h2.2, List.length_cons]; omega⟩
    rcases List.mem_append.mp h with h | h
    · exact h1.1 n h
    · exact h2.1 n h
def LastK (x : Str) (t : Tr) : Prop := Ok1 [x] 1 t none 1
theorem last_in (hx : nameS x = true) : ∀ t ∈ [showS x, yieldS, failS, guardS [] []], LastK x t := by
  intro t ht
  simp only [List.mem_cons, List.not_mem_nil, or_false] at ht
  rcases ht with rfl | rfl | rfl | rfl
  · exact k_show hx (by simp)
  · exact k_yield
  · exact k_fail
  · exact k_guard0
theorem depth_1 (hx : nameS x = true) (hn : nameS name = true) (hk : ∀ k ∈ ks, k ∈ four) (h4 : ks.length = 4) (hl : LastK x last) : PairK (.tup [bkT x name [nestL x ks last], .non]) := by
  have h := k_nests (vars := [x]) hx (by simp) ks hk (Nat.le_refl 1) hl
  rw [h4] at h
  obtain ⟨n', e, _⟩ := run_one h [] [] 0 0 (by simp) (by simp) (by omega)
  refine bk_ok hx hn ?_
  rw [faultD_eq, e]
  rfl
theorem nest_snoc (ks : List Str) (k : Str) (t : Tr) : nestL x (ks ++ [k]) t = nestL x ks (nestK x k t) := by simp [nestL]
theorem way_snoc2 (ks : List Str) (k : Str) : wayL (ks ++ [k]) = wayL ks ++ wayK k := by simp [wayL]
theorem depth_2 (hx : nameS x = true) (hn : nameS name = true) (hk : ∀ k ∈ ks, k ∈ four) (h4 : ks.length = 4) {k : Str} (hk5 : k ∈ four) (nl : k ≠ "loop") : PairK (.tup [bkT x name [showS x, nestL x (ks ++ [k]) last], .tup [.int 0, .tup (intsT (1 :: wayL (ks ++ [k])))]]) := by
  have h1 := k_nest (vars := [x]) hk5 hx (by simp) (k_over last) (fun z => absurd z nl)
  have h := k_nests (vars := [x]) hx (by simp) ks hk (Nat.le_refl 1) h1
  rw [h4] at h
  obtain ⟨n1, e1, hn1⟩ := k_show (vars := [x]) (d := 4) hx (by simp) [] [] 0 (by simp) (by simp) (by omega)
  obtain ⟨n', e, _⟩ := run_one h [] [] n1 1 (by simp) (by simp) (by omega)
  have hw := wayL_le (ks ++ [k])
  refine bk_no hx hn ?_ ⟨fun n hn => ?_, by rw [List.length_cons, hw.2, List.length_append, List.length_singleton]; omega⟩
  · rw [faultD_eq, faultL_st, e1, nest_snoc, way_snoc2]
    show (faultL [x] (recF [x] 5) [] [nestL x ks (nestK x k last)] 1 ([], n1)).1 = _
    rw [e]
    simp
  · rcases List.mem_cons.mp hn with rfl | hn
    · omega
    · have := hw.1 n hn; omega
theorem depth_3 (hx : nameS x = true) (hn : nameS name = true) (hk : ∀ k ∈ ks, k ∈ four) (h4 : ks.length = 4) : PairK (.tup [bkT x name [nestL x (ks ++ [("loop" : Str)]) last], .tup [.int 0, .tup (intsT (0 :: (wayL ks ++ [0, 0])))]]) := by
  have h1 := k_loop_in (vars := [x]) (x := x) hx last
  have h := k_nests (vars := [x]) hx (by simp) ks hk (Nat.le_refl 1) h1
  rw [h4] at h
  obtain ⟨n', e, _⟩ := run_one h [] [] 0 0 (by simp) (by simp) (by omega)
  have hw := wayL_le ks
  refine bk_no hx hn ?_ ⟨fun n hn => ?_, by rw [List.length_cons, List.length_append, hw.2]; simp; omega⟩
  · rw [faultD_eq, nest_snoc, e]
    rfl
  · rcases List.mem_cons.mp hn with rfl | hn
    · omega
    · rcases List.mem_append.mp hn with hn | hn
      · have := hw.1 n hn; omega
      · simp at hn; omega
end
/-! as many as can be -/
section
variable {vars : List Str} {x : Str} {d : Nat} {as : List Str} {km : Km} {one : Tr}
theorem reps_app (h : ∀ n, n + 1 ≤ 16 → stF vars d as km n one = (none, (km, n + 1))) (r : List Tr) : ∀ (k i n : Nat), n + k ≤ 16 → faultL vars (recF vars d) as (List.replicate k one ++ r) i (km, n) = faultL vars (recF vars d) as r (i + k) (km, n + k)
  | 0, i, n, _ => rfl
  | k + 1, i, n, hk => by
    rw [List.replicate_succ, List.cons_append, faultL_st, h n (by omega)]
    show faultL vars (recF vars d) as (List.replicate k one ++ r) (i + 1) (km, n + 1) = _
    rw [reps_app h r k (i + 1) (n + 1) (by omega), Nat.add_assoc i 1 k, Nat.add_comm 1 k, Nat.add_assoc n 1 k, Nat.add_comm 1 k]
theorem st_many (n : Nat) (hn : 16 ≤ n) (t : Tr) : stF vars d as km n t = (some [], (km, n + 1)) := by
  unfold stF
  rw [tk_many (by omega)]
theorem reps_over (h : ∀ n, n + 1 ≤ 16 → stF vars d as km n one = (none, (km, n + 1))) (k i n : Nat) (hn : n ≤ 16) (hk : 16 < n + k) : faultL vars (recF vars d) as (List.replicate k one) i (km, n) = (some [i + (16 - n)], (km, 17)) := by
  have e : List.replicate k one = List.replicate (16 - n) one ++ (one :: List.replicate (k - (16 - n) - 1) one) := by
    rw [← List.replicate_succ, List.replicate_append_replicate]
    congr 1
    omega
  rw [e, reps_app h _ _ _ _ (by omega), show n + (16 - n) = 16 from by omega, faultL_st, st_many 16 (Nat.le_refl _)]
theorem reps_in (h : ∀ n, n + 1 ≤ 16 → stF vars d as km n one = (none, (km, n + 1))) (k i n : Nat) (hk : n + k ≤ 16) : faultL vars (recF vars d) as (List.replicate k one) i (km, n) = (none, (km, n + k)) := by
  have q := reps_app h [] k i n hk
  rw [List.append_nil] at q
  rw [q]
  rfl
theorem st_show (hx : nameS x = true) (hm : x ∈ vars) (ha : as.length ≤ 4) : ∀ n, n + 1 ≤ 16 → stF vars d as km n (showS x) = (none, (km, n + 1)) := fun n hn => by
  unfold stF
  rw [tk_show hx hm ha hn]
  rfl
theorem st_yield (hw : ("within" : Str) ∉ as) (ha : as.length ≤ 4) : ∀ n, n + 1 ≤ 16 → stF vars d as km n yieldS = (none, (km, n + 1)) := fun n hn => by
  unfold stF
  rw [tk_yield hw ha hn]
  rfl
theorem st_guard {a b : List Tr} (ha : as.length ≤ 4) (n : Nat) (hn : n + 1 ≤ 16) : stF vars (d + 1) as km n (guardS a b) = blocksIn (fun b c => faultD vars d b (as ++ [("guard" : Str)]) c) [a, b] 0 (km, n + 1) := by
  unfold stF
  rw [tk_guard ha hn]
  rfl
theorem st_loop {a : List Tr} (hy : yieldT a = true) (ha : as.length ≤ 4) (n : Nat) (hn : n + 1 ≤ 16) : stF vars (d + 1) as km n (loopS a) = blocksIn (fun b c => faultD vars d b (as ++ [("loop" : Str)]) c) [a] 0 (km, n + 1) := by
  unfold stF
  rw [tk_loop hy ha hn]
  rfl
theorem st_if {a b : List Tr} (hx : nameS x = true) (hm : x ∈ vars) (ha : as.length ≤ 4) (n : Nat) (hn : n + 1 ≤ 16) : stF vars (d + 1) as km n (ifS x (.int 0) a b) = blocksIn (fun b c => faultD vars d b (as ++ [("if" : Str)]) c) [a, b] 0 (km, n + 1) := by
  unfold stF
  rw [tk_if hx hm ha hn]
  rfl
end
section
variable {x name : Str} (hx : nameS x = true) (hn : nameS name = true)
include hx hn
theorem cnt_show16 : PairK (.tup [bkT x name (List.replicate 16 (showS x)), .non]) := bk_ok hx hn (by
  rw [faultD_eq, reps_in (st_show hx (by simp) (by simp)) 16 0 0 (by omega)])
theorem cnt_show17 : PairK (.tup [bkT x name (List.replicate 17 (showS x)), .tup [.int 0, .tup (intsT [16])]]) := bk_no hx hn (by
  rw [faultD_eq, reps_over (st_show hx (by simp) (by simp)) 17 0 0 (by omega) (by omega)]) (by simp)
theorem cnt_guard16 : PairK (.tup [bkT x name [guardS (List.replicate 7 (showS x)) (List.replicate 8 (showS x))], .non]) := bk_ok hx hn (by
  rw [faultD_eq, faultL_st, st_guard (by simp) 0 (by omega)]
  unfold blocksIn
  simp only [faultD_eq]
  rw [reps_in (st_show hx (by simp) (by simp)) 7 0 1 (by omega)]
  unfold blocksIn
  simp only [faultD_eq]
  rw [reps_in (st_show hx (by simp) (by simp)) 8 0 8 (by omega)]
  rfl)
theorem cnt_guard17 : PairK (.tup [bkT x name [guardS (List.replicate 7 (showS x)) (List.replicate 9 (showS x))], .tup [.int 0, .tup (intsT [0, 1, 8])]]) := bk_no hx hn (by
  rw [faultD_eq, faultL_st, st_guard (by simp) 0 (by omega)]
  unfold blocksIn
  simp only [faultD_eq]
  rw [reps_in (st_show hx (by simp) (by simp)) 7 0 1 (by omega)]
  unfold blocksIn
  simp only [faultD_eq]
  rw [reps_over (st_show hx (by simp) (by simp)) 9 0 8 (by omega) (by omega)]) (by simp)
theorem cnt_loop16 : PairK (.tup [bkT x name [loopS (List.replicate 15 yieldS)], .non]) := bk_ok hx hn (by
  rw [faultD_eq, faultL_st, st_loop (show yieldT (List.replicate 15 yieldS) = true from yield_yes (a := List.replicate 14 yieldS)) (by simp) 0 (by omega)]
  unfold blocksIn
  simp only [faultD_eq]
  rw [reps_in (st_yield (by decide) (by simp)) 15 0 1 (by omega)]
  rfl)
theorem cnt_loop17 : PairK (.tup [bkT x name [loopS (List.replicate 16 yieldS)], .tup [.int 0, .tup (intsT [0, 0, 15])]]) := bk_no hx hn (by
  rw [faultD_eq, faultL_st, st_loop (show yieldT (List.replicate 16 yieldS) = true from yield_yes (a := List.replicate 15 yieldS)) (by simp) 0 (by omega)]
  unfold blocksIn
  simp only [faultD_eq]
  rw [reps_over (st_yield (by decide) (by simp)) 16 0 1 (by omega) (by omega)]) (by simp)
theorem if15 (r : List Tr) : faultL [x] (recF [x] 5) [] (ifS x (.int 0) (List.replicate 15 (showS x)) [] :: r) 0 ([], 0) = faultL [x] (recF [x] 5) [] r 1 ([], 16) := by
  rw [faultL_st, st_if hx (by simp) (by simp) 0 (by omega)]
  unfold blocksIn
  simp only [faultD_eq]
  rw [reps_in (st_show hx (by simp) (by simp)) 15 0 1 (by omega)]
  unfold blocksIn
  simp only [nilD, ← faultD_eq]
  rfl
theorem cnt_if16 : PairK (.tup [bkT x name [ifS x (.int 0) (List.replicate 15 (showS x)) []], .non]) := bk_ok hx hn (by
  rw [faultD_eq, if15 hx hn]
  rfl)
theorem cnt_if17 : PairK (.tup [bkT x name [ifS x (.int 0) (List.replicate 15 (showS x)) [], showS x], .tup [.int 0, .tup (intsT [1])]]) := bk_no hx hn (by
  rw [faultD_eq, if15 hx hn, faultL_st, st_many 16 (Nat.le_refl _)]) (by simp)
end
end BK

set_option Elab.async false
set_option maxRecDepth 100000
set_option maxHeartbeats 4000000
set_option linter.unusedVariables false
set_option linter.unusedSimpArgs false
set_option linter.unusedSectionVars false
/-! the other books of the law -/
namespace BK
open PySem PySem.Spec PyProof.Rows L2
section
variable {vars : List Str} {d : Nat} {as : List Str} {km m : Km} {n i : Nat} {t : Tr} {r : List Tr}
theorem nils_in (vars : List Str) (d : Nat) (as : List Str) : ∀ (bs : List (List Tr)) (j : Nat) (c : Ck), (∀ b ∈ bs, b = []) → blocksIn (fun b c => faultD vars d b as c) bs j c = (none, c)
  | [], _, _, _ => rfl
  | b :: r, j, c, h => by
    have e : b = [] := h b List.mem_cons_self
    subst e
    unfold blocksIn
    simp only [nilD]
    exact nils_in vars d as r (j + 1) c fun b hb => h b (List.mem_cons_of_mem _ hb)
theorem st_flat (h : takesT vars t as km (n + 1) = (true, m)) (hb : ∀ b ∈ blocksT t, b = []) : stF vars (d + 1) as km n t = (none, (m, n + 1)) := by
  unfold stF
  rw [h]
  exact nils_in vars d _ _ 0 _ hb
theorem fl_flat (h : takesT vars t as km (n + 1) = (true, m)) (hb : ∀ b ∈ blocksT t, b = []) : faultL vars (recF vars (d + 1)) as (t :: r) i (km, n) = faultL vars (recF vars (d + 1)) as r (i + 1) (m, n + 1) := by
  rw [faultL_st, st_flat h hb]
theorem fl_bad (h : (takesT vars t as km (n + 1)).1 = false) : (faultL vars (recF vars d) as (t :: r) i (km, n)).1 = some [i] := by
  rw [faultL_st]
  unfold stF
  cases e : takesT vars t as km (n + 1) with
  | mk b k =>
  rw [e] at h
  have h : b = false := h
  subst h
  rfl
end
def setT (x : Str) (s : Tr) : Tr := .tup [.str "set", .str x, s]
def holdT (t x : Str) (s : Tr) : Tr := .tup [.str "hold", .str t, .str x, s]
def copyT (c : Str) : Tr := .tup [.str "copy", .str c]
def resetT (c : Str) : Tr := .tup [.str "reset", .str c]
def wiT (c : Str) (b : List Tr) : Tr := .tup [.str "within", .str c, .tup b]
def jumpT : Tr := .tup [.str "jump"]
def stT : Tr → Bool
  | .tup (.str _ :: _) => true
  | _ => false
section
variable {x f : Str} {km : Km} {n : Nat} {s : Tr}
theorem tk_not {vars : List Str} {as : List Str} {t : Tr} (h : stT t = false) : (takesT vars t as km n).1 = false := by
  unfold takesT
  split
  · rfl
  · cases t with
    | tup l =>
      cases l with
      | nil => rfl
      | cons y r =>
        cases y with
        | str z => exact Bool.noConfusion h
        | _ => rfl
    | _ => rfl
theorem tk_jump {vars : List Str} {as : List Str} : (takesT vars jumpT as km n).1 = false := by
  unfold takesT
  split
  · rfl
  · simp [jumpT, ko_jump]
theorem tk_set {i : Int} (hx : nameS x = true) (h0 : 0 ≤ i) (h1 : i ≤ 99) (hn : n ≤ 16) : takesT [x] (setT x (.int i)) [] km n = (true, km) := by
  have b1 : ¬ 16 < n := by omega
  simp (decide := true) [takesT, setT, ko_set, fitsT, pt_variable, pt_source, nameT, numT, hx, h0, h1, knowsT, sl_variable, va_variable, sl_source, va_source, ca_set, b1]
theorem tk_ifI {i : Int} (hx : nameS x = true) (h0 : 0 ≤ i) (h1 : i ≤ 99) (hn : n ≤ 16) : takesT [x] (ifS x (.int i) [] []) [] km n = (true, km) := by
  have b1 : ¬ 16 < n := by omega
  simp (decide := true) [takesT, ifS, ko_if, fitsT, pt_variable, pt_integer, pt_block, isTup, nameT, numT, hx, h0, h1, knowsT, sl_variable, va_variable, sl_integer, va_integer, sl_block, va_block, ca_if, b1]
theorem tk_withI {i : Int} (hx : nameS x = true) (h0 : 0 ≤ i) (h1 : i ≤ 99) (hn : n ≤ 16) : takesT [x] (withS x (.int i) []) [] km n = (true, km) := by
  have b1 : ¬ 16 < n := by omega
  simp (decide := true) [takesT, withS, ko_with, fitsT, pt_variable, pt_source, pt_block, isTup, nameT, numT, hx, h0, h1, knowsT, sl_variable, va_variable, sl_source, va_source, sl_block, va_block, ca_with, b1]
theorem tk_hold {i : Int} (hx : nameS x = true) (hf : nameS f = true) (h0 : 0 ≤ i) (h1 : i ≤ 99) (hn : n ≤ 16) : takesT [x] (holdT f x (.int i)) [] [] n = (true, [(f, ("token" : Str))]) := by
  have b1 : ¬ 16 < n := by omega
  simp (decide := true) [takesT, holdT, ko_hold, fitsT, pt_token, pt_variable, pt_source, nameT, numT, hx, hf, h0, h1, knowsT, kget, sl_token, sl_variable, va_variable, sl_source, va_source, ca_hold, b1]
theorem tk_copy {vars : List Str} {as : List Str} (hf : nameS f = true) (ha : as.length ≤ 4) (hn : n ≤ 16) : takesT vars (copyT f) as [] n = (true, [(f, ("context" : Str))]) := by
  have b1 : ¬ 16 < n := by omega
  have b2 : ¬ 4 < as.length := by omega
  simp (decide := true) [takesT, copyT, ko_copy, fitsT, pt_context, nameT, hf, knowsT, kget, sl_context, ca_copy, b1, b2]
theorem tk_reset {vars : List Str} {as : List Str} (hf : nameS f = true) (ha : as.length ≤ 4) (hn : n ≤ 16) : takesT vars (resetT f) as [] n = (true, [(f, ("token" : Str))]) := by
  have b1 : ¬ 16 < n := by omega
  have b2 : ¬ 4 < as.length := by omega
  simp (decide := true) [takesT, resetT, ko_reset, fitsT, pt_token, nameT, hf, knowsT, kget, sl_token, ca_reset, b1, b2]
theorem tk_reset_no {vars : List Str} {as : List Str} : (takesT vars (resetT f) as [(f, ("context" : Str))] n).1 = false := by
  unfold takesT
  split
  · rfl
  · by_cases hf : nameS f = true
    · simp (decide := true) [resetT, ko_reset, fitsT, pt_token, nameT, hf, knowsT, kget, sl_token, ca_reset]
    · have hf : nameS f = false := by simpa using hf
      simp (decide := true) [resetT, ko_reset, fitsT, pt_token, nameT, hf]
theorem tk_copy_no {vars : List Str} {as : List Str} : (takesT vars (copyT f) as [(f, ("token" : Str))] n).1 = false := by
  unfold takesT
  split
  · rfl
  · by_cases hf : nameS f = true
    · simp (decide := true) [copyT, ko_copy, fitsT, pt_context, nameT, hf, knowsT, kget, sl_context, ca_copy]
    · have hf : nameS f = false := by simpa using hf
      simp (decide := true) [copyT, ko_copy, fitsT, pt_context, nameT, hf]
theorem tk_within_no {vars : List Str} {as : List Str} {b : List Tr} : (takesT vars (wiT f b) as [(f, ("token" : Str))] n).1 = false := by
  unfold takesT
  split
  · rfl
  · by_cases hf : nameS f = true
    · simp (decide := true) [wiT, ko_within, fitsT, pt_context, pt_block, isTup, nameT, hf, knowsT, kget, sl_context, sl_block, va_block, ca_within]
    · have hf : nameS f = false := by simpa using hf
      simp (decide := true) [wiT, ko_within, fitsT, pt_context, pt_block, isTup, nameT, hf]
end
/-- a thing that is no part of a statement -/
structure NoSrc (s : Tr) : Prop where
  num : numT 99 s = false
  nam : nameT s = false
section
variable {vars : List Str} {as : List Str} {x f : Str} {km : Km} {n : Nat} {s a b : Tr}
theorem no_set (h : NoSrc s) : (takesT vars (.tup [.str "set", .str x, s]) as km n).1 = false := by
  unfold takesT
  split
  · rfl
  · simp (decide := true) [ko_set, fitsT, pt_variable, pt_source, h.num, h.nam]
theorem no_set1 (h : NoSrc s) : (takesT vars (.tup [.str "set", s, a]) as km n).1 = false := by
  unfold takesT
  split
  · rfl
  · simp (decide := true) [ko_set, fitsT, pt_variable, h.nam]
theorem no_copy (h : NoSrc s) : (takesT vars (.tup [.str "copy", s]) as km n).1 = false := by
  unfold takesT
  split
  · rfl
  · simp (decide := true) [ko_copy, fitsT, pt_context, h.nam]
theorem no_show (h : NoSrc s) : (takesT vars (.tup [.str "show", s]) as km n).1 = false := by
  unfold takesT
  split
  · rfl
  · simp (decide := true) [ko_show, fitsT, pt_variable, h.nam]
theorem no_if (h : NoSrc s) : (takesT vars (.tup [.str "if", .str x, s, a, b]) as km n).1 = false := by
  unfold takesT
  split
  · rfl
  · simp (decide := true) [ko_if, fitsT, pt_variable, pt_integer, h.num]
theorem no_with (h : NoSrc s) : (takesT vars (.tup [.str "with", .str x, s, a]) as km n).1 = false := by
  unfold takesT
  split
  · rfl
  · simp (decide := true) [ko_with, fitsT, pt_variable, pt_source, h.num, h.nam]
theorem no_hold (h : NoSrc s) : (takesT vars (.tup [.str "hold", .str f, .str x, s]) as km n).1 = false := by
  unfold takesT
  split
  · rfl
  · simp (decide := true) [ko_hold, fitsT, pt_token, pt_variable, pt_source, h.num, h.nam]
theorem no_loop (h : isTup s = false) : (takesT vars (.tup [.str "loop", s]) as km n).1 = false := by
  unfold takesT
  split
  · rfl
  · simp (decide := true) [ko_loop, fitsT, pt_block, h]
theorem no_loop2 {ts : List Tr} (h : yieldT ts = false) : (takesT vars (.tup [.str "loop", .tup ts]) as km n).1 = false := by
  unfold takesT
  split
  · rfl
  · simp (decide := true) [ko_loop, fitsT, pt_block, isTup, knowsT, ca_loop, h]
theorem no_guard (h : isTup s = false) : (takesT vars (.tup [.str "guard", s, a]) as km n).1 = false := by
  unfold takesT
  split
  · rfl
  · simp (decide := true) [ko_guard, fitsT, pt_block, h]
end
theorem long_no {z : Str} (h : 8 < z.length) : NoSrc (.str z) := ⟨rfl, by
  show nameS z = false
  unfold nameS
  rw [decide_eq_false (show ¬ z.length ≤ 8 from by omega)]
  simp⟩
theorem int_no {i : Int} (h : i < 0 ∨ 99 < i) : NoSrc (.int i) := ⟨by
  show (decide (0 ≤ i) && decide (i ≤ 99)) = false
  rcases h with h | h
  · rw [decide_eq_false (show ¬ 0 ≤ i from by omega)]; rfl
  · rw [decide_eq_false (show ¬ i ≤ 99 from by omega), Bool.and_false], rfl⟩
theorem bl_no (b : Bool) : NoSrc (.bl b) := ⟨rfl, rfl⟩
section
variable {x name : Str} (hx : nameS x = true) (hn : nameS name = true)
include hx hn
/-- the first statement is wrong -/
theorem bk_first {t : Tr} {r : List Tr} (h : (takesT [x] t [] [] 1).1 = false) : PairK (.tup [bkT x name (t :: r), .tup [.int 0, .tup (intsT [0])]]) := bk_no hx hn (by
  rw [faultD_eq, fl_bad h]) (by simp)
theorem bk_flat {t : Tr} {m : Km} (h : takesT [x] t [] [] 1 = (true, m)) (hb : ∀ b ∈ blocksT t, b = []) : PairK (.tup [bkT x name [t], .non]) := bk_ok hx hn (by
  rw [faultD_eq, fl_flat (d := 4) h hb]
  rfl)
/-- the second one is wrong -/
theorem bk_second {t u : Tr} {r : List Tr} {m : Km} (h : takesT [x] t [] [] 1 = (true, m)) (hb : ∀ b ∈ blocksT t, b = []) (h2 : (takesT [x] u [] m 2).1 = false) : PairK (.tup [bkT x name (t :: u :: r), .tup [.int 0, .tup (intsT [1])]]) := bk_no hx hn (by
  rw [faultD_eq, fl_flat (d := 4) h hb, fl_bad h2]) (by simp)
/-- the sources -/
theorem src_good {i : Int} (h0 : 0 ≤ i) (h1 : i ≤ 99) : PairK (.tup [bkT x name [setT x (.int i)], .non]) ∧ PairK (.tup [bkT x name [ifS x (.int i) [] []], .non]) ∧ PairK (.tup [bkT x name [withS x (.int i) []], .non]) ∧ PairK (.tup [bkT x name [holdT x x (.int i)], .non]) :=
  ⟨bk_flat hx hn (tk_set hx h0 h1 (by omega)) (fun b hb => nomatch (show b ∈ ([] : List (List Tr)) from hb)), bk_flat hx hn (tk_ifI hx h0 h1 (by omega)) (by simp [blocksT, ifS, isTup, tupTs]), bk_flat hx hn (tk_withI hx h0 h1 (by omega)) (by simp [blocksT, withS, isTup, tupTs]),
    bk_flat hx hn (tk_hold hx hx h0 h1 (by omega)) (fun b hb => nomatch (show b ∈ ([] : List (List Tr)) from hb))⟩
theorem src_bad {s : Tr} (h : NoSrc s) : PairK (.tup [bkT x name [setT x s], .tup [.int 0, .tup (intsT [0])]]) ∧ PairK (.tup [bkT x name [ifS x s [] []], .tup [.int 0, .tup (intsT [0])]]) ∧ PairK (.tup [bkT x name [withS x s []], .tup [.int 0, .tup (intsT [0])]]) ∧ PairK (.tup [bkT x name [holdT x x s], .tup [.int 0, .tup (intsT [0])]]) :=
  ⟨bk_first hx hn (no_set h), bk_first hx hn (no_if h), bk_first hx hn (no_with h), bk_first hx hn (no_hold h)⟩
end
/-! many pieces -/
theorem pieces_map {vars : List Str} {blk : List Tr} {ps : Tr} (hp : paramsT ps = true) (hb : (faultD vars 5 blk [] (kindsP ps, 0)).1 = none) : ∀ (ns done : List Str) (i : Nat), (∀ n ∈ ns, nameS n = true) → (done ++ ns).Nodup → piecesL vars (ns.map fun n => pieT n ps blk) i done = none
  | [], _, _, _, _ => rfl
  | n :: r, done, i, h, hd => by
    have hm : n ∉ done := fun z => by
      rw [List.nodup_append] at hd
      exact hd.2.2 n z n List.mem_cons_self rfl
    rw [List.map_cons, pie_step (h n List.mem_cons_self) hp hm, hb]
    exact pieces_map hp hb r (done ++ [n]) (i + 1) (fun z hz => h z (List.mem_cons_of_mem _ hz)) (by rw [List.append_assoc]; exact hd)
section
variable {x name : Str} (hx : nameS x = true) (hn : nameS name = true)
include hx
theorem cnt_pieces {ns : List Str} (h : ∀ n ∈ ns, nameS n = true) (hd : ns.Nodup) (hl : ns.length ≤ 6) : PairK (.tup [.tup [.tup [.str x], .tup (ns.map fun n => pieT n (.tup []) [])], .non]) := pair_none (by
  rw [book_one hx (by rw [List.length_map]; exact hl), pieces_map params0 (by rw [nilD]) ns [] 0 h hd])
theorem cnt_seven {ts : List Tr} (hl : ts.length = 7) : PairK (.tup [.tup [.tup [.str x], .tup ts], .tup []]) := pair_empty (by
  show (if 6 < ts.length then some Place.empty else _) = _
  rw [if_pos (by omega)])
end
theorem names_all : ∀ (ns : List Str), (∀ n ∈ ns, nameS n = true) → (ns.map Tr.str).all nameT = true
  | [], _ => rfl
  | n :: r, h => by
    rw [List.map_cons, List.all_cons, names_all r fun z hz => h z (List.mem_cons_of_mem _ hz)]
    show (nameS n && true) = true
    rw [h n List.mem_cons_self]; rfl
theorem texts_map : ∀ ns : List Str, texts (ns.map Tr.str) = ns
  | [] => rfl
  | n :: r => by
    rw [List.map_cons]
    show n :: texts (r.map Tr.str) = _
    rw [texts_map r]
theorem cnt_vars {ns : List Str} (h : ∀ n ∈ ns, nameS n = true) (hd : ns.Nodup) (hl : 1 ≤ ns.length ∧ ns.length ≤ 3) : PairK (.tup [.tup [.tup (ns.map Tr.str), .tup []], .non]) := pair_none (by
  have e : diffT (ns.map Tr.str) = true := by
    unfold diffT
    rw [names_all ns h, texts_map, decide_eq_true hd]; rfl
  show (if 6 < ([] : List Tr).length then some Place.empty else if 1 ≤ (ns.map Tr.str).length ∧ (ns.map Tr.str).length ≤ 3 ∧ diffT (ns.map Tr.str) = true then piecesL (texts (ns.map Tr.str)) [] 0 [] else some .vars) = none
  rw [if_neg (by simp), if_pos ⟨by rw [List.length_map]; exact hl.1, by rw [List.length_map]; exact hl.2, e⟩]
  rfl)
theorem vars_no {ts ps : List Tr} (hp : ps.length ≤ 6) (h : ¬ (1 ≤ ts.length ∧ ts.length ≤ 3 ∧ diffT ts = true)) : PairK (.tup [.tup [.tup ts, .tup ps], .tup [.str "vars"]]) := pair_vars (by
  show (if 6 < ps.length then some Place.empty else if 1 ≤ ts.length ∧ ts.length ≤ 3 ∧ diffT ts = true then piecesL (texts ts) ps 0 [] else some .vars) = _
  rw [if_neg (by omega), if_neg h])
theorem empty_no {vs ps : List Tr} (h : 6 < ps.length) : PairK (.tup [.tup [.tup vs, .tup ps], .tup []]) := pair_empty (by
  show (if 6 < ps.length then some Place.empty else _) = _
  rw [if_pos h])
section
variable {x name : Str} (hx : nameS x = true) (hn : nameS name = true)
include hx
/-- a first piece that is none -/
theorem first_no {t : Tr} {r : List Tr} (hr : r.length ≤ 5) (h : tripleT t = false) : PairK (.tup [.tup [.tup [.str x], .tup (t :: r)], .tup [.int 0]]) := pair_at (i := 0) (by omega) (by
  rw [book_one hx (by rw [List.length_cons]; omega), pie_bad (fun z => by rw [h] at z; cases z.1)])
/-- a second piece of the name of the first -/
theorem second_no {ps : Tr} {blk : List Tr} {t : Tr} (hn : nameS name = true) (hp : paramsT ps = true) (hb : (faultD [x] 5 blk [] (kindsP ps, 0)).1 = none) (h : wordS t = name) : PairK (.tup [.tup [.tup [.str x], .tup [pieT name ps blk, t]], .tup [.int 1]]) := pair_at (i := 1) (by omega) (by
  rw [book_one hx (by simp), pie_step hn hp (by simp), hb]
  exact pie_bad (fun z => z.2 (by rw [h]; simp)))
end
def pairPs (a b : Str) : Tr := .tup [.tup [.str a, .str "token"], .tup [.str b, .str "context"]]
theorem pair_params {a b : Str} (ha : nameS a = true) (hb : nameS b = true) (h : ¬ a = b) : paramsT (pairPs a b) = true := by
  simp (decide := true) [pairPs, paramsT, paramT, kindT, diffT, firstT, nameT, ha, hb, texts, h]
theorem three_params {a b c : Tr} : paramsT (.tup [a, b, c]) = false := by
  unfold paramsT
  simp
theorem triple_no {n p b : Tr} (h : nameT n = false ∨ paramsT p = false ∨ isTup b = false) : tripleT (.tup [n, p, b]) = false := by
  show (nameT n && paramsT p && isTup b) = false
  rcases h with h | h | h <;> rw [h] <;> simp
section
variable {x name : Str} (hx : nameS x = true) (hn : nameS name = true)
include hx
theorem cnt_pair {a b : Str} (hn : nameS name = true) (ha : nameS a = true) (hb : nameS b = true) (h : ¬ a = b) : PairK (.tup [.tup [.tup [.str x], .tup [pieT name (pairPs a b) []]], .non]) := pair_none (by
  rw [book_one hx (by simp), pie_step hn (pair_params ha hb h) (by simp), nilD]
  rfl)
theorem cnt_full {a b : Str} {ns : List Str} (hns : ∀ n ∈ ns, nameS n = true) (hd : ns.Nodup) (hl : ns.length ≤ 6) (ha : nameS a = true) (hb : nameS b = true) (h : ¬ a = b) : PairK (.tup [.tup [.tup [.str x], .tup (ns.map fun n => pieT n (pairPs a b) (List.replicate 16 (showS x)))], .non]) := pair_none (by
  rw [book_one hx (by rw [List.length_map]; exact hl)]
  refine pieces_map (pair_params ha hb h) ?_ ns [] 0 hns hd
  rw [faultD_eq, reps_in (st_show hx (by simp) (by simp)) 16 0 0 (by omega)])
end
/-! letters -/
theorem eight_ok : PairK (.tup [.tup [.tup [.str "abcdefgh"], .tup [.tup [.str "abcdefgh", .tup [.tup [.str "abcdefgh", .str "token"]], .tup [.tup [.str "hold", .str "abcdefgh", .str "abcdefgh", .str "abcdefgh"]]]]], .non]) := pair_none (by decide +kernel)
section
variable {x name : Str} {z : Str} (hx : nameS x = true) (hn : nameS name = true) (hz : 8 < z.length)
include hz
theorem let_vars : PairK (.tup [.tup [.tup [.str z], .tup []], .tup [.str "vars"]]) := vars_no (by simp) (fun q => by
  have := q.2.2
  unfold diffT at this
  rw [List.all_cons, (long_no hz).nam] at this
  cases this)
include hx
theorem let_piece : PairK (.tup [.tup [.tup [.str x], .tup [.tup [.str z, .tup [], .tup []]]], .tup [.int 0]]) := first_no hx (by simp) (triple_no (.inl (long_no hz).nam))
theorem let_param : PairK (.tup [.tup [.tup [.str x], .tup [.tup [.str name, .tup [.tup [.str z, .str "token"]], .tup []]]], .tup [.int 0]]) := first_no hx (by simp) (triple_no (.inr (.inl (by
  have e : nameT (.str z) = false := (long_no hz).nam
  simp (decide := true) [paramsT, diffT, firstT, e]))))
include hn
theorem let_copy : PairK (.tup [bkT x name [copyT z], .tup [.int 0, .tup (intsT [0])]]) := bk_first hx hn (no_copy (long_no hz))
theorem let_set : PairK (.tup [bkT x name [setT x (.str z)], .tup [.int 0, .tup (intsT [0])]]) := bk_first hx hn (no_set (long_no hz))
end
/-! truths -/
def truT (x f : Str) (a b c d : Tr) : List Tr := [setT x a, holdT f x b, ifS x c [] [], withS x d []]
section
variable {x name f : Str} {u : Int} {b : Bool} (hx : nameS x = true) (hn : nameS name = true) (hf : nameS f = true) (h0 : 0 ≤ u) (h1 : u ≤ 99)
include hx hn hf h0 h1
theorem no_blk {t : Tr} (h : blocksT t = []) : ∀ b ∈ blocksT t, b = [] := fun b hb => by rw [h] at hb; cases hb
theorem tru_ok : PairK (.tup [bkT x name (truT x f (.int u) (.int u) (.int u) (.int u)), .non]) := bk_ok hx hn (by
  rw [faultD_eq, truT, fl_flat (d := 4) (tk_set hx h0 h1 (by omega)) (fun b hb => nomatch (show b ∈ ([] : List (List Tr)) from hb)), fl_flat (d := 4) (tk_hold hx hf h0 h1 (by omega)) (fun b hb => nomatch (show b ∈ ([] : List (List Tr)) from hb)),
    fl_flat (d := 4) (tk_ifI hx h0 h1 (by omega)) (by simp [blocksT, ifS, isTup, tupTs]), fl_flat (d := 4) (tk_withI hx h0 h1 (by omega)) (by simp [blocksT, withS, isTup, tupTs])]
  rfl)
theorem tru_0 : PairK (.tup [bkT x name (truT x f (.bl b) (.int u) (.int u) (.int u)), .tup [.int 0, .tup (intsT [0])]]) := bk_first hx hn (no_set (bl_no b))
theorem tru_1 : PairK (.tup [bkT x name (truT x f (.int u) (.bl b) (.int u) (.int u)), .tup [.int 0, .tup (intsT [1])]]) := bk_no hx hn (by
  rw [faultD_eq, truT, fl_flat (d := 4) (tk_set hx h0 h1 (by omega)) (fun b hb => nomatch (show b ∈ ([] : List (List Tr)) from hb)), fl_bad (t := holdT f x (.bl b)) (no_hold (bl_no b))]) (by simp)
theorem tru_2 : PairK (.tup [bkT x name (truT x f (.int u) (.int u) (.bl b) (.int u)), .tup [.int 0, .tup (intsT [2])]]) := bk_no hx hn (by
  rw [faultD_eq, truT, fl_flat (d := 4) (tk_set hx h0 h1 (by omega)) (fun b hb => nomatch (show b ∈ ([] : List (List Tr)) from hb)), fl_flat (d := 4) (tk_hold hx hf h0 h1 (by omega)) (fun b hb => nomatch (show b ∈ ([] : List (List Tr)) from hb)),
    fl_bad (t := ifS x (.bl b) [] []) (no_if (bl_no b))]) (by simp)
theorem tru_3 : PairK (.tup [bkT x name (truT x f (.int u) (.int u) (.int u) (.bl b)), .tup [.int 0, .tup (intsT [3])]]) := bk_no hx hn (by
  rw [faultD_eq, truT, fl_flat (d := 4) (tk_set hx h0 h1 (by omega)) (fun b hb => nomatch (show b ∈ ([] : List (List Tr)) from hb)), fl_flat (d := 4) (tk_hold hx hf h0 h1 (by omega)) (fun b hb => nomatch (show b ∈ ([] : List (List Tr)) from hb)),
    fl_flat (d := 4) (tk_ifI hx h0 h1 (by omega)) (by simp [blocksT, ifS, isTup, tupTs]), fl_bad (t := withS x (.bl b) []) (no_with (bl_no b))]) (by simp)
end
/-! two faults -/
section
variable {vars : List Str} {d : Nat} {as : List Str} {km m : Km} {n n' i : Nat} {t : Tr} {r a b : List Tr} {w : List Nat}
theorem fl_st1 (h : (stF vars d as km n t).1 = some w) : (faultL vars (recF vars d) as (t :: r) i (km, n)).1 = some (i :: w) := by
  rw [faultL_st]
  cases e : stF vars d as km n t with
  | mk o c =>
  rw [e] at h
  have h : o = some w := h
  subst h
  rfl
theorem st_guard1 (ha : as.length ≤ 4) (hn : n + 1 ≤ 16) (h : (faultL vars (recF vars d) (as ++ [("guard" : Str)]) a 0 (km, n + 1)).1 = some w) : (stF vars (d + 1) as km n (guardS a b)).1 = some (0 :: w) := by
  rw [st_guard ha n hn]
  unfold blocksIn
  simp only [faultD_eq]
  cases e : faultL vars (recF vars d) (as ++ [("guard" : Str)]) a 0 (km, n + 1) with
  | mk o c =>
  rw [e] at h
  have h : o = some w := h
  subst h
  rfl
theorem st_guard2 (ha : as.length ≤ 4) (hn : n + 1 ≤ 16) (h1 : faultL vars (recF vars d) (as ++ [("guard" : Str)]) a 0 (km, n + 1) = (none, (m, n'))) (h : (faultL vars (recF vars d) (as ++ [("guard" : Str)]) b 0 (m, n')).1 = some w) : (stF vars (d + 1) as km n (guardS a b)).1 = some (1 :: w) := by
  rw [st_guard ha n hn]
  unfold blocksIn
  simp only [faultD_eq, h1]
  unfold blocksIn
  try simp only [faultD_eq]
  cases e : faultL vars (recF vars d) (as ++ [("guard" : Str)]) b 0 (m, n') with
  | mk o c =>
  rw [e] at h
  have h : o = some w := h
  subst h
  rfl
theorem tk_holdA {x f : Str} {i : Int} (hx : nameS x = true) (hf : nameS f = true) (h0 : 0 ≤ i) (h1 : i ≤ 99) (ha : as.length ≤ 4) (hn : n ≤ 16) : takesT [x] (holdT f x (.int i)) as [] n = (true, [(f, ("token" : Str))]) := by
  have b1 : ¬ 16 < n := by omega
  have b2 : ¬ 4 < as.length := by omega
  simp (decide := true) [takesT, holdT, ko_hold, fitsT, pt_token, pt_variable, pt_source, nameT, numT, hx, hf, h0, h1, knowsT, kget, sl_token, sl_variable, va_variable, sl_source, va_source, ca_hold, b1, b2]
end
section
variable {x name f : Str} (hx : nameS x = true) (hn : nameS name = true) (hf : nameS f = true) (nf : ¬ name = f)
include hx
theorem tw_1 {t : Tr} : PairK (.tup [.tup [.tup [.str x, .str x], .tup [t]], .tup [.str "vars"]]) := vars_no (by simp) (fun q => by
  have := q.2.2
  simp [diffT, texts] at this)
omit hx in
theorem tw_2 : PairK (.tup [.tup [.tup [], .tup (List.replicate 7 .non)], .tup []]) := empty_no (by simp)
include hn
theorem show1 : (faultD [x] 5 [showS x] [] ([], 0)).1 = none := by
  rw [faultD_eq, show [showS x] = List.replicate 1 (showS x) from rfl, reps_in (st_show hx (by simp) (by simp)) 1 0 0 (by omega)]
theorem tw_3 : PairK (.tup [.tup [.tup [.str x], .tup [pieT name (.tup []) [showS x], pieT name (.tup []) [jumpT]]], .tup [.int 1]]) := second_no hx hn params0 (show1 hx hn) rfl
theorem jump1 {r : List Tr} {m : Km} : (faultD [x] 5 (jumpT :: r) [] (m, 0)).1 = some [0] := by rw [faultD_eq, fl_bad tk_jump]
theorem tw_4 {t : Tr} : PairK (.tup [.tup [.tup [.str x], .tup [pieT name (.tup []) [jumpT], t]], .tup [.int 0, .tup (intsT [0])]]) := pair_way (i := 0) (w := [0]) (by
  rw [book_one hx (by simp), pie_step hn params0 (by simp), jump1 hx hn]) (by omega) (by simp)
theorem tw_5 {b : List Tr} : PairK (.tup [.tup [.tup [.str x], .tup [.tup [.str name, .non, .tup b]]], .tup [.int 0]]) := first_no hx (by simp) (triple_no (.inr (.inl rfl)))
theorem tw_6 : PairK (.tup [bkT x name [guardS [showS x, jumpT] [jumpT], jumpT], .tup [.int 0, .tup (intsT [0, 0, 1])]]) := bk_no hx hn (by
  rw [faultD_eq]
  refine fl_st1 (w := [0, 1]) (st_guard1 (by simp) (by omega) ?_)
  rw [fl_flat (d := 3) (tk_show hx (by simp) (by simp) (by omega)) (fun b hb => nomatch (show b ∈ ([] : List (List Tr)) from hb)), fl_bad tk_jump]) (by simp)
theorem tw_8 : PairK (.tup [bkT x name (List.replicate 16 (showS x) ++ [jumpT]), .tup [.int 0, .tup (intsT [16])]]) := bk_no hx hn (by
  rw [faultD_eq, reps_app (st_show hx (by simp) (by simp)) _ 16 0 0 (by omega), fl_bad tk_jump]) (by simp)
theorem tw_9 : PairK (.tup [bkT x name (List.replicate 15 (showS x) ++ [jumpT, jumpT]), .tup [.int 0, .tup (intsT [15])]]) := bk_no hx hn (by
  rw [faultD_eq, reps_app (st_show hx (by simp) (by simp)) _ 15 0 0 (by omega), fl_bad tk_jump]) (by simp)
theorem tw_7 : PairK (.tup [bkT x name [showS x, loopS [jumpT], jumpT], .tup [.int 0, .tup (intsT [1])]]) := bk_second hx hn (tk_show hx (by simp) (by simp) (by omega)) (fun b hb => nomatch (show b ∈ ([] : List (List Tr)) from hb)) (no_loop2 (by decide +kernel))
include hf
theorem tw_10 : PairK (.tup [bkT x name [copyT f, resetT f, jumpT], .tup [.int 0, .tup (intsT [1])]]) := bk_second hx hn (tk_copy hf (by simp) (by omega)) (fun b hb => nomatch (show b ∈ ([] : List (List Tr)) from hb)) tk_reset_no
theorem tw_11 : PairK (.tup [bkT x name [guardS [holdT f x (.int 0)] [wiT f []]], .tup [.int 0, .tup (intsT [0, 1, 0])]]) := bk_no hx hn (by
  rw [faultD_eq]
  refine fl_st1 (w := [1, 0]) (st_guard2 (m := [(f, ("token" : Str))]) (n' := 2) (by simp) (by omega) ?_ ?_)
  · rw [fl_flat (d := 3) (tk_holdA hx hf (by omega) (by omega) (by simp) (by omega)) (fun b hb => nomatch (show b ∈ ([] : List (List Tr)) from hb))]
    rfl
  · rw [fl_bad tk_within_no]) (by simp)
theorem tw_12 : PairK (.tup [.tup [.tup [.str x], .tup [pieT name (.tup [.tup [.str f, .str "token"]]) [showS x, copyT f]]], .tup [.int 0, .tup (intsT [1])]]) := pair_way (i := 0) (w := [1]) (by
  have hp : paramsT (.tup [.tup [.str f, .str "token"]]) = true := by simp (decide := true) [paramsT, paramT, kindT, diffT, firstT, nameT, hf, texts]
  have hk : kindsP (.tup [.tup [.str f, .str "token"]]) = [(f, ("token" : Str))] := by simp [kindsP, pairKm]
  rw [book_one hx (by simp), pie_step hn hp (by simp), hk, faultD_eq, fl_flat (d := 4) (tk_show hx (by simp) (by simp) (by omega)) (fun b hb => nomatch (show b ∈ ([] : List (List Tr)) from hb)), fl_bad tk_copy_no]) (by omega) (by simp)
include nf
theorem tw_13 : PairK (.tup [.tup [.tup [.str x], .tup [pieT name (.tup []) [copyT f], pieT f (.tup []) [resetT f]]], .non]) := pair_none (by
  have e1 : (faultD [x] 5 [copyT f] [] ([], 0)).1 = none := by
    rw [faultD_eq, fl_flat (d := 4) (tk_copy hf (by simp) (by omega)) (fun b hb => nomatch (show b ∈ ([] : List (List Tr)) from hb))]
    rfl
  have e2 : (faultD [x] 5 [resetT f] [] ([], 0)).1 = none := by
    rw [faultD_eq, fl_flat (d := 4) (tk_reset hf (by simp) (by omega)) (fun b hb => nomatch (show b ∈ ([] : List (List Tr)) from hb))]
    rfl
  have k0 : kindsP (.tup []) = [] := rfl
  rw [book_one hx (by simp), pie_step hn params0 (by simp), k0, e1]
  show piecesL [x] [pieT f (.tup []) [resetT f]] 1 ([] ++ [name]) = none
  rw [pie_step hf params0 (by simpa using fun z => nf z.symm), k0, e2]
  rfl)
omit nf in
theorem tw_14 : PairK (.tup [.tup [.tup [.str x], .tup [pieT name (.tup []) [copyT name], pieT name (.tup []) []]], .tup [.int 1]]) := second_no hx hn params0 (by
    rw [faultD_eq, show kindsP (.tup []) = [] from rfl, fl_flat (d := 4) (tk_copy hn (by simp) (by omega)) (fun b hb => nomatch (show b ∈ ([] : List (List Tr)) from hb))]
    rfl) rfl
end
/-! odd things -/
structure OddK (u : Tr) : Prop where
  ns : NoSrc u
  pa : paramT u = false
  ki : kindT u = false
  st : stT u = false
  tu : ∀ ts, u = .tup ts → yieldT ts = false ∧ ∃ a r, ts = a :: r ∧ stT a = false
section
variable {x name : Str} {u : Tr} (hx : nameS x = true) (hn : nameS name = true) (hu : OddK u)
include hx hu
theorem od_1 : PairK (.tup [.tup [.tup [.str x], .tup [.tup [u, .tup [], .tup []]]], .tup [.int 0]]) := first_no hx (by simp) (triple_no (.inl hu.ns.nam))
theorem od_2 : PairK (.tup [.tup [.tup [.str x], .tup [.tup [.str name, .tup [u], .tup []]]], .tup [.int 0]]) := first_no hx (by simp) (triple_no (.inr (.inl (by
  unfold paramsT
  simp [hu.pa]))))
theorem od_3 : PairK (.tup [.tup [.tup [.str x], .tup [.tup [.str name, .tup [.tup [u, .str "token"]], .tup []]]], .tup [.int 0]]) := first_no hx (by simp) (triple_no (.inr (.inl (by
  have e : nameT u = false := hu.ns.nam
  simp (decide := true) [paramsT, diffT, firstT, e]))))
theorem od_4 : PairK (.tup [.tup [.tup [.str x], .tup [.tup [.str name, .tup [.tup [.str x, u]], .tup []]]], .tup [.int 0]]) := first_no hx (by simp) (triple_no (.inr (.inl (by
  unfold paramsT
  simp [paramT, hu.ki]))))
include hn
theorem od_5 : ∀ t ∈ [setT x u, .tup [.str "set", u, .int 0], .tup [.str "copy", u], ifS x u [] [], .tup [.str "show", u]], PairK (.tup [bkT x name [t], .tup [.int 0, .tup (intsT [0])]]) := by
  intro t ht
  simp only [List.mem_cons, List.not_mem_nil, or_false] at ht
  rcases ht with rfl | rfl | rfl | rfl | rfl
  · exact bk_first hx hn (no_set hu.ns)
  · exact bk_first hx hn (no_set1 hu.ns)
  · exact bk_first hx hn (no_copy hu.ns)
  · exact bk_first hx hn (no_if hu.ns)
  · exact bk_first hx hn (no_show hu.ns)
theorem od_6 : PairK (.tup [bkT x name [showS x, u], .tup [.int 0, .tup (intsT [1])]]) := bk_second hx hn (tk_show hx (by simp) (by simp) (by omega)) (fun b hb => nomatch (show b ∈ ([] : List (List Tr)) from hb)) (tk_not hu.st)
theorem od_7 : PairK (.tup [bkT x name [.tup [.str "loop", u]], .tup [.int 0, .tup (intsT [0])]]) := by
  cases u with
  | tup ts => exact bk_first hx hn (no_loop2 (hu.tu ts rfl).1)
  | _ => exact bk_first hx hn (no_loop rfl)
theorem od_8 : PairK (.tup [bkT x name [.tup [.str "guard", u, .tup []]], .tup [.int 0, .tup (intsT (if isTup u = true then [0, 0, 0] else [0]))]]) := by
  cases u with
  | tup ts =>
    obtain ⟨_, a, r, rfl, ha⟩ := hu.tu ts rfl
    refine bk_no hx hn (w := [0, 0, 0]) ?_ (by simp)
    rw [faultD_eq]
    exact fl_st1 (t := guardS (a :: r) []) (w := [0, 0]) (st_guard1 (by simp) (by omega) (fl_bad (tk_not ha)))
  | _ => exact bk_first hx hn (no_guard rfl)
theorem od_yield : PairK (.tup [bkT x name (List.replicate 20000 yieldS), .tup [.int 0, .tup (intsT [16])]]) := bk_no hx hn (by
  rw [faultD_eq, reps_over (st_yield (by decide) (by simp)) 20000 0 0 (by omega) (by omega)]) (by simp)
omit hu hn
theorem od_wide : PairK (.tup [.tup [.tup [.str x], .tup (List.replicate 20000 .non)], .tup []]) := empty_no (by rw [List.length_replicate]; omega)
theorem od_vars : PairK (.tup [.tup [.tup (List.replicate 20000 (.str x)), .tup []], .tup [.str "vars"]]) := vars_no (by simp) (fun q => by
  have := q.2.1
  rw [List.length_replicate] at this
  omega)
end
def deepT : Nat → Tr
  | 0 => .tup []
  | n + 1 => .tup [deepT n]
def wideT : Nat → Tr
  | 0 => .tup [.tup [], .tup []]
  | n + 1 => .tup [wideT n, wideT n]
theorem deep_tup : ∀ n, ∃ ts, deepT n = .tup ts ∧ stT (deepT n) = false
  | 0 => ⟨[], rfl, rfl⟩
  | n + 1 => ⟨[deepT n], rfl, by
    obtain ⟨ts, e, _⟩ := deep_tup n
    show stT (.tup [deepT n]) = false
    rw [e]
    rfl⟩
theorem wide_tup : ∀ n, ∃ a b, wideT n = .tup [.tup a, .tup b] ∧ stT (wideT n) = false
  | 0 => ⟨[], [], rfl, rfl⟩
  | n + 1 => by
    obtain ⟨a, b, e, _⟩ := wide_tup n
    refine ⟨[.tup a, .tup b], [.tup a, .tup b], ?_, ?_⟩
    · show Tr.tup [wideT n, wideT n] = _
      rw [e]
    · show stT (.tup [wideT n, wideT n]) = false
      rw [e]
      rfl
theorem yield_st {t : Tr} (h : stT t = false) : isYield t = false := by
  cases t with
  | tup l =>
    cases l with
    | nil => rfl
    | cons y r =>
      cases y with
      | str z => exact Bool.noConfusion h
      | _ => rfl
  | _ => rfl
theorem deep_oddK (n : Nat) : OddK (deepT (n + 1)) := by
  obtain ⟨ts, e, h⟩ := deep_tup n
  refine ⟨⟨rfl, rfl⟩, rfl, rfl, (deep_tup (n + 1)).choose_spec.2, fun us eu => ?_⟩
  have : us = [deepT n] := (Tr.tup.inj eu).symm
  subst this
  exact ⟨by simp [yieldT, yield_st h], deepT n, [], rfl, h⟩
theorem wide_oddK (n : Nat) : OddK (wideT (n + 1)) := by
  obtain ⟨a, b, e, h⟩ := wide_tup n
  refine ⟨⟨rfl, rfl⟩, ?_, rfl, (wide_tup (n + 1)).choose_spec.choose_spec.2, fun us eu => ?_⟩
  · show kindT (wideT n) = false
    rw [e]; rfl
  have : us = [wideT n, wideT n] := (Tr.tup.inj eu).symm
  subst this
  exact ⟨by simp [yieldT, yield_st h], wideT n, _, rfl, h⟩
theorem lst_oddK : OddK .lst := ⟨⟨rfl, rfl⟩, rfl, rfl, rfl, fun _ e => nomatch e⟩
theorem dct_oddK : OddK .dct := ⟨⟨rfl, rfl⟩, rfl, rfl, rfl, fun _ e => nomatch e⟩
theorem int_oddK {i : Int} (h : i < 0 ∨ 99 < i) : OddK (.int i) := ⟨int_no h, rfl, rfl, rfl, fun _ e => nomatch e⟩
theorem pair_oddK (n : Nat) : OddK (.tup [deepT (n + 1), .lst]) := by
  obtain ⟨ts, e, h⟩ := deep_tup (n + 1)
  refine ⟨⟨rfl, rfl⟩, rfl, rfl, rfl, fun us eu => ?_⟩
  have : us = [deepT (n + 1), .lst] := (Tr.tup.inj eu).symm
  subst this
  exact ⟨by simp [yieldT, yield_st h, yield_st (show stT .lst = false from rfl)], _, _, rfl, h⟩
theorem deep_no {n : Nat} : PairK (.tup [deepT (n + 1), .tup []]) := pair_empty (by
  obtain ⟨ts, e, h⟩ := deep_tup n
  show faultT (.tup [deepT n]) = _
  rw [e]
  rfl)
theorem wide_no {n : Nat} : PairK (.tup [wideT (n + 2), .tup [.str "vars"]]) := by
  obtain ⟨a, b, e, h⟩ := wide_tup n
  have e2 : wideT (n + 2) = .tup [.tup [wideT n, wideT n], .tup [wideT n, wideT n]] := rfl
  rw [e2]
  refine vars_no (by simp) (fun q => ?_)
  have := q.2.2
  rw [e] at this
  cases this
theorem deep_vars {n : Nat} : PairK (.tup [.tup [deepT (n + 1), .tup []], .tup [.str "vars"]]) := vars_no (ts := [deepT n]) (by simp) (fun q => by
  have := q.2.2
  obtain ⟨ts, e, h⟩ := deep_tup n
  rw [e] at this
  cases this)
end BK

set_option Elab.async false
set_option maxRecDepth 100000
set_option maxHeartbeats 4000000
set_option linter.unusedVariables false
/-! rules; what is gathered -/
namespace L2
open PySem PySem.Spec PyProof.Rows
def rRepB (K : PySem.W.Frag) : R2 := fun x y H Q => ∃ l k xs, x = .ref l ∧ y = .int k ∧ SqT K H l xs ∧ xs ≠ [] ∧ 2 ≤ k ∧ k ≤ 20000 ∧ xs.length ≤ 3 ∧ ∀ p, H p = none → Q (.ref p) (upd H p (.tup (List.replicate k.toNat xs).flatten))
section
variable {X : Cx}
theorem op_repB : OpR X (binaryOp .Mult) (rRepB X.K) := by
  intro pins s σ H x y v u Q I rx ry h
  obtain ⟨l, k, xs, rfl, rfl, hT, hne, h1, h2, hz, q⟩ := h
  cases rx
  obtain ⟨t, rfl⟩ := ry
  obtain ⟨its, r, ⟨⟨cls, dd, data, sl⟩, ho, hc, n, hd⟩, hs⟩ := I.tuple hT
  simp only at hc hd
  subst hc hd
  have hle : its.length = xs.length := r.length.symm
  have hn : its ≠ [] := fun e => hne (by
    rw [e] at hle
    exact List.eq_nil_of_length_eq_zero hle.symm)
  have hi : its.toArray.isEmpty = false := by
    cases its with
    | nil => exact absurd rfl hn
    | cons a b => rfl
  have hsz0 : its.toArray.size = xs.length := by rw [List.size_toArray, hle]
  have hm : ((its.toArray.size : Nat) : Int) * k ≤ 1000000 := by
    rw [hsz0]
    have a1 : ((xs.length : Nat) : Int) * k ≤ 3 * k := Int.mul_le_mul_of_nonneg_right (by omega) (by omega)
    omega
  have a0 : k.toNat * xs.length ≤ 20000 * 3 := Nat.mul_le_mul (by omega) hz
  have flen : (List.replicate k.toNat its).flatten.length ≤ sizeLine := by
    rw [PyProof.Rows.lm_len_rep_flat, hle, sizeLine_eq]
    omega
  have c0 : (decide (k < -(2 ^ 63)) || decide (k ≥ 2 ^ 63)) = false := by
    rw [decide_eq_false (by omega), decide_eq_false (by omega)] <;> rfl
  have c1 : (its.toArray.isEmpty || k == 1) = false := by
    rw [hi, Bool.false_or]
    exact beq_eq_false_iff_ne.mpr (by omega)
  have c2 : (decide (k ≤ 0) || its.toArray.isEmpty) = false := by
    rw [hi, Bool.or_false]
    exact decide_eq_false (by omega)
  have c4 : Builtin.Tuple.tupleTooMany (((its.toArray.size : Nat) : Int) * k) = false := by
    unfold Builtin.Tuple.tupleTooMany
    rw [sizeLine_eq]
    exact decide_eq_false (by omega)
  refine wpAny_binaryOp_repeat_ref (T := "tuple") (U := "int") (by decide) ⟨_, ho, rfl⟩ (fun s' => typeIs_int s' k t) noFill_tuple_mul F.fills_int_mul F.slot_int_rmul repeat_tuple F.slot_int_index.lookup
    (call_meets F.slot_int_rmul (typeIs_int s k t) F.entry_int_rmul (F.args_int_rmul_2 _ _) (int_rmul_tuple k t l its.toArray n dd sl)
      ⟨ho, rfl, ⟨_, ho, rfl⟩, call_meets F.slot_tuple_mul ⟨_, ho, rfl⟩ F.entry_tuple_mul (F.args_tuple_mul_2 _ _) (tuple_mulW l its.toArray n dd sl k t c0 c1 c2 (by omega) c4 (by rw [size_rep, List.size_toArray]; exact flen)) ⟨ho, ?_⟩⟩)
  rw [size_rep]
  refine ⟨.ref s.heap.objs.size, _, I.laid (t' := s.toks) (o := .tup (List.replicate k.toNat xs).flatten) (fun b ob q => Heap.get?_push_of_some _ q) (Nat.le_refl _) ?_, rfl, q _ (I.hok.fresh (Nat.le_refl _))⟩
  exact ⟨by rw [PyProof.Rows.lm_len_rep_flat, sizeLine_eq]; omega, _, r.rep k.toNat, IsTup.new _ _⟩
end
end L2
namespace BK
open PySem PySem.Spec PyProof.Rows L2 SW RZ ET
/-- tuples and trees stay -/
structure Kp (K : PySem.W.Frag) (H H' : Hp) : Prop where
  s : ∀ p xs, SqT K H p xs → SqT K H' p xs
  t : ∀ v t, TrAt K H v t → TrAt K H' v t
section
variable {K : PySem.W.Frag} {H H' H'' : Hp}
theorem Kp.refl : Kp K H H := ⟨fun _ _ h => h, fun _ _ h => h⟩
theorem Kp.trans (x : Kp K H H') (y : Kp K H' H'') : Kp K H H'' := ⟨fun p xs h => y.s _ _ (x.s _ _ h), fun v t h => y.t _ _ (x.t _ _ h)⟩
theorem Kp.of (e : Same H H') : Kp K H H' := ⟨fun p xs h => sqt_same e h, fun v t h => h.same e⟩
theorem Kp.rnd {a : RA} {n n' : Nat} (R : Rnd H a n) (R' : Rnd H' a n') (b : But a H H') : Kp K H H' := ⟨fun p xs h => sqt_but R b h, fun v t h => h.rnd R R' b⟩
theorem kp_all (k : Kp K H H') : ∀ {vs : List V} {ts : List Tr}, TrAll K H vs ts → TrAll K H' vs ts
  | _, _, .nil => .nil
  | _, _, .cons h r => .cons (k.t _ _ h) (kp_all k r)
theorem Gt.kp {L : List (Nat × Tr)} {σ : L2.St} (g : Gt K L σ H) (e : Kp K H H') : Gt K L σ H' := fun p hp => by
  obtain ⟨v, h1, h2⟩ := g p hp
  exact ⟨v, h1, e.t _ _ h2⟩
end
theorem sqt_updL2 {K : PySem.W.Frag} {H : Hp} {D p : Addr} {ys ys' xs : List V} (e : H D = some (.lst ys)) (h : SqT K H p xs) : SqT K (upd H D (.lst ys')) p xs := by
  rcases h with (h | ⟨u, h⟩) | h
  · exact .inl (.inl (by rw [upd_ne (ne_of h e (by intro z; cases z))]; exact h))
  · exact .inl (.inr ⟨u, by rw [upd_ne (ne_of h e (by intro z; cases z))]; exact h⟩)
  · exact .inr h
theorem Kp.upd {K : PySem.W.Frag} {H : Hp} {D : Addr} {ys ys' : List V} (e : H D = some (.lst ys)) : Kp K H (upd H D (.lst ys')) := ⟨fun p xs h => sqt_updL2 e h, fun v t h => h.updL e⟩
/-- a list of books with their places, at most m -/
def Coll (K : PySem.W.Frag) (H : Hp) (D : Addr) (m : Nat) : Prop := ∃ vs ts, H D = some (.lst vs) ∧ TrAll K H vs ts ∧ ts.length ≤ m ∧ ∀ p ∈ ts, PairK p
section
variable {K : PySem.W.Frag} {H H' H'' : Hp} {a : RA} {n n' : Nat} {D : Addr} {m m' : Nat}
theorem Coll.same (C : Coll K H D m) (e : Same H H') : Coll K H' D m := by
  obtain ⟨vs, ts, h1, h2, h3, h4⟩ := C
  exact ⟨vs, ts, e _ _ h1, h2.same e, h3, h4⟩
theorem Coll.more (C : Coll K H D m) (h : m ≤ m') : Coll K H D m' := by
  obtain ⟨vs, ts, h1, h2, h3, h4⟩ := C
  exact ⟨vs, ts, h1, h2, Nat.le_trans h3 h, h4⟩
theorem Coll.rnd (C : Coll K H D m) (o : SW.Off a D) (R : Rnd H a n) (R' : Rnd H' a n') (b : But a H H') : Coll K H' D m := by
  obtain ⟨vs, ts, h1, h2, h3, h4⟩ := C
  exact ⟨vs, ts, b.at o h1, h2.rnd R R' b, h3, h4⟩
/-- one more -/
theorem Coll.push (C : Coll K H D m) {v : V} {p : Tr} (tv : TrAt K H v p) (hp : PairK p) (hm : m ≤ 900) : ∃ vs, H D = some (.lst vs) ∧ vs.length < sizeLine ∧ Coll K (upd H D (.lst (vs ++ [v]))) D (m + 1) ∧ Kp K H (upd H D (.lst (vs ++ [v]))) := by
  obtain ⟨vs, ts, h1, h2, h3, h4⟩ := C
  refine ⟨vs, h1, small1000 (by rw [h2.len]; omega), ⟨vs ++ [v], ts ++ [p], upd_same, (h2.updL h1).app (.cons (tv.updL h1) .nil), by rw [List.length_append]; simp; omega, fun q hq => ?_⟩, Kp.upd h1⟩
  rcases List.mem_append.mp hq with hq | hq
  · exact h4 q hq
  · rw [List.mem_singleton.mp hq]; exact hp
end
/-- a place in a def: its slots, what they hold, what was gathered -/
def Stg (K : PySem.W.Frag) (L : List (Nat × Tr)) (σ0 : L2.St) (D : Addr) (H0 : Hp) (m : Nat) : L2.St → Hp → Prop := fun σ H => σ = σ0 ∧ Gt K L σ0 H ∧ Coll K H D m ∧ Same H0 H
section
variable {X : Cx} {L : List (Nat × Tr)} {i : Nat} {te : TE} {u : Tr} {us : List Tr} {σ0 σ : L2.St} {H0 H : Hp} {D : Addr} {m : Nat} {E : Ends}
theorem app_stage (r : ∀ σ H Q, Gt X.K L σ H → (∀ v H', Same H H' → TrAt X.K H' v u → Q v H') → te σ H Q) (S : Stg X.K L σ0 D H0 m σ H) (hσ : σ0[i]? = some (some (.ref D))) (nD : H0 D = none) (hp : PairK u) (hm : m ≤ 900)
    (k : ∀ H', Stg X.K L σ0 D H0 (m + 1) σ0 H' → E.nx σ0 H') : (tDrop (tBM X.K "list" rAppend (tVar i) (tCons te tNil))) E σ H := by
  obtain ⟨rfl, g, C, s0⟩ := S
  obtain ⟨vs0, _, e0, _⟩ := id C
  refine ⟨.ref D, hσ, .inl ⟨rfl, _, SqL.of e0⟩, r _ H _ g fun v H1 s1 t1 => ?_⟩
  obtain ⟨vs, e1, lt, C2, kp⟩ := (C.same s1).push t1 hp hm
  refine ⟨D, vs, v, rfl, rfl, e1, lt, k _ ⟨rfl, (g.same s1).kp kp, C2, fun b o eb => ?_⟩⟩
  rw [upd_ne (ne_of_none eb nD)]
  exact s1 _ _ (s0 b o eb)
/-- some = some + [..] -/
theorem cat_stage (r : ∀ σ H Q, Gt X.K L σ H → (∀ a vs H', Same H H' → H a = none → H' a = some (.lst vs) → TrAll X.K H' vs us → Q (.ref a) H') → te σ H Q) (g : Gt X.K L σ H) (hσ : σ[i]? = some (some (.ref D))) (C : Coll X.K H D m) (s0 : Same H0 H) (hp : ∀ u ∈ us, PairK u) (hm : m ≤ 500) (hu : us.length ≤ 400) {Q : VK}
    (k : ∀ p H', Same H0 H' → Same H H' → H0 p = none → Coll X.K H' p (m + us.length) → Q (.ref p) H') : tOp rCat (tVar i) te σ H Q := by
  obtain ⟨vs, ts, h1, h2, h3, h4⟩ := C
  refine ⟨.ref D, hσ, r σ H _ g fun b ws H1 s1 nb eb tb => ?_⟩
  have e1 := s1 _ _ h1
  have l1 := h2.len
  have l2 := tb.len
  refine ⟨D, b, vs, ws, rfl, rfl, e1, eb, by rw [sizeLine_eq]; omega, fun p np => ?_⟩
  have s2 := same_new (o := .lst (vs ++ ws)) np
  refine k p _ ((s0.trans s1).trans s2) (s1.trans s2) ((s0.trans s1).free np) ⟨vs ++ ws, ts ++ us, upd_same, ((h2.same s1).app tb).same s2, by rw [List.length_append]; omega, fun q hq => ?_⟩
  rcases List.mem_append.mp hq with hq | hq
  · exact h4 q hq
  · exact hp q hq
end
/-! a book of one piece -/
def bk3 (x n b : Tr) : Tr := .tup [.tup [x], .tup [.tup [n, .tup [], b]]]
def spLBook (K : PySem.W.Frag) : Sp := fun vs H Q _ => ∃ v1 v2 v3 t1 t2 t3, vs = [v1, v2, v3] ∧ TrAt K H v1 t1 ∧ TrAt K H v2 t2 ∧ TrAt K H v3 t3 ∧ ∀ v H', Same H H' → TrAt K H' v (bk3 t1 t2 t3) → Q v H'
abbrev sLBook : Stmt := top 55
theorem scLBook : FnScope ["x", "name", "block"] ["x", "name", "block"] (defScope sLBook) := ⟨rfl, rfl, rfl, by decide +kernel, rfl, by decide +kernel, by decide +kernel⟩
section
variable {P : Program} {w : World} {K : PySem.W.Frag} {mg : Str → Option Value} {base : Heap}
theorem ok_lbook {f : Addr} {fd : FuncData} (F : Fun K "_law_book" "_law_book" sLBook f fd) : FnOk P w K mg base CX0 1 f fd ["x", "name", "block"] (spLBook K) := by
  refine F.ok scLBook (fun vs H Q E h => ?_) (fun cdv A outer s H vs Q E hr h => ?_)
  · obtain ⟨v1, v2, v3, t1, t2, t3, rfl, _⟩ := h
    rfl
  · obtain ⟨v1, v2, v3, t1, t2, t3, rfl, h1, h2, h3, k⟩ := h
    refine ⟨_, pss_one (ps_ret (pe_tup (pa_cons (pe_tup (pa_cons (pv 0) pa_nil)) (pa_cons (pe_tup (pa_cons (pe_tup (pa_cons (pv 1) (pa_cons (pe_tup pa_nil) (pa_cons (pv 2) pa_nil)))) pa_nil)) pa_nil)))), ?_⟩
    refine ⟨_, rfl, (by show 1 ≤ sizeLine; decide), fun q1 n1 => ⟨_, rfl, Nat.zero_le _, fun q2 n2 => ⟨_, rfl, (by show 3 ≤ sizeLine; decide), fun q3 n3 => ⟨(by show 1 ≤ sizeLine; decide), fun q4 n4 => ⟨(by show 2 ≤ sizeLine; decide), fun q5 n5 => ?_⟩⟩⟩⟩⟩
    obtain ⟨a1, b1⟩ := new_tr n1 (.cons h1 .nil)
    generalize upd H q1 (.tup [v1]) = F1 at a1 b1 n2 n3 n4 n5 ⊢
    obtain ⟨a2, b2⟩ := new_tr (K := K) n2 .nil
    generalize upd F1 q2 (.tup []) = F2 at a2 b2 n3 n4 n5 ⊢
    have a12 := a1.trans a2
    obtain ⟨a3, b3⟩ := new_tr n3 (.cons (h2.same a12) (.cons b2 (.cons (h3.same a12) .nil)))
    generalize upd F2 q3 (.tup [v2, .ref q2, v3]) = F3 at a3 b3 n4 n5 ⊢
    obtain ⟨a4, b4⟩ := new_tr n4 (.cons b3 .nil)
    generalize upd F3 q4 (.tup [.ref q3]) = F4 at a4 b4 n5 ⊢
    obtain ⟨a5, b5⟩ := new_tr n5 (.cons ((b1.same a2).same (a3.trans a4)) (.cons b4 .nil))
    exact k _ _ ((a12.trans a3).trans (a4.trans a5)) b5
end
section
variable {X : Cx} {L : List (Nat × Tr)} {f : Addr} {fd : FuncData} {e1 e2 e3 : Expr} {x n b : Tr} {p pos : Pos}
theorem et_book (GB : FnOk X.prog X.w X.K X.mg X.base CX0 1 f fd ["x", "name", "block"] (spLBook X.K)) (bB : Binds X.K fd ["x", "name", "block"] []) (gB : X.mg "_law_book" = some (.ref f)) (kB : PySem.W.keepIn X.K (.ref f) = true) (hr : Room 1 X.A)
    (h1 : ETr X L e1 x) (h2 : ETr X L e2 n) (h3 : ETr X L e3 b) (hg : Gl X "_law_book" := by rfl)
    (s1 : starEach [e1, e2, e3] X.env = (false, eval e1 X.env) :: starEach [e2, e3] X.env := by rfl) (s2 : starEach [e2, e3] X.env = (false, eval e2 X.env) :: starEach [e3] X.env := by rfl) (s3 : starEach [e3] X.env = (false, eval e3 X.env) :: starEach [] X.env := by rfl) (hpl : (backTo pos (starEach [e2, e3] X.env)).any (·.1) = false := by rfl) :
    ETr X L (.Call (.Name "_law_book" p) [e1, e2, e3] [] pos) (bk3 x n b) := by
  obtain ⟨t1, p1, r1⟩ := h1
  obtain ⟨t2, p2, r2⟩ := h2
  obtain ⟨t3, p3, r3⟩ := h3
  refine ⟨_, pe_call GB hr hg gB kB bB .nil pass0 (pa_cons p1 (pa_cons p2 (pa_cons p3 pa_nil s3) s2) s1) (by decide) s1 hpl, fun σ H Q g k => ?_⟩
  refine r1 σ H _ g fun v1 H1 s1 a1 => r2 σ H1 _ (g.same s1) fun v2 H2 s2 a2 => r3 σ H2 _ (g.same (s1.trans s2)) fun v3 H3 s3 a3 => ?_
  exact ⟨v1, v2, v3, x, n, b, rfl, (a1.same s2).same s3, a2.same s3, a3, fun v H4 s4 tv => k v H4 ((s1.trans s2).trans (s3.trans s4)) tv⟩
theorem et_rep {u : Tr} {k : Int} (h1 : ETr X L e1 (.tup [u])) (h2 : ETr X L e2 (.int k)) (k0 : 0 ≤ k) (k1 : k ≤ 1000) : ETr X L (.BinOp e1 .Mult e2 pos) (.tup (List.replicate k.toNat u)) := by
  obtain ⟨t1, p1, r1⟩ := h1
  obtain ⟨t2, p2, r2⟩ := h2
  refine ⟨_, pe_op op_repA p1 p2, fun σ H Q g kk => r1 σ H _ g fun v1 H1 s1 a1 => r2 σ H1 _ (g.same s1) fun v2 H2 s2 a2 => ?_⟩
  have a1 := a1.same s2
  cases a1 with
  | @tup a vs _ ha tr =>
  cases tr with
  | @cons v _ _ _ hv tr =>
  cases tr with
  | nil =>
  cases a2
  refine ⟨a, k, [v], rfl, rfl, ha, by simp, k0, k1, by simp, fun p H3 s3 h3 => kk _ _ ((s1.trans s2).trans s3) ?_⟩
  have e : (List.replicate k.toNat [v]).flatten = List.replicate k.toNat v := by simp
  rw [e] at h3
  refine .tup h3 ?_
  have hv := hv.same s3
  clear h3 e
  induction k.toNat with
  | zero => exact .nil
  | succ n ih => exact .cons hv ih
theorem et_repB {u : Tr} {k : Int} (h1 : ETr X L e1 (.tup [u])) (h2 : ETr X L e2 (.int k)) (k0 : 2 ≤ k) (k1 : k ≤ 20000) : ETr X L (.BinOp e1 .Mult e2 pos) (.tup (List.replicate k.toNat u)) := by
  obtain ⟨t1, p1, r1⟩ := h1
  obtain ⟨t2, p2, r2⟩ := h2
  refine ⟨_, pe_op op_repB p1 p2, fun σ H Q g kk => r1 σ H _ g fun v1 H1 s1 a1 => r2 σ H1 _ (g.same s1) fun v2 H2 s2 a2 => ?_⟩
  have a1 := a1.same s2
  cases a1 with
  | @tup a vs _ ha tr =>
  cases tr with
  | @cons v _ _ _ hv tr =>
  cases tr with
  | nil =>
  cases a2
  refine ⟨a, k, [v], rfl, rfl, ha, by simp, k0, k1, by simp, fun p np => kk _ _ ((s1.trans s2).trans (same_new np)) ?_⟩
  have e : (List.replicate k.toNat [v]).flatten = List.replicate k.toNat v := by simp
  rw [e]
  refine .tup (SqT.of upd_same) ?_
  have hv := hv.same (same_new (o := .tup (List.replicate k.toNat v)) np)
  generalize L2.upd H2 p (.tup (List.replicate k.toNat v)) = H3 at hv ⊢
  induction k.toNat with
  | zero => exact .nil
  | succ n ih => exact .cons hv ih
theorem et_sub {i j : Int} (h1 : ETr X L e1 (.int i)) (h2 : ETr X L e2 (.int j)) : ETr X L (.BinOp e1 .Sub e2 pos) (.int (i - j)) := by
  obtain ⟨t1, p1, r1⟩ := h1
  obtain ⟨t2, p2, r2⟩ := h2
  refine ⟨_, pe_op op_sub p1 p2, fun σ H Q g kk => r1 σ H _ g fun v1 H1 s1 a1 => r2 σ H1 _ (g.same s1) fun v2 H2 s2 a2 => ?_⟩
  cases a1
  cases a2
  exact ⟨i, j, rfl, rfl, kk _ _ (s1.trans s2) (.int _)⟩
theorem op_powW7 {X : Cx} : OpR X (binaryOp .Pow) (rI (fun i j => 0 ≤ j ∧ (Builtin.Int.intBits i : Int) * j ≤ 2 ^ 27) fun i j => .int (i ^ j.toNat)) := opI fun _ _ _ _ _ _ _ hc q => pow_int hc.1 hc.2 q
theorem et_powW {i j : Int} {b : Nat} {q2 : Pos} (h : ETr X L e1 (.int i)) (c : 0 ≤ j ∧ (Builtin.Int.intBits i : Int) * j ≤ 2 ^ 27) : ETr X L (.BinOp e1 .Pow (.Constant (.int j) b q2) pos) (.int (i ^ j.toNat)) := by
  obtain ⟨te, p, q⟩ := h
  refine ⟨_, pe_op op_powW7 p pe_int, fun σ H Q g k => q σ H _ g fun v H1 s1 t1 => ?_⟩
  cases t1
  exact ⟨i, j, rfl, rfl, c, k _ H1 s1 (.int _)⟩
theorem et_negE {i : Int} (h : ETr X L e1 (.int i)) : ETr X L (.UnaryOp .USub e1 pos) (.int (-i)) := by
  obtain ⟨te, p, q⟩ := h
  refine ⟨_, pe_un un_neg p, fun σ H Q g k => q σ H _ g fun v H1 s1 t1 => ?_⟩
  cases t1
  exact ⟨i, rfl, k _ H1 s1 (.int _)⟩
def bigI : Int := ((10 : Int) ^ (60 : Int).toNat) ^ (50 : Int).toNat
theorem big_bits : (0 : Int) ≤ 50 ∧ (Builtin.Int.intBits ((10 : Int) ^ (60 : Int).toNat) : Int) * 50 ≤ 2 ^ 27 := by decide +kernel
theorem ten_bits : (0 : Int) ≤ 60 ∧ (Builtin.Int.intBits (10 : Int) : Int) * 60 ≤ 2 ^ 27 := by decide +kernel
theorem big_no : NoSrc (.int bigI) := int_no (.inr (by decide +kernel))
theorem big_neg : NoSrc (.int (-bigI)) := int_no (.inl (by decide +kernel))
end
/-- what a def of the law tells: a list of books -/
def Tells (K : PySem.W.Frag) (m : Nat) (H : Hp) (Q : VK) : Prop := ∀ p H', Same H H' → H p = none → Coll K H' p m → Q (.ref p) H'
end BK

set_option Elab.async false
set_option maxRecDepth 100000
set_option maxHeartbeats 1000000
namespace L2
open PySem PySem.Spec PyProof.Rows
section
variable {X : Cx}
theorem rep_size {α : Type} (a : Array α) : ∀ (n : Nat) (acc : Array α), ((List.replicate n a).foldl (· ++ ·) acc).size = acc.size + n * a.size
  | 0, acc => by simp
  | n + 1, acc => by
    rw [List.replicate_succ, List.foldl_cons, rep_size a n, Array.size_append, Nat.add_mul]
    omega
theorem op_mulZ : OpR X (binaryOp .Mult) (fun x y H Q => x = .str "z" ∧ y = .int 20000 ∧ ∀ z : Str, z.length = 20000 → Q (.str z) H) := by
  intro pins s σ H x y v u Q I rx ry h
  obtain ⟨rfl, rfl, q⟩ := h
  obtain ⟨t, rfl⟩ := rx
  obtain ⟨t2, rfl⟩ := ry
  have e : (((List.replicate (20000 : Int).toNat ("z" : Str).cps).foldl (· ++ ·) #[])).size = 20000 := by
    rw [rep_size]
    have : ("z" : Str).cps.size = 1 := by decide
    rw [this]
    rfl
  have key : ∀ arr, arr.size = 20000 → (Made.str ⟨arr⟩).post (fun v s' => ∃ z H', Inv X pins σ H' s' ∧ RelV z v ∧ Q z H') s := fun arr ea =>
    ⟨(by show arr.size ≤ sizeLine; rw [ea, sizeLine_eq]; omega), ⟨.str ⟨arr⟩, H, I.tok _, ⟨_, rfl⟩, q ⟨arr⟩ ea⟩⟩
  refine PySem.P.mul_str (by decide) (fun _ _ => by decide) (fun _ _ => ?_) ?_
  · have l1 : ("z" : Str).length = 1 := by decide
    rw [l1]
    exact decide_eq_false (by rw [sizeLine_eq]; omega)
  · rw [if_neg (by decide)]
    rw [if_neg (by decide)]
    exact key _ e
end
end L2

set_option Elab.async false
set_option maxRecDepth 100000
set_option maxHeartbeats 4000000
set_option linter.unusedVariables false
/-! _law_twice -/
namespace BK
open PySem PySem.Spec PyProof.Rows L2 SW RZ ET
abbrev sTw : Stmt := top 61
abbrev nTw : List Str := ["x", "name", "far", "jump", "show", "good", "some"]
theorem scTw : FnScope nTw ["x", "name", "far"] (defScope sTw) := ⟨rfl, rfl, rfl, by decide +kernel, rfl, by decide +kernel, by decide +kernel⟩
def spTw (K : PySem.W.Frag) : Sp := fun vs H Q _ => ∃ x name far : Str, vs = [.str x, .str name, .str far] ∧ nameS x = true ∧ nameS name = true ∧ nameS far = true ∧ (¬ name = far) ∧ Tells K 20 H Q
abbrev LTw0 (x name far : Str) : List (Nat × Tr) := [(0, .str x), (1, .str name), (2, .str far)]
abbrev LTw1 (x name far : Str) : List (Nat × Tr) := [(0, .str x), (1, .str name), (2, .str far), (3, jumpT), (4, showS x)]
abbrev LTw2 (x name far : Str) : List (Nat × Tr) := [(0, .str x), (1, .str name), (2, .str far), (3, jumpT), (4, showS x), (5, pieT name (.tup []) [showS x])]
theorem str_tr {K : PySem.W.Frag} {H : Hp} {z : Str} (h : nameS z = true) : TrAt K H (.str z) (.str z) := .str z (by have := name_short h; rw [sizeLine_eq]; omega)
section
variable {P : Program} {w : World} {K : PySem.W.Frag} {mg : Str → Option Value} {base : Heap}
theorem ok_twice {f fB : Addr} {fd fdB : FuncData} (F : Fun K "_law_twice" "_law_twice" sTw f fd) (GB : FnOk P w K mg base CX0 1 fB fdB ["x", "name", "block"] (spLBook K)) (bB : Binds K fdB ["x", "name", "block"] []) (gB : mg "_law_book" = some (.ref fB)) (kB : PySem.W.keepIn K (.ref fB) = true) :
    FnOk P w K mg base CX0 2 f fd ["x", "name", "far"] (spTw K) := by
  refine F.ok scTw (fun vs H Q E h => ?_) (fun cdv A outer s H vs Q E hr h => ?_)
  · obtain ⟨x, name, far, rfl, _⟩ := h
    rfl
  · obtain ⟨x, name, far, rfl, hx, hn, hf, nf, k⟩ := h
    have hr1 : Room 1 _ := hr.mono (by decide)
    have d0a : ETr (cxOf CX0 P w K mg base nTw "_law_twice" (defScope sTw) f cdv A outer s H E).nox (LTw0 x name far) ((eltsOf (valueOf (stAt sTw 0))).getD 0 noE) jumpT := (et_tup (ea_cons et_str ea_nil))
    obtain ⟨te0a, p0a, r0a⟩ := d0a
    have d0b : ETr (cxOf CX0 P w K mg base nTw "_law_twice" (defScope sTw) f cdv A outer s H E).nox (LTw0 x name far) ((eltsOf (valueOf (stAt sTw 0))).getD 1 noE) (showS x) := (et_tup (ea_cons et_str (ea_cons (et_var (pv 0) (.head _)) ea_nil)))
    obtain ⟨te0b, p0b, r0b⟩ := d0b
    have d1 : ETr (cxOf CX0 P w K mg base nTw "_law_twice" (defScope sTw) f cdv A outer s H E).nox (LTw1 x name far) (valueOf (stAt sTw 1)) (pieT name (.tup []) [showS x]) := (et_tup (ea_cons (et_var (pv 1) (.tail _ (.head _))) (ea_cons (et_tup ea_nil) (ea_cons (et_tup (ea_cons (et_var (pv 4) (.tail _ (.tail _ (.tail _ (.tail _ (.head _)))))) ea_nil)) ea_nil))))
    obtain ⟨te1, p1, r1⟩ := d1
    have d2 : ELi (cxOf CX0 P w K mg base nTw "_law_twice" (defScope sTw) f cdv A outer s H E).nox (LTw2 x name far) (valueOf (stAt sTw 2)) _ := el_disp (ea_cons (et_tup (ea_cons (et_tup (ea_cons (et_tup (ea_cons (et_var (pv 0) (.head _)) (ea_cons (et_var (pv 0) (.head _)) ea_nil))) (ea_cons (et_tup (ea_cons et_non ea_nil)) ea_nil))) (ea_cons (et_tup (ea_cons et_str ea_nil)) ea_nil))) (ea_cons (et_tup (ea_cons (et_tup (ea_cons (et_tup ea_nil) (ea_cons (et_rep (et_tup (ea_cons et_non ea_nil)) et_int (by decide) (by decide)) ea_nil))) (ea_cons (et_tup ea_nil) ea_nil))) (ea_cons (et_tup (ea_cons (et_tup (ea_cons (et_tup (ea_cons (et_var (pv 0) (.head _)) ea_nil)) (ea_cons (et_tup (ea_cons (et_var (pv 5) (.tail _ (.tail _ (.tail _ (.tail _ (.tail _ (.head _))))))) (ea_cons (et_tup (ea_cons (et_var (pv 1) (.tail _ (.head _))) (ea_cons (et_tup ea_nil) (ea_cons (et_tup (ea_cons (et_var (pv 3) (.tail _ (.tail _ (.tail _ (.head _))))) ea_nil)) ea_nil)))) ea_nil))) ea_nil))) (ea_cons (et_tup (ea_cons et_int ea_nil)) ea_nil))) ea_nil)))
    obtain ⟨te2, p2, r2⟩ := d2
    have d3 : ELi (cxOf CX0 P w K mg base nTw "_law_twice" (defScope sTw) f cdv A outer s H E).nox (LTw2 x name far) (rightOf (valueOf (stAt sTw 3))) _ := el_disp (ea_cons (et_tup (ea_cons (et_tup (ea_cons (et_tup (ea_cons (et_var (pv 0) (.head _)) ea_nil)) (ea_cons (et_tup (ea_cons (et_tup (ea_cons (et_var (pv 1) (.tail _ (.head _))) (ea_cons (et_tup ea_nil) (ea_cons (et_tup (ea_cons (et_var (pv 3) (.tail _ (.tail _ (.tail _ (.head _))))) ea_nil)) ea_nil)))) (ea_cons et_non ea_nil))) ea_nil))) (ea_cons (et_tup (ea_cons et_int (ea_cons (et_tup (ea_cons et_int ea_nil)) ea_nil))) ea_nil))) (ea_cons (et_tup (ea_cons (et_tup (ea_cons (et_tup (ea_cons (et_var (pv 0) (.head _)) ea_nil)) (ea_cons (et_tup (ea_cons (et_tup (ea_cons (et_var (pv 1) (.tail _ (.head _))) (ea_cons et_non (ea_cons (et_tup (ea_cons (et_var (pv 3) (.tail _ (.tail _ (.tail _ (.head _))))) ea_nil)) ea_nil)))) ea_nil)) ea_nil))) (ea_cons (et_tup (ea_cons et_int ea_nil)) ea_nil))) ea_nil))
    obtain ⟨te3, p3, r3⟩ := d3
    have d4 : ETr (cxOf CX0 P w K mg base nTw "_law_twice" (defScope sTw) f cdv A outer s H E).nox (LTw2 x name far) (argOf (valueOf (stAt sTw 4))) _ := (et_tup (ea_cons (et_book GB bB gB kB hr1 (et_var (pv 0) (.head _)) (et_var (pv 1) (.tail _ (.head _))) (et_tup (ea_cons (et_tup (ea_cons et_str (ea_cons (et_tup (ea_cons (et_var (pv 4) (.tail _ (.tail _ (.tail _ (.tail _ (.head _)))))) (ea_cons (et_var (pv 3) (.tail _ (.tail _ (.tail _ (.head _))))) ea_nil))) (ea_cons (et_tup (ea_cons (et_var (pv 3) (.tail _ (.tail _ (.tail _ (.head _))))) ea_nil)) ea_nil)))) (ea_cons (et_var (pv 3) (.tail _ (.tail _ (.tail _ (.head _))))) ea_nil)))) (ea_cons (et_tup (ea_cons et_int (ea_cons (et_tup (ea_cons et_int (ea_cons et_int (ea_cons et_int ea_nil)))) ea_nil))) ea_nil)))
    obtain ⟨te4, p4, r4⟩ := d4
    have d5 : ETr (cxOf CX0 P w K mg base nTw "_law_twice" (defScope sTw) f cdv A outer s H E).nox (LTw2 x name far) (argOf (valueOf (stAt sTw 5))) _ := (et_tup (ea_cons (et_book GB bB gB kB hr1 (et_var (pv 0) (.head _)) (et_var (pv 1) (.tail _ (.head _))) (et_tup (ea_cons (et_var (pv 4) (.tail _ (.tail _ (.tail _ (.tail _ (.head _)))))) (ea_cons (et_tup (ea_cons et_str (ea_cons (et_tup (ea_cons (et_var (pv 3) (.tail _ (.tail _ (.tail _ (.head _))))) ea_nil)) ea_nil))) (ea_cons (et_var (pv 3) (.tail _ (.tail _ (.tail _ (.head _))))) ea_nil))))) (ea_cons (et_tup (ea_cons et_int (ea_cons (et_tup (ea_cons et_int ea_nil)) ea_nil))) ea_nil)))
    obtain ⟨te5, p5, r5⟩ := d5
    have d6 : ETr (cxOf CX0 P w K mg base nTw "_law_twice" (defScope sTw) f cdv A outer s H E).nox (LTw2 x name far) (argOf (valueOf (stAt sTw 6))) _ := (et_tup (ea_cons (et_book GB bB gB kB hr1 (et_var (pv 0) (.head _)) (et_var (pv 1) (.tail _ (.head _))) (et_cat (et_rep (et_tup (ea_cons (et_var (pv 4) (.tail _ (.tail _ (.tail _ (.tail _ (.head _)))))) ea_nil)) et_int (by decide) (by decide)) (et_tup (ea_cons (et_var (pv 3) (.tail _ (.tail _ (.tail _ (.head _))))) ea_nil)))) (ea_cons (et_tup (ea_cons et_int (ea_cons (et_tup (ea_cons et_int ea_nil)) ea_nil))) ea_nil)))
    obtain ⟨te6, p6, r6⟩ := d6
    have d7 : ETr (cxOf CX0 P w K mg base nTw "_law_twice" (defScope sTw) f cdv A outer s H E).nox (LTw2 x name far) (argOf (valueOf (stAt sTw 7))) _ := (et_tup (ea_cons (et_book GB bB gB kB hr1 (et_var (pv 0) (.head _)) (et_var (pv 1) (.tail _ (.head _))) (et_cat (et_rep (et_tup (ea_cons (et_var (pv 4) (.tail _ (.tail _ (.tail _ (.tail _ (.head _)))))) ea_nil)) et_int (by decide) (by decide)) (et_tup (ea_cons (et_var (pv 3) (.tail _ (.tail _ (.tail _ (.head _))))) (ea_cons (et_var (pv 3) (.tail _ (.tail _ (.tail _ (.head _))))) ea_nil))))) (ea_cons (et_tup (ea_cons et_int (ea_cons (et_tup (ea_cons et_int ea_nil)) ea_nil))) ea_nil)))
    obtain ⟨te7, p7, r7⟩ := d7
    have d8 : ETr (cxOf CX0 P w K mg base nTw "_law_twice" (defScope sTw) f cdv A outer s H E).nox (LTw2 x name far) (argOf (valueOf (stAt sTw 8))) _ := (et_tup (ea_cons (et_book GB bB gB kB hr1 (et_var (pv 0) (.head _)) (et_var (pv 1) (.tail _ (.head _))) (et_tup (ea_cons (et_tup (ea_cons et_str (ea_cons (et_var (pv 2) (.tail _ (.tail _ (.head _)))) ea_nil))) (ea_cons (et_tup (ea_cons et_str (ea_cons (et_var (pv 2) (.tail _ (.tail _ (.head _)))) ea_nil))) (ea_cons (et_var (pv 3) (.tail _ (.tail _ (.tail _ (.head _))))) ea_nil))))) (ea_cons (et_tup (ea_cons et_int (ea_cons (et_tup (ea_cons et_int ea_nil)) ea_nil))) ea_nil)))
    obtain ⟨te8, p8, r8⟩ := d8
    have d9 : ETr (cxOf CX0 P w K mg base nTw "_law_twice" (defScope sTw) f cdv A outer s H E).nox (LTw2 x name far) (argOf (valueOf (stAt sTw 9))) _ := (et_tup (ea_cons (et_book GB bB gB kB hr1 (et_var (pv 0) (.head _)) (et_var (pv 1) (.tail _ (.head _))) (et_tup (ea_cons (et_tup (ea_cons et_str (ea_cons (et_tup (ea_cons (et_tup (ea_cons et_str (ea_cons (et_var (pv 2) (.tail _ (.tail _ (.head _)))) (ea_cons (et_var (pv 0) (.head _)) (ea_cons et_int ea_nil))))) ea_nil)) (ea_cons (et_tup (ea_cons (et_tup (ea_cons et_str (ea_cons (et_var (pv 2) (.tail _ (.tail _ (.head _)))) (ea_cons (et_tup ea_nil) ea_nil)))) ea_nil)) ea_nil)))) ea_nil))) (ea_cons (et_tup (ea_cons et_int (ea_cons (et_tup (ea_cons et_int (ea_cons et_int (ea_cons et_int ea_nil)))) ea_nil))) ea_nil)))
    obtain ⟨te9, p9, r9⟩ := d9
    have d10 : ETr (cxOf CX0 P w K mg base nTw "_law_twice" (defScope sTw) f cdv A outer s H E).nox (LTw2 x name far) (argOf (valueOf (stAt sTw 10))) _ := (et_tup (ea_cons (et_tup (ea_cons (et_tup (ea_cons (et_var (pv 0) (.head _)) ea_nil)) (ea_cons (et_tup (ea_cons (et_tup (ea_cons (et_var (pv 1) (.tail _ (.head _))) (ea_cons (et_tup (ea_cons (et_tup (ea_cons (et_var (pv 2) (.tail _ (.tail _ (.head _)))) (ea_cons et_str ea_nil))) ea_nil)) (ea_cons (et_tup (ea_cons (et_var (pv 4) (.tail _ (.tail _ (.tail _ (.tail _ (.head _)))))) (ea_cons (et_tup (ea_cons et_str (ea_cons (et_var (pv 2) (.tail _ (.tail _ (.head _)))) ea_nil))) ea_nil))) ea_nil)))) ea_nil)) ea_nil))) (ea_cons (et_tup (ea_cons et_int (ea_cons (et_tup (ea_cons et_int ea_nil)) ea_nil))) ea_nil)))
    obtain ⟨te10, p10, r10⟩ := d10
    have d11 : ETr (cxOf CX0 P w K mg base nTw "_law_twice" (defScope sTw) f cdv A outer s H E).nox (LTw2 x name far) (argOf (valueOf (stAt sTw 11))) _ := (et_tup (ea_cons (et_tup (ea_cons (et_tup (ea_cons (et_var (pv 0) (.head _)) ea_nil)) (ea_cons (et_tup (ea_cons (et_tup (ea_cons (et_var (pv 1) (.tail _ (.head _))) (ea_cons (et_tup ea_nil) (ea_cons (et_tup (ea_cons (et_tup (ea_cons et_str (ea_cons (et_var (pv 2) (.tail _ (.tail _ (.head _)))) ea_nil))) ea_nil)) ea_nil)))) (ea_cons (et_tup (ea_cons (et_var (pv 2) (.tail _ (.tail _ (.head _)))) (ea_cons (et_tup ea_nil) (ea_cons (et_tup (ea_cons (et_tup (ea_cons et_str (ea_cons (et_var (pv 2) (.tail _ (.tail _ (.head _)))) ea_nil))) ea_nil)) ea_nil)))) ea_nil))) ea_nil))) (ea_cons et_non ea_nil)))
    obtain ⟨te11, p11, r11⟩ := d11
    have d12 : ETr (cxOf CX0 P w K mg base nTw "_law_twice" (defScope sTw) f cdv A outer s H E).nox (LTw2 x name far) (argOf (valueOf (stAt sTw 12))) _ := (et_tup (ea_cons (et_tup (ea_cons (et_tup (ea_cons (et_var (pv 0) (.head _)) ea_nil)) (ea_cons (et_tup (ea_cons (et_tup (ea_cons (et_var (pv 1) (.tail _ (.head _))) (ea_cons (et_tup ea_nil) (ea_cons (et_tup (ea_cons (et_tup (ea_cons et_str (ea_cons (et_var (pv 1) (.tail _ (.head _))) ea_nil))) ea_nil)) ea_nil)))) (ea_cons (et_tup (ea_cons (et_var (pv 1) (.tail _ (.head _))) (ea_cons (et_tup ea_nil) (ea_cons (et_tup ea_nil) ea_nil)))) ea_nil))) ea_nil))) (ea_cons (et_tup (ea_cons et_int ea_nil)) ea_nil)))
    obtain ⟨te12, p12, r12⟩ := d12
    refine ⟨_, C8.pss_cut (ps_par (i := 3) (j := 4) rfl scTw.nd rfl rfl (by decide) rfl rfl (pa_cons p0a (pa_cons p0b pa_nil)) (by rfl))
      (C8.pss_cut (ps_set (i := 5) scTw.nd rfl (Or.inl rfl) p1)
      (C8.pss_cut (ps_set (i := 6) scTw.nd rfl (Or.inl rfl) p2)
      (C8.pss_cut (ps_set (i := 6) scTw.nd rfl (Or.inl rfl) (pe_op op_cat (pv 6) p3))
      (C8.pss_cut (ps_expr (pe_bm PySem.F.plainAttrs_list PySem.F.slot_list_append PySem.F.type_list_append mt_append (pv 6) (pa_cons p4 pa_nil)))
      (C8.pss_cut (ps_expr (pe_bm PySem.F.plainAttrs_list PySem.F.slot_list_append PySem.F.type_list_append mt_append (pv 6) (pa_cons p5 pa_nil)))
      (C8.pss_cut (ps_expr (pe_bm PySem.F.plainAttrs_list PySem.F.slot_list_append PySem.F.type_list_append mt_append (pv 6) (pa_cons p6 pa_nil)))
      (C8.pss_cut (ps_expr (pe_bm PySem.F.plainAttrs_list PySem.F.slot_list_append PySem.F.type_list_append mt_append (pv 6) (pa_cons p7 pa_nil)))
      (C8.pss_cut (ps_expr (pe_bm PySem.F.plainAttrs_list PySem.F.slot_list_append PySem.F.type_list_append mt_append (pv 6) (pa_cons p8 pa_nil)))
      (C8.pss_cut (ps_expr (pe_bm PySem.F.plainAttrs_list PySem.F.slot_list_append PySem.F.type_list_append mt_append (pv 6) (pa_cons p9 pa_nil)))
      (C8.pss_cut (ps_expr (pe_bm PySem.F.plainAttrs_list PySem.F.slot_list_append PySem.F.type_list_append mt_append (pv 6) (pa_cons p10 pa_nil)))
      (C8.pss_cut (ps_expr (pe_bm PySem.F.plainAttrs_list PySem.F.slot_list_append PySem.F.type_list_append mt_append (pv 6) (pa_cons p11 pa_nil)))
      (C8.pss_cut (ps_expr (pe_bm PySem.F.plainAttrs_list PySem.F.slot_list_append PySem.F.type_list_append mt_append (pv 6) (pa_cons p12 pa_nil)))
      (pss_one (ps_ret (pv 6))))))))))))))), ?_⟩
    have g0 : Gt K (LTw0 x name far) [some (.str x), some (.str name), some (.str far), none, none, none, none] H := fun p hp => by
      simp only [LTw0, List.mem_cons, List.not_mem_nil, or_false] at hp
      rcases hp with rfl | rfl | rfl
      · exact ⟨_, rfl, str_tr hx⟩
      · exact ⟨_, rfl, str_tr hn⟩
      · exact ⟨_, rfl, str_tr hf⟩
    refine ⟨fun σ H1 => ∃ v3 v4 : V, σ = [some (.str x), some (.str name), some (.str far), some v3, some v4, none, none] ∧ Same H H1 ∧ TrAt K H1 v3 jumpT ∧ TrAt K H1 v4 (showS x), ?_, ?_⟩
    · exact r0a _ H _ g0 fun v3 H1 s1 t1 => r0b _ H1 _ (g0.same s1) fun v4 H2 s2 t2 => ⟨_, _, rfl, v3, v4, rfl, s1.trans s2, t1.same s2, t2⟩
    rintro σ H1 ⟨v3, v4, rfl, s1, t3, t4⟩
    have g1 : Gt K (LTw1 x name far) [some (.str x), some (.str name), some (.str far), some v3, some v4, none, none] H1 := fun p hp => by
      simp only [LTw1, List.mem_cons, List.not_mem_nil, or_false] at hp
      rcases hp with rfl | rfl | rfl | rfl | rfl
      · exact ⟨_, rfl, str_tr hx⟩
      · exact ⟨_, rfl, str_tr hn⟩
      · exact ⟨_, rfl, str_tr hf⟩
      · exact ⟨_, rfl, t3⟩
      · exact ⟨_, rfl, t4⟩
    refine ⟨fun σ H2 => ∃ v5 : V, σ = [some (.str x), some (.str name), some (.str far), some v3, some v4, some v5, none] ∧ Same H H2 ∧ TrAt K H2 v3 jumpT ∧ TrAt K H2 v4 (showS x) ∧ TrAt K H2 v5 (pieT name (.tup []) [showS x]), ?_, ?_⟩
    · exact r1 _ H1 _ g1 fun v5 H2 s2 t5 => ⟨v5, rfl, s1.trans s2, t3.same s2, t4.same s2, t5⟩
    rintro σ H2 ⟨v5, rfl, s2, t3, t4, t5⟩
    have gg : ∀ {v6 : Option V}, Gt K (LTw2 x name far) [some (.str x), some (.str name), some (.str far), some v3, some v4, some v5, v6] H2 := fun {v6} p hp => by
      simp only [LTw2, List.mem_cons, List.not_mem_nil, or_false] at hp
      rcases hp with rfl | rfl | rfl | rfl | rfl | rfl
      · exact ⟨_, rfl, str_tr hx⟩
      · exact ⟨_, rfl, str_tr hn⟩
      · exact ⟨_, rfl, str_tr hf⟩
      · exact ⟨_, rfl, t3⟩
      · exact ⟨_, rfl, t4⟩
      · exact ⟨_, rfl, t5⟩
    refine ⟨fun σ H3 => ∃ D : Addr, Stg K (LTw2 x name far) [some (.str x), some (.str name), some (.str far), some v3, some v4, some v5, some (.ref D)] D H 3 σ H3 ∧ H D = none, ?_, ?_⟩
    · refine r2 _ H2 _ gg fun D vs H3 s3 nD eD tD => ⟨D, ⟨rfl, gg.same s3, ⟨vs, _, eD, tD, Nat.le_refl _, ?_⟩, s2.trans s3⟩, s2.free nD⟩
      intro p hp
      simp only [List.mem_cons, List.not_mem_nil, or_false] at hp
      rcases hp with rfl | rfl | rfl
      · exact tw_1 hx
      · exact tw_2
      · exact tw_3 hx hn
    rintro σ H3 ⟨D, ⟨rfl, g3, C3, s3⟩, nD⟩
    refine ⟨fun σ H4 => ∃ D : Addr, Stg K (LTw2 x name far) [some (.str x), some (.str name), some (.str far), some v3, some v4, some v5, some (.ref D)] D H 5 σ H4 ∧ H D = none, ?_, ?_⟩
    · refine cat_stage r3 g3 rfl C3 s3 ?_ (by omega) (Nat.le_of_ble_eq_true rfl) fun p H4 s4 s34 np C4 => ⟨p, ⟨rfl, ?_, C4, s4⟩, np⟩
      · intro p hp
        simp only [List.mem_cons, List.not_mem_nil, or_false] at hp
        rcases hp with rfl | rfl
        · exact tw_4 hx hn
        · exact tw_5 hx hn
      · intro q hq
        obtain ⟨v, h1, h2⟩ := g3.same s34 q hq
        refine ⟨v, ?_, h2⟩
        simp only [LTw2, List.mem_cons, List.not_mem_nil, or_false] at hq
        rcases hq with rfl | rfl | rfl | rfl | rfl | rfl <;> exact h1
    rintro σ H4 ⟨D, S, nD⟩
    refine ⟨Stg K (LTw2 x name far) [some (.str x), some (.str name), some (.str far), some v3, some v4, some v5, some (.ref D)] D H 6, app_stage (m := 5) r4 S rfl nD (tw_6 hx hn) (by omega) (fun H' S => S), ?_⟩
    rintro σ H5 S
    refine ⟨Stg K (LTw2 x name far) [some (.str x), some (.str name), some (.str far), some v3, some v4, some v5, some (.ref D)] D H 7, app_stage (m := 6) r5 S rfl nD (tw_7 hx hn) (by omega) (fun H' S => S), ?_⟩
    rintro σ H5 S
    refine ⟨Stg K (LTw2 x name far) [some (.str x), some (.str name), some (.str far), some v3, some v4, some v5, some (.ref D)] D H 8, app_stage (m := 7) r6 S rfl nD (tw_8 hx hn) (by omega) (fun H' S => S), ?_⟩
    rintro σ H5 S
    refine ⟨Stg K (LTw2 x name far) [some (.str x), some (.str name), some (.str far), some v3, some v4, some v5, some (.ref D)] D H 9, app_stage (m := 8) r7 S rfl nD (tw_9 hx hn) (by omega) (fun H' S => S), ?_⟩
    rintro σ H5 S
    refine ⟨Stg K (LTw2 x name far) [some (.str x), some (.str name), some (.str far), some v3, some v4, some v5, some (.ref D)] D H 10, app_stage (m := 9) r8 S rfl nD (tw_10 hx hn hf) (by omega) (fun H' S => S), ?_⟩
    rintro σ H5 S
    refine ⟨Stg K (LTw2 x name far) [some (.str x), some (.str name), some (.str far), some v3, some v4, some v5, some (.ref D)] D H 11, app_stage (m := 10) r9 S rfl nD (tw_11 hx hn hf) (by omega) (fun H' S => S), ?_⟩
    rintro σ H5 S
    refine ⟨Stg K (LTw2 x name far) [some (.str x), some (.str name), some (.str far), some v3, some v4, some v5, some (.ref D)] D H 12, app_stage (m := 11) r10 S rfl nD (tw_12 hx hn hf) (by omega) (fun H' S => S), ?_⟩
    rintro σ H5 S
    refine ⟨Stg K (LTw2 x name far) [some (.str x), some (.str name), some (.str far), some v3, some v4, some v5, some (.ref D)] D H 13, app_stage (m := 12) r11 S rfl nD (tw_13 hx hn hf nf) (by omega) (fun H' S => S), ?_⟩
    rintro σ H5 S
    refine ⟨Stg K (LTw2 x name far) [some (.str x), some (.str name), some (.str far), some v3, some v4, some v5, some (.ref D)] D H 14, app_stage (m := 13) r12 S rfl nD (tw_14 hx hn hf) (by omega) (fun H' S => S), ?_⟩
    rintro σ H5 S
    obtain ⟨rfl, _, C, s5⟩ := S
    exact ⟨_, rfl, k D H5 s5 nD (C.more (by omega))⟩
end
end BK

set_option Elab.async false
set_option maxRecDepth 100000
set_option maxHeartbeats 4000000
set_option linter.unusedVariables false
/-! expressions that make trees, whatever the slots hold -/
namespace BK
open PySem PySem.Spec PyProof.Rows L2 SW RZ ET
def ETu (X : Cx) {ι : Type} (L : ι → List (Nat × Tr)) (e : Expr) (t : ι → Tr) : Prop := ∃ te : TE, PE X e te ∧ ∀ a σ H Q, Gt X.K (L a) σ H → (∀ v H', Same H H' → TrAt X.K H' v (t a) → Q v H') → te σ H Q
def EAu (X : Cx) {ι : Type} (L : ι → List (Nat × Tr)) (es : List Expr) (ts : ι → List Tr) : Prop := ∃ ta : TA, PA X es ta ∧ ∀ a σ H Q, Gt X.K (L a) σ H → (∀ vs H', Same H H' → TrAll X.K H' vs (ts a) → Q vs H') → ta σ H Q
def ELu (X : Cx) {ι : Type} (L : ι → List (Nat × Tr)) (e : Expr) (ts : ι → List Tr) : Prop := ∃ te : TE, PE X e te ∧ ∀ a σ H Q, Gt X.K (L a) σ H → (∀ p vs H', Same H H' → H p = none → H' p = some (.lst vs) → TrAll X.K H' vs (ts a) → Q (.ref p) H') → te σ H Q
section
variable {X : Cx} {ι : Type} {L : ι → List (Nat × Tr)}
theorem eu_var {i : Nat} {x : Str} {pos : Pos} {t : ι → Tr} (h : PE X (.Name x pos) (tVar i)) (m : ∀ a, (i, t a) ∈ L a) : ETu X L (.Name x pos) t := ⟨_, h, fun a σ H Q g k => by
  obtain ⟨v, h1, h2⟩ := g _ (m a)
  exact ⟨v, h1, k v H (fun _ _ e => e) h2⟩⟩
theorem eu_str {s : Str} {j : Nat} {pos : Pos} (h : s.length ≤ sizeLine := by decide +kernel) : ETu X L (.Constant (.str s) j pos) (fun _ => .str s) := ⟨_, pe_str, fun _ _ H _ _ k => k _ H (fun _ _ e => e) (.str s h)⟩
theorem eu_int {i : Int} {j : Nat} {pos : Pos} : ETu X L (.Constant (.int i) j pos) (fun _ => .int i) := ⟨_, pe_int, fun _ _ H _ _ k => k _ H (fun _ _ e => e) (.int i)⟩
theorem eu_bl {b : Bool} {j : Nat} {pos : Pos} : ETu X L (.Constant (.bool b) j pos) (fun _ => .bl b) := ⟨_, pe_bl, fun _ _ H _ _ k => k _ H (fun _ _ e => e) (.bl b)⟩
theorem eu_non {j : Nat} {pos : Pos} : ETu X L (.Constant .none j pos) (fun _ => .non) := ⟨_, pe_non, fun _ _ H _ _ k => k _ H (fun _ _ e => e) .non⟩
theorem eb_nil : EAu X L [] (fun _ => []) := ⟨_, pa_nil, fun _ _ H _ _ k => k _ H (fun _ _ e => e) .nil⟩
theorem eb_cons {e : Expr} {es : List Expr} {t : ι → Tr} {ts : ι → List Tr} (h : ETu X L e t) (r : EAu X L es ts) (hs : starEach (e :: es) X.env = (false, eval e X.env) :: starEach es X.env := by rfl) : EAu X L (e :: es) (fun a => t a :: ts a) := by
  obtain ⟨te, p, q⟩ := h
  obtain ⟨ta, p2, q2⟩ := r
  exact ⟨_, pa_cons p p2 hs, fun a σ H Q g k => q a σ H _ g fun v H1 s1 h1 => q2 a σ H1 _ (g.same s1) fun vs H2 s2 h2 => k _ H2 (s1.trans s2) (.cons (h1.same s2) h2)⟩
theorem eu_tup {es : List Expr} {k : Nat} {pos : Pos} {ts : ι → List Tr} (h : EAu X L es ts) (hl : es.length ≤ 1000 := by exact Nat.le_of_ble_eq_true rfl) (hl2 : ∀ a, (ts a).length = es.length := by exact fun _ => rfl) : ETu X L (.Tuple es k pos) (fun a => .tup (ts a)) := by
  obtain ⟨ta, p, q⟩ := h
  refine ⟨_, pe_tup p, fun a σ H Q g k => q a σ H _ g fun vs H1 s1 h1 => ⟨?_, fun p np => k _ _ (s1.trans (same_new np)) (.tup (SqT.of upd_same) (h1.same (same_new np)))⟩⟩
  rw [h1.len, hl2, sizeLine_eq]
  omega
theorem eu_lst {es : List Expr} {pos : Pos} {ts : ι → List Tr} (h : EAu X L es ts) (hl : es.length ≤ 1000 := by exact Nat.le_of_ble_eq_true rfl) (hl2 : ∀ a, (ts a).length = es.length := by exact fun _ => rfl) : ETu X L (.List es pos) (fun _ => .lst) := by
  obtain ⟨ta, p, q⟩ := h
  refine ⟨_, pe_lst p, fun a σ H Q g k => q a σ H _ g fun vs H1 s1 h1 => ⟨?_, fun p np => k _ _ (s1.trans (same_new np)) (.lst (SqL.of upd_same))⟩⟩
  rw [h1.len, hl2, sizeLine_eq]
  omega
theorem eu_dct {pos : Pos} : ETu X L (.Dict [] [] pos) (fun _ => .dct) := ⟨_, pe_dnewK, fun _ _ _ _ _ k => fun p np => k _ _ (same_new np) (.dct upd_same)⟩
theorem eu_cat {a b : Expr} {pos : Pos} {xs ys : ι → List Tr} (h1 : ETu X L a (fun i => .tup (xs i))) (h2 : ETu X L b (fun i => .tup (ys i))) (l1 : ∀ i, (xs i).length ≤ 1000) (l2 : ∀ i, (ys i).length ≤ 1000) : ETu X L (.BinOp a .Add b pos) (fun i => .tup (xs i ++ ys i)) := by
  obtain ⟨ta, p1, q1⟩ := h1
  obtain ⟨tb, p2, q2⟩ := h2
  exact ⟨_, pe_op op_catA p1 p2, fun i σ H Q g k => q1 i σ H _ g fun v H1 s1 t1 => q2 i σ H1 _ (g.same s1) fun u H2 s2 t2 => cat_tr (t1.same s2) t2 (l1 i) (l2 i) fun r H3 s3 t3 => k r H3 ((s1.trans s2).trans s3) t3⟩
theorem lu_disp {es : List Expr} {pos : Pos} {ts : ι → List Tr} (h : EAu X L es ts) (hl : es.length ≤ 1000 := by exact Nat.le_of_ble_eq_true rfl) (hl2 : ∀ a, (ts a).length = es.length := by exact fun _ => rfl) : ELu X L (.List es pos) ts := by
  obtain ⟨ta, p, q⟩ := h
  refine ⟨_, pe_lst p, fun a σ H Q g k => q a σ H _ g fun vs H1 s1 h1 => ⟨?_, fun p np => k p vs _ (s1.trans (same_new np)) (s1.free np) upd_same (h1.same (same_new np))⟩⟩
  rw [h1.len, hl2, sizeLine_eq]
  omega
theorem eu_book {f : Addr} {fd : FuncData} {e1 e2 e3 : Expr} {x n b : ι → Tr} {p pos : Pos} (GB : FnOk X.prog X.w X.K X.mg X.base CX0 1 f fd ["x", "name", "block"] (spLBook X.K)) (bB : Binds X.K fd ["x", "name", "block"] []) (gB : X.mg "_law_book" = some (.ref f)) (kB : PySem.W.keepIn X.K (.ref f) = true) (hr : Room 1 X.A)
    (h1 : ETu X L e1 x) (h2 : ETu X L e2 n) (h3 : ETu X L e3 b) (hg : Gl X "_law_book" := by rfl)
    (s1 : starEach [e1, e2, e3] X.env = (false, eval e1 X.env) :: starEach [e2, e3] X.env := by rfl) (s2 : starEach [e2, e3] X.env = (false, eval e2 X.env) :: starEach [e3] X.env := by rfl) (s3 : starEach [e3] X.env = (false, eval e3 X.env) :: starEach [] X.env := by rfl) (hpl : (backTo pos (starEach [e2, e3] X.env)).any (·.1) = false := by rfl) :
    ETu X L (.Call (.Name "_law_book" p) [e1, e2, e3] [] pos) (fun a => bk3 (x a) (n a) (b a)) := by
  obtain ⟨t1, p1, r1⟩ := h1
  obtain ⟨t2, p2, r2⟩ := h2
  obtain ⟨t3, p3, r3⟩ := h3
  refine ⟨_, pe_call GB hr hg gB kB bB .nil pass0 (pa_cons p1 (pa_cons p2 (pa_cons p3 pa_nil s3) s2) s1) (by decide) s1 hpl, fun a σ H Q g k => ?_⟩
  refine r1 a σ H _ g fun v1 H1 s1 a1 => r2 a σ H1 _ (g.same s1) fun v2 H2 s2 a2 => r3 a σ H2 _ (g.same (s1.trans s2)) fun v3 H3 s3 a3 => ?_
  exact ⟨v1, v2, v3, x a, n a, b a, rfl, (a1.same s2).same s3, a2.same s3, a3, fun v H4 s4 tv => k v H4 ((s1.trans s2).trans (s3.trans s4)) tv⟩
theorem eu_rep {e1 e2 : Expr} {pos : Pos} {u : ι → Tr} {k : ι → Int} (h1 : ETu X L e1 (fun a => .tup [u a])) (h2 : ETu X L e2 (fun a => .int (k a))) (k0 : ∀ a, 0 ≤ k a ∧ k a ≤ 1000) : ETu X L (.BinOp e1 .Mult e2 pos) (fun a => .tup (List.replicate (k a).toNat (u a))) := by
  obtain ⟨t1, p1, r1⟩ := h1
  obtain ⟨t2, p2, r2⟩ := h2
  refine ⟨_, pe_op op_repA p1 p2, fun a σ H Q g kk => r1 a σ H _ g fun v1 H1 s1 a1 => r2 a σ H1 _ (g.same s1) fun v2 H2 s2 a2 => ?_⟩
  cases a2
  exact rep_tr (a1.same s2) (k0 a).1 (k0 a).2 fun r H3 s3 t3 => kk r H3 ((s1.trans s2).trans s3) t3
theorem eu_sub {e1 e2 : Expr} {pos : Pos} {i j : ι → Int} (h1 : ETu X L e1 (fun a => .int (i a))) (h2 : ETu X L e2 (fun a => .int (j a))) : ETu X L (.BinOp e1 .Sub e2 pos) (fun a => .int (i a - j a)) := by
  obtain ⟨t1, p1, r1⟩ := h1
  obtain ⟨t2, p2, r2⟩ := h2
  refine ⟨_, pe_op op_sub p1 p2, fun a σ H Q g kk => r1 a σ H _ g fun v1 H1 s1 a1 => r2 a σ H1 _ (g.same s1) fun v2 H2 s2 a2 => ?_⟩
  cases a1
  cases a2
  exact ⟨i a, j a, rfl, rfl, kk _ _ (s1.trans s2) (.int _)⟩
end
/-- append; what stays -/
theorem app_kp {X : Cx} {L : List (Nat × Tr)} {i : Nat} {te : TE} {u : Tr} {σ : L2.St} {H0 H : Hp} {D : Addr} {m : Nat} {E : Ends} (r : ∀ σ H Q, Gt X.K L σ H → (∀ v H', Same H H' → TrAt X.K H' v u → Q v H') → te σ H Q) (g : Gt X.K L σ H) (hσ : σ[i]? = some (some (.ref D))) (C : Coll X.K H D m) (s0 : Same H0 H) (nD : H0 D = none) (hp : PairK u) (hm : m ≤ 900)
    (k : ∀ H', Coll X.K H' D (m + 1) → Same H0 H' → Kp X.K H H' → (∀ q ys, q ≠ D → H q = some (.lst ys) → H' q = some (.lst ys)) → E.nx σ H') : (tDrop (tBM X.K "list" rAppend (tVar i) (tCons te tNil))) E σ H := by
  obtain ⟨vs0, _, e0, _⟩ := id C
  refine ⟨.ref D, hσ, .inl ⟨rfl, _, SqL.of e0⟩, r _ H _ g fun v H1 s1 t1 => ?_⟩
  obtain ⟨vs, e1, lt, C2, kp⟩ := (C.same s1).push t1 hp hm
  refine ⟨D, vs, v, rfl, rfl, e1, lt, k _ C2 (fun b o eb => ?_) ((Kp.of s1).trans kp) fun q ys hq eq => ?_⟩
  · rw [upd_ne (ne_of_none eb nD)]
    exact s1 _ _ (s0 b o eb)
  · rw [upd_ne hq]
    exact s1 _ _ eq
def bodyAt (s : Stmt) (j : Nat) : Stmt := match s with
  | .For _ _ b _ _ => b.getD j (.Pass ⟨0, 0, 0, 0⟩)
  | _ => .Pass ⟨0, 0, 0, 0⟩
def iterOf : Stmt → Expr
  | .For _ it _ _ _ => it
  | _ => noE
end BK

set_option Elab.async false
set_option maxRecDepth 100000
set_option maxHeartbeats 4000000
set_option linter.unusedVariables false
/-! _law_letters -/
namespace BK
open PySem PySem.Spec PyProof.Rows L2 SW RZ ET
abbrev sLe : Stmt := top 59
abbrev nLe : List Str := ["x", "name", "eight", "some", "long"]
theorem scLe : FnScope nLe ["x", "name"] (defScope sLe) := ⟨rfl, rfl, rfl, by decide +kernel, rfl, by decide +kernel, by decide +kernel⟩
def spLe (K : PySem.W.Frag) : Sp := fun vs H Q _ => ∃ x name : Str, vs = [.str x, .str name] ∧ nameS x = true ∧ nameS name = true ∧ Tells K 20 H Q
abbrev eightS : Str := "abcdefgh"
abbrev LLe1 (x name : Str) : List (Nat × Tr) := [(0, .str x), (1, .str name), (2, .str eightS)]
abbrev LLe2 (x name long : Str) : List (Nat × Tr) := [(0, .str x), (1, .str name), (2, .str eightS), (4, .str long)]
section
variable {P : Program} {w : World} {K : PySem.W.Frag} {mg : Str → Option Value} {base : Heap}
theorem ok_letters {f fB : Addr} {fd fdB : FuncData} (F : Fun K "_law_letters" "_law_letters" sLe f fd) (GB : FnOk P w K mg base CX0 1 fB fdB ["x", "name", "block"] (spLBook K)) (bB : Binds K fdB ["x", "name", "block"] []) (gB : mg "_law_book" = some (.ref fB)) (kB : PySem.W.keepIn K (.ref fB) = true) :
    FnOk P w K mg base CX0 2 f fd ["x", "name"] (spLe K) := by
  refine F.ok scLe (fun vs H Q E h => ?_) (fun cdv A outer s H vs Q E hr h => ?_)
  · obtain ⟨x, name, rfl, _⟩ := h
    rfl
  · obtain ⟨x, name, rfl, hx, hn, k⟩ := h
    have hr1 : Room 1 _ := hr.mono (by decide)
    have d1 : ETr (cxOf CX0 P w K mg base nLe "_law_letters" (defScope sLe) f cdv A outer s H E).nox (LLe1 x name) (argOf (valueOf (stAt sLe 1))) _ := (et_tup (ea_cons (et_tup (ea_cons (et_tup (ea_cons (et_var (pv 2) (.tail _ (.tail _ (.head _)))) ea_nil)) (ea_cons (et_tup (ea_cons (et_tup (ea_cons (et_var (pv 2) (.tail _ (.tail _ (.head _)))) (ea_cons (et_tup (ea_cons (et_tup (ea_cons (et_var (pv 2) (.tail _ (.tail _ (.head _)))) (ea_cons et_str ea_nil))) ea_nil)) (ea_cons (et_tup (ea_cons (et_tup (ea_cons et_str (ea_cons (et_var (pv 2) (.tail _ (.tail _ (.head _)))) (ea_cons (et_var (pv 2) (.tail _ (.tail _ (.head _)))) (ea_cons (et_var (pv 2) (.tail _ (.tail _ (.head _)))) ea_nil))))) ea_nil)) ea_nil)))) ea_nil)) ea_nil))) (ea_cons et_non ea_nil)))
    obtain ⟨te1, p1, r1⟩ := d1
    have d2 : ELu (cxOf CX0 P w K mg base nLe "_law_letters" (defScope sLe) f cdv A outer s H E).nox (LLe2 x name) (rightOf (valueOf (bodyAt (stAt sLe 2) 0))) _ := lu_disp (eb_cons (eu_tup (eb_cons (eu_tup (eb_cons (eu_tup (eb_cons (eu_var (pv 4) (fun _ => (.tail _ (.tail _ (.tail _ (.head _)))))) eb_nil)) (eb_cons (eu_tup eb_nil) eb_nil))) (eb_cons (eu_tup (eb_cons eu_str eb_nil)) eb_nil))) (eb_cons (eu_tup (eb_cons (eu_tup (eb_cons (eu_tup (eb_cons (eu_var (pv 0) (fun _ => (.head _))) eb_nil)) (eb_cons (eu_tup (eb_cons (eu_tup (eb_cons (eu_var (pv 4) (fun _ => (.tail _ (.tail _ (.tail _ (.head _)))))) (eb_cons (eu_tup eb_nil) (eb_cons (eu_tup eb_nil) eb_nil)))) eb_nil)) eb_nil))) (eb_cons (eu_tup (eb_cons eu_int eb_nil)) eb_nil))) eb_nil))
    obtain ⟨te2, p2, r2⟩ := d2
    have d3 : ETu (cxOf CX0 P w K mg base nLe "_law_letters" (defScope sLe) f cdv A outer s H E).nox (LLe2 x name) (argOf (valueOf (bodyAt (stAt sLe 2) 1))) _ := (eu_tup (eb_cons (eu_tup (eb_cons (eu_tup (eb_cons (eu_var (pv 0) (fun _ => (.head _))) eb_nil)) (eb_cons (eu_tup (eb_cons (eu_tup (eb_cons (eu_var (pv 1) (fun _ => (.tail _ (.head _)))) (eb_cons (eu_tup (eb_cons (eu_tup (eb_cons (eu_var (pv 4) (fun _ => (.tail _ (.tail _ (.tail _ (.head _)))))) (eb_cons eu_str eb_nil))) eb_nil)) (eb_cons (eu_tup eb_nil) eb_nil)))) eb_nil)) eb_nil))) (eb_cons (eu_tup (eb_cons eu_int eb_nil)) eb_nil)))
    obtain ⟨te3, p3, r3⟩ := d3
    have d4 : ETu (cxOf CX0 P w K mg base nLe "_law_letters" (defScope sLe) f cdv A outer s H E).nox (LLe2 x name) (argOf (valueOf (bodyAt (stAt sLe 2) 2))) _ := (eu_tup (eb_cons (eu_book GB bB gB kB hr1 (eu_var (pv 0) (fun _ => (.head _))) (eu_var (pv 1) (fun _ => (.tail _ (.head _)))) (eu_tup (eb_cons (eu_tup (eb_cons eu_str (eb_cons (eu_var (pv 4) (fun _ => (.tail _ (.tail _ (.tail _ (.head _)))))) eb_nil))) eb_nil))) (eb_cons (eu_tup (eb_cons eu_int (eb_cons (eu_tup (eb_cons eu_int eb_nil)) eb_nil))) eb_nil)))
    obtain ⟨te4, p4, r4⟩ := d4
    have d5 : ETu (cxOf CX0 P w K mg base nLe "_law_letters" (defScope sLe) f cdv A outer s H E).nox (LLe2 x name) (argOf (valueOf (bodyAt (stAt sLe 2) 3))) _ := (eu_tup (eb_cons (eu_book GB bB gB kB hr1 (eu_var (pv 0) (fun _ => (.head _))) (eu_var (pv 1) (fun _ => (.tail _ (.head _)))) (eu_tup (eb_cons (eu_tup (eb_cons eu_str (eb_cons (eu_var (pv 0) (fun _ => (.head _))) (eb_cons (eu_var (pv 4) (fun _ => (.tail _ (.tail _ (.tail _ (.head _)))))) eb_nil)))) eb_nil))) (eb_cons (eu_tup (eb_cons eu_int (eb_cons (eu_tup (eb_cons eu_int eb_nil)) eb_nil))) eb_nil)))
    obtain ⟨te5, p5, r5⟩ := d5
    refine ⟨_, C8.pss_cut (ps_par (i := 2) (j := 3) rfl scLe.nd rfl rfl (by decide) rfl rfl (pa_cons pe_str (pa_cons (pe_lst pa_nil) pa_nil)) (by rfl))
      (C8.pss_cut (ps_expr (pe_bm PySem.F.plainAttrs_list PySem.F.slot_list_append PySem.F.type_list_append mt_append (pv 3) (pa_cons p1 pa_nil)))
      (C8.pss_cut (ps_for PassesOwn.never rfl (pi_tup (pe_tup (pa_cons (pe_op op_add_str (pv 2) pe_str) (pa_cons (pe_op op_mulZ pe_str pe_int) pa_nil)))) (pg_name (i := 4) scLe.nd rfl (Or.inl rfl))
        (C8.pss_cut (ps_set (i := 3) scLe.nd rfl (Or.inl rfl) (pe_op op_cat (pv 3) p2))
        (C8.pss_cut (ps_expr (pe_bm PySem.F.plainAttrs_list PySem.F.slot_list_append PySem.F.type_list_append mt_append (pv 3) (pa_cons p3 pa_nil)))
        (C8.pss_cut (ps_expr (pe_bm PySem.F.plainAttrs_list PySem.F.slot_list_append PySem.F.type_list_append mt_append (pv 3) (pa_cons p4 pa_nil)))
        (pss_one (ps_expr (pe_bm PySem.F.plainAttrs_list PySem.F.slot_list_append PySem.F.type_list_append mt_append (pv 3) (pa_cons p5 pa_nil))))))))
      (pss_one (ps_ret (pv 3))))), ?_⟩
    refine ⟨fun σ H1 => ∃ D : Addr, Stg K (LLe1 x name) [some (.str x), some (.str name), some (.str eightS), some (.ref D), none] D H 0 σ H1 ∧ H D = none, ?_, ?_⟩
    · refine ⟨Nat.zero_le _, fun D nD => ⟨_, _, rfl, D, ⟨rfl, fun p hp => ?_, ⟨[], [], upd_same, .nil, Nat.le_refl _, fun _ hp => (by cases hp)⟩, same_new nD⟩, nD⟩⟩
      simp only [LLe1, List.mem_cons, List.not_mem_nil, or_false] at hp
      rcases hp with rfl | rfl | rfl
      · exact ⟨_, rfl, str_tr hx⟩
      · exact ⟨_, rfl, str_tr hn⟩
      · exact ⟨_, rfl, .str _ (by rw [sizeLine_eq]; decide)⟩
    rintro σ H1 ⟨D, S, nD⟩
    refine ⟨Stg K (LLe1 x name) [some (.str x), some (.str name), some (.str eightS), some (.ref D), none] D H 1, app_stage (m := 0) r1 S rfl nD eight_ok (by omega) (fun H' S => S), ?_⟩
    rintro σ H2 ⟨rfl, g2, C2, s2⟩
    have e9 : (eightS ++ ("i" : Str)).length = 9 := by decide
    refine ⟨fun σ H3 => ∃ (D : Addr) (v4 : Option V), σ = [some (.str x), some (.str name), some (.str eightS), some (.ref D), v4] ∧ H D = none ∧ Coll K H3 D 11 ∧ Same H H3, ?_, ?_⟩
    · refine ⟨_, rfl, _, _, rfl, rfl, (by rw [sizeLine_eq]; decide), rfl, rfl, fun z hz => ⟨(by show 2 ≤ sizeLine; decide), fun q nq => ?_⟩⟩
      have s3 := same_new (o := .tup [.str (eightS ++ ("i" : Str)), .str z]) nq
      have e3 : (upd H2 q (.tup [.str (eightS ++ ("i" : Str)), .str z])) q = some (.tup [.str (eightS ++ ("i" : Str)), .str z]) := upd_same
      have C3 := C2.same s3
      generalize upd H2 q (.tup [.str (eightS ++ ("i" : Str)), .str z]) = H3 at s3 e3 C3 ⊢
      have s03 := s2.trans s3
      have nqH : H q = none := s2.free nq
      refine ⟨q, rfl, ⟨_, SqT.of e3⟩, for_it (walk_tup (K := K) (a := q) (xs := [.str (eightS ++ ("i" : Str)), .str z])) (fun i σ H4 => ∃ (D : Addr) (v4 : Option V), σ = [some (.str x), some (.str name), some (.str eightS), some (.ref D), v4] ∧ H D = none ∧ H4 q = some (.tup [.str (eightS ++ ("i" : Str)), .str z]) ∧ Coll K H4 D (1 + 5 * i) ∧ Same H H4)
        ⟨D, none, rfl, nD, e3, C3, s03⟩ (fun i σ H4 _ ⟨_, _, _, _, e4, _⟩ => SqT.of e4) ?_ ?_⟩
      · rintro i y σ H5 H4 hi ⟨D, v4, rfl, nD, e4, C4, s4⟩ ⟨rfl, hy⟩
        obtain ⟨long, rfl, hl8, hlz⟩ : ∃ long : Str, y = .str long ∧ 8 < long.length ∧ long.length ≤ sizeLine := by
          have hy : ([.str (eightS ++ ("i" : Str)), .str z] : List V)[i]? = some y := hy
          match i, hy with
          | 0, hy => cases hy; exact ⟨_, rfl, by rw [e9]; omega, by rw [e9, sizeLine_eq]; omega⟩
          | 1, hy => cases hy; exact ⟨z, rfl, by omega, by rw [sizeLine_eq]; omega⟩
        have hi : i < 2 := hi
        have gg : ∀ {v3 : Option V} {H' : Hp}, Gt K (LLe2 x name long) [some (.str x), some (.str name), some (.str eightS), v3, some (.str long)] H' := fun {v3 H'} p hp => by
          simp only [LLe2, List.mem_cons, List.not_mem_nil, or_false] at hp
          rcases hp with rfl | rfl | rfl | rfl
          · exact ⟨_, rfl, str_tr hx⟩
          · exact ⟨_, rfl, str_tr hn⟩
          · exact ⟨_, rfl, .str _ (by rw [sizeLine_eq]; decide)⟩
          · exact ⟨_, rfl, .str _ hlz⟩
        refine ⟨fun σ H6 => ∃ D : Addr, Stg K (LLe2 x name long) [some (.str x), some (.str name), some (.str eightS), some (.ref D), some (.str long)] D H4 (1 + 5 * i + 2) σ H6 ∧ H4 D = none, ?_, ?_⟩
        · refine cat_stage (H0 := H4) (r2 long) gg rfl C4 (fun _ _ e => e) ?_ (by omega) (Nat.le_of_ble_eq_true rfl) fun p H6 s6 _ np C6 => ⟨p, ⟨rfl, gg, C6, s6⟩, np⟩
          intro p hp
          simp only [List.mem_cons, List.not_mem_nil, or_false] at hp
          rcases hp with rfl | rfl
          · exact let_vars hl8
          · exact let_piece hx hl8
        rintro σ H6 ⟨D, S, nD⟩
        refine ⟨Stg K (LLe2 x name long) [some (.str x), some (.str name), some (.str eightS), some (.ref D), some (.str long)] D H4 (1 + 5 * i + 3), app_stage (m := 1 + 5 * i + 2) (r3 long) S rfl nD (let_param hx hl8) (by omega) (fun H' S => S), ?_⟩
        rintro σ H7 S
        refine ⟨Stg K (LLe2 x name long) [some (.str x), some (.str name), some (.str eightS), some (.ref D), some (.str long)] D H4 (1 + 5 * i + 4), app_stage (m := 1 + 5 * i + 3) (r4 long) S rfl nD (let_copy hx hn hl8) (by omega) (fun H' S => S), ?_⟩
        rintro σ H8 S
        refine app_stage (m := 1 + 5 * i + 4) (r5 long) S rfl nD (let_set hx hn hl8) (by omega) fun H' S => ?_
        obtain ⟨_, _, C9, s9⟩ := S
        exact ⟨D, _, rfl, s4.free nD, s9 _ _ e4, C9.more (by omega), s4.trans s9⟩
      · rintro σ H4 ⟨D, v4, rfl, nD, e4, C4, s4⟩
        exact ⟨D, v4, rfl, nD, C4, s4⟩
    rintro σ H3 ⟨D, v4, rfl, nD, C, s3⟩
    exact ⟨_, rfl, k D H3 s3 nD (C.more (by omega))⟩
end
end BK

set_option Elab.async false
set_option maxRecDepth 100000
set_option maxHeartbeats 4000000
set_option linter.unusedVariables false
/-! _law_truths -/
namespace BK
open PySem PySem.Spec PyProof.Rows L2 SW RZ ET
abbrev sTt : Stmt := top 62
abbrev nTt : List Str := ["x", "name", "far", "found", "number", "truth", "at", "some", "k", "block", "bad", "right"]
theorem scTt : FnScope nTt ["x", "name", "far"] (defScope sTt) := ⟨rfl, rfl, rfl, by decide +kernel, rfl, by decide +kernel, by decide +kernel⟩
def spTt (K : PySem.W.Frag) : Sp := fun vs H Q _ => ∃ x name far : Str, vs = [.str x, .str name, .str far] ∧ nameS x = true ∧ nameS name = true ∧ nameS far = true ∧ Tells K 20 H Q
def bodyOf : Stmt → List Stmt
  | .For _ _ b _ _ => b
  | _ => []
abbrev inTt (j : Nat) : Stmt := bodyAt (bodyAt (stAt sTt 1) 0) j
abbrev LTt (x name far : Str) (nb : Int) : List (Nat × Tr) := [(0, .str x), (1, .str name), (2, .str far), (4, .int nb)]
abbrev LTu (x name far : Str) (nb : Int) : List (Nat × Tr) := [(0, .str x), (1, .str name), (2, .str far), (4, .int nb), (11, .tup (truT x far (.int nb) (.int nb) (.int nb) (.int nb)))]
def svV (nb : Int) (tb : Bool) (at_ k : Nat) : V := if k = at_ then .bl tb else .int nb
def svT (nb : Int) (tb : Bool) (at_ k : Nat) : Tr := if k = at_ then .bl tb else .int nb
theorem sv_tr {K : PySem.W.Frag} {H : Hp} (nb : Int) (tb : Bool) (at_ k : Nat) : TrAt K H (svV nb tb at_ k) (svT nb tb at_ k) := by
  unfold svV svT
  split
  · exact .bl tb
  · exact .int nb
def badTt (at_ : Nat) : Tr := if at_ = 4 then .non else .tup [.int 0, .tup (intsT [at_])]
theorem tru_all {x name f : Str} (hx : nameS x = true) (hn : nameS name = true) (hf : nameS f = true) {nb : Int} {tb : Bool} (h0 : 0 ≤ nb) (h1 : nb ≤ 99) : ∀ at_ : Nat, at_ < 5 → PairK (.tup [bkT x name (truT x f (svT nb tb at_ 0) (svT nb tb at_ 1) (svT nb tb at_ 2) (svT nb tb at_ 3)), badTt at_])
  | 0, _ => tru_0 hx hn hf h0 h1
  | 1, _ => tru_1 hx hn hf h0 h1
  | 2, _ => tru_2 hx hn hf h0 h1
  | 3, _ => tru_3 hx hn hf h0 h1
  | 4, _ => tru_ok hx hn hf h0 h1
  | n + 5, h => absurd h (by omega)
section
variable {P : Program} {w : World} {K : PySem.W.Frag} {mg : Str → Option Value} {base : Heap}
theorem ok_truths {f fB : Addr} {fd fdB : FuncData} (F : Fun K "_law_truths" "_law_truths" sTt f fd) (mR : mg "range" = none) (GB : FnOk P w K mg base CX0 1 fB fdB ["x", "name", "block"] (spLBook K)) (bB : Binds K fdB ["x", "name", "block"] []) (gB : mg "_law_book" = some (.ref fB)) (kB : PySem.W.keepIn K (.ref fB) = true) :
    FnOk P w K mg base CX0 2 f fd ["x", "name", "far"] (spTt K) := by
  refine F.ok scTt (fun vs H Q E h => ?_) (fun cdv A outer s H vs Q E hr h => ?_)
  · obtain ⟨x, name, far, rfl, _⟩ := h
    rfl
  · obtain ⟨x, name, far, rfl, hx, hn, hf, k⟩ := h
    have hr1 : Room 1 _ := hr.mono (by decide)
    have d3 : ETu (cxOf CX0 P w K mg base nTt "_law_truths" (defScope sTt) f cdv A outer s H E).nox (LTt x name far) (valueOf (inTt 3)) _ := (eu_tup (eb_cons (eu_tup (eb_cons eu_str (eb_cons (eu_var (pv 0) (fun _ => (.head _))) (eb_cons (eu_var (pv 4) (fun _ => (.tail _ (.tail _ (.tail _ (.head _)))))) eb_nil)))) (eb_cons (eu_tup (eb_cons eu_str (eb_cons (eu_var (pv 2) (fun _ => (.tail _ (.tail _ (.head _))))) (eb_cons (eu_var (pv 0) (fun _ => (.head _))) (eb_cons (eu_var (pv 4) (fun _ => (.tail _ (.tail _ (.tail _ (.head _)))))) eb_nil))))) (eb_cons (eu_tup (eb_cons eu_str (eb_cons (eu_var (pv 0) (fun _ => (.head _))) (eb_cons (eu_var (pv 4) (fun _ => (.tail _ (.tail _ (.tail _ (.head _)))))) (eb_cons (eu_tup eb_nil) (eb_cons (eu_tup eb_nil) eb_nil)))))) (eb_cons (eu_tup (eb_cons eu_str (eb_cons (eu_var (pv 0) (fun _ => (.head _))) (eb_cons (eu_var (pv 4) (fun _ => (.tail _ (.tail _ (.tail _ (.head _)))))) (eb_cons (eu_tup eb_nil) eb_nil))))) eb_nil)))))
    obtain ⟨te3, p3, r3⟩ := d3
    have d4 : ETu (cxOf CX0 P w K mg base nTt "_law_truths" (defScope sTt) f cdv A outer s H E).nox (LTu x name far) (argOf (valueOf (inTt 4))) _ := (eu_tup (eb_cons (eu_book GB bB gB kB hr1 (eu_var (pv 0) (fun _ => (.head _))) (eu_var (pv 1) (fun _ => (.tail _ (.head _)))) (eu_var (pv 11) (fun _ => (.tail _ (.tail _ (.tail _ (.tail _ (.head _)))))))) (eb_cons eu_non eb_nil)))
    obtain ⟨te4, p4, r4⟩ := d4
    refine ⟨_, pss_cons (ps_set (i := 3) scTt.nd rfl (Or.inl rfl) (pe_lst pa_nil))
      (C8.pss_cut (ps_for PassesOwn.never rfl (pi_tup (pe_tup (pa_cons (pe_tup (pa_cons pe_int (pa_cons pe_bl pa_nil))) (pa_cons (pe_tup (pa_cons pe_int (pa_cons pe_bl pa_nil))) pa_nil))))
          (pg_tup rfl (pgs_cons (pg_name (i := 4) scTt.nd rfl (Or.inr rfl)) (pgs_cons (pg_name (i := 5) scTt.nd rfl (Or.inr rfl)) pgs_nil)))
        (pss_one (ps_for PassesOwn.never rfl (pi_range1 rfl mR (pa_cons pe_int pa_nil)) (pg_name (i := 6) scTt.nd rfl (Or.inr rfl))
          (C8.pss_cut (ps_setLc (i := 7) (own := [("k", 8)]) (g := gName 8) (tt := tYes) rfl scTt.nd rfl rfl (sw_true rfl rfl rfl rfl) (pi_range1 rfl mR (pa_cons pe_int pa_nil)) (blkOk_by (N := nTt) (sc := defScope sTt) (by decide +kernel))
              (fun _ _ _ _ _ => pg_name (i := 8) scTt.nd rfl (Or.inl rfl)) (fun _ _ _ _ _ => pts_nil) (fun _ _ _ _ _ => pe_ifExp (pt_cmpR op_eq (pv 8) (pv 6) (nomark _)) (pv 5) (pv 4)))
          (C8.pss_cut (ps_set (i := 9) scTt.nd rfl (Or.inl rfl) (pe_tup (pa_cons (pe_tup (pa_cons pe_str (pa_cons (pv 0) (pa_cons (pe_ix ix_list (pv 7) pe_int (fun _ _ => rfl)) pa_nil)))) (pa_cons (pe_tup (pa_cons pe_str (pa_cons (pv 2) (pa_cons (pv 0) (pa_cons (pe_ix ix_list (pv 7) pe_int (fun _ _ => rfl)) pa_nil))))) (pa_cons (pe_tup (pa_cons pe_str (pa_cons (pv 0) (pa_cons (pe_ix ix_list (pv 7) pe_int (fun _ _ => rfl)) (pa_cons (pe_tup pa_nil) (pa_cons (pe_tup pa_nil) pa_nil)))))) pa_nil)))))
          (C8.pss_cut (ps_set (i := 10) scTt.nd rfl (Or.inl rfl) (pe_ifExp (pt_cmpR op_eq (pv 6) pe_int (nomark _)) pe_non (pe_tup (pa_cons pe_int (pa_cons (pe_tup (pa_cons (pv 6) pa_nil)) pa_nil)))))
          (C8.pss_cut (ps_set (i := 11) scTt.nd rfl (Or.inl rfl) p3)
          (C8.pss_cut (ps_expr (pe_bm PySem.F.plainAttrs_list PySem.F.slot_list_append PySem.F.type_list_append mt_append (pv 3) (pa_cons p4 pa_nil)))
          (pss_one (ps_expr (pe_bm PySem.F.plainAttrs_list PySem.F.slot_list_append PySem.F.type_list_append mt_append (pv 3) (pa_cons (pe_tup (pa_cons (pe_call GB hr1 rfl gB kB bB .nil pass0 (pa_cons (pv 0) (pa_cons (pv 1) (pa_cons (pe_op op_catA (pv 9) (pe_tup (pa_cons (pe_tup (pa_cons pe_str (pa_cons (pv 0) (pa_cons (pe_ix ix_list (pv 7) pe_int (fun _ _ => rfl)) (pa_cons (pe_tup pa_nil) pa_nil))))) pa_nil))) pa_nil)))) (pa_cons (pv 10) pa_nil))) pa_nil))))))))))))
      (pss_one (ps_ret (pv 3)))), ?_⟩
    have one' : 1 ≤ sizeLine := by decide
    have two' : 2 ≤ sizeLine := by decide
    have three' : 3 ≤ sizeLine := by decide
    have four' : 4 ≤ sizeLine := by decide
    have five' : 5 ≤ sizeLine := by decide
    refine ⟨Nat.zero_le _, fun D nD => ?_⟩
    have s0 := same_new (o := .lst []) nD
    refine ⟨fun σ H1 => ∃ v4 v5 v6 v7 v9 v10 v11 : Option V, σ = [some (.str x), some (.str name), some (.str far), some (.ref D), v4, v5, v6, v7, none, v9, v10, v11] ∧ Coll K H1 D 20 ∧ Same H H1, ?_, ?_⟩
    · refine ⟨two', fun p1 np1 => ⟨two', fun p2 np2 => ⟨two', fun p3 np3 => ?_⟩⟩⟩
      have C0 : Coll K (upd H D (.lst [])) D 0 := ⟨[], [], upd_same, .nil, Nat.le_refl _, fun _ hp => (by cases hp)⟩
      generalize upd H D (.lst []) = G0 at s0 C0 np1 np2 np3 ⊢
      obtain ⟨a1, t1⟩ := new_tr (K := K) np1 (.cons (.int 0) (.cons (.bl false) .nil))
      generalize upd G0 p1 (.tup [.int 0, .bl false]) = G1 at a1 t1 np2 np3 ⊢
      obtain ⟨a2, t2⟩ := new_tr (K := K) np2 (.cons (.int 1) (.cons (.bl true) .nil))
      have t1 := t1.same a2
      generalize upd G1 p2 (.tup [.int 1, .bl true]) = G2 at a2 t2 t1 np3 ⊢
      have a3 := same_new (o := .tup [.ref p1, .ref p2]) np3
      have e3 : SqT K (upd G2 p3 (.tup [.ref p1, .ref p2])) p3 [.ref p1, .ref p2] := SqT.of upd_same
      have t1 := t1.same a3
      have t2 := t2.same a3
      generalize upd G2 p3 (.tup [.ref p1, .ref p2]) = G3 at a3 e3 t1 t2 ⊢
      have sG : Same G0 G3 := (a1.trans a2).trans a3
      refine ⟨p3, rfl, ⟨_, e3⟩, for_it (walk_tup (K := K) (a := p3) (xs := [.ref p1, .ref p2])) (fun i σ H4 => ∃ v4 v5 v6 v7 v9 v10 v11 : Option V, σ = [some (.str x), some (.str name), some (.str far), some (.ref D), v4, v5, v6, v7, none, v9, v10, v11] ∧ Coll K H4 D (10 * i) ∧ Same H H4 ∧ Kp K G3 H4)
        ⟨none, none, none, none, none, none, none, rfl, C0.same sG, s0.trans sG, Kp.refl⟩ (fun i σ H4 _ ⟨_, _, _, _, _, _, _, _, _, _, kp⟩ => kp.s _ _ e3) ?_ (fun σ H4 ⟨v4, v5, v6, v7, v9, v10, v11, e, C, s, _⟩ => ⟨v4, v5, v6, v7, v9, v10, v11, e, C, s⟩)⟩
      rintro i y σ H5 H4 hi ⟨v4, v5, v6, v7, v9, v10, v11, rfl, C4, s4, kp4⟩ ⟨rfl, hy⟩
      have hi : i < 2 := hi
      have hy : ([.ref p1, .ref p2] : List V)[i]? = some y := hy
      obtain ⟨nb, tb, n0, n9, ty⟩ : ∃ (nb : Int) (tb : Bool), 0 ≤ nb ∧ nb ≤ 99 ∧ TrAt K G3 y (.tup [.int nb, .bl tb]) := by
        match i, hy with
        | 0, hy => cases hy; exact ⟨0, false, by decide, by decide, t1⟩
        | 1, hy => cases hy; exact ⟨1, true, by decide, by decide, t2⟩
      have ty := kp4.t _ _ ty
      cases ty with
      | @tup ya us _ hya tu =>
      cases tu with
      | @cons u1 _ _ _ tu1 tu =>
      cases tu with
      | @cons u2 _ _ _ tu2 tu =>
      cases tu with
      | nil =>
      cases tu1
      cases tu2
      refine ⟨ya, _, rfl, hya, rfl, _, _, rfl, _, _, rfl, rfl, ?_⟩
      refine ⟨(5 : Int), rfl, by omega, by omega, for_range (lo := 0) (n := (5 : Int).toNat) (fun j σ H5 => ∃ v6 v7 v9 v10 v11 : Option V, σ = [some (.str x), some (.str name), some (.str far), some (.ref D), some (.int nb), some (.bl tb), v6, v7, none, v9, v10, v11] ∧ Coll K H5 D (10 * i + 2 * j) ∧ Same H H5 ∧ Kp K G3 H5)
        ⟨v6, v7, v9, v10, v11, rfl, C4, s4, kp4⟩ ?_ ?_⟩
      · rintro j σ H5 hj ⟨v6, v7, v9, v10, v11, rfl, C5, s5, kp5⟩
        have hj : j < 5 := hj
        rw [Int.zero_add]
        refine ⟨fun σ H6 => ∃ S : Addr, σ = [some (.str x), some (.str name), some (.str far), some (.ref D), some (.int nb), some (.bl tb), some (.int (j : Nat)), some (.ref S), none, v9, v10, v11] ∧ Same H5 H6 ∧ H5 S = none ∧ H6 S = some (.lst ((List.range 4).map (svV nb tb j))), ?_, ?_⟩
        · refine ⟨(4 : Int), rfl, by omega, by omega, fun S nS => ?_⟩
          refine lc_range (lo := 0) (n := (4 : Int).toNat) (fun q H3 => H3 S = some (.lst ((List.range q).map (svV nb tb j))) ∧ Same H5 H3) ⟨upd_same, same_new nS⟩ ?_ ?_
          · rintro q H3 hq ⟨e1, s3⟩
            have hq : q < 4 := hq
            have lt : ((List.range q).map (svV nb tb j)).length < sizeLine := small1000 (by rw [List.length_map, List.length_range]; omega)
            refine ⟨rfl, ?_⟩
            refine tyes ?_
            rw [Int.zero_add]
            have fin : ∀ v : V, v = svV nb tb j q → ∃ acc, H3 S = some (.lst acc) ∧ acc.length < sizeLine ∧ (L2.upd H3 S (.lst (acc ++ [v]))) S = some (.lst ((List.range (q + 1)).map (svV nb tb j))) ∧ Same H5 (L2.upd H3 S (.lst (acc ++ [v]))) := fun v ev => ⟨_, e1, lt, by rw [upd_same, List.range_succ, List.map_append, ev]; rfl, Same.new s3 nS⟩
            refine ⟨_, rfl, _, rfl, rfl, _, rfl, ?_⟩
            refine ite2 (fun h => ?_) (fun h => ?_)
            · refine ⟨_, rfl, fin _ ?_⟩
              have : q = j := by
                have z : V.int (q : Nat) = V.int (j : Nat) := of_decide_eq_true h
                injection z with z
                omega
              unfold svV
              rw [if_pos this]
            · refine ⟨_, rfl, fin _ ?_⟩
              have : ¬ q = j := fun z => h (decide_eq_true (by rw [z]))
              unfold svV
              rw [if_neg this]
          · rintro H3 ⟨e1, s3⟩
            exact ⟨S, rfl, s3, nS, e1⟩
        rintro σ H6 ⟨S, rfl, s6, nS, e6⟩
        have C6 := C5.same s6
        have e6 : H6 S = some (.lst [svV nb tb j 0, svV nb tb j 1, svV nb tb j 2, svV nb tb j 3]) := e6
        obtain ⟨vs5, _, eD5, _⟩ := id C5
        have SD : S ≠ D := fun z => by rw [z, eD5] at nS; cases nS
        have lx : ∀ {H : Hp}, TrAt K H (.str x) (.str x) := str_tr hx
        have lf : ∀ {H : Hp}, TrAt K H (.str far) (.str far) := str_tr hf
        -- block
        refine ⟨fun σ H7 => ∃ B : V, σ = [some (.str x), some (.str name), some (.str far), some (.ref D), some (.int nb), some (.bl tb), some (.int (j : Nat)), some (.ref S), none, some B, v10, v11] ∧ Same H6 H7 ∧ TrAt K H7 B (.tup [setT x (svT nb tb j 0), holdT far x (svT nb tb j 1), ifS x (svT nb tb j 2) [] []]), ?_, ?_⟩
        · refine ⟨_, rfl, _, rfl, S, _, 0, _, rfl, rfl, SqL.of e6, rfl, three', fun q1 n1 => ?_⟩
          obtain ⟨b1, c1⟩ := new_tr (K := K) n1 (.cons (.str "set" (by decide)) (.cons lx (.cons (sv_tr nb tb j 0) .nil)))
          generalize upd H6 q1 (.tup [.str "set", .str x, svV nb tb j 0]) = F1 at b1 c1 ⊢
          refine ⟨_, rfl, _, rfl, _, rfl, S, _, 1, _, rfl, rfl, SqL.of (b1 _ _ e6), rfl, four', fun q2 n2 => ?_⟩
          obtain ⟨b2, c2⟩ := new_tr (K := K) n2 (.cons (.str "hold" (by decide)) (.cons lf (.cons lx (.cons (sv_tr nb tb j 1) .nil))))
          generalize upd F1 q2 (.tup [.str "hold", .str far, .str x, svV nb tb j 1]) = F2 at b2 c2 ⊢
          have b12 := b1.trans b2
          refine ⟨_, rfl, _, rfl, S, _, 2, _, rfl, rfl, SqL.of (b12 _ _ e6), rfl, Nat.zero_le _, fun q3 n3 => ⟨Nat.zero_le _, fun q4 n4 => ⟨five', fun q5 n5 => ⟨three', fun q6 n6 => ?_⟩⟩⟩⟩
          obtain ⟨b3, c3⟩ := new_tr (K := K) n3 .nil
          generalize upd F2 q3 (.tup []) = F3 at b3 c3 n4 n5 n6 ⊢
          obtain ⟨b4, c4⟩ := new_tr (K := K) n4 .nil
          generalize upd F3 q4 (.tup []) = F4 at b4 c4 n5 n6 ⊢
          obtain ⟨b5, c5⟩ := new_tr (K := K) n5 (.cons (.str "if" (by decide)) (.cons lx (.cons (sv_tr nb tb j 2) (.cons (c3.same b4) (.cons c4 .nil)))))
          generalize upd F4 q5 (.tup [.str "if", .str x, svV nb tb j 2, .ref q3, .ref q4]) = F5 at b5 c5 n6 ⊢
          have b345 := (b3.trans b4).trans b5
          obtain ⟨b6, c6⟩ := new_tr n6 (.cons ((c1.same b2).same b345) (.cons (c2.same b345) (.cons c5 .nil)))
          exact ⟨_, rfl, b12.trans (b345.trans b6), c6⟩
        rintro σ H7 ⟨B, rfl, s7, tB⟩
        -- bad
        refine ⟨fun σ H8 => ∃ b : V, σ = [some (.str x), some (.str name), some (.str far), some (.ref D), some (.int nb), some (.bl tb), some (.int (j : Nat)), some (.ref S), none, some B, some b, v11] ∧ Same H7 H8 ∧ TrAt K H8 b (badTt j), ?_, ?_⟩
        · refine ⟨_, rfl, rfl, _, rfl, ?_⟩
          refine ite2 (fun h => ?_) (fun h => ?_)
          · have : j = 4 := by
              have z : V.int (j : Nat) = V.int 4 := of_decide_eq_true h
              injection z with z
              omega
            subst this
            exact ⟨.non, rfl, fun _ _ e => e, .non⟩
          · have nj : ¬ j = 4 := fun z => h (decide_eq_true (by rw [z]; rfl))
            refine ⟨_, rfl, one', fun q1 n1 => ⟨two', fun q2 n2 => ?_⟩⟩
            obtain ⟨b1, c1⟩ := new_tr (K := K) n1 (.cons (.int (j : Nat)) .nil)
            generalize upd H7 q1 (.tup [.int (j : Nat)]) = F1 at b1 c1 n2 ⊢
            obtain ⟨b2, c2⟩ := new_tr (K := K) n2 (.cons (.int 0) (.cons c1 .nil))
            refine ⟨_, rfl, b1.trans b2, ?_⟩
            unfold badTt
            rw [if_neg nj]
            exact c2
        rintro σ H8 ⟨bv, rfl, s8, tb8⟩
        -- right
        have gR : ∀ {H' : Hp} {v : Option V}, Gt K (LTt x name far nb) [some (.str x), some (.str name), some (.str far), some (.ref D), some (.int nb), some (.bl tb), some (.int (j : Nat)), some (.ref S), none, some B, some bv, v] H' := fun {H' v} p hp => by
          simp only [LTt, List.mem_cons, List.not_mem_nil, or_false] at hp
          rcases hp with rfl | rfl | rfl | rfl
          · exact ⟨_, rfl, str_tr hx⟩
          · exact ⟨_, rfl, str_tr hn⟩
          · exact ⟨_, rfl, str_tr hf⟩
          · exact ⟨_, rfl, .int nb⟩
        refine ⟨fun σ H9 => ∃ rv : V, σ = [some (.str x), some (.str name), some (.str far), some (.ref D), some (.int nb), some (.bl tb), some (.int (j : Nat)), some (.ref S), none, some B, some bv, some rv] ∧ Same H8 H9 ∧ TrAt K H9 rv (.tup (truT x far (.int nb) (.int nb) (.int nb) (.int nb))), ?_, ?_⟩
        · exact r3 nb _ H8 _ gR fun rv H9 s9 t9 => ⟨rv, rfl, s9, t9⟩
        rintro σ H9 ⟨rv, rfl, s9, t9⟩
        have s69 := (s7.trans s8).trans s9
        have gA : Gt K (LTu x name far nb) [some (.str x), some (.str name), some (.str far), some (.ref D), some (.int nb), some (.bl tb), some (.int (j : Nat)), some (.ref S), none, some B, some bv, some rv] H9 := fun p hp => by
          simp only [LTu, List.mem_cons, List.not_mem_nil, or_false] at hp
          rcases hp with rfl | rfl | rfl | rfl | rfl
          · exact ⟨_, rfl, str_tr hx⟩
          · exact ⟨_, rfl, str_tr hn⟩
          · exact ⟨_, rfl, str_tr hf⟩
          · exact ⟨_, rfl, .int nb⟩
          · exact ⟨_, rfl, t9⟩
        have kp9 : Kp K G3 H9 := kp5.trans (Kp.of (s6.trans s69))
        have sH9 := (s5.trans s6).trans s69
        refine ⟨fun σ HA => σ = [some (.str x), some (.str name), some (.str far), some (.ref D), some (.int nb), some (.bl tb), some (.int (j : Nat)), some (.ref S), none, some B, some bv, some rv] ∧ Coll K HA D (10 * i + 2 * j + 1) ∧ Same H HA ∧ Kp K H9 HA ∧ HA S = some (.lst [svV nb tb j 0, svV nb tb j 1, svV nb tb j 2, svV nb tb j 3]), ?_, ?_⟩
        · exact app_kp (m := 10 * i + 2 * j) (H0 := H) (r4 nb) gA rfl (C6.same s69) sH9 nD (tru_ok hx hn hf n0 n9) (by omega) fun HA CA sA kA lA => ⟨rfl, CA, sA, kA, lA S _ SD (s69 _ _ e6)⟩
        rintro σ HA ⟨rfl, CA, sA, kA, eA⟩
        have tBA := kA.t _ _ (tB.same (s8.trans s9))
        have tbA := kA.t _ _ (tb8.same s9)
        obtain ⟨vsA, _, eDA, _⟩ := id CA
        refine ⟨_, rfl, .inl ⟨rfl, _, SqL.of eDA⟩, ?_⟩
        refine ⟨_, rfl, _, rfl, _, rfl, _, rfl, _, rfl, S, _, 3, _, rfl, rfl, SqL.of eA, rfl, Nat.zero_le _, fun q1 n1 => ⟨four', fun q2 n2 => ⟨one', fun q3 n3 => ?_⟩⟩⟩
        obtain ⟨b1, c1⟩ := new_tr (K := K) n1 .nil
        generalize upd HA q1 (.tup []) = F1 at b1 c1 n2 n3 ⊢
        obtain ⟨b2, c2⟩ := new_tr (K := K) n2 (.cons (.str "with" (by decide)) (.cons lx (.cons (sv_tr nb tb j 3) (.cons c1 .nil))))
        generalize upd F1 q2 (.tup [.str "with", .str x, svV nb tb j 3, .ref q1]) = F2 at b2 c2 n3 ⊢
        obtain ⟨b3, c3⟩ := new_tr n3 (.cons c2 .nil)
        generalize upd F2 q3 (.tup [.ref q2]) = F3 at b3 c3 ⊢
        have bA := (b1.trans b2).trans b3
        refine cat_tr (tBA.same bA) c3 (by simp) (by simp) fun r HB sB tr => ?_
        refine ⟨_, _, _, _, _, _, rfl, str_tr hx, str_tr hn, tr, fun bk HC sC tk => ?_⟩
        refine ⟨_, rfl, two', fun q5 n5 => ?_⟩
        have sAC := (bA.trans sB).trans sC
        obtain ⟨b5, c5⟩ := new_tr n5 (.cons tk (.cons (tbA.same sAC) .nil))
        generalize upd HC q5 (.tup [bk, bv]) = HD at b5 c5 ⊢
        obtain ⟨vs, e1, lt, C2, kp⟩ := (CA.same (sAC.trans b5)).push c5 (tru_all hx hn hf n0 n9 j hj) (by omega)
        refine ⟨D, vs, _, rfl, rfl, e1, lt, _, _, _, _, _, rfl, C2.more (by omega), fun b o eb => ?_, (kp9.trans kA).trans ((Kp.of (sAC.trans b5)).trans kp)⟩
        rw [upd_ne (ne_of_none eb nD)]
        exact (sAC.trans b5) _ _ (sA b o eb)
      · rintro σ H5 ⟨v6, v7, v9, v10, v11, rfl, C5, s5, kp5⟩
        exact ⟨_, _, v6, v7, v9, v10, v11, rfl, C5.more (by show 10 * i + 2 * 5 ≤ _; omega), s5, kp5⟩
    rintro σ H1 ⟨v4, v5, v6, v7, v9, v10, v11, rfl, C, s1⟩
    exact ⟨_, rfl, k D H1 s1 nD C⟩
end
end BK

set_option Elab.async false
set_option maxRecDepth 100000
set_option maxHeartbeats 4000000
set_option linter.unusedVariables false
/-! _law_counts -/
namespace BK
open PySem PySem.Spec PyProof.Rows L2 SW RZ ET
abbrev sCo : Stmt := top 58
abbrev nCo : List Str := ["x", "name", "names", "show", "halt", "some", "one", "many", "bad", "pair", "source"]
theorem scCo : FnScope nCo ["x", "name", "names"] (defScope sCo) := ⟨rfl, rfl, rfl, by decide +kernel, rfl, by decide +kernel, by decide +kernel⟩
/-- the slots hold trees, and a list of names in the third -/
structure Gn (K : PySem.W.Frag) (L : List (Nat × Tr)) (nm : Addr) (ns : List Str) (σ : L2.St) (H : Hp) : Prop where
  g : Gt K L σ H
  n : H nm = some (.lst (ns.map V.str))
  s : ∃ a0 a1 a3 a4 a5 a6 a7 a8 a9 aA : Option V, σ = [a0, a1, some (.ref nm), a3, a4, a5, a6, a7, a8, a9, aA]
theorem Gn.same {K : PySem.W.Frag} {L : List (Nat × Tr)} {nm : Addr} {ns : List Str} {σ : L2.St} {H H' : Hp} (G : Gn K L nm ns σ H) (e : Same H H') : Gn K L nm ns σ H' := ⟨G.g.same e, e _ _ G.n, G.s⟩
def ETn (X : Cx) (L : List (Nat × Tr)) (nm : Addr) (ns : List Str) (e : Expr) (t : Tr) : Prop := ∃ te : TE, PE X e te ∧ ∀ σ H Q, Gn X.K L nm ns σ H → (∀ v H', Same H H' → TrAt X.K H' v t → Q v H') → te σ H Q
def EAn (X : Cx) (L : List (Nat × Tr)) (nm : Addr) (ns : List Str) (es : List Expr) (ts : List Tr) : Prop := ∃ ta : TA, PA X es ta ∧ ∀ σ H Q, Gn X.K L nm ns σ H → (∀ vs H', Same H H' → TrAll X.K H' vs ts → Q vs H') → ta σ H Q
def ELn (X : Cx) (L : List (Nat × Tr)) (nm : Addr) (ns : List Str) (e : Expr) (ts : List Tr) : Prop := ∃ te : TE, PE X e te ∧ ∀ σ H Q, Gn X.K L nm ns σ H → (∀ a vs H', Same H H' → H a = none → H' a = some (.lst vs) → TrAll X.K H' vs ts → Q (.ref a) H') → te σ H Q
section
variable {X : Cx} {L : List (Nat × Tr)} {nm : Addr} {ns : List Str}
theorem en_of {e : Expr} {t : Tr} (h : ETr X L e t) : ETn X L nm ns e t := let ⟨te, p, r⟩ := h; ⟨te, p, fun σ H Q G k => r σ H Q G.g k⟩
theorem en_nil : EAn X L nm ns [] [] := ⟨_, pa_nil, fun _ H _ _ k => k _ H (fun _ _ e => e) .nil⟩
theorem en_cons {e : Expr} {es : List Expr} {t : Tr} {ts : List Tr} (h : ETn X L nm ns e t) (r : EAn X L nm ns es ts) (hs : starEach (e :: es) X.env = (false, eval e X.env) :: starEach es X.env := by rfl) : EAn X L nm ns (e :: es) (t :: ts) := by
  obtain ⟨te, p, q⟩ := h
  obtain ⟨ta, p2, q2⟩ := r
  exact ⟨_, pa_cons p p2 hs, fun σ H Q g k => q σ H _ g fun v H1 s1 h1 => q2 σ H1 _ (g.same s1) fun vs H2 s2 h2 => k _ H2 (s1.trans s2) (.cons (h1.same s2) h2)⟩
theorem en_tup {es : List Expr} {k : Nat} {pos : Pos} {ts : List Tr} (h : EAn X L nm ns es ts) (hl : es.length ≤ 1000 := by exact Nat.le_of_ble_eq_true rfl) (hl2 : ts.length = es.length := by rfl) : ETn X L nm ns (.Tuple es k pos) (.tup ts) := by
  obtain ⟨ta, p, q⟩ := h
  refine ⟨_, pe_tup p, fun σ H Q g k => q σ H _ g fun vs H1 s1 h1 => ⟨?_, fun p np => k _ _ (s1.trans (same_new np)) (.tup (SqT.of upd_same) (h1.same (same_new np)))⟩⟩
  rw [h1.len, hl2, sizeLine_eq]
  omega
theorem en_cat {a b : Expr} {pos : Pos} {xs ys : List Tr} (h1 : ETn X L nm ns a (.tup xs)) (h2 : ETn X L nm ns b (.tup ys)) (l1 : xs.length ≤ 1000) (l2 : ys.length ≤ 1000) : ETn X L nm ns (.BinOp a .Add b pos) (.tup (xs ++ ys)) := by
  obtain ⟨ta, p1, q1⟩ := h1
  obtain ⟨tb, p2, q2⟩ := h2
  exact ⟨_, pe_op op_catA p1 p2, fun σ H Q g k => q1 σ H _ g fun v H1 s1 t1 => q2 σ H1 _ (g.same s1) fun u H2 s2 t2 => cat_tr (t1.same s2) t2 l1 l2 fun r H3 s3 t3 => k r H3 ((s1.trans s2).trans s3) t3⟩
theorem en_disp {es : List Expr} {pos : Pos} {ts : List Tr} (h : EAn X L nm ns es ts) (hl : es.length ≤ 1000 := by exact Nat.le_of_ble_eq_true rfl) (hl2 : ts.length = es.length := by rfl) : ELn X L nm ns (.List es pos) ts := by
  obtain ⟨ta, p, q⟩ := h
  refine ⟨_, pe_lst p, fun σ H Q g k => q σ H _ g fun vs H1 s1 h1 => ⟨?_, fun p np => k p vs _ (s1.trans (same_new np)) (s1.free np) upd_same (h1.same (same_new np))⟩⟩
  rw [h1.len, hl2, sizeLine_eq]
  omega
end
def mvC (b : Bool) : Int := if b = true then 17 else 16
def badC (w : List Nat) (b : Bool) : Tr := if b = true then .tup [.int 0, .tup (intsT w)] else .non
abbrev LCo (x name : Str) (w : List Nat) (b : Bool) : List (Nat × Tr) := [(0, .str x), (1, .str name), (3, showS x), (4, yieldS), (7, .int (mvC b)), (8, badC w b)]
abbrev LCs (x name : Str) (p : Tr × Tr) : List (Nat × Tr) := [(0, .str x), (1, .str name), (10, p.1), (8, p.2)]
theorem app1 {X : Cx} {i : Nat} {te : TE} {u : Tr} {σ : L2.St} {H0 H : Hp} {D : Addr} {m : Nat} {E : Ends} (r : ∀ Q : VK, (∀ v H', Same H H' → TrAt X.K H' v u → Q v H') → te σ H Q) (hσ : σ[i]? = some (some (.ref D))) (C : Coll X.K H D m) (s0 : Same H0 H) (nD : H0 D = none) (hp : PairK u) (hm : m ≤ 900)
    (k : ∀ H', Coll X.K H' D (m + 1) → Same H0 H' → Kp X.K H H' → E.nx σ H') : (tDrop (tBM X.K "list" rAppend (tVar i) (tCons te tNil))) E σ H := by
  obtain ⟨vs0, _, e0, _⟩ := id C
  refine ⟨.ref D, hσ, .inl ⟨rfl, _, SqL.of e0⟩, r _ fun v H1 s1 t1 => ?_⟩
  obtain ⟨vs, e1, lt, C2, kp⟩ := (C.same s1).push t1 hp hm
  refine ⟨D, vs, v, rfl, rfl, e1, lt, k _ C2 (fun b o eb => ?_) ((Kp.of s1).trans kp)⟩
  rw [upd_ne (ne_of_none eb nD)]
  exact s1 _ _ (s0 b o eb)
theorem cat1 {X : Cx} {i : Nat} {te : TE} {us : List Tr} {σ : L2.St} {H0 H : Hp} {D : Addr} {m : Nat} (r : ∀ Q : VK, (∀ a vs H', Same H H' → H a = none → H' a = some (.lst vs) → TrAll X.K H' vs us → Q (.ref a) H') → te σ H Q) (hσ : σ[i]? = some (some (.ref D))) (C : Coll X.K H D m) (s0 : Same H0 H) (hp : ∀ u ∈ us, PairK u) (hm : m ≤ 500) (hu : us.length ≤ 400) {Q : VK}
    (k : ∀ p H', Same H0 H' → Same H H' → H0 p = none → Coll X.K H' p (m + us.length) → Q (.ref p) H') : tOp rCat (tVar i) te σ H Q := by
  obtain ⟨vs, ts, h1, h2, h3, h4⟩ := C
  refine ⟨.ref D, hσ, r _ fun b ws H1 s1 nb eb tb => ?_⟩
  have e1 := s1 _ _ h1
  have l1 := h2.len
  have l2 := tb.len
  refine ⟨D, b, vs, ws, rfl, rfl, e1, eb, by rw [sizeLine_eq]; omega, fun p np => ?_⟩
  have s2 := same_new (o := .lst (vs ++ ws)) np
  refine k p _ ((s0.trans s1).trans s2) (s1.trans s2) ((s0.trans s1).free np) ⟨vs ++ ws, ts ++ us, upd_same, ((h2.same s1).app tb).same s2, by rw [List.length_append]; omega, fun q hq => ?_⟩
  rcases List.mem_append.mp hq with hq | hq
  · exact h4 q hq
  · exact hp q hq
def spCo (K : PySem.W.Frag) : Sp := fun vs H Q _ => ∃ (x name : Str) (nm : Addr) (n0 n1 n2 n3 n4 n5 n6 : Str), vs = [.str x, .str name, .ref nm] ∧ nameS x = true ∧ nameS name = true ∧ H nm = some (.lst ([n0, n1, n2, n3, n4, n5, n6].map V.str)) ∧ (∀ z ∈ [n0, n1, n2, n3, n4, n5, n6], nameS z = true) ∧ [n0, n1, n2, n3, n4, n5, n6].Nodup ∧ Tells K 40 H Q
def lstOf : Expr → List Expr
  | .List es _ => es
  | _ => []
theorem strs_tr {K : PySem.W.Frag} {H : Hp} : ∀ {zs : List Str}, (∀ z ∈ zs, nameS z = true) → TrAll K H (zs.map V.str) (zs.map Tr.str)
  | [], _ => .nil
  | z :: r, h => .cons (str_tr (h z List.mem_cons_self)) (strs_tr fun u hu => h u (List.mem_cons_of_mem _ hu))
section
variable {P : Program} {w : World} {K : PySem.W.Frag} {mg : Str → Option Value} {base : Heap}
theorem ok_counts {f fB : Addr} {fd fdB : FuncData} (F : Fun K "_law_counts" "_law_counts" sCo f fd) (mT : mg "tuple" = none) (GB : FnOk P w K mg base CX0 1 fB fdB ["x", "name", "block"] (spLBook K)) (bB : Binds K fdB ["x", "name", "block"] []) (gB : mg "_law_book" = some (.ref fB)) (kB : PySem.W.keepIn K (.ref fB) = true) :
    FnOk P w K mg base CX0 2 f fd ["x", "name", "names"] (spCo K) := by
  refine F.ok scCo (fun vs H Q E h => ?_) (fun cdv A outer s H vs Q E hr h => ?_)
  · obtain ⟨x, name, nm, n0, n1, n2, n3, n4, n5, n6, rfl, _⟩ := h
    rfl
  · obtain ⟨x, name, nm, n0, n1, n2, n3, n4, n5, n6, rfl, hx, hn, hnm, hns, hnd, k⟩ := h
    have hr1 : Room 1 _ := hr.mono (by decide)
    generalize hN : [n0, n1, n2, n3, n4, n5, n6] = ns at hnm hns hnd
    have hNl : ns.length = 7 := by rw [← hN]; rfl
    have c6 : ETn (cxOf CX0 P w K mg base nCo "_law_counts" (defScope sCo) f cdv A outer s H E).nox [(0, .str x)] nm ns ((eltsOf ((eltsOf ((lstOf (valueOf (stAt sCo 1))).getD 0 noE)).getD 0 noE)).getD 1 noE) (.tup ((ns.take 6).map fun n => pieT n (.tup []) [])) := by
      refine ⟨_, pe_tupleOf (by rfl) mT (pe_lc (own := [("one", 6)]) (g := gName 6) (tt := tYes) rfl scCo.nd (pi_list (pe_slice sl_list (pv 2) po_none (po_some pe_int))) (blkOk_by (N := nCo) (sc := defScope sCo) (by decide +kernel)) (fun _ _ _ _ _ => pg_name (i := 6) scCo.nd rfl (Or.inl rfl)) (fun _ _ _ _ _ => pts_nil) (fun _ _ _ _ _ => by exact pe_tup (pa_cons (pv 6) (pa_cons (pe_tup pa_nil) (pa_cons (pe_tup pa_nil) pa_nil))))), fun σ H1 Q1 G k1 => ?_⟩
      obtain ⟨a0, a1, a3, a4, a5, a6, a7, a8, a9, aA, rfl⟩ := G.s
      refine ⟨_, rfl, 6, rfl, nm, _, rfl, SqL.of G.n, fun q nq => ?_⟩
      have ec : cutV (ns.map V.str) none (some 6) = (ns.take 6).map V.str := by
        rw [← hN]
        unfold cutV
        simp [HT.sIx]
      rw [ec]
      have s1 := same_new (o := .lst ((ns.take 6).map V.str)) nq
      have e1 : (upd H1 q (.lst ((ns.take 6).map V.str))) q = some (.lst ((ns.take 6).map V.str)) := upd_same
      have G1 := G.same s1
      generalize upd H1 q (.lst ((ns.take 6).map V.str)) = H2 at s1 e1 G1 ⊢
      refine ⟨q, rfl, ⟨_, SqL.of e1⟩, fun D nD => ?_⟩
      generalize hzs : ns.take 6 = zs at e1 ⊢
      have hz : ∀ z ∈ zs, nameS z = true := fun z h => hns z (by rw [← hzs] at h; exact List.mem_of_mem_take h)
      have hzl : zs.length ≤ 7 := by rw [← hzs, List.length_take]; omega
      refine lc_list (K := K) (a := q) (xs := zs.map V.str) (fun j H3 => ∃ vs, H3 D = some (.lst vs) ∧ TrAll K H3 vs ((zs.take j).map fun n => pieT n (.tup []) []) ∧ Same H2 H3) ⟨[], upd_same, .nil, same_new nD⟩ (fun j H3 _ ⟨_, _, _, s3⟩ => s3.seq (SqL.of e1)) ?_ ?_
      · rintro j v H3 hv ⟨vs, e3, t3, s3⟩
        obtain ⟨z, hzj, rfl⟩ := SW.str_at hv
        have hzn := hz z (List.mem_of_getElem? hzj)
        have jl : j < zs.length := (List.getElem?_eq_some_iff.mp hzj).1
        refine ⟨rfl, ?_⟩
        refine tyes ?_
        refine ⟨_, rfl, Nat.zero_le _, fun r1 m1 => ⟨Nat.zero_le _, fun r2 m2 => ⟨(by show 3 ≤ sizeLine; decide), fun r3 m3 => ?_⟩⟩⟩
        obtain ⟨b1, c1⟩ := new_tr (K := K) m1 .nil
        generalize upd H3 r1 (.tup []) = F1 at b1 c1 m2 m3 ⊢
        obtain ⟨b2, c2⟩ := new_tr (K := K) m2 .nil
        generalize upd F1 r2 (.tup []) = F2 at b2 c2 m3 ⊢
        obtain ⟨b3, aT⟩ := new_tr m3 (.cons (str_tr hzn) (.cons (c1.same b2) (.cons c2 .nil)))
        have aS := (b1.trans b2).trans b3
        generalize upd F2 r3 (.tup [.str z, .ref r1, .ref r2]) = F3 at b3 aT aS ⊢
        refine ⟨vs, aS _ _ e3, small1000 (by rw [t3.len, List.length_map, List.length_take]; omega), vs ++ [_], upd_same, ?_, fun b o eb => ?_⟩
        · rw [List.take_add_one, hzj, List.map_append]
          exact ((t3.same aS).updL (aS _ _ e3)).app (.cons (aT.updL (aS _ _ e3)) .nil)
        · rw [upd_ne (ne_of_none eb nD)]
          exact aS _ _ (s3 _ _ eb)
      · rintro H3 ⟨vs, e3, t3, s3⟩
        rw [List.length_map, List.take_length, ← hzs] at t3
        exact .inl ⟨D, vs, rfl, SqL.of e3, fun r nr => k1 _ _ ((s1.trans s3).trans (same_new nr)) (.tup (SqT.of upd_same) (t3.same (same_new nr)))⟩
    have c7 : ETn (cxOf CX0 P w K mg base nCo "_law_counts" (defScope sCo) f cdv A outer s H E).nox [(0, .str x)] nm ns ((eltsOf ((eltsOf (argOf (valueOf (stAt sCo 2)))).getD 0 noE)).getD 1 noE) (.tup ((ns.take 7).map fun n => pieT n (.tup []) [])) := by
      refine ⟨_, pe_tupleOf (by rfl) mT (pe_lc (own := [("one", 6)]) (g := gName 6) (tt := tYes) rfl scCo.nd (pi_list (pe_slice sl_list (pv 2) po_none (po_some pe_int))) (blkOk_by (N := nCo) (sc := defScope sCo) (by decide +kernel)) (fun _ _ _ _ _ => pg_name (i := 6) scCo.nd rfl (Or.inl rfl)) (fun _ _ _ _ _ => pts_nil) (fun _ _ _ _ _ => by exact pe_tup (pa_cons (pv 6) (pa_cons (pe_tup pa_nil) (pa_cons (pe_tup pa_nil) pa_nil))))), fun σ H1 Q1 G k1 => ?_⟩
      obtain ⟨a0, a1, a3, a4, a5, a6, a7, a8, a9, aA, rfl⟩ := G.s
      refine ⟨_, rfl, 7, rfl, nm, _, rfl, SqL.of G.n, fun q nq => ?_⟩
      have ec : cutV (ns.map V.str) none (some 7) = (ns.take 7).map V.str := by
        rw [← hN]
        unfold cutV
        simp [HT.sIx]
      rw [ec]
      have s1 := same_new (o := .lst ((ns.take 7).map V.str)) nq
      have e1 : (upd H1 q (.lst ((ns.take 7).map V.str))) q = some (.lst ((ns.take 7).map V.str)) := upd_same
      have G1 := G.same s1
      generalize upd H1 q (.lst ((ns.take 7).map V.str)) = H2 at s1 e1 G1 ⊢
      refine ⟨q, rfl, ⟨_, SqL.of e1⟩, fun D nD => ?_⟩
      generalize hzs : ns.take 7 = zs at e1 ⊢
      have hz : ∀ z ∈ zs, nameS z = true := fun z h => hns z (by rw [← hzs] at h; exact List.mem_of_mem_take h)
      have hzl : zs.length ≤ 7 := by rw [← hzs, List.length_take]; omega
      refine lc_list (K := K) (a := q) (xs := zs.map V.str) (fun j H3 => ∃ vs, H3 D = some (.lst vs) ∧ TrAll K H3 vs ((zs.take j).map fun n => pieT n (.tup []) []) ∧ Same H2 H3) ⟨[], upd_same, .nil, same_new nD⟩ (fun j H3 _ ⟨_, _, _, s3⟩ => s3.seq (SqL.of e1)) ?_ ?_
      · rintro j v H3 hv ⟨vs, e3, t3, s3⟩
        obtain ⟨z, hzj, rfl⟩ := SW.str_at hv
        have hzn := hz z (List.mem_of_getElem? hzj)
        have jl : j < zs.length := (List.getElem?_eq_some_iff.mp hzj).1
        refine ⟨rfl, ?_⟩
        refine tyes ?_
        refine ⟨_, rfl, Nat.zero_le _, fun r1 m1 => ⟨Nat.zero_le _, fun r2 m2 => ⟨(by show 3 ≤ sizeLine; decide), fun r3 m3 => ?_⟩⟩⟩
        obtain ⟨b1, c1⟩ := new_tr (K := K) m1 .nil
        generalize upd H3 r1 (.tup []) = F1 at b1 c1 m2 m3 ⊢
        obtain ⟨b2, c2⟩ := new_tr (K := K) m2 .nil
        generalize upd F1 r2 (.tup []) = F2 at b2 c2 m3 ⊢
        obtain ⟨b3, aT⟩ := new_tr m3 (.cons (str_tr hzn) (.cons (c1.same b2) (.cons c2 .nil)))
        have aS := (b1.trans b2).trans b3
        generalize upd F2 r3 (.tup [.str z, .ref r1, .ref r2]) = F3 at b3 aT aS ⊢
        refine ⟨vs, aS _ _ e3, small1000 (by rw [t3.len, List.length_map, List.length_take]; omega), vs ++ [_], upd_same, ?_, fun b o eb => ?_⟩
        · rw [List.take_add_one, hzj, List.map_append]
          exact ((t3.same aS).updL (aS _ _ e3)).app (.cons (aT.updL (aS _ _ e3)) .nil)
        · rw [upd_ne (ne_of_none eb nD)]
          exact aS _ _ (s3 _ _ eb)
      · rintro H3 ⟨vs, e3, t3, s3⟩
        rw [List.length_map, List.take_length, ← hzs] at t3
        exact .inl ⟨D, vs, rfl, SqL.of e3, fun r nr => k1 _ _ ((s1.trans s3).trans (same_new nr)) (.tup (SqT.of upd_same) (t3.same (same_new nr)))⟩
    have c8 : ETn (cxOf CX0 P w K mg base nCo "_law_counts" (defScope sCo) f cdv A outer s H E).nox [(0, .str x), (3, showS x), (9, pairPs n0 n1)] nm ns ((eltsOf ((eltsOf (argOf (valueOf (stAt sCo 8)))).getD 0 noE)).getD 1 noE) (.tup ((ns.take 6).map fun n => pieT n (pairPs n0 n1) (List.replicate 16 (showS x)))) := by
      refine ⟨_, pe_tupleOf (by rfl) mT (pe_lc (own := [("one", 6)]) (g := gName 6) (tt := tYes) (te := tTup (tCons (tVar 6) (tCons (tVar 9) (tCons (tOp (rRepA K) (tTup (tCons (tVar 3) tNil)) (tC (.int 16))) tNil)))) rfl scCo.nd (pi_list (pe_slice sl_list (pv 2) po_none (po_some pe_int))) (blkOk_by (N := nCo) (sc := defScope sCo) (by decide +kernel)) (fun _ _ _ _ _ => pg_name (i := 6) scCo.nd rfl (Or.inl rfl)) (fun _ _ _ _ _ => pts_nil) (fun _ _ _ _ _ => by exact pe_tup (pa_cons (pv 6) (pa_cons (pv 9) (pa_cons (pe_op op_repA (pe_tup (pa_cons (pv 3) pa_nil)) pe_int) pa_nil))))), fun σ H1 Q1 G k1 => ?_⟩
      obtain ⟨a0, a1, a3, a4, a5, a6, a7, a8, a9, aA, rfl⟩ := G.s
      refine ⟨_, rfl, 6, rfl, nm, _, rfl, SqL.of G.n, fun q nq => ?_⟩
      have ec : cutV (ns.map V.str) none (some 6) = (ns.take 6).map V.str := by
        rw [← hN]
        unfold cutV
        simp [HT.sIx]
      rw [ec]
      have s1 := same_new (o := .lst ((ns.take 6).map V.str)) nq
      have e1 : (upd H1 q (.lst ((ns.take 6).map V.str))) q = some (.lst ((ns.take 6).map V.str)) := upd_same
      have G1 := G.same s1
      generalize upd H1 q (.lst ((ns.take 6).map V.str)) = H2 at s1 e1 G1 ⊢
      refine ⟨q, rfl, ⟨_, SqL.of e1⟩, fun D nD => ?_⟩
      generalize hzs : ns.take 6 = zs at e1 ⊢
      have hz : ∀ z ∈ zs, nameS z = true := fun z h => hns z (by rw [← hzs] at h; exact List.mem_of_mem_take h)
      have hzl : zs.length ≤ 7 := by rw [← hzs, List.length_take]; omega
      refine lc_list (K := K) (a := q) (xs := zs.map V.str) (fun j H3 => ∃ vs, H3 D = some (.lst vs) ∧ TrAll K H3 vs ((zs.take j).map fun n => pieT n (pairPs n0 n1) (List.replicate 16 (showS x))) ∧ Same H2 H3) ⟨[], upd_same, .nil, same_new nD⟩ (fun j H3 _ ⟨_, _, _, s3⟩ => s3.seq (SqL.of e1)) ?_ ?_
      · rintro j v H3 hv ⟨vs, e3, t3, s3⟩
        obtain ⟨z, hzj, rfl⟩ := SW.str_at hv
        have hzn := hz z (List.mem_of_getElem? hzj)
        have jl : j < zs.length := (List.getElem?_eq_some_iff.mp hzj).1
        refine ⟨rfl, ?_⟩
        refine tyes ?_
        obtain ⟨v3, hv3, tv3⟩ := (G1.same s3).g (3, showS x) (by simp)
        obtain ⟨v9, hv9, tv9⟩ := (G1.same s3).g (9, pairPs n0 n1) (by simp)
        cases hv3
        cases hv9
        refine ⟨_, rfl, _, rfl, _, rfl, (by show 1 ≤ sizeLine; decide), fun r1 m1 => ?_⟩
        obtain ⟨b1, c1⟩ := new_tr m1 (.cons tv3 .nil)
        unfold tC
        refine rep_tr (k := 16) c1 (by decide) (by decide) fun r F1 b2 c2 => ⟨(by show 3 ≤ sizeLine; decide), fun r3 m3 => ?_⟩
        have b12 := b1.trans b2
        obtain ⟨b3, aT⟩ := new_tr m3 (.cons (str_tr hzn) (.cons (tv9.same b12) (.cons c2 .nil)))
        have aS := b12.trans b3
        generalize upd F1 r3 (.tup [.str z, v9, r]) = F3 at b3 aT aS ⊢
        refine ⟨vs, aS _ _ e3, small1000 (by rw [t3.len, List.length_map, List.length_take]; omega), vs ++ [_], upd_same, ?_, fun b o eb => ?_⟩
        · rw [List.take_add_one, hzj, List.map_append]
          exact ((t3.same aS).updL (aS _ _ e3)).app (.cons (aT.updL (aS _ _ e3)) .nil)
        · rw [upd_ne (ne_of_none eb nD)]
          exact aS _ _ (s3 _ _ eb)
      · rintro H3 ⟨vs, e3, t3, s3⟩
        rw [List.length_map, List.take_length, ← hzs] at t3
        exact .inl ⟨D, vs, rfl, SqL.of e3, fun r nr => k1 _ _ ((s1.trans s3).trans (same_new nr)) (.tup (SqT.of upd_same) (t3.same (same_new nr)))⟩
    have d3a : ETn (cxOf CX0 P w K mg base nCo "_law_counts" (defScope sCo) f cdv A outer s H E).nox [(0, .str x)] nm ns ((eltsOf ((eltsOf ((lstOf (rightOf (valueOf (stAt sCo 3)))).getD 0 noE)).getD 0 noE)).getD 0 noE) (.tup ((ns.take 3).map Tr.str)) := by
      refine ⟨_, pe_tupleOf (by rfl) mT (pe_slice sl_list (pv 2) po_none (po_some pe_int)), fun σ H1 Q1 G k1 => ?_⟩
      obtain ⟨a0, a1, a3, a4, a5, a6, a7, a8, a9, aA, rfl⟩ := G.s
      refine ⟨_, rfl, 3, rfl, nm, _, rfl, SqL.of G.n, fun q nq => ?_⟩
      have ec : cutV (ns.map V.str) none (some 3) = (ns.take 3).map V.str := by
        rw [← hN]
        unfold cutV
        simp [HT.sIx]
      rw [ec]
      exact .inl ⟨q, _, rfl, SqL.of upd_same, fun r nr => k1 _ _ ((same_new nq).trans (same_new nr)) (.tup (SqT.of upd_same) (strs_tr fun z h => hns z (List.mem_of_mem_take h)))⟩
    have d3b : ETn (cxOf CX0 P w K mg base nCo "_law_counts" (defScope sCo) f cdv A outer s H E).nox [(0, .str x)] nm ns ((eltsOf ((eltsOf ((lstOf (rightOf (valueOf (stAt sCo 3)))).getD 1 noE)).getD 0 noE)).getD 0 noE) (.tup ((ns.take 4).map Tr.str)) := by
      refine ⟨_, pe_tupleOf (by rfl) mT (pe_slice sl_list (pv 2) po_none (po_some pe_int)), fun σ H1 Q1 G k1 => ?_⟩
      obtain ⟨a0, a1, a3, a4, a5, a6, a7, a8, a9, aA, rfl⟩ := G.s
      refine ⟨_, rfl, 4, rfl, nm, _, rfl, SqL.of G.n, fun q nq => ?_⟩
      have ec : cutV (ns.map V.str) none (some 4) = (ns.take 4).map V.str := by
        rw [← hN]
        unfold cutV
        simp [HT.sIx]
      rw [ec]
      exact .inl ⟨q, _, rfl, SqL.of upd_same, fun r nr => k1 _ _ ((same_new nq).trans (same_new nr)) (.tup (SqT.of upd_same) (strs_tr fun z h => hns z (List.mem_of_mem_take h)))⟩
    have dS : ETr (cxOf CX0 P w K mg base nCo "_law_counts" (defScope sCo) f cdv A outer s H E).nox [(0, .str x)] ((eltsOf (valueOf (stAt sCo 0))).getD 0 noE) (showS x) := (et_tup (ea_cons et_str (ea_cons (et_var (pv 0) (.head _)) ea_nil)))
    obtain ⟨teS, pS, rS⟩ := dS
    have dH : ETr (cxOf CX0 P w K mg base nCo "_law_counts" (defScope sCo) f cdv A outer s H E).nox [(0, .str x)] ((eltsOf (valueOf (stAt sCo 0))).getD 1 noE) yieldS := (et_tup (ea_cons et_str ea_nil))
    obtain ⟨teH, pH, rH⟩ := dH
    have d1 : ELn (cxOf CX0 P w K mg base nCo "_law_counts" (defScope sCo) f cdv A outer s H E).nox [(0, .str x)] nm ns (valueOf (stAt sCo 1)) _ := en_disp (en_cons (en_tup (en_cons (en_tup (en_cons (en_of (et_tup (ea_cons (et_var (pv 0) (.head _)) ea_nil))) (en_cons c6 en_nil))) (en_cons (en_of et_non) en_nil))) en_nil)
    obtain ⟨te1, p1, r1⟩ := d1
    have d2 : ETn (cxOf CX0 P w K mg base nCo "_law_counts" (defScope sCo) f cdv A outer s H E).nox [(0, .str x)] nm ns (argOf (valueOf (stAt sCo 2))) _ := en_tup (en_cons (en_tup (en_cons (en_of (et_tup (ea_cons (et_var (pv 0) (.head _)) ea_nil))) (en_cons c7 en_nil))) (en_cons (en_of (et_tup ea_nil)) en_nil))
    obtain ⟨te2, p2, r2⟩ := d2
    have d3 : ELn (cxOf CX0 P w K mg base nCo "_law_counts" (defScope sCo) f cdv A outer s H E).nox [(0, .str x)] nm ns (rightOf (valueOf (stAt sCo 3))) _ := en_disp (en_cons (en_tup (en_cons (en_tup (en_cons d3a (en_cons (en_of (et_tup ea_nil)) en_nil))) (en_cons (en_of et_non) en_nil))) (en_cons (en_tup (en_cons (en_tup (en_cons d3b (en_cons (en_of (et_tup ea_nil)) en_nil))) (en_cons (en_of (et_tup (ea_cons et_str ea_nil))) en_nil))) en_nil))
    obtain ⟨te3, p3, r3⟩ := d3
    have dL1 : ETu (cxOf CX0 P w K mg base nCo "_law_counts" (defScope sCo) f cdv A outer s H E).nox (LCo x name [16]) (argOf (valueOf (bodyAt (stAt sCo 4) 1))) _ := (eu_tup (eb_cons (eu_book GB bB gB kB hr1 (eu_var (pv 0) (fun _ => (.head _))) (eu_var (pv 1) (fun _ => (.tail _ (.head _)))) (eu_rep (eu_tup (eb_cons (eu_var (pv 3) (fun _ => (.tail _ (.tail _ (.head _))))) eb_nil)) (eu_var (pv 7) (fun _ => (.tail _ (.tail _ (.tail _ (.tail _ (.head _))))))) (fun b => by cases b <;> decide))) (eb_cons (eu_var (pv 8) (fun _ => (.tail _ (.tail _ (.tail _ (.tail _ (.tail _ (.head _)))))))) eb_nil)))
    obtain ⟨teL1, pL1, rL1⟩ := dL1
    have dL3 : ETu (cxOf CX0 P w K mg base nCo "_law_counts" (defScope sCo) f cdv A outer s H E).nox (LCo x name [0, 1, 8]) (argOf (valueOf (bodyAt (stAt sCo 4) 3))) _ := (eu_tup (eb_cons (eu_book GB bB gB kB hr1 (eu_var (pv 0) (fun _ => (.head _))) (eu_var (pv 1) (fun _ => (.tail _ (.head _)))) (eu_tup (eb_cons (eu_tup (eb_cons eu_str (eb_cons (eu_rep (eu_tup (eb_cons (eu_var (pv 3) (fun _ => (.tail _ (.tail _ (.head _))))) eb_nil)) eu_int (fun b => by cases b <;> decide)) (eb_cons (eu_rep (eu_tup (eb_cons (eu_var (pv 3) (fun _ => (.tail _ (.tail _ (.head _))))) eb_nil)) (eu_sub (eu_var (pv 7) (fun _ => (.tail _ (.tail _ (.tail _ (.tail _ (.head _))))))) eu_int) (fun b => by cases b <;> decide)) eb_nil)))) eb_nil))) (eb_cons (eu_var (pv 8) (fun _ => (.tail _ (.tail _ (.tail _ (.tail _ (.tail _ (.head _)))))))) eb_nil)))
    obtain ⟨teL3, pL3, rL3⟩ := dL3
    have dL5 : ETu (cxOf CX0 P w K mg base nCo "_law_counts" (defScope sCo) f cdv A outer s H E).nox (LCo x name [0, 0, 15]) (argOf (valueOf (bodyAt (stAt sCo 4) 5))) _ := (eu_tup (eb_cons (eu_book GB bB gB kB hr1 (eu_var (pv 0) (fun _ => (.head _))) (eu_var (pv 1) (fun _ => (.tail _ (.head _)))) (eu_tup (eb_cons (eu_tup (eb_cons eu_str (eb_cons (eu_rep (eu_tup (eb_cons (eu_var (pv 4) (fun _ => (.tail _ (.tail _ (.tail _ (.head _)))))) eb_nil)) (eu_sub (eu_var (pv 7) (fun _ => (.tail _ (.tail _ (.tail _ (.tail _ (.head _))))))) eu_int) (fun b => by cases b <;> decide)) eb_nil))) eb_nil))) (eb_cons (eu_var (pv 8) (fun _ => (.tail _ (.tail _ (.tail _ (.tail _ (.tail _ (.head _)))))))) eb_nil)))
    obtain ⟨teL5, pL5, rL5⟩ := dL5
    have dL7 : ETu (cxOf CX0 P w K mg base nCo "_law_counts" (defScope sCo) f cdv A outer s H E).nox (LCo x name [1]) (argOf (valueOf (bodyAt (stAt sCo 4) 7))) _ := (eu_tup (eb_cons (eu_book GB bB gB kB hr1 (eu_var (pv 0) (fun _ => (.head _))) (eu_var (pv 1) (fun _ => (.tail _ (.head _)))) (eu_cat (eu_tup (eb_cons (eu_tup (eb_cons eu_str (eb_cons (eu_var (pv 0) (fun _ => (.head _))) (eb_cons eu_int (eb_cons (eu_rep (eu_tup (eb_cons (eu_var (pv 3) (fun _ => (.tail _ (.tail _ (.head _))))) eb_nil)) eu_int (fun b => by cases b <;> decide)) (eb_cons (eu_tup eb_nil) eb_nil)))))) eb_nil)) (eu_rep (eu_tup (eb_cons (eu_var (pv 3) (fun _ => (.tail _ (.tail _ (.head _))))) eb_nil)) (eu_sub (eu_var (pv 7) (fun _ => (.tail _ (.tail _ (.tail _ (.tail _ (.head _))))))) eu_int) (fun b => by cases b <;> decide)) (fun b => Nat.le_of_ble_eq_true rfl) (fun b => by cases b <;> exact Nat.le_of_ble_eq_true rfl))) (eb_cons (eu_var (pv 8) (fun _ => (.tail _ (.tail _ (.tail _ (.tail _ (.tail _ (.head _)))))))) eb_nil)))
    obtain ⟨teL7, pL7, rL7⟩ := dL7
    have dI : ETr (cxOf CX0 P w K mg base nCo "_law_counts" (defScope sCo) f cdv A outer s H E).nox [(0, .str x)] (iterOf (stAt sCo 9)) _ := (et_tup (ea_cons (et_tup (ea_cons et_int (ea_cons et_non ea_nil))) (ea_cons (et_tup (ea_cons et_int (ea_cons (et_tup (ea_cons et_int (ea_cons (et_tup (ea_cons et_int ea_nil)) ea_nil))) ea_nil))) (ea_cons (et_tup (ea_cons (et_powW (et_powW et_int ten_bits) big_bits) (ea_cons (et_tup (ea_cons et_int (ea_cons (et_tup (ea_cons et_int ea_nil)) ea_nil))) ea_nil))) (ea_cons (et_tup (ea_cons (et_negE (et_powW (et_powW et_int ten_bits) big_bits)) (ea_cons (et_tup (ea_cons et_int (ea_cons (et_tup (ea_cons et_int ea_nil)) ea_nil))) ea_nil))) ea_nil)))))
    obtain ⟨teI, pI, rI⟩ := dI
    have dM0 : ETu (cxOf CX0 P w K mg base nCo "_law_counts" (defScope sCo) f cdv A outer s H E).nox (LCs x name) (argOf (valueOf (bodyAt (stAt sCo 9) 0))) _ := (eu_tup (eb_cons (eu_book GB bB gB kB hr1 (eu_var (pv 0) (fun _ => (.head _))) (eu_var (pv 1) (fun _ => (.tail _ (.head _)))) (eu_tup (eb_cons (eu_tup (eb_cons eu_str (eb_cons (eu_var (pv 0) (fun _ => (.head _))) (eb_cons (eu_var (pv 10) (fun _ => (.tail _ (.tail _ (.head _))))) eb_nil)))) eb_nil))) (eb_cons (eu_var (pv 8) (fun _ => (.tail _ (.tail _ (.tail _ (.head _)))))) eb_nil)))
    obtain ⟨teM0, pM0, rM0⟩ := dM0
    have dM1 : ETu (cxOf CX0 P w K mg base nCo "_law_counts" (defScope sCo) f cdv A outer s H E).nox (LCs x name) (argOf (valueOf (bodyAt (stAt sCo 9) 1))) _ := (eu_tup (eb_cons (eu_book GB bB gB kB hr1 (eu_var (pv 0) (fun _ => (.head _))) (eu_var (pv 1) (fun _ => (.tail _ (.head _)))) (eu_tup (eb_cons (eu_tup (eb_cons eu_str (eb_cons (eu_var (pv 0) (fun _ => (.head _))) (eb_cons (eu_var (pv 10) (fun _ => (.tail _ (.tail _ (.head _))))) (eb_cons (eu_tup eb_nil) (eb_cons (eu_tup eb_nil) eb_nil)))))) eb_nil))) (eb_cons (eu_var (pv 8) (fun _ => (.tail _ (.tail _ (.tail _ (.head _)))))) eb_nil)))
    obtain ⟨teM1, pM1, rM1⟩ := dM1
    have dM2 : ETu (cxOf CX0 P w K mg base nCo "_law_counts" (defScope sCo) f cdv A outer s H E).nox (LCs x name) (argOf (valueOf (bodyAt (stAt sCo 9) 2))) _ := (eu_tup (eb_cons (eu_book GB bB gB kB hr1 (eu_var (pv 0) (fun _ => (.head _))) (eu_var (pv 1) (fun _ => (.tail _ (.head _)))) (eu_tup (eb_cons (eu_tup (eb_cons eu_str (eb_cons (eu_var (pv 0) (fun _ => (.head _))) (eb_cons (eu_var (pv 10) (fun _ => (.tail _ (.tail _ (.head _))))) (eb_cons (eu_tup eb_nil) eb_nil))))) eb_nil))) (eb_cons (eu_var (pv 8) (fun _ => (.tail _ (.tail _ (.tail _ (.head _)))))) eb_nil)))
    obtain ⟨teM2, pM2, rM2⟩ := dM2
    have dM3 : ETu (cxOf CX0 P w K mg base nCo "_law_counts" (defScope sCo) f cdv A outer s H E).nox (LCs x name) (argOf (valueOf (bodyAt (stAt sCo 9) 3))) _ := (eu_tup (eb_cons (eu_book GB bB gB kB hr1 (eu_var (pv 0) (fun _ => (.head _))) (eu_var (pv 1) (fun _ => (.tail _ (.head _)))) (eu_tup (eb_cons (eu_tup (eb_cons eu_str (eb_cons (eu_var (pv 0) (fun _ => (.head _))) (eb_cons (eu_var (pv 0) (fun _ => (.head _))) (eb_cons (eu_var (pv 10) (fun _ => (.tail _ (.tail _ (.head _))))) eb_nil))))) eb_nil))) (eb_cons (eu_var (pv 8) (fun _ => (.tail _ (.tail _ (.tail _ (.head _)))))) eb_nil)))
    obtain ⟨teM3, pM3, rM3⟩ := dM3
    have dN0 : ETn (cxOf CX0 P w K mg base nCo "_law_counts" (defScope sCo) f cdv A outer s H E).nox [(0, .str x)] nm ns ((eltsOf ((eltsOf (valueOf (stAt sCo 5))).getD 0 noE)).getD 0 noE) (.str n0) := ⟨_, pe_ix ix_list (pv 2) pe_int (fun _ _ => rfl), fun σ H Q G k => by
      obtain ⟨a0, a1, a3, a4, a5, a6, a7, a8, a9, aA, rfl⟩ := G.s
      exact ⟨_, rfl, nm, _, 0, .str n0, rfl, rfl, SqL.of G.n, (by rw [← hN]; rfl), k _ _ (fun _ _ e => e) (str_tr (hns n0 (by rw [← hN]; simp)))⟩⟩
    have dN1 : ETn (cxOf CX0 P w K mg base nCo "_law_counts" (defScope sCo) f cdv A outer s H E).nox [(0, .str x)] nm ns ((eltsOf ((eltsOf (valueOf (stAt sCo 5))).getD 1 noE)).getD 0 noE) (.str n1) := ⟨_, pe_ix ix_list (pv 2) pe_int (fun _ _ => rfl), fun σ H Q G k => by
      obtain ⟨a0, a1, a3, a4, a5, a6, a7, a8, a9, aA, rfl⟩ := G.s
      exact ⟨_, rfl, nm, _, 1, .str n1, rfl, rfl, SqL.of G.n, (by rw [← hN]; rfl), k _ _ (fun _ _ e => e) (str_tr (hns n1 (by rw [← hN]; simp)))⟩⟩
    have dN2 : ETn (cxOf CX0 P w K mg base nCo "_law_counts" (defScope sCo) f cdv A outer s H E).nox [(0, .str x), (1, .str name), (9, pairPs n0 n1)] nm ns ((eltsOf ((eltsOf (rightOf ((eltsOf ((eltsOf ((eltsOf ((eltsOf (argOf (valueOf (stAt sCo 7)))).getD 0 noE)).getD 1 noE)).getD 0 noE)).getD 1 noE))).getD 0 noE)).getD 0 noE) (.str n2) := ⟨_, pe_ix ix_list (pv 2) pe_int (fun _ _ => rfl), fun σ H Q G k => by
      obtain ⟨a0, a1, a3, a4, a5, a6, a7, a8, a9, aA, rfl⟩ := G.s
      exact ⟨_, rfl, nm, _, 2, .str n2, rfl, rfl, SqL.of G.n, (by rw [← hN]; rfl), k _ _ (fun _ _ e => e) (str_tr (hns n2 (by rw [← hN]; simp)))⟩⟩
    have dP : ETn (cxOf CX0 P w K mg base nCo "_law_counts" (defScope sCo) f cdv A outer s H E).nox [(0, .str x)] nm ns (valueOf (stAt sCo 5)) (pairPs n0 n1) := en_tup (en_cons (en_tup (en_cons dN0 (en_cons (en_of et_str) en_nil))) (en_cons (en_tup (en_cons dN1 (en_cons (en_of et_str) en_nil))) en_nil))
    obtain ⟨teP, pP, rP⟩ := dP
    have d6 : ETr (cxOf CX0 P w K mg base nCo "_law_counts" (defScope sCo) f cdv A outer s H E).nox [(0, .str x), (1, .str name), (9, pairPs n0 n1)] (argOf (valueOf (stAt sCo 6))) _ := (et_tup (ea_cons (et_tup (ea_cons (et_tup (ea_cons (et_var (pv 0) (.head _)) ea_nil)) (ea_cons (et_tup (ea_cons (et_tup (ea_cons (et_var (pv 1) (.tail _ (.head _))) (ea_cons (et_var (pv 9) (.tail _ (.tail _ (.head _)))) (ea_cons (et_tup ea_nil) ea_nil)))) ea_nil)) ea_nil))) (ea_cons et_non ea_nil)))
    obtain ⟨te6, p6, r6⟩ := d6
    have d7 : ETn (cxOf CX0 P w K mg base nCo "_law_counts" (defScope sCo) f cdv A outer s H E).nox [(0, .str x), (1, .str name), (9, pairPs n0 n1)] nm ns (argOf (valueOf (stAt sCo 7))) _ := en_tup (en_cons (en_tup (en_cons (en_of (et_tup (ea_cons (et_var (pv 0) (.head _)) ea_nil))) (en_cons (en_tup (en_cons (en_tup (en_cons (en_of (et_var (pv 1) (.tail _ (.head _)))) (en_cons (en_cat (en_of (et_var (pv 9) (.tail _ (.tail _ (.head _))))) (en_tup (en_cons (en_tup (en_cons dN2 (en_cons (en_of et_str) en_nil))) en_nil)) (Nat.le_of_ble_eq_true rfl) (Nat.le_of_ble_eq_true rfl)) (en_cons (en_of (et_tup ea_nil)) en_nil)))) en_nil)) en_nil))) (en_cons (en_of (et_tup (ea_cons et_int ea_nil))) en_nil))
    obtain ⟨te7, p7, r7⟩ := d7
    have d8 : ETn (cxOf CX0 P w K mg base nCo "_law_counts" (defScope sCo) f cdv A outer s H E).nox [(0, .str x), (3, showS x), (9, pairPs n0 n1)] nm ns (argOf (valueOf (stAt sCo 8))) _ := en_tup (en_cons (en_tup (en_cons (en_of (et_tup (ea_cons (et_var (pv 0) (.head _)) ea_nil))) (en_cons c8 en_nil))) (en_cons (en_of et_non) en_nil))
    obtain ⟨te8, p8, r8⟩ := d8
    refine ⟨_, (C8.pss_cut (ps_asg (pe_tup (pa_cons pS (pa_cons pH pa_nil))) (pg_tup rfl (pgs_cons (pg_name (i := 3) scCo.nd rfl (Or.inr rfl)) (pgs_cons (pg_name (i := 4) scCo.nd rfl (Or.inl rfl)) pgs_nil))))
        (C8.pss_cut (ps_set (i := 5) scCo.nd rfl (Or.inl rfl) p1)
        (C8.pss_cut (ps_expr (pe_bm PySem.F.plainAttrs_list PySem.F.slot_list_append PySem.F.type_list_append mt_append (pv 5) (pa_cons p2 pa_nil)))
        (C8.pss_cut (ps_set (i := 5) scCo.nd rfl (Or.inl rfl) (pe_op op_cat (pv 5) p3))
        (C8.pss_cut (ps_for PassesOwn.never rfl (pi_tup (pe_tup (pa_cons pe_int (pa_cons pe_int pa_nil)))) (pg_name (i := 7) scCo.nd rfl (Or.inl rfl))
        (C8.pss_cut (ps_set (i := 8) scCo.nd rfl (Or.inl rfl) (pe_ifExp (pt_cmpR op_eq (pv 7) pe_int (nomark _)) pe_non (pe_tup (pa_cons pe_int (pa_cons (pe_tup (pa_cons pe_int pa_nil)) pa_nil)))))
        (C8.pss_cut (ps_expr (pe_bm PySem.F.plainAttrs_list PySem.F.slot_list_append PySem.F.type_list_append mt_append (pv 5) (pa_cons pL1 pa_nil)))
        (C8.pss_cut (ps_set (i := 8) scCo.nd rfl (Or.inl rfl) (pe_ifExp (pt_cmpR op_eq (pv 7) pe_int (nomark _)) pe_non (pe_tup (pa_cons pe_int (pa_cons (pe_tup (pa_cons pe_int (pa_cons pe_int (pa_cons pe_int pa_nil)))) pa_nil)))))
        (C8.pss_cut (ps_expr (pe_bm PySem.F.plainAttrs_list PySem.F.slot_list_append PySem.F.type_list_append mt_append (pv 5) (pa_cons pL3 pa_nil)))
        (C8.pss_cut (ps_set (i := 8) scCo.nd rfl (Or.inl rfl) (pe_ifExp (pt_cmpR op_eq (pv 7) pe_int (nomark _)) pe_non (pe_tup (pa_cons pe_int (pa_cons (pe_tup (pa_cons pe_int (pa_cons pe_int (pa_cons pe_int pa_nil)))) pa_nil)))))
        (C8.pss_cut (ps_expr (pe_bm PySem.F.plainAttrs_list PySem.F.slot_list_append PySem.F.type_list_append mt_append (pv 5) (pa_cons pL5 pa_nil)))
        (C8.pss_cut (ps_set (i := 8) scCo.nd rfl (Or.inl rfl) (pe_ifExp (pt_cmpR op_eq (pv 7) pe_int (nomark _)) pe_non (pe_tup (pa_cons pe_int (pa_cons (pe_tup (pa_cons pe_int pa_nil)) pa_nil)))))
        (pss_one (ps_expr (pe_bm PySem.F.plainAttrs_list PySem.F.slot_list_append PySem.F.type_list_append mt_append (pv 5) (pa_cons pL7 pa_nil))))))))))))
        (C8.pss_cut (ps_set (i := 9) scCo.nd rfl (Or.inr rfl) pP)
        (C8.pss_cut (ps_expr (pe_bm PySem.F.plainAttrs_list PySem.F.slot_list_append PySem.F.type_list_append mt_append (pv 5) (pa_cons p6 pa_nil)))
        (C8.pss_cut (ps_expr (pe_bm PySem.F.plainAttrs_list PySem.F.slot_list_append PySem.F.type_list_append mt_append (pv 5) (pa_cons p7 pa_nil)))
        (C8.pss_cut (ps_expr (pe_bm PySem.F.plainAttrs_list PySem.F.slot_list_append PySem.F.type_list_append mt_append (pv 5) (pa_cons p8 pa_nil)))
        (C8.pss_cut (ps_for PassesOwn.never rfl (pi_tup pI) (pg_tup rfl (pgs_cons (pg_name (i := 10) scCo.nd rfl (Or.inl rfl)) (pgs_cons (pg_name (i := 8) scCo.nd rfl (Or.inl rfl)) pgs_nil)))
        (C8.pss_cut (ps_expr (pe_bm PySem.F.plainAttrs_list PySem.F.slot_list_append PySem.F.type_list_append mt_append (pv 5) (pa_cons pM0 pa_nil)))
        (C8.pss_cut (ps_expr (pe_bm PySem.F.plainAttrs_list PySem.F.slot_list_append PySem.F.type_list_append mt_append (pv 5) (pa_cons pM1 pa_nil)))
        (C8.pss_cut (ps_expr (pe_bm PySem.F.plainAttrs_list PySem.F.slot_list_append PySem.F.type_list_append mt_append (pv 5) (pa_cons pM2 pa_nil)))
        (pss_one (ps_expr (pe_bm PySem.F.plainAttrs_list PySem.F.slot_list_append PySem.F.type_list_append mt_append (pv 5) (pa_cons pM3 pa_nil))))))))
        (pss_one (ps_ret (pv 5))))))))))))), ?_⟩
    have one' : 1 ≤ sizeLine := by decide
    have two' : 2 ≤ sizeLine := by decide
    have three' : 3 ≤ sizeLine := by decide
    have lx : ∀ {H : Hp}, TrAt K H (.str x) (.str x) := str_tr hx
    have gn : ∀ {a3 a4 a5 a6 a7 a8 a9 aA : Option V} {H' : Hp}, Same H H' → Gn K [(0, .str x)] nm ns [some (.str x), some (.str name), some (.ref nm), a3, a4, a5, a6, a7, a8, a9, aA] H' := fun {a3 a4 a5 a6 a7 a8 a9 aA H'} s => ⟨fun p hp => by
      simp only [List.mem_cons, List.not_mem_nil, or_false] at hp
      rcases hp with rfl
      exact ⟨_, rfl, lx⟩, s _ _ hnm, ⟨_, _, _, _, _, _, _, _, _, _, rfl⟩⟩
    have hd6 : (ns.take 6).Nodup := hnd.sublist (List.take_sublist _ _)
    have h6 : ∀ z ∈ ns.take 6, nameS z = true := fun z h => hns z (List.mem_of_mem_take h)
    have l6 : (ns.take 6).length ≤ 6 := by rw [List.length_take]; omega
    have nn0 : nameS n0 = true := hns n0 (by rw [← hN]; simp)
    have nn1 : nameS n1 = true := hns n1 (by rw [← hN]; simp)
    have n01 : ¬ n0 = n1 := fun e => by
      rw [← hN, e] at hnd
      simp at hnd
    -- show, halt
    refine ⟨fun σ H1 => ∃ v3 v4 : V, σ = [some (.str x), some (.str name), some (.ref nm), some v3, some v4, none, none, none, none, none, none] ∧ Same H H1 ∧ TrAt K H1 v3 (showS x) ∧ TrAt K H1 v4 yieldS, ?_, ?_⟩
    · refine rS _ H _ (gn (fun _ _ e => e)).g fun v3 H1 s1 t3 => rH _ H1 _ (gn s1).g fun v4 H2 s2 t4 => ⟨two', fun p np => ⟨p, _, rfl, SqT.of upd_same, rfl, _, _, rfl, _, _, rfl, rfl, v3, v4, rfl, ?_⟩⟩
      have s3 := same_new (o := .tup [v3, v4]) np
      exact ⟨(s1.trans s2).trans s3, (t3.same s2).same s3, t4.same s3⟩
    rintro σ H1 ⟨v3, v4, rfl, s1, t3, t4⟩
    -- some
    refine ⟨fun σ H2 => ∃ D : Addr, σ = [some (.str x), some (.str name), some (.ref nm), some v3, some v4, some (.ref D), none, none, none, none, none] ∧ H D = none ∧ Coll K H2 D 1 ∧ Same H H2 ∧ TrAt K H2 v3 (showS x) ∧ TrAt K H2 v4 yieldS, ?_, ?_⟩
    · refine r1 _ H1 _ (gn s1) fun D vs H2 s2 nD eD tD => ⟨D, rfl, s1.free nD, ⟨vs, _, eD, tD, Nat.le_refl _, fun p hp => ?_⟩, s1.trans s2, t3.same s2, t4.same s2⟩
      rw [List.mem_singleton.mp hp]
      exact cnt_pieces hx h6 hd6 l6
    rintro σ H2 ⟨D, rfl, nD, C2, s2, t3, t4⟩
    clear s1 r1
    refine ⟨fun σ H3 => σ = [some (.str x), some (.str name), some (.ref nm), some v3, some v4, some (.ref D), none, none, none, none, none] ∧ Coll K H3 D 2 ∧ Same H H3 ∧ TrAt K H3 v3 (showS x) ∧ TrAt K H3 v4 yieldS, ?_, ?_⟩
    · exact app1 (m := 1) (H0 := H) (fun Q kk => r2 _ H2 Q (gn s2) kk) rfl C2 s2 nD (cnt_seven hx (by rw [List.length_map, List.length_take]; omega)) (by omega) fun H3 C3 s3 kp => ⟨rfl, C3, s3, kp.t _ _ t3, kp.t _ _ t4⟩
    rintro σ H3 ⟨rfl, C3, s3, t3, t4⟩
    clear s2 C2 r2
    refine ⟨fun σ H4 => ∃ D : Addr, σ = [some (.str x), some (.str name), some (.ref nm), some v3, some v4, some (.ref D), none, none, none, none, none] ∧ H D = none ∧ Coll K H4 D 4 ∧ Same H H4 ∧ TrAt K H4 v3 (showS x) ∧ TrAt K H4 v4 yieldS, ?_, ?_⟩
    · refine cat1 (m := 2) (H0 := H) (fun Q kk => r3 _ H3 Q (gn s3) kk) rfl C3 s3 ?_ (by omega) (Nat.le_of_ble_eq_true rfl) fun p H4 s4 s34 np C4 => ⟨p, rfl, np, C4, s4, t3.same s34, t4.same s34⟩
      intro p hp
      simp only [List.mem_cons, List.not_mem_nil, or_false] at hp
      rcases hp with rfl | rfl
      · exact cnt_vars (fun z h => hns z (List.mem_of_mem_take h)) (hnd.sublist (List.take_sublist _ _)) ⟨by rw [List.length_take]; omega, by rw [List.length_take]; omega⟩
      · exact vars_no (by simp) (fun q => by
          have := q.2.1
          rw [List.length_map, List.length_take] at this
          omega)
    rintro σ H4 ⟨D, rfl, nD, C4, s4, t3, t4⟩
    clear s3 C3 r3
    refine ⟨fun σ G => ∃ v7 v8 : Option V, σ = [some (.str x), some (.str name), some (.ref nm), some v3, some v4, some (.ref D), none, v7, v8, none, none] ∧ Coll K G D 12 ∧ Same H G ∧ TrAt K G v3 (showS x) ∧ TrAt K G v4 yieldS, ?_, ?_⟩
    · refine ⟨two', fun q nq => ?_⟩
      have s5 := same_new (o := .tup [.int 16, .int 17]) nq
      have e5 : SqT K (upd H4 q (.tup [.int 16, .int 17])) q [.int 16, .int 17] := SqT.of upd_same
      have C5 := C4.same s5
      have t3 := t3.same s5
      have t4 := t4.same s5
      have s5 := s4.trans s5
      generalize upd H4 q (.tup [.int 16, .int 17]) = H5 at s5 e5 C5 t3 t4 ⊢
      refine ⟨q, rfl, ⟨_, e5⟩, for_it (walk_tup (K := K) (a := q) (xs := [.int 16, .int 17])) (fun i σ G => ∃ v7 v8 : Option V, σ = [some (.str x), some (.str name), some (.ref nm), some v3, some v4, some (.ref D), none, v7, v8, none, none] ∧ Coll K G D (4 + 4 * i) ∧ Same H G ∧ Kp K H5 G)
        ⟨none, none, rfl, C5, s5, Kp.refl⟩ (fun i σ G _ ⟨_, _, _, _, _, kp⟩ => kp.s _ _ e5) ?_ (fun σ G ⟨v7, v8, e, C, s, kp⟩ => ⟨v7, v8, e, C, s, kp.t _ _ t3, kp.t _ _ t4⟩)⟩
      rintro i y σ G0 G hi ⟨v7, v8, rfl, CG, sG, kG⟩ ⟨rfl, hy⟩
      have hi : i < 2 := hi
      obtain ⟨b, rfl⟩ : ∃ b : Bool, y = .int (mvC b) := by
        have hy : ([.int 16, .int 17] : List V)[i]? = some y := hy
        match i, hy with
        | 0, hy => cases hy; exact ⟨false, rfl⟩
        | 1, hy => cases hy; exact ⟨true, rfl⟩
      refine ⟨fun σ G' => ∃ u8 : V, σ = [some (.str x), some (.str name), some (.ref nm), some v3, some v4, some (.ref D), none, some (.int (mvC b)), some u8, none, none] ∧ Same G G' ∧ TrAt K G' u8 (badC [16] b), ?_, ?_⟩
      · refine ⟨_, rfl, rfl, _, rfl, ?_⟩
        refine ite2 (fun h => ?_) (fun h => ?_)
        · cases b with
          | true => exact absurd (of_decide_eq_true h) (by intro z; injection z with z; exact absurd z (by decide))
          | false => exact ⟨_, rfl, fun _ _ e => e, .non⟩
        · cases b with
          | false => exact absurd (decide_eq_true (rfl : V.int (mvC false) = V.int 16)) h
          | true =>
            refine ⟨one', fun q1 m1 => ⟨two', fun q2 m2 => ?_⟩⟩
            obtain ⟨b1, c1⟩ := new_tr (K := K) m1 (.cons (.int 16) .nil)
            generalize upd G q1 (.tup [.int 16]) = F1 at b1 c1 m2 ⊢
            obtain ⟨b2, c2⟩ := new_tr (K := K) m2 (.cons (.int 0) (.cons c1 .nil))
            exact ⟨_, rfl, b1.trans b2, c2⟩
      rintro σ G' ⟨u8, rfl, sg, tb⟩
      have CG := CG.same sg
      have sG := sG.trans sg
      have kG := kG.trans (Kp.of sg)
      have gg : Gt K (LCo x name [16] b) [some (.str x), some (.str name), some (.ref nm), some v3, some v4, some (.ref D), none, some (.int (mvC b)), some u8, none, none] G' := fun p hp => by
        simp only [LCo, List.mem_cons, List.not_mem_nil, or_false] at hp
        rcases hp with rfl | rfl | rfl | rfl | rfl | rfl
        · exact ⟨_, rfl, lx⟩
        · exact ⟨_, rfl, str_tr hn⟩
        · exact ⟨_, rfl, kG.t _ _ t3⟩
        · exact ⟨_, rfl, kG.t _ _ t4⟩
        · exact ⟨_, rfl, .int _⟩
        · exact ⟨_, rfl, tb⟩
      clear tb sg
      refine ⟨fun σ G => σ = [some (.str x), some (.str name), some (.ref nm), some v3, some v4, some (.ref D), none, some (.int (mvC b)), some u8, none, none] ∧ Coll K G D (4 + 4 * i + 1) ∧ Same H G ∧ Kp K H5 G, ?_, ?_⟩
      · exact app1 (m := 4 + 4 * i + 0) (H0 := H) (fun Q kk => rL1 b _ G' Q gg kk) rfl CG sG nD (by cases b; exact cnt_show16 hx hn; exact cnt_show17 hx hn) (by omega) fun G2 C2 s2 kp => ⟨rfl, C2, s2, kG.trans kp⟩
      rintro σ G ⟨rfl, CG, sG, kG⟩
      refine ⟨fun σ G' => ∃ u8 : V, σ = [some (.str x), some (.str name), some (.ref nm), some v3, some v4, some (.ref D), none, some (.int (mvC b)), some u8, none, none] ∧ Same G G' ∧ TrAt K G' u8 (badC [0, 1, 8] b), ?_, ?_⟩
      · refine ⟨_, rfl, rfl, _, rfl, ?_⟩
        refine ite2 (fun h => ?_) (fun h => ?_)
        · cases b with
          | true => exact absurd (of_decide_eq_true h) (by intro z; injection z with z; exact absurd z (by decide))
          | false => exact ⟨_, rfl, fun _ _ e => e, .non⟩
        · cases b with
          | false => exact absurd (decide_eq_true (rfl : V.int (mvC false) = V.int 16)) h
          | true =>
            refine ⟨three', fun q1 m1 => ⟨two', fun q2 m2 => ?_⟩⟩
            obtain ⟨b1, c1⟩ := new_tr (K := K) m1 (.cons (.int 0) (.cons (.int 1) (.cons (.int 8) .nil)))
            generalize upd G q1 (.tup [.int 0, .int 1, .int 8]) = F1 at b1 c1 m2 ⊢
            obtain ⟨b2, c2⟩ := new_tr (K := K) m2 (.cons (.int 0) (.cons c1 .nil))
            exact ⟨_, rfl, b1.trans b2, c2⟩
      rintro σ G' ⟨u8, rfl, sg, tb⟩
      have CG := CG.same sg
      have sG := sG.trans sg
      have kG := kG.trans (Kp.of sg)
      have gg : Gt K (LCo x name [0, 1, 8] b) [some (.str x), some (.str name), some (.ref nm), some v3, some v4, some (.ref D), none, some (.int (mvC b)), some u8, none, none] G' := fun p hp => by
        simp only [LCo, List.mem_cons, List.not_mem_nil, or_false] at hp
        rcases hp with rfl | rfl | rfl | rfl | rfl | rfl
        · exact ⟨_, rfl, lx⟩
        · exact ⟨_, rfl, str_tr hn⟩
        · exact ⟨_, rfl, kG.t _ _ t3⟩
        · exact ⟨_, rfl, kG.t _ _ t4⟩
        · exact ⟨_, rfl, .int _⟩
        · exact ⟨_, rfl, tb⟩
      clear tb sg
      refine ⟨fun σ G => σ = [some (.str x), some (.str name), some (.ref nm), some v3, some v4, some (.ref D), none, some (.int (mvC b)), some u8, none, none] ∧ Coll K G D (4 + 4 * i + 2) ∧ Same H G ∧ Kp K H5 G, ?_, ?_⟩
      · exact app1 (m := 4 + 4 * i + 1) (H0 := H) (fun Q kk => rL3 b _ G' Q gg kk) rfl CG sG nD (by cases b; exact cnt_guard16 hx hn; exact cnt_guard17 hx hn) (by omega) fun G2 C2 s2 kp => ⟨rfl, C2, s2, kG.trans kp⟩
      rintro σ G ⟨rfl, CG, sG, kG⟩
      refine ⟨fun σ G' => ∃ u8 : V, σ = [some (.str x), some (.str name), some (.ref nm), some v3, some v4, some (.ref D), none, some (.int (mvC b)), some u8, none, none] ∧ Same G G' ∧ TrAt K G' u8 (badC [0, 0, 15] b), ?_, ?_⟩
      · refine ⟨_, rfl, rfl, _, rfl, ?_⟩
        refine ite2 (fun h => ?_) (fun h => ?_)
        · cases b with
          | true => exact absurd (of_decide_eq_true h) (by intro z; injection z with z; exact absurd z (by decide))
          | false => exact ⟨_, rfl, fun _ _ e => e, .non⟩
        · cases b with
          | false => exact absurd (decide_eq_true (rfl : V.int (mvC false) = V.int 16)) h
          | true =>
            refine ⟨three', fun q1 m1 => ⟨two', fun q2 m2 => ?_⟩⟩
            obtain ⟨b1, c1⟩ := new_tr (K := K) m1 (.cons (.int 0) (.cons (.int 0) (.cons (.int 15) .nil)))
            generalize upd G q1 (.tup [.int 0, .int 0, .int 15]) = F1 at b1 c1 m2 ⊢
            obtain ⟨b2, c2⟩ := new_tr (K := K) m2 (.cons (.int 0) (.cons c1 .nil))
            exact ⟨_, rfl, b1.trans b2, c2⟩
      rintro σ G' ⟨u8, rfl, sg, tb⟩
      have CG := CG.same sg
      have sG := sG.trans sg
      have kG := kG.trans (Kp.of sg)
      have gg : Gt K (LCo x name [0, 0, 15] b) [some (.str x), some (.str name), some (.ref nm), some v3, some v4, some (.ref D), none, some (.int (mvC b)), some u8, none, none] G' := fun p hp => by
        simp only [LCo, List.mem_cons, List.not_mem_nil, or_false] at hp
        rcases hp with rfl | rfl | rfl | rfl | rfl | rfl
        · exact ⟨_, rfl, lx⟩
        · exact ⟨_, rfl, str_tr hn⟩
        · exact ⟨_, rfl, kG.t _ _ t3⟩
        · exact ⟨_, rfl, kG.t _ _ t4⟩
        · exact ⟨_, rfl, .int _⟩
        · exact ⟨_, rfl, tb⟩
      clear tb sg
      refine ⟨fun σ G => σ = [some (.str x), some (.str name), some (.ref nm), some v3, some v4, some (.ref D), none, some (.int (mvC b)), some u8, none, none] ∧ Coll K G D (4 + 4 * i + 3) ∧ Same H G ∧ Kp K H5 G, ?_, ?_⟩
      · exact app1 (m := 4 + 4 * i + 2) (H0 := H) (fun Q kk => rL5 b _ G' Q gg kk) rfl CG sG nD (by cases b; exact cnt_loop16 hx hn; exact cnt_loop17 hx hn) (by omega) fun G2 C2 s2 kp => ⟨rfl, C2, s2, kG.trans kp⟩
      rintro σ G ⟨rfl, CG, sG, kG⟩
      refine ⟨fun σ G' => ∃ u8 : V, σ = [some (.str x), some (.str name), some (.ref nm), some v3, some v4, some (.ref D), none, some (.int (mvC b)), some u8, none, none] ∧ Same G G' ∧ TrAt K G' u8 (badC [1] b), ?_, ?_⟩
      · refine ⟨_, rfl, rfl, _, rfl, ?_⟩
        refine ite2 (fun h => ?_) (fun h => ?_)
        · cases b with
          | true => exact absurd (of_decide_eq_true h) (by intro z; injection z with z; exact absurd z (by decide))
          | false => exact ⟨_, rfl, fun _ _ e => e, .non⟩
        · cases b with
          | false => exact absurd (decide_eq_true (rfl : V.int (mvC false) = V.int 16)) h
          | true =>
            refine ⟨one', fun q1 m1 => ⟨two', fun q2 m2 => ?_⟩⟩
            obtain ⟨b1, c1⟩ := new_tr (K := K) m1 (.cons (.int 1) .nil)
            generalize upd G q1 (.tup [.int 1]) = F1 at b1 c1 m2 ⊢
            obtain ⟨b2, c2⟩ := new_tr (K := K) m2 (.cons (.int 0) (.cons c1 .nil))
            exact ⟨_, rfl, b1.trans b2, c2⟩
      rintro σ G' ⟨u8, rfl, sg, tb⟩
      have CG := CG.same sg
      have sG := sG.trans sg
      have kG := kG.trans (Kp.of sg)
      have gg : Gt K (LCo x name [1] b) [some (.str x), some (.str name), some (.ref nm), some v3, some v4, some (.ref D), none, some (.int (mvC b)), some u8, none, none] G' := fun p hp => by
        simp only [LCo, List.mem_cons, List.not_mem_nil, or_false] at hp
        rcases hp with rfl | rfl | rfl | rfl | rfl | rfl
        · exact ⟨_, rfl, lx⟩
        · exact ⟨_, rfl, str_tr hn⟩
        · exact ⟨_, rfl, kG.t _ _ t3⟩
        · exact ⟨_, rfl, kG.t _ _ t4⟩
        · exact ⟨_, rfl, .int _⟩
        · exact ⟨_, rfl, tb⟩
      clear tb sg
      exact app1 (m := 4 + 4 * i + 3) (H0 := H) (fun Q kk => rL7 b _ G' Q gg kk) rfl CG sG nD (by cases b; exact cnt_if16 hx hn; exact cnt_if17 hx hn) (by omega) fun G2 C2 s2 kp => ⟨_, _, rfl, C2, s2, kG.trans kp⟩
    rintro σ H5 ⟨v7, v8, rfl, C5, s5, t3, t4⟩
    clear s4 C4
    refine ⟨fun σ H6 => ∃ v9 : V, σ = [some (.str x), some (.str name), some (.ref nm), some v3, some v4, some (.ref D), none, v7, v8, some v9, none] ∧ Coll K H6 D 12 ∧ Same H H6 ∧ TrAt K H6 v3 (showS x) ∧ TrAt K H6 v9 (pairPs n0 n1), ?_, ?_⟩
    · exact rP _ H5 _ (gn s5) fun v9 H6 s6 t9 => ⟨v9, rfl, C5.same s6, s5.trans s6, t3.same s6, t9⟩
    rintro σ H6 ⟨v9, rfl, C6, s6, t3, t9⟩
    clear s5 C5 t4
    refine ⟨fun σ H7 => σ = [some (.str x), some (.str name), some (.ref nm), some v3, some v4, some (.ref D), none, v7, v8, some v9, none] ∧ Coll K H7 D 13 ∧ Same H H7 ∧ TrAt K H7 v3 (showS x) ∧ TrAt K H7 v9 (pairPs n0 n1), ?_, ?_⟩
    · refine app1 (m := 12) (H0 := H) (fun Q kk => r6 _ H6 Q (fun p hp => ?_) kk) rfl C6 s6 nD (cnt_pair hx hn nn0 nn1 n01) (by omega) fun H7 C7 s7 kp => ⟨rfl, C7, s7, kp.t _ _ t3, kp.t _ _ t9⟩
      simp only [List.mem_cons, List.not_mem_nil, or_false] at hp
      rcases hp with rfl | rfl | rfl
      · exact ⟨_, rfl, lx⟩
      · exact ⟨_, rfl, str_tr hn⟩
      · exact ⟨_, rfl, t9⟩
    rintro σ H7 ⟨rfl, C7, s7, t3, t9⟩
    clear s6 C6
    refine ⟨fun σ H8 => σ = [some (.str x), some (.str name), some (.ref nm), some v3, some v4, some (.ref D), none, v7, v8, some v9, none] ∧ Coll K H8 D 14 ∧ Same H H8 ∧ TrAt K H8 v3 (showS x) ∧ TrAt K H8 v9 (pairPs n0 n1), ?_, ?_⟩
    · refine app1 (m := 13) (H0 := H) (fun Q kk => r7 _ H7 Q ⟨fun p hp => ?_, s7 _ _ hnm, ⟨_, _, _, _, _, _, _, _, _, _, rfl⟩⟩ kk) rfl C7 s7 nD (first_no hx (by simp) (triple_no (.inr (.inl three_params)))) (by omega) fun H8 C8 s8 kp => ⟨rfl, C8, s8, kp.t _ _ t3, kp.t _ _ t9⟩
      simp only [List.mem_cons, List.not_mem_nil, or_false] at hp
      rcases hp with rfl | rfl | rfl
      · exact ⟨_, rfl, lx⟩
      · exact ⟨_, rfl, str_tr hn⟩
      · exact ⟨_, rfl, t9⟩
    rintro σ H8 ⟨rfl, C8, s8, t3, t9⟩
    clear s7 C7
    refine ⟨fun σ H9 => σ = [some (.str x), some (.str name), some (.ref nm), some v3, some v4, some (.ref D), none, v7, v8, some v9, none] ∧ Coll K H9 D 15 ∧ Same H H9, ?_, ?_⟩
    · refine app1 (m := 14) (H0 := H) (fun Q kk => r8 _ H8 Q ⟨fun p hp => ?_, s8 _ _ hnm, ⟨_, _, _, _, _, _, _, _, _, _, rfl⟩⟩ kk) rfl C8 s8 nD (cnt_full hx h6 hd6 l6 nn0 nn1 n01) (by omega) fun H9 C9 s9 kp => ⟨rfl, C9, s9⟩
      simp only [List.mem_cons, List.not_mem_nil, or_false] at hp
      rcases hp with rfl | rfl | rfl
      · exact ⟨_, rfl, lx⟩
      · exact ⟨_, rfl, t3⟩
      · exact ⟨_, rfl, t9⟩
    rintro σ H8' ⟨rfl, C9, s9⟩
    clear s8 C8 t3 t9
    refine ⟨fun σ G => ∃ v8 vA : Option V, σ = [some (.str x), some (.str name), some (.ref nm), some v3, some v4, some (.ref D), none, v7, v8, some v9, vA] ∧ Coll K G D 40 ∧ Same H G, ?_, ?_⟩
    · refine rI _ H8' _ (gn s9).g fun u H9 sI tI => ?_
      have C9 := C9.same sI
      have s9 := s9.trans sI
      cases tI with
      | @tup q us ts hq tr =>
      have ul := tr.len
      refine ⟨q, rfl, ⟨us, hq⟩, for_it (walk_tup (K := K) (a := q) (xs := us)) (fun i σ G => ∃ v8 vA : Option V, σ = [some (.str x), some (.str name), some (.ref nm), some v3, some v4, some (.ref D), none, v7, v8, some v9, vA] ∧ Coll K G D (15 + 4 * i) ∧ Same H G ∧ Kp K H9 G)
        ⟨_, _, rfl, C9, s9, Kp.refl⟩ (fun i σ G _ ⟨_, _, _, _, _, kp⟩ => kp.s _ _ hq) ?_ (fun σ G ⟨v8, vA, e, C, s, kp⟩ => ⟨v8, vA, e, C.more (by rw [ul]; show 15 + 4 * 4 ≤ 40; omega), s⟩)⟩
      rintro i y σ G0 G hi ⟨v8, vA, rfl, CG, sG, kG⟩ ⟨rfl, hy⟩
      have hi : i < us.length := hi
      have hi : i < 4 := by rw [ul] at hi; exact hi
      obtain ⟨t, ht, ty⟩ := tr.get hy
      obtain ⟨st, bt, rfl, hsrc⟩ : ∃ st bt, t = .tup [st, bt] ∧ PairK (.tup [bkT x name [setT x st], bt]) ∧ PairK (.tup [bkT x name [ifS x st [] []], bt]) ∧ PairK (.tup [bkT x name [withS x st []], bt]) ∧ PairK (.tup [bkT x name [holdT x x st], bt]) := by
        match i, hi, ht with
        | 0, _, ht => cases ht; exact ⟨_, _, rfl, src_good hx hn (by decide) (by decide)⟩
        | 1, _, ht => cases ht; exact ⟨_, _, rfl, src_bad hx hn (int_no (.inr (by decide)))⟩
        | 2, _, ht => cases ht; exact ⟨_, _, rfl, src_bad hx hn big_no⟩
        | 3, _, ht => cases ht; exact ⟨_, _, rfl, src_bad hx hn big_neg⟩
      cases ty with
      | @tup c zs _ hc tz =>
      cases tz with
      | @cons ys _ _ _ tys tz =>
      cases tz with
      | @cons yb _ _ _ tyb tz =>
      cases tz with
      | nil =>
      refine ⟨c, _, rfl, kG.s _ _ hc, rfl, _, _, rfl, _, _, rfl, rfl, ?_⟩
      have gg : ∀ {G : Hp}, Kp K H9 G → Gt K (LCs x name (st, bt)) [some (.str x), some (.str name), some (.ref nm), some v3, some v4, some (.ref D), none, v7, some yb, some v9, some ys] G := fun {G} kG p hp => by
        simp only [LCs, List.mem_cons, List.not_mem_nil, or_false] at hp
        rcases hp with rfl | rfl | rfl | rfl
        · exact ⟨_, rfl, lx⟩
        · exact ⟨_, rfl, str_tr hn⟩
        · exact ⟨_, rfl, kG.t _ _ tys⟩
        · exact ⟨_, rfl, kG.t _ _ tyb⟩
      refine ⟨fun σ G => σ = [some (.str x), some (.str name), some (.ref nm), some v3, some v4, some (.ref D), none, v7, some yb, some v9, some ys] ∧ Coll K G D (15 + 4 * i + 1) ∧ Same H G ∧ Kp K H9 G, ?_, ?_⟩
      · exact app1 (m := 15 + 4 * i + 0) (H0 := H) (fun Q kk => rM0 (st, bt) _ G Q (gg kG) kk) rfl CG sG nD (by exact hsrc.1) (by omega) fun G2 C2 s2 kp => ⟨rfl, C2, s2, kG.trans kp⟩
      rintro σ G ⟨rfl, CG, sG, kG⟩
      refine ⟨fun σ G => σ = [some (.str x), some (.str name), some (.ref nm), some v3, some v4, some (.ref D), none, v7, some yb, some v9, some ys] ∧ Coll K G D (15 + 4 * i + 2) ∧ Same H G ∧ Kp K H9 G, ?_, ?_⟩
      · exact app1 (m := 15 + 4 * i + 1) (H0 := H) (fun Q kk => rM1 (st, bt) _ G Q (gg kG) kk) rfl CG sG nD (by exact hsrc.2.1) (by omega) fun G2 C2 s2 kp => ⟨rfl, C2, s2, kG.trans kp⟩
      rintro σ G ⟨rfl, CG, sG, kG⟩
      refine ⟨fun σ G => σ = [some (.str x), some (.str name), some (.ref nm), some v3, some v4, some (.ref D), none, v7, some yb, some v9, some ys] ∧ Coll K G D (15 + 4 * i + 3) ∧ Same H G ∧ Kp K H9 G, ?_, ?_⟩
      · exact app1 (m := 15 + 4 * i + 2) (H0 := H) (fun Q kk => rM2 (st, bt) _ G Q (gg kG) kk) rfl CG sG nD (by exact hsrc.2.2.1) (by omega) fun G2 C2 s2 kp => ⟨rfl, C2, s2, kG.trans kp⟩
      rintro σ G ⟨rfl, CG, sG, kG⟩
      exact app1 (m := 15 + 4 * i + 3) (H0 := H) (fun Q kk => rM3 (st, bt) _ G Q (gg kG) kk) rfl CG sG nD (by exact hsrc.2.2.2) (by omega) fun G2 C2 s2 kp => ⟨_, _, rfl, C2, s2, kG.trans kp⟩
    rintro σ G ⟨v8, vA, rfl, C, s⟩
    exact ⟨_, rfl, k D G s nD C⟩
end
end BK

set_option Elab.async false
set_option maxRecDepth 100000
set_option maxHeartbeats 4000000
set_option linter.unusedVariables false
/-! _law_nested -/
namespace BK
open PySem PySem.Spec PyProof.Rows L2 SW RZ ET
abbrev sNe : Stmt := top 56
abbrev nNe : List Str := ["x", "kinds", "one", "way", "kind"]
theorem scNe : FnScope nNe ["x", "kinds", "one"] (defScope sNe) := ⟨rfl, rfl, rfl, by decide +kernel, rfl, by decide +kernel, by decide +kernel⟩
def spNe (K : PySem.W.Frag) : Sp := fun vs H Q _ => ∃ (x : Str) (ka : Addr) (ks : List Str) (vo : V) (t : Tr), vs = [.str x, .ref ka, vo] ∧ nameS x = true ∧ H ka = some (.lst (ks.map V.str)) ∧ ks.length ≤ 10 ∧ (∀ k ∈ ks, k ∈ four) ∧ TrAt K H vo t ∧
  ∀ L v1 v2 H', Same H H' → H' L = some (.lst [v1, v2]) → TrAt K H' v1 (nestL x ks t) → TrAt K H' v2 (.tup (intsT (wayL ks))) → Q (.ref L) H'
section
variable {K : PySem.W.Frag} {H H' : Hp}
mutual
/-- a dict that changes -/
theorem TrAt.updD {o : Addr} {kvs kvs' : List (Key × V)} (ho : H o = some (.dK kvs)) : ∀ {v : V} {t : Tr}, TrAt K H v t → TrAt K (upd H o (.dK kvs')) v t
  | _, _, .non => .non
  | _, _, .bl b => .bl b
  | _, _, .int i => .int i
  | _, _, .str s h => .str s h
  | _, _, .lst h => by
    rcases h with (h | ⟨u, h⟩) | h
    · exact .lst (.inl (.inl (by rw [upd_ne (ne_of h ho (by intro z; cases z))]; exact h)))
    · exact .lst (.inl (.inr ⟨u, by rw [upd_ne (ne_of h ho (by intro z; cases z))]; exact h⟩))
    · exact .lst (.inr h)
  | _, _, .dct (a := x) (kvs := ks) h => by
    by_cases z : x = o
    · subst z
      exact .dct upd_same
    · exact .dct (by rw [upd_ne z]; exact h)
  | _, _, .tup h k => by
    refine .tup ?_ (TrAll.updD ho k)
    rcases h with (h | ⟨u, h⟩) | h
    · exact .inl (.inl (by rw [upd_ne (ne_of h ho (by intro z; cases z))]; exact h))
    · exact .inl (.inr ⟨u, by rw [upd_ne (ne_of h ho (by intro z; cases z))]; exact h⟩)
    · exact .inr h
theorem TrAll.updD {o : Addr} {kvs kvs' : List (Key × V)} (ho : H o = some (.dK kvs)) : ∀ {vs : List V} {ts : List Tr}, TrAll K H vs ts → TrAll K (upd H o (.dK kvs')) vs ts
  | _, _, .nil => .nil
  | _, _, .cons h k => .cons (h.updD ho) (k.updD ho)
end
end
section
variable {P : Program} {w : World} {K : PySem.W.Frag} {mg : Str → Option Value} {base : Heap}
theorem ok_nested {f : Addr} {fd : FuncData} (F : Fun K "_law_nested" "_law_nested" sNe f fd) : FnOk P w K mg base CX0 1 f fd ["x", "kinds", "one"] (spNe K) := by
  refine F.ok scNe (fun vs H Q E h => ?_) (fun cdv A outer s H vs Q E hr h => ?_)
  · obtain ⟨x, ka, ks, vo, t, rfl, _⟩ := h
    rfl
  · obtain ⟨x, ka, ks, vo, t, rfl, hx, hk, hl, h4, ht, k⟩ := h
    have hu : A.units + 3 + 64 < cLine := hr.units
    refine ⟨_, pss_cons (ps_set (i := 3) scNe.nd rfl (Or.inl rfl) (pe_tup pa_nil))
      (pss_cons (ps_for PassesOwn.never rfl (pi_list (pe_revL (pv 1))) (pg_name (i := 4) scNe.nd rfl (Or.inl rfl))
        (C8.pss_cut (ps_set (i := 3) scNe.nd rfl (Or.inl rfl) (pe_op op_catA (pe_dget2 (by show A.units + 3 + 1 < cLine; omega) (pe_disp (pps_cons pe_str (pe_tup (pa_cons pe_int (pa_cons pe_int pa_nil))) (pps_cons pe_str (pe_tup (pa_cons pe_int (pa_cons pe_int pa_nil))) pps_nil)) rfl rfl (by simp) (by decide)) (pv 4) (pe_tup (pa_cons pe_int (pa_cons pe_int pa_nil))) ⟨rfl, rfl, rfl, rfl⟩) (pv 3)))
        (pss_one (ps_if (pt_cmpR op_eq (pv 4) pe_str (nomark _)) (pss_one (ps_set (i := 2) scNe.nd rfl (Or.inl rfl) (pe_tup (pa_cons pe_str (pa_cons (pe_tup pa_nil) (pa_cons (pe_tup (pa_cons (pv 2) pa_nil)) pa_nil))))))
          (pss_one (ps_if (pt_cmpR op_eq (pv 4) pe_str (nomark _)) (pss_one (ps_set (i := 2) scNe.nd rfl (Or.inl rfl) (pe_tup (pa_cons pe_str (pa_cons (pe_tup (pa_cons (pe_tup (pa_cons pe_str pa_nil)) (pa_cons (pv 2) pa_nil))) pa_nil)))))
            (pss_one (ps_set (i := 2) scNe.nd rfl (Or.inl rfl) (pe_ifExp (pt_cmpR op_eq (pv 4) pe_str (nomark _)) (pe_tup (pa_cons pe_str (pa_cons (pv 0) (pa_cons pe_int (pa_cons (pe_tup (pa_cons (pv 2) pa_nil)) pa_nil)))))
              (pe_tup (pa_cons pe_str (pa_cons (pv 0) (pa_cons pe_int (pa_cons (pe_tup (pa_cons (pv 2) pa_nil)) (pa_cons (pe_tup pa_nil) pa_nil))))))))))))))) 
      (pss_one (ps_ret (pe_lst (pa_cons (pv 2) (pa_cons (pv 3) pa_nil)))))), ?_⟩
    have one' : 1 ≤ sizeLine := by decide
    have two' : 2 ≤ sizeLine := by decide
    have three' : 3 ≤ sizeLine := by decide
    have four' : 4 ≤ sizeLine := by decide
    have five' : 5 ≤ sizeLine := by decide
    refine ⟨Nat.zero_le _, fun w0 nw => ?_⟩
    have s0 := same_new (o := .tup []) nw
    refine ⟨_, rfl, ka, _, rfl, SqL.of (s0 _ _ hk), fun q nq => ?_⟩
    have s1 := same_new (o := .lst (ks.map V.str).reverse) nq
    have e1 : (upd (upd H w0 (.tup [])) q (.lst (ks.map V.str).reverse)) q = some (.lst (ks.reverse.map V.str)) := by rw [upd_same, List.map_reverse]
    have tw : TrAt K (upd (upd H w0 (.tup [])) q (.lst (ks.map V.str).reverse)) (.ref w0) (.tup []) := .tup (SqT.of (s1 _ _ upd_same)) .nil
    have s01 := s0.trans s1
    have to := ht.same s01
    generalize upd (upd H w0 (.tup [])) q (.lst (ks.map V.str).reverse) = H1 at e1 tw s01 to ⊢
    clear s0 s1
    refine ⟨q, rfl, ⟨_, SqL.of e1⟩, for_it (walk_list (K := K) (a := q) (xs := ks.reverse.map V.str)) (fun i σ G => ∃ (v2 v3 : V) (v4 : Option V), σ = [some (.str x), some (.ref ka), some v2, some v3, v4] ∧ Same H1 G ∧ TrAt K G v2 (nestL x (ks.reverse.take i).reverse t) ∧ TrAt K G v3 (.tup (intsT (wayL (ks.reverse.take i).reverse))))
      ⟨vo, .ref w0, none, rfl, fun _ _ e => e, to, tw⟩ (fun i σ G _ ⟨_, _, _, _, s, _⟩ => SqL.of (s _ _ e1)) ?_ ?_⟩
    · rintro i y σ G0 G hi ⟨v2, v3, v4, rfl, sG, t2, t3⟩ ⟨rfl, hy⟩
      obtain ⟨kd, hkd, rfl⟩ := SW.str_at hy
      have k4 : kd ∈ four := h4 kd (List.mem_reverse.mp (List.mem_of_getElem? hkd))
      have et : (ks.reverse.take (i + 1)).reverse = kd :: (ks.reverse.take i).reverse := by rw [List.take_add_one, hkd]; simp
      have il : i < ks.length := by simpa using hi
      have wl : (intsT (wayL (ks.reverse.take i).reverse)).length ≤ 1000 := by
        show (List.map _ _).length ≤ 1000
        rw [List.length_map, (wayL_le _).2, List.length_reverse, List.length_take]
        omega
      rw [et]
      have ew : wayL (kd :: (ks.reverse.take i).reverse) = wayK kd ++ wayL (ks.reverse.take i).reverse := by simp [wayL]
      have ei : intsT (wayK kd ++ wayL (ks.reverse.take i).reverse) = intsT (wayK kd) ++ intsT (wayL (ks.reverse.take i).reverse) := by unfold intsT; rw [List.map_append]
      rw [ew, ei]
      have en : nestL x (kd :: (ks.reverse.take i).reverse) t = nestK x kd (nestL x (ks.reverse.take i).reverse t) := rfl
      rw [en]
      generalize nestL x (ks.reverse.take i).reverse t = tn at t2 ⊢
      generalize intsT (wayL (ks.reverse.take i).reverse) = tws at t3 wl ⊢
      refine ⟨fun σ G' => ∃ v3 : V, σ = [some (.str x), some (.ref ka), some v2, some v3, some (.str kd)] ∧ Same G G' ∧ TrAt K G' v3 (.tup (intsT (wayK kd) ++ tws)), ?_, ?_⟩
      · intro p np
        have sp := same_new (o := .dK []) np
        refine ⟨two', fun q1 m1 => ⟨two', fun q2 m2 => ?_⟩⟩
        obtain ⟨b1, c1⟩ := new_tr (K := K) m1 (.cons (.int 1) (.cons (.int 0) .nil))
        have ep1 := b1 _ _ upd_same
        generalize upd (upd G p (.dK [])) q1 (.tup [.int 1, .int 0]) = F1 at b1 c1 ep1 m2 ⊢
        obtain ⟨b2, c2⟩ := new_tr (K := K) m2 (.cons (.int 0) (.cons (.int 1) .nil))
        have ep2 := b2 _ _ ep1
        have c1 := c1.same b2
        have sF := (sp.trans b1).trans b2
        generalize upd F1 q2 (.tup [.int 0, .int 1]) = F2 at b2 c2 c1 ep2 sF ⊢
        refine ⟨ep2, [(.inr "guard", .ref q1), (.inr "loop", .ref q2)], rfl, (by show 2 ≤ 15; decide), p, rfl, .inl ⟨_, .inl upd_same⟩, _, rfl, two', fun q3 m3 => ?_⟩
        have eD : (upd F2 p (.dK (mergeK [] [(.inr "guard", .ref q1), (.inr "loop", .ref q2)]))) p = some (.dK [(.inr "guard", .ref q1), (.inr "loop", .ref q2)]) := by
          rw [upd_same]
          all_goals (with_unfolding_all rfl)
        have d1 : TrAt K (upd F2 p (.dK (mergeK [] [(.inr "guard", .ref q1), (.inr "loop", .ref q2)]))) (.ref q1) (.tup [.int 1, .int 0]) := c1.updD ep2
        have d2 : TrAt K (upd F2 p (.dK (mergeK [] [(.inr "guard", .ref q1), (.inr "loop", .ref q2)]))) (.ref q2) (.tup [.int 0, .int 1]) := c2.updD ep2
        have sD : Same G (upd F2 p (.dK (mergeK [] [(.inr "guard", .ref q1), (.inr "loop", .ref q2)]))) := fun b o e => by
          rw [upd_ne (ne_of_none e np)]
          exact sF _ _ e
        generalize upd F2 p (.dK (mergeK [] [(.inr "guard", .ref q1), (.inr "loop", .ref q2)])) = F3 at eD d1 d2 sD m3 ⊢
        obtain ⟨b3, c3⟩ := new_tr (K := K) m3 (.cons (.int 0) (.cons (.int 0) .nil))
        have eD := b3 _ _ eD
        have d1 := d1.same b3
        have d2 := d2.same b3
        have sD := sD.trans b3
        generalize upd F3 q3 (.tup [.int 0, .int 0]) = F4 at eD d1 d2 c3 sD ⊢
        have tw := t3.same sD
        simp only [four, List.mem_cons, List.not_mem_nil, or_false] at k4
        have v1 : valV ([(.inr "guard", .ref q1), (.inr "loop", .ref q2)] : List (Key × V)) (.inr "guard") = some (.ref q1) := by with_unfolding_all rfl
        have v2' : valV ([(.inr "guard", .ref q1), (.inr "loop", .ref q2)] : List (Key × V)) (.inr "loop") = some (.ref q2) := by with_unfolding_all rfl
        have v3' : valV ([(.inr "guard", .ref q1), (.inr "loop", .ref q2)] : List (Key × V)) (.inr "with") = none := by with_unfolding_all rfl
        have v4' : valV ([(.inr "guard", .ref q1), (.inr "loop", .ref q2)] : List (Key × V)) (.inr "if") = none := by with_unfolding_all rfl
        rcases k4 with rfl | rfl | rfl | rfl
        · exact ⟨some (.ref q1), v1 ▸ DGet.k (k := Sum.inr "guard") eD, _, rfl, cat_tr d1 tw (by simp) wl fun r H' s' t' => ⟨r, rfl, sD.trans s', t'⟩⟩
        · exact ⟨some (.ref q2), v2' ▸ DGet.k (k := Sum.inr "loop") eD, _, rfl, cat_tr d2 tw (by simp) wl fun r H' s' t' => ⟨r, rfl, sD.trans s', t'⟩⟩
        · exact ⟨none, v3' ▸ DGet.k (k := Sum.inr "with") eD, _, rfl, cat_tr c3 tw (by simp) wl fun r H' s' t' => ⟨r, rfl, sD.trans s', t'⟩⟩
        · exact ⟨none, v4' ▸ DGet.k (k := Sum.inr "if") eD, _, rfl, cat_tr c3 tw (by simp) wl fun r H' s' t' => ⟨r, rfl, sD.trans s', t'⟩⟩
      rintro σ G' ⟨v3', rfl, sg, t3'⟩
      have t2 := t2.same sg
      have lx : ∀ {H : Hp}, TrAt K H (.str x) (.str x) := str_tr hx
      refine ⟨_, rfl, rfl, _, rfl, ?_⟩
      rw [eq_txt]
      refine ite2 (fun h => ?_) (fun h1 => ?_)
      · have h := of_decide_eq_true h
        subst h
        refine ⟨Nat.zero_le _, fun q1 m1 => ⟨_, rfl, one', fun q2 m2 => ⟨three', fun q3 m3 => ?_⟩⟩⟩
        obtain ⟨b1, c1⟩ := new_tr (K := K) m1 .nil
        have t2 := t2.same b1
        generalize upd G' q1 (.tup []) = F1 at b1 c1 t2 m2 m3 ⊢
        obtain ⟨b2, c2⟩ := new_tr m2 (.cons t2 .nil)
        generalize upd F1 q2 (.tup [v2]) = F2 at b2 c2 m3 ⊢
        obtain ⟨b3, c3⟩ := new_tr (K := K) m3 (.cons (.str "guard" (by decide)) (.cons (c1.same b2) (.cons c2 .nil)))
        exact ⟨_, _, _, rfl, ((sG.trans sg).trans b1).trans (b2.trans b3), c3, ((t3'.same b1).same b2).same b3⟩
      have h1 : ¬ kd = "guard" := fun e => h1 (decide_eq_true e)
      refine ⟨_, rfl, rfl, _, rfl, ?_⟩
      rw [eq_txt]
      refine ite2 (fun h => ?_) (fun h2 => ?_)
      · have h := of_decide_eq_true h
        subst h
        refine ⟨one', fun q1 m1 => ⟨_, rfl, two', fun q2 m2 => ⟨two', fun q3 m3 => ?_⟩⟩⟩
        obtain ⟨b1, c1⟩ := new_tr (K := K) m1 (.cons (.str "yield" (by decide)) .nil)
        have t2 := t2.same b1
        generalize upd G' q1 (.tup [.str "yield"]) = F1 at b1 c1 t2 m2 m3 ⊢
        obtain ⟨b2, c2⟩ := new_tr m2 (.cons c1 (.cons t2 .nil))
        generalize upd F1 q2 (.tup [.ref q1, v2]) = F2 at b2 c2 m3 ⊢
        obtain ⟨b3, c3⟩ := new_tr (K := K) m3 (.cons (.str "loop" (by decide)) (.cons c2 .nil))
        exact ⟨_, _, _, rfl, ((sG.trans sg).trans b1).trans (b2.trans b3), c3, ((t3'.same b1).same b2).same b3⟩
      have h2 : ¬ kd = "loop" := fun e => h2 (decide_eq_true e)
      refine ⟨_, rfl, rfl, _, rfl, ?_⟩
      rw [eq_txt]
      have en : nestK x kd tn = if kd = "with" then withS x (.int 0) [tn] else ifS x (.int 0) [tn] [] := by
        unfold nestK
        rw [if_neg h1, if_neg h2]
      rw [en]
      refine ite2 (fun h => ?_) (fun h3 => ?_)
      · have h := of_decide_eq_true h
        rw [if_pos h]
        refine ⟨_, rfl, _, rfl, one', fun q2 m2 => ⟨four', fun q3 m3 => ?_⟩⟩
        obtain ⟨b2, c2⟩ := new_tr m2 (.cons t2 .nil)
        generalize upd G' q2 (.tup [v2]) = F2 at b2 c2 m3 ⊢
        obtain ⟨b3, c3⟩ := new_tr (K := K) m3 (.cons (.str "with" (by decide)) (.cons lx (.cons (.int 0) (.cons c2 .nil))))
        exact ⟨_, _, _, rfl, (sG.trans sg).trans (b2.trans b3), c3, (t3'.same b2).same b3⟩
      · have h3 : ¬ kd = "with" := fun e => h3 (decide_eq_true e)
        rw [if_neg h3]
        refine ⟨_, rfl, _, rfl, one', fun q2 m2 => ⟨Nat.zero_le _, fun q4 m4 => ⟨five', fun q3 m3 => ?_⟩⟩⟩
        obtain ⟨b2, c2⟩ := new_tr m2 (.cons t2 .nil)
        generalize upd G' q2 (.tup [v2]) = F2 at b2 c2 m3 m4 ⊢
        obtain ⟨b4, c4⟩ := new_tr (K := K) m4 .nil
        generalize upd F2 q4 (.tup []) = F4 at b4 c4 m3 ⊢
        obtain ⟨b3, c3⟩ := new_tr (K := K) m3 (.cons (.str "if" (by decide)) (.cons lx (.cons (.int 0) (.cons (c2.same b4) (.cons c4 .nil)))))
        exact ⟨_, _, _, rfl, (sG.trans sg).trans ((b2.trans b4).trans b3), c3, ((t3'.same b2).same b4).same b3⟩
    · rintro σ G ⟨v2, v3, v4, rfl, sG, t2, t3⟩
      have er : (ks.reverse.take (ks.reverse.map V.str).length).reverse = ks := by rw [List.length_map, List.take_length, List.reverse_reverse]
      rw [er] at t2 t3
      refine ⟨_, rfl, _, rfl, two', fun L nL => ?_⟩
      have sL := same_new (o := .lst [v2, v3]) nL
      exact k L v2 v3 _ ((s01.trans sG).trans sL) upd_same (t2.same sL) (t3.same sL)
end
end BK

set_option Elab.async false
set_option maxRecDepth 100000
set_option maxHeartbeats 4000000
set_option linter.unusedVariables false
/-! _law_depths -/
namespace BK
open PySem PySem.Spec PyProof.Rows L2 SW RZ ET
abbrev sDe : Stmt := top 57
abbrev nDe : List Str := ["state", "x", "name", "found", "turn", "kinds", "last", "one", "way", "k"]
theorem scDe : FnScope nDe ["state", "x", "name"] (defScope sDe) := ⟨rfl, rfl, rfl, by decide +kernel, rfl, by decide +kernel, by decide +kernel⟩
def spDe (K : PySem.W.Frag) : Sp := fun vs H Q _ => ∃ (a : RA) (n : Nat) (x name : Str), vs = [.ref a.s, .str x, .str name] ∧ Rnd H a n ∧ n + 1000 ≤ 1000000 ∧ nameS x = true ∧ nameS name = true ∧
  ∀ (D : Addr) (n' : Nat) (H' : Hp), H D = none → n' ≤ n + 24 → Rnd H' a n' → But a H H' → Coll K H' D 12 → Q (.ref D) H'
/-- one more, where the draws write -/
theorem app2 {X : Cx} {i : Nat} {te : TE} {u : Tr} {σ : L2.St} {H : Hp} {D : Addr} {m : Nat} {E : Ends} (r : ∀ Q : VK, (∀ v H', Same H H' → TrAt X.K H' v u → Q v H') → te σ H Q) (hσ : σ[i]? = some (some (.ref D))) (C : Coll X.K H D m) (hp : PairK u) (hm : m ≤ 900)
    (k : ∀ H', Coll X.K H' D (m + 1) → (∀ b o, H b = some o → b ≠ D → H' b = some o) → Kp X.K H H' → E.nx σ H') : (tDrop (tBM X.K "list" rAppend (tVar i) (tCons te tNil))) E σ H := by
  obtain ⟨vs0, _, e0, _⟩ := id C
  refine ⟨.ref D, hσ, .inl ⟨rfl, _, SqL.of e0⟩, r _ fun v H1 s1 t1 => ?_⟩
  obtain ⟨vs, e1, lt, C2, kp⟩ := (C.same s1).push t1 hp hm
  refine ⟨D, vs, v, rfl, rfl, e1, lt, k _ C2 (fun b o eb nb => ?_) ((Kp.of s1).trans kp)⟩
  rw [upd_ne nb]
  exact s1 _ _ eb
theorem cut2 (xs : List V) (h : 2 ≤ xs.length) : cutV xs none (some (-2)) = xs.take (xs.length - 2) := by
  have e : HT.sIx xs.length 0 none = 0 := by simp [HT.sIx]
  have e2 : HT.sIx xs.length xs.length (some (-2)) = xs.length - 2 := by
    simp only [HT.sIx]
    rw [if_pos (by decide)]
    omega
  unfold cutV
  rw [e, e2]
  simp
theorem TrAll.take {K : PySem.W.Frag} {H : Hp} : ∀ {vs : List V} {ts : List Tr} (n : Nat), TrAll K H vs ts → TrAll K H (vs.take n) (ts.take n)
  | _, _, 0, _ => by rw [List.take_zero, List.take_zero]; exact .nil
  | _, _, n + 1, .nil => .nil
  | _, _, n + 1, .cons h k => .cons h (k.take n)
theorem Coll.kp {K : PySem.W.Frag} {H H' : Hp} {D : Addr} {m : Nat} (C : Coll K H D m) (kp : Kp K H H') (h : ∀ xs, H D = some (.lst xs) → H' D = some (.lst xs)) : Coll K H' D m := by
  obtain ⟨vs, ts, h1, h2, h3, h4⟩ := C
  exact ⟨vs, ts, h _ h1, kp_all kp h2, h3, h4⟩
theorem rnd_keep {H H' : Hp} {a : RA} {n : Nat} {D : Addr} (R : Rnd H a n) (o : Off a D) (keep : ∀ b u, H b = some u → b ≠ D → H' b = some u) : Rnd H' a n := by
  obtain ⟨ns, ls, h1, h2, h3, r⟩ := R
  exact ⟨ns, ls, keep _ _ h1 o.s.symm, keep _ _ h2 o.c.symm, keep _ _ h3 o.l.symm, r⟩
theorem but_keep {H0 H H' : Hp} {a : RA} {D : Addr} (b : But a H0 H) (nD : H0 D = none) (keep : ∀ b u, H b = some u → b ≠ D → H' b = some u) : But a H0 H' := fun c o e h1 h2 => keep _ _ (b c o e h1 h2) (ne_of_none e nD)
theorem str4 {i : Nat} (h : i < 4) : ∃ z, ([.str "guard", .str "loop", .str "with", .str "if"] : List V)[i]? = some (.str z) ∧ z ∈ four := by
  match i, h with
  | 0, _ => exact ⟨_, rfl, by decide⟩
  | 1, _ => exact ⟨_, rfl, by decide⟩
  | 2, _ => exact ⟨_, rfl, by decide⟩
  | 3, _ => exact ⟨_, rfl, by decide⟩
theorem str3 {i : Nat} (h : i < 3) : ∃ z, ([.str "with", .str "if", .str "guard"] : List V)[i]? = some (.str z) ∧ z ∈ four ∧ z ≠ "loop" := by
  match i, h with
  | 0, _ => exact ⟨_, rfl, by decide, by decide⟩
  | 1, _ => exact ⟨_, rfl, by decide, by decide⟩
  | 2, _ => exact ⟨_, rfl, by decide, by decide⟩
def lasts (x : Str) : List Tr := [showS x, yieldS, failS, guardS [] []]
section
variable {P : Program} {w : World} {K : PySem.W.Frag} {mg : Str → Option Value} {base : Heap}
theorem ok_depths {f fD fN fB : Addr} {fd fdD fdN fdB : FuncData} (F : Fun K "_law_depths" "_law_depths" sDe f fd)
    (GD : FnOk P w K mg base CX0 2 fD fdD ["state", "many"] spDraw) (bD : Binds K fdD ["state", "many"] []) (gD : mg "_law_draw" = some (.ref fD)) (kD : PySem.W.keepIn K (.ref fD) = true)
    (GN : FnOk P w K mg base CX0 1 fN fdN ["x", "kinds", "one"] (spNe K)) (bN : Binds K fdN ["x", "kinds", "one"] []) (gN : mg "_law_nested" = some (.ref fN)) (kN : PySem.W.keepIn K (.ref fN) = true)
    (GB : FnOk P w K mg base CX0 1 fB fdB ["x", "name", "block"] (spLBook K)) (bB : Binds K fdB ["x", "name", "block"] []) (gB : mg "_law_book" = some (.ref fB)) (kB : PySem.W.keepIn K (.ref fB) = true)
    (mR : mg "range" = none) : FnOk P w K mg base CX0 3 f fd ["state", "x", "name"] (spDe K) := by
  refine F.ok scDe (fun vs H Q E h => ?_) (fun cdv A outer s H vs Q E hr h => ?_)
  · obtain ⟨a, n, x, name, rfl, _⟩ := h
    rfl
  · obtain ⟨a, n, x, name, rfl, R, hn, hx, hm, k⟩ := h
    have hr1 : Room 1 _ := hr.mono (by decide)
    have one' : 1 ≤ sizeLine := by decide
    have two' : 2 ≤ sizeLine := by decide
    have three' : 3 ≤ sizeLine := by decide
    have four' : 4 ≤ sizeLine := by decide
    refine ⟨_, pss_cons (ps_set (i := 3) scDe.nd rfl (Or.inl rfl) (pe_lst pa_nil))
      (pss_cons (ps_for PassesOwn.never rfl (pi_range1 rfl mR (pa_cons pe_int pa_nil)) (pg_name (i := 4) scDe.nd rfl (Or.inl rfl))
        (C8.pss_cut (ps_setLc (i := 5) (own := [("k", 9)]) (g := gName 9) (tt := tYes) rfl scDe.nd rfl rfl (sw_true rfl rfl rfl rfl)
            (pi_range1 rfl mR (pa_cons pe_int pa_nil)) (blkOk_by (N := nDe) (sc := defScope sDe) (by decide +kernel))
            (fun _ _ _ _ _ => pg_name (i := 9) scDe.nd rfl (Or.inl rfl)) (fun _ _ _ _ _ => pts_nil)
            (fun _ _ _ _ _ => pe_ix (r := rIxL K) (by exact ix_list) (pe_lst (pa_cons pe_str (pa_cons pe_str (pa_cons pe_str (pa_cons pe_str pa_nil))))) (pe_call GD hr rfl gD kD bD .nil pass0 (pa_cons (pv 0) (pa_cons pe_int pa_nil))) (fun _ _ => rfl)))
        (C8.pss_cut (ps_set (i := 6) scDe.nd rfl (Or.inl rfl) (pe_ix ix_list (pe_lst (pa_cons (pe_tup (pa_cons pe_str (pa_cons (pv 1) pa_nil))) (pa_cons (pe_tup (pa_cons pe_str pa_nil)) (pa_cons (pe_tup (pa_cons pe_str pa_nil)) (pa_cons (pe_tup (pa_cons pe_str (pa_cons (pe_tup pa_nil) (pa_cons (pe_tup pa_nil) pa_nil)))) pa_nil))))) (pe_call GD hr rfl gD kD bD .nil pass0 (pa_cons (pv 0) (pa_cons pe_int pa_nil))) (fun _ _ => rfl)))
        (C8.pss_cut (ps_expr (pe_bm PySem.F.plainAttrs_list PySem.F.slot_list_append PySem.F.type_list_append mt_append (pv 3) (pa_cons (pe_tup (pa_cons (pe_call GB hr1 rfl gB kB bB .nil pass0 (pa_cons (pv 1) (pa_cons (pv 2) (pa_cons (pe_tup (pa_cons (pe_ix ix_list (pe_call GN hr1 rfl gN kN bN .nil pass0 (pa_cons (pv 1) (pa_cons (pv 5) (pa_cons (pv 6) pa_nil)))) pe_int (fun _ _ => rfl)) pa_nil)) pa_nil)))) (pa_cons pe_non pa_nil))) pa_nil)))
        (C8.pss_cut (ps_asg (pe_call GN hr1 rfl gN kN bN .nil pass0 (pa_cons (pv 1) (pa_cons (pe_op op_cat (pv 5) (pe_lst (pa_cons (pe_ix ix_list (pe_lst (pa_cons pe_str (pa_cons pe_str (pa_cons pe_str pa_nil)))) (pe_call GD hr rfl gD kD bD .nil pass0 (pa_cons (pv 0) (pa_cons pe_int pa_nil))) (fun _ _ => rfl)) pa_nil))) (pa_cons (pv 6) pa_nil)))) (pg_unl rfl (pgs_cons (pg_name (i := 7) scDe.nd rfl (Or.inl rfl)) (pgs_cons (pg_name (i := 8) scDe.nd rfl (Or.inl rfl)) pgs_nil))))
        (C8.pss_cut (ps_expr (pe_bm PySem.F.plainAttrs_list PySem.F.slot_list_append PySem.F.type_list_append mt_append (pv 3) (pa_cons (pe_tup (pa_cons (pe_call GB hr1 rfl gB kB bB .nil pass0 (pa_cons (pv 1) (pa_cons (pv 2) (pa_cons (pe_tup (pa_cons (pe_tup (pa_cons pe_str (pa_cons (pv 1) pa_nil))) (pa_cons (pv 7) pa_nil))) pa_nil)))) (pa_cons (pe_tup (pa_cons pe_int (pa_cons (pe_op op_catA (pe_tup (pa_cons pe_int pa_nil)) (pv 8)) pa_nil))) pa_nil))) pa_nil)))
        (pss_one (ps_expr (pe_bm PySem.F.plainAttrs_list PySem.F.slot_list_append PySem.F.type_list_append mt_append (pv 3) (pa_cons (pe_tup
            (pa_cons (pe_call GB hr1 rfl gB kB bB .nil pass0 (pa_cons (pv 1) (pa_cons (pv 2) (pa_cons (pe_tup (pa_cons (pe_ix ix_list (pe_call GN hr1 rfl gN kN bN .nil pass0 (pa_cons (pv 1) (pa_cons (pe_op op_cat (pv 5) (pe_lst (pa_cons pe_str pa_nil))) (pa_cons (pv 6) pa_nil)))) pe_int (fun _ _ => rfl)) pa_nil)) pa_nil))))
            (pa_cons (pe_tup (pa_cons pe_int (pa_cons (pe_op op_catA (pe_op op_catA (pe_tup (pa_cons pe_int pa_nil)) (pe_slice sl_tup (pv 8) po_none (po_some (pe_un un_neg pe_int)))) (pe_tup (pa_cons pe_int (pa_cons pe_int pa_nil)))) pa_nil))) pa_nil))) pa_nil))))))))))
      (pss_one (ps_ret (pv 3)))), ?_⟩
    refine ⟨Nat.zero_le _, fun D nD => ?_⟩
    have oD := R.off nD
    have sD := same_new (o := .lst []) nD
    refine ⟨4, rfl, by omega, by omega, for_range (lo := 0) (n := 4) (fun i σ G => ∃ (v4 v5 v6 v7 v8 : Option V), σ = [some (.ref a.s), some (.str x), some (.str name), some (.ref D), v4, v5, v6, v7, v8, none] ∧ Rnd G a (n + 6 * i) ∧ But a H G ∧ Coll K G D (3 * i))
      ⟨none, none, none, none, none, rfl, R.same sD, Same.but sD, ⟨[], [], upd_same, .nil, Nat.le_refl _, fun _ hp => by cases hp⟩⟩ ?_ ?_⟩
    · rintro i σ G hi ⟨v4, v5, v6, v7, v8, rfl, R0, b0, C0⟩
      have i4 : i < 4 := hi
      refine ⟨fun σ G1 => ∃ (kl : Addr) (ks : List Str), σ = [some (.ref a.s), some (.str x), some (.str name), some (.ref D), some (.int (0 + (i : Int))), some (.ref kl), v6, v7, v8, none] ∧ G1 kl = some (.lst (ks.map V.str)) ∧ Off a kl ∧ kl ≠ D ∧ ks.length = 4 ∧ (∀ k ∈ ks, k ∈ four) ∧ Rnd G1 a (n + 6 * i + 4) ∧ But a H G1 ∧ Coll K G1 D (3 * i), ?_, ?_⟩
      · refine ⟨4, rfl, by omega, by omega, fun L nL => ?_⟩
        have oL := R0.off nL
        have s0 := same_new (o := .lst []) nL
        have nLH := b0.free oL nL
        obtain ⟨_, _, eD0, _⟩ := id C0
        have nLD : D ≠ L := ne_of_none eD0 nL
        refine lc_range (lo := 0) (n := 4) (fun j G2 => ∃ (ks : List Str), G2 L = some (.lst (ks.map V.str)) ∧ ks.length = j ∧ (∀ k ∈ ks, k ∈ four) ∧ Rnd G2 a (n + 6 * i + j) ∧ But a H G2 ∧ Coll K G2 D (3 * i))
          ⟨[], upd_same, rfl, (by simp), R0.same s0, b0.trans (Same.but s0), C0.same s0⟩ ?_ ?_
        · rintro j G2 hj ⟨ks, e1, e2, e3, R2, b2, C2⟩
          have j4 : j < 4 := hj
          refine ⟨rfl, ?_⟩
          refine tyes ?_
          refine ⟨four', fun q nq => ?_⟩
          have sq := same_new (o := .lst [.str "guard", .str "loop", .str "with", .str "if"]) nq
          have Rq := R2.same sq
          refine ⟨_, rfl, a, n + 6 * i + j, 4, rfl, Rq, by omega, by decide, by decide, fun r G3 r0 rl R3 b3 => ?_⟩
          obtain ⟨z, hz, z4⟩ := str4 (i := r.toNat) (by omega)
          have e8 := b3.at oL (sq _ _ e1)
          refine ⟨q, _, r, _, rfl, rfl, SqL.of (b3.at (R2.off nq) upd_same), at_of (by omega) hz, _, e8, small1000 (by rw [List.length_map]; omega), ?_⟩
          refine ⟨ks ++ [z], ?_, by rw [List.length_append, e2]; rfl, fun w hw => ?_, R3.upd oL, ((b2.trans (Same.but sq)).trans b3).new nLH, ?_⟩
          · rw [upd_same, List.map_append]
            rfl
          · rcases List.mem_append.mp hw with hw | hw
            · exact e3 w hw
            · rw [List.mem_singleton.mp hw]; exact z4
          · refine ((C2.same sq).rnd oD Rq R3 b3).kp (Kp.upd e8) fun xs ex => ?_
            rw [upd_ne nLD]
            exact ex
        · rintro G2 ⟨ks, e1, e2, e3, R2, b2, C2⟩
          exact ⟨L, ks, rfl, e1, oL, nLD.symm, e2, e3, R2, b2, C2⟩
      rintro σ G1 ⟨kl, ks, rfl, ek, ok, kD', kl4, k4, R1, b1, C1⟩
      clear R0 b0 C0
      have lx : ∀ {H : Hp}, TrAt K H (.str x) (.str x) := str_tr hx
      have lm : ∀ {H : Hp}, TrAt K H (.str name) (.str name) := str_tr hm
      -- last
      refine ⟨fun σ G2 => ∃ (v6 : V) (lst : Tr), σ = [some (.ref a.s), some (.str x), some (.str name), some (.ref D), some (.int (0 + (i : Int))), some (.ref kl), some v6, v7, v8, none] ∧ lst ∈ lasts x ∧ TrAt K G2 v6 lst ∧ G2 kl = some (.lst (ks.map V.str)) ∧ Rnd G2 a (n + 6 * i + 5) ∧ But a H G2 ∧ Coll K G2 D (3 * i), ?_, ?_⟩
      · refine ⟨_, rfl, two', fun q1 m1 => ⟨one', fun q2 m2 => ⟨one', fun q3 m3 => ⟨Nat.zero_le _, fun q4 m4 => ⟨Nat.zero_le _, fun q5 m5 => ⟨three', fun q6 m6 => ⟨four', fun q7 m7 => ?_⟩⟩⟩⟩⟩⟩⟩
        obtain ⟨s1, c1⟩ := new_tr (K := K) m1 (.cons (.str "show" (by decide)) (.cons lx .nil))
        generalize upd G1 q1 (.tup [.str "show", .str x]) = F1 at s1 c1 m2 m3 m4 m5 m6 m7 ⊢
        obtain ⟨s2, c2⟩ := new_tr (K := K) m2 (.cons (.str "yield" (by decide)) .nil)
        generalize upd F1 q2 (.tup [.str "yield"]) = F2 at s2 c2 m3 m4 m5 m6 m7 ⊢
        obtain ⟨s3, c3⟩ := new_tr (K := K) m3 (.cons (.str "fail" (by decide)) .nil)
        generalize upd F2 q3 (.tup [.str "fail"]) = F3 at s3 c3 m4 m5 m6 m7 ⊢
        obtain ⟨s4, c4⟩ := new_tr (K := K) m4 .nil
        generalize upd F3 q4 (.tup []) = F4 at s4 c4 m5 m6 m7 ⊢
        obtain ⟨s5, c5⟩ := new_tr (K := K) m5 .nil
        generalize upd F4 q5 (.tup []) = F5 at s5 c5 m6 m7 ⊢
        obtain ⟨s6, c6⟩ := new_tr (K := K) m6 (.cons (.str "guard" (by decide)) (.cons (c4.same s5) (.cons c5 .nil)))
        generalize upd F5 q6 (.tup [.str "guard", .ref q4, .ref q5]) = F6 at s6 c6 m7 ⊢
        have s7 := same_new (o := .lst [.ref q1, .ref q2, .ref q3, .ref q6]) m7
        have s36 := (s4.trans s5).trans s6
        have all : TrAll K (upd F6 q7 (.lst [.ref q1, .ref q2, .ref q3, .ref q6])) [.ref q1, .ref q2, .ref q3, .ref q6] (lasts x) := .cons (c1.same ((s2.trans s3).trans (s36.trans s7))) (.cons (c2.same (s3.trans (s36.trans s7))) (.cons (c3.same (s36.trans s7)) (.cons (c6.same s7) .nil)))
        have e7 : (upd F6 q7 (.lst [.ref q1, .ref q2, .ref q3, .ref q6])) q7 = some (.lst [.ref q1, .ref q2, .ref q3, .ref q6]) := upd_same
        have sA := ((s1.trans s2).trans s3).trans (s36.trans s7)
        have o7 := (R1.same (((s1.trans s2).trans s3).trans s36)).off m7
        generalize upd F6 q7 (.lst [.ref q1, .ref q2, .ref q3, .ref q6]) = F7 at all e7 sA ⊢
        have R7 := R1.same sA
        refine ⟨_, rfl, a, _, 4, rfl, R7, by omega, by decide, by decide, fun r G3 r0 rl R3 b3 => ?_⟩
        obtain ⟨v, hv⟩ : ∃ v, ([.ref q1, .ref q2, .ref q3, .ref q6] : List V)[r.toNat]? = some v := ⟨_, List.getElem?_eq_getElem (by show r.toNat < 4; omega)⟩
        obtain ⟨t, ht, ty⟩ := (all.rnd R7 R3 b3).get hv
        refine ⟨q7, _, r, v, rfl, rfl, SqL.of (b3.at o7 e7), at_of (by omega) hv, ?_⟩
        exact ⟨v, t, rfl, List.mem_of_getElem? ht, ty, b3.at ok (sA _ _ ek), R3, (b1.trans (Same.but sA)).trans b3, (C1.same sA).rnd oD R7 R3 b3⟩
      rintro σ G2 ⟨u6, lst, rfl, hl, t6, ek2, R2, b2, C2⟩
      clear R1 b1 C1 ek
      have hL : LastK x lst := last_in hx lst hl
      -- the first book
      refine ⟨fun σ G3 => σ = [some (.ref a.s), some (.str x), some (.str name), some (.ref D), some (.int (0 + (i : Int))), some (.ref kl), some u6, v7, v8, none] ∧ TrAt K G3 u6 lst ∧ G3 kl = some (.lst (ks.map V.str)) ∧ Rnd G3 a (n + 6 * i + 5) ∧ But a H G3 ∧ Coll K G3 D (3 * i + 1), ?_, ?_⟩
      · refine app2 (m := 3 * i) (u := .tup [bk3 (.str x) (.str name) (.tup [nestL x ks lst]), .non]) (fun Q kq => ?_) rfl C2 (depth_1 hx hm k4 kl4 hL) (by omega) fun G3 C3 keep kp => ⟨rfl, kp.t _ _ t6, keep _ _ ek2 kD', rnd_keep R2 oD keep, but_keep b2 nD keep, C3⟩
        refine ⟨_, rfl, _, rfl, ?_⟩
        refine ⟨_, rfl, _, rfl, _, rfl, ?_⟩
        refine ⟨x, kl, ks, u6, lst, rfl, hx, ek2, by omega, k4, t6, fun L v1 v2 G' s' eL t1 t2 => ?_⟩
        refine ⟨L, _, 0, v1, rfl, rfl, SqL.of eL, at_of (j := 0) rfl rfl, one', fun p np => ?_⟩
        obtain ⟨z1, c1⟩ := new_tr np (.cons t1 .nil)
        refine ⟨_, _, _, .str x, .str name, .tup [nestL x ks lst], rfl, lx, lm, c1, fun v G4 z2 tv => ?_⟩
        refine ⟨two', fun p2 np2 => ?_⟩
        obtain ⟨z3, c3⟩ := new_tr (K := K) np2 (.cons tv (.cons .non .nil))
        exact kq _ _ (((s'.trans z1).trans z2).trans z3) c3
      rintro σ G3 ⟨rfl, t6, ek3, R3, b3, C3⟩
      clear R2 b2 C2 ek2
      -- one, way
      refine ⟨fun σ G4 => ∃ (u7 u8 : V) (kd : Str), σ = [some (.ref a.s), some (.str x), some (.str name), some (.ref D), some (.int (0 + (i : Int))), some (.ref kl), some u6, some u7, some u8, none] ∧ kd ∈ four ∧ kd ≠ "loop" ∧ TrAt K G4 u7 (nestL x (ks ++ [kd]) lst) ∧ TrAt K G4 u8 (.tup (intsT (wayL (ks ++ [kd])))) ∧ TrAt K G4 u6 lst ∧ G4 kl = some (.lst (ks.map V.str)) ∧ Rnd G4 a (n + 6 * i + 6) ∧ But a H G4 ∧ Coll K G4 D (3 * i + 1), ?_, ?_⟩
      · refine ⟨_, rfl, _, rfl, three', fun q1 m1 => ?_⟩
        have s1 := same_new (o := .lst [.str "with", .str "if", .str "guard"]) m1
        have Rq := R3.same s1
        refine ⟨_, rfl, a, _, 3, rfl, Rq, by omega, by decide, by decide, fun r G4 r0 rl R4 b4 => ?_⟩
        obtain ⟨kd, hz, z4, zn⟩ := str3 (i := r.toNat) (by omega)
        refine ⟨q1, _, r, _, rfl, rfl, SqL.of (b4.at (R3.off m1) upd_same), at_of (by omega) hz, one', fun q2 m2 => ?_⟩
        have s2 := same_new (o := .lst [.str kd]) m2
        have ek4 := b4.at ok (s1 _ _ ek3)
        have ek5 := s2 _ _ ek4
        refine ⟨kl, q2, _, _, rfl, rfl, ek5, upd_same, by rw [sizeLine_eq, List.length_map]; show _ + 1 ≤ _; omega, fun p np => ?_⟩
        have s3 := same_new (o := .lst (ks.map V.str ++ [.str kd])) np
        have s23 := s2.trans s3
        have ep : (upd (upd G4 q2 (.lst [.str kd])) p (.lst (ks.map V.str ++ [.str kd]))) p = some (.lst ((ks ++ [kd]).map V.str)) := by rw [upd_same, List.map_append]; rfl
        have t6' := ((t6.same s1).rnd Rq R4 b4).same s23
        have C4 := ((C3.same s1).rnd oD Rq R4 b4).same s23
        have R5 := R4.same s23
        have b5 := ((b3.trans (Same.but s1)).trans b4).trans (Same.but s23)
        have ek6 := s23 _ _ ek4
        generalize upd (upd G4 q2 (.lst [.str kd])) p (.lst (ks.map V.str ++ [.str kd])) = G5 at ep t6' C4 R5 b5 ek6 ⊢
        refine ⟨_, rfl, ?_⟩
        refine ⟨x, p, ks ++ [kd], u6, lst, rfl, hx, ep, by rw [List.length_append]; show _ + 1 ≤ _; omega, fun w hw => ?_, t6', fun L v1 v2 G' s' eL t1 t2 => ?_⟩
        · rcases List.mem_append.mp hw with hw | hw
          · exact k4 w hw
          · rw [List.mem_singleton.mp hw]; exact z4
        refine ⟨L, _, rfl, SqL.of eL, rfl, _, _, rfl, _, _, rfl, rfl, ?_⟩
        exact ⟨v1, v2, kd, rfl, z4, zn, t1, t2, t6'.same s', s' _ _ ek6, R5.same s', b5.trans (Same.but s'), C4.same s'⟩
      rintro σ G4 ⟨u7, u8, kd, rfl, z4, zn, t7, t8, t6, ek4, R4, b4, C4⟩
      clear R3 b3 C3 ek3
      -- the second
      refine ⟨fun σ G5 => σ = [some (.ref a.s), some (.str x), some (.str name), some (.ref D), some (.int (0 + (i : Int))), some (.ref kl), some u6, some u7, some u8, none] ∧ TrAt K G5 u6 lst ∧ TrAt K G5 u8 (.tup (intsT (wayL (ks ++ [kd])))) ∧ G5 kl = some (.lst (ks.map V.str)) ∧ Rnd G5 a (n + 6 * i + 6) ∧ But a H G5 ∧ Coll K G5 D (3 * i + 2), ?_, ?_⟩
      · refine app2 (m := 3 * i + 1) (u := .tup [bk3 (.str x) (.str name) (.tup [showS x, nestL x (ks ++ [kd]) lst]), .tup [.int 0, .tup (intsT (1 :: wayL (ks ++ [kd])))]]) (fun Q kq => ?_) rfl C4 (depth_2 hx hm k4 kl4 z4 zn) (by omega) fun G5 C5 keep kp => ⟨rfl, kp.t _ _ t6, kp.t _ _ t8, keep _ _ ek4 kD', rnd_keep R4 oD keep, but_keep b4 nD keep, C5⟩
        refine ⟨_, rfl, _, rfl, _, rfl, two', fun q1 m1 => ⟨_, rfl, two', fun q2 m2 => ?_⟩⟩
        obtain ⟨z1, c1⟩ := new_tr (K := K) m1 (.cons (.str "show" (by decide)) (.cons lx .nil))
        generalize upd G4 q1 (.tup [.str "show", .str x]) = F1 at z1 c1 m2 ⊢
        obtain ⟨z2, c2⟩ := new_tr m2 (.cons c1 (.cons (t7.same z1) .nil))
        generalize upd F1 q2 (.tup [.ref q1, u7]) = F2 at z2 c2 ⊢
        refine ⟨_, _, _, .str x, .str name, .tup [showS x, nestL x (ks ++ [kd]) lst], rfl, lx, lm, c2, fun v F3 z3 tv => ?_⟩
        refine ⟨one', fun q3 m3 => ?_⟩
        obtain ⟨z4', c4⟩ := new_tr (K := K) m3 (.cons (.int 1) .nil)
        have zz := ((z1.trans z2).trans z3).trans z4'
        have tv4 := tv.same z4'
        generalize upd F3 q3 (.tup [.int 1]) = F4 at z4' c4 zz tv4 ⊢
        refine ⟨_, rfl, cat_tr c4 (t8.same zz) (by simp) (by unfold intsT; rw [List.length_map, (wayL_le _).2, List.length_append]; show 2 * (_ + 1) ≤ _; omega) fun r F5 z5 t5 => ⟨two', fun q4 m4 => ?_⟩⟩
        obtain ⟨z6, c6⟩ := new_tr (K := K) m4 (.cons (.int 0) (.cons t5 .nil))
        have tv6 := (tv4.same z5).same z6
        generalize upd F5 q4 (.tup [.int 0, r]) = F6 at z6 c6 tv6 ⊢
        refine ⟨two', fun q5 m5 => ?_⟩
        obtain ⟨z7, c7⟩ := new_tr (K := K) m5 (.cons tv6 (.cons c6 .nil))
        exact kq _ _ ((zz.trans z5).trans (z6.trans z7)) c7
      rintro σ G5 ⟨rfl, t6, t8, ek5, R5, b5, C5⟩
      -- the third
      refine app2 (m := 3 * i + 2) (u := .tup [bk3 (.str x) (.str name) (.tup [nestL x (ks ++ [("loop" : Str)]) lst]), .tup [.int 0, .tup (intsT (0 :: (wayL ks ++ [0, 0])))]]) (fun Q kq => ?_) rfl C5 (depth_3 hx hm k4 kl4) (by omega) fun G6 C6 keep kp => ⟨some (.int (0 + (i : Int))), some (.ref kl), some u6, some u7, some u8, rfl, ?_, but_keep b5 nD keep, ?_⟩
      · refine ⟨_, rfl, _, rfl, ?_⟩
        refine ⟨_, rfl, _, rfl, one', fun q1 m1 => ?_⟩
        have s1 := same_new (o := .lst [.str "loop"]) m1
        refine ⟨kl, q1, _, _, rfl, rfl, s1 _ _ ek5, upd_same, by rw [sizeLine_eq, List.length_map]; show _ + 1 ≤ _; omega, fun p np => ?_⟩
        have s3 := same_new (o := .lst (ks.map V.str ++ [.str "loop"])) np
        have s13 := s1.trans s3
        have ep : (upd (upd G5 q1 (.lst [.str "loop"])) p (.lst (ks.map V.str ++ [.str "loop"]))) p = some (.lst ((ks ++ [("loop" : Str)]).map V.str)) := by rw [upd_same, List.map_append]; rfl
        generalize upd (upd G5 q1 (.lst [.str "loop"])) p (.lst (ks.map V.str ++ [.str "loop"])) = F0 at ep s13 ⊢
        refine ⟨_, rfl, ?_⟩
        refine ⟨x, p, ks ++ [("loop" : Str)], u6, lst, rfl, hx, ep, by rw [List.length_append]; show _ + 1 ≤ _; omega, fun w hw => ?_, t6.same s13, fun L v1 v2 G' s' eL t1 t2 => ?_⟩
        · rcases List.mem_append.mp hw with hw | hw
          · exact k4 w hw
          · rw [List.mem_singleton.mp hw]; decide
        refine ⟨L, _, 0, v1, rfl, rfl, SqL.of eL, at_of (j := 0) rfl rfl, one', fun p2 np2 => ?_⟩
        obtain ⟨z1, c1⟩ := new_tr np2 (.cons t1 .nil)
        refine ⟨_, _, _, .str x, .str name, .tup [nestL x (ks ++ [("loop" : Str)]) lst], rfl, lx, lm, c1, fun v F3 z3 tv => ?_⟩
        have zA := (s13.trans s').trans (z1.trans z3)
        refine ⟨one', fun q3 m3 => ?_⟩
        obtain ⟨z4', c4⟩ := new_tr (K := K) m3 (.cons (.int 0) .nil)
        have zB := zA.trans z4'
        have tv4 := tv.same z4'
        generalize upd F3 q3 (.tup [.int 0]) = F4 at z4' c4 zB tv4 ⊢
        have t8' := t8.same zB
        have z9 := c4
        clear s1 s3 ep s13 np m1 c1 z1 z3 c4
        have ww : wayL (ks ++ [kd]) = wayL ks ++ wayK kd := way_snoc2 ks kd
        cases t8' with
        | @tup wa ys _ hwa tys =>
        have ly : ys.length = 10 := by rw [tys.len]; unfold intsT; rw [List.length_map, (wayL_le _).2, List.length_append, kl4]; rfl
        refine ⟨_, rfl, 2, rfl, -2, rfl, ?_⟩
        refine ⟨wa, ys, rfl, hwa, (by rw [ly]; rintro ⟨_, e⟩; revert e; decide), fun Z nZ => ?_⟩
        rw [cut2 ys (by omega), ly]
        have et : (intsT (wayL (ks ++ [kd]))).take 8 = intsT (wayL ks) := by
          unfold intsT
          rw [ww, List.map_append, List.take_append_of_le_length (by rw [List.length_map, (wayL_le _).2, kl4] <;> decide), List.take_of_length_le (by rw [List.length_map, (wayL_le _).2, kl4] <;> decide)]
        have ty := tys.take 8
        rw [et] at ty
        obtain ⟨z5, c5⟩ := new_tr nZ ty
        have c4' : TrAt K F4 (.ref q3) (.tup [.int 0]) := z9
        have tv5 := tv4.same z5
        have c45 := c4'.same z5
        have zC := zB.trans z5
        change TrAt K (upd F4 Z (.tup (ys.take 8))) _ _ at c5
        generalize upd F4 Z (.tup (ys.take 8)) = F5 at c5 tv5 c45 zC
        refine cat_tr c45 c5 (by simp) (by unfold intsT; rw [List.length_map, (wayL_le _).2, kl4]; omega) fun r F6 z6 t66 => ?_
        refine ⟨two', fun q6 m6 => ?_⟩
        obtain ⟨z7, c7⟩ := new_tr (K := K) m6 (.cons (.int 0) (.cons (.int 0) .nil))
        have t67 := t66.same z7
        have tv7 := (tv5.same z6).same z7
        generalize upd F6 q6 (.tup [.int 0, .int 0]) = F7 at z7 c7 t67 tv7 ⊢
        refine cat_tr t67 c7 (by unfold intsT; rw [List.length_append, List.length_map, (wayL_le _).2, kl4]; show 1 + _ ≤ _; omega) (by simp) fun r8 F8 z8 t88 => ⟨two', fun q9 m9 => ?_⟩
        have e8 : [Tr.int 0] ++ intsT (wayL ks) ++ [.int 0, .int 0] = intsT (0 :: (wayL ks ++ [0, 0])) := by
          unfold intsT
          rw [List.map_cons, List.map_append]
          rfl
        rw [e8] at t88
        obtain ⟨z10, c10⟩ := new_tr (K := K) m9 (.cons (.int 0) (.cons t88 .nil))
        have tv10 := (tv7.same z8).same z10
        generalize upd F8 q9 (.tup [.int 0, r8]) = F10 at z10 c10 tv10 ⊢
        refine ⟨two', fun q5 m5 => ?_⟩
        obtain ⟨z11, c11⟩ := new_tr (K := K) m5 (.cons tv10 (.cons c10 .nil))
        exact kq _ _ ((zC.trans z6).trans ((z7.trans z8).trans (z10.trans z11))) c11
      · exact rnd_keep R5 oD keep
      · exact C6
    · rintro σ G ⟨v4, v5, v6, v7, v8, rfl, R0, b0, C0⟩
      exact ⟨_, rfl, k D _ G nD (Nat.le_refl _) R0 b0 C0⟩
end
end BK

set_option Elab.async false
set_option maxRecDepth 100000
set_option maxHeartbeats 4000000
set_option linter.unusedVariables false
/-! _law_odd -/
namespace BK
open PySem PySem.Spec PyProof.Rows L2 SW RZ ET
abbrev sOd : Stmt := top 60
abbrev nOd : List Str := ["x", "name", "deep", "wide", "k", "some", "odd", "one", "bad"]
theorem scOd : FnScope nOd ["x", "name"] (defScope sOd) := ⟨rfl, rfl, rfl, by decide +kernel, rfl, by decide +kernel, by decide +kernel⟩
def spOd (K : PySem.W.Frag) : Sp := fun vs H Q _ => ∃ x name : Str, vs = [.str x, .str name] ∧ nameS x = true ∧ nameS name = true ∧ Tells K 80 H Q
abbrev LO (x name : Str) (dT wT : Tr) : List (Nat × Tr) := [(0, .str x), (1, .str name), (2, dT), (3, wT)]
abbrev LU (x name : Str) (u : Tr) : List (Nat × Tr) := [(0, .str x), (1, .str name), (6, u)]
abbrev LV (x name : Str) (u : Tr) : List (Nat × Tr) := [(0, .str x), (1, .str name), (7, u)]
abbrev LW (x name : Str) (u : Tr × Tr) : List (Nat × Tr) := [(0, .str x), (1, .str name), (6, u.1), (8, u.2)]
abbrev inOd (j : Nat) : Stmt := bodyAt (stAt sOd 5) j
theorem deep3000 : ∃ dT, dT = deepT 3000 ∧ PairK (.tup [dT, .tup []]) ∧ PairK (.tup [.tup [dT, .tup []], .tup [.str "vars"]]) ∧ OddK dT ∧ OddK (.tup [dT, .lst]) := ⟨_, rfl, deep_no (n := 2999), deep_vars (n := 2999), deep_oddK 2999, pair_oddK 2999⟩
theorem wide60 : ∃ wT, wT = wideT 60 ∧ PairK (.tup [wT, .tup [.str "vars"]]) ∧ OddK wT := ⟨_, rfl, wide_no (n := 58), wide_oddK 59⟩
theorem twenty : ∃ N : Nat, N = (20000 : Int).toNat ∧ (∀ x : Str, nameS x = true → PairK (.tup [.tup [.tup (List.replicate N (.str x)), .tup []], .tup [.str "vars"]])) ∧ (∀ x : Str, nameS x = true → PairK (.tup [.tup [.tup [.str x], .tup (List.replicate N .non)], .tup []])) ∧
    ∀ x name : Str, nameS x = true → nameS name = true → PairK (.tup [bkT x name (List.replicate N yieldS), .tup [.int 0, .tup (intsT [16])]]) := ⟨20000, rfl, fun x hx => od_vars hx, fun x hx => od_wide hx, fun x name hx hn => od_yield hx hn lst_oddK⟩
def badOd (u : Tr) : Tr := .tup [.int 0, .tup (intsT (if isTup u = true then [0, 0, 0] else [0]))]
section
variable {P : Program} {w : World} {K : PySem.W.Frag} {mg : Str → Option Value} {base : Heap}
theorem ok_oddL {f fB : Addr} {fd fdB : FuncData} (F : Fun K "_law_odd" "_law_odd" sOd f fd) (mR : mg "range" = none) (mI : mg "isinstance" = none) (mT : mg "tuple" = none) (GB : FnOk P w K mg base CX0 1 fB fdB ["x", "name", "block"] (spLBook K)) (bB : Binds K fdB ["x", "name", "block"] []) (gB : mg "_law_book" = some (.ref fB)) (kB : PySem.W.keepIn K (.ref fB) = true) :
    FnOk P w K mg base CX0 2 f fd ["x", "name"] (spOd K) := by
  refine F.ok scOd (fun vs H Q E h => ?_) (fun cdv A outer s H vs Q E hr h => ?_)
  · obtain ⟨x, name, rfl, _⟩ := h
    rfl
  · obtain ⟨x, name, rfl, hx, hn, k⟩ := h
    have hr1 : Room 1 _ := hr.mono (by decide)
    obtain ⟨dT, ed, hd0, hd1, od0, od1⟩ := deep3000
    obtain ⟨wT, ew, hw0, ow0⟩ := wide60
    obtain ⟨N, eN, hN0, hN1, hN2⟩ := twenty
    have d3 : ELi (cxOf CX0 P w K mg base nOd "_law_odd" (defScope sOd) f cdv A outer s H E).nox (LO x name dT wT) (valueOf (stAt sOd 3)) [.tup [dT, .tup []], .tup [wT, .tup [.str "vars"]], .tup [.tup [dT, .tup []], .tup [.str "vars"]], .tup [.tup [.tup (List.replicate (20000 : Int).toNat (.str x)), .tup []], .tup [.str "vars"]]] :=
      (el_disp (ea_cons (et_tup (ea_cons (et_var (pv 2) (.tail _ (.tail _ (.head _)))) (ea_cons (et_tup ea_nil) ea_nil))) (ea_cons (et_tup (ea_cons (et_var (pv 3) (.tail _ (.tail _ (.tail _ (.head _))))) (ea_cons (et_tup (ea_cons et_str ea_nil)) ea_nil))) (ea_cons (et_tup (ea_cons (et_tup (ea_cons (et_var (pv 2) (.tail _ (.tail _ (.head _)))) (ea_cons (et_tup ea_nil) ea_nil))) (ea_cons (et_tup (ea_cons et_str ea_nil)) ea_nil))) (ea_cons (et_tup (ea_cons (et_tup (ea_cons (et_repB (et_tup (ea_cons (et_var (pv 0) (.head _)) ea_nil)) et_int (by decide) (by decide)) (ea_cons (et_tup ea_nil) ea_nil))) (ea_cons (et_tup (ea_cons et_str ea_nil)) ea_nil))) ea_nil)))))
    rw [← eN] at d3
    obtain ⟨te3, p3, r3⟩ := d3
    have d4 : ELi (cxOf CX0 P w K mg base nOd "_law_odd" (defScope sOd) f cdv A outer s H E).nox (LO x name dT wT) (rightOf (valueOf (stAt sOd 4))) [.tup [.tup [.tup [.str x], .tup (List.replicate (20000 : Int).toNat .non)], .tup []], .tup [bk3 (.str x) (.str name) (.tup (List.replicate (20000 : Int).toNat yieldS)), .tup [.int 0, .tup [.int 16]]]] :=
      (el_disp (ea_cons (et_tup (ea_cons (et_tup (ea_cons (et_tup (ea_cons (et_var (pv 0) (.head _)) ea_nil)) (ea_cons (et_repB (et_tup (ea_cons et_non ea_nil)) et_int (by decide) (by decide)) ea_nil))) (ea_cons (et_tup ea_nil) ea_nil))) (ea_cons (et_tup (ea_cons (et_book GB bB gB kB hr1 (et_var (pv 0) (.head _)) (et_var (pv 1) (.tail _ (.head _))) (et_repB (et_tup (ea_cons (et_tup (ea_cons et_str ea_nil)) ea_nil)) et_int (by decide) (by decide))) (ea_cons (et_tup (ea_cons et_int (ea_cons (et_tup (ea_cons et_int ea_nil)) ea_nil))) ea_nil))) ea_nil)))
    rw [← eN] at d4
    obtain ⟨te4, p4, r4⟩ := d4
    have d5 : ETr (cxOf CX0 P w K mg base nOd "_law_odd" (defScope sOd) f cdv A outer s H E).nox (LO x name dT wT) (iterOf (stAt sOd 5)) (.tup [dT, wT, .lst, .dct, .tup [dT, .lst], .int bigI]) :=
      (et_tup (ea_cons (et_var (pv 2) (.tail _ (.tail _ (.head _)))) (ea_cons (et_var (pv 3) (.tail _ (.tail _ (.tail _ (.head _))))) (ea_cons (et_lst ea_nil) (ea_cons et_dct (ea_cons (et_tup (ea_cons (et_var (pv 2) (.tail _ (.tail _ (.head _)))) (ea_cons (et_lst ea_nil) ea_nil))) (ea_cons (et_powW (et_powW et_int ten_bits) big_bits) ea_nil)))))))
    obtain ⟨te5, p5, r5⟩ := d5
    have db0 : ETu (cxOf CX0 P w K mg base nOd "_law_odd" (defScope sOd) f cdv A outer s H E).nox (LU x name) (argOf (valueOf (inOd 0))) _ :=
      (eu_tup (eb_cons (eu_tup (eb_cons (eu_tup (eb_cons (eu_var (pv 0) (fun _ => (.head _))) eb_nil)) (eb_cons (eu_tup (eb_cons (eu_tup (eb_cons (eu_var (pv 6) (fun _ => (.tail _ (.tail _ (.head _))))) (eb_cons (eu_tup eb_nil) (eb_cons (eu_tup eb_nil) eb_nil)))) eb_nil)) eb_nil))) (eb_cons (eu_tup (eb_cons eu_int eb_nil)) eb_nil)))
    obtain ⟨teb0, pb0, rb0⟩ := db0
    have db1 : ETu (cxOf CX0 P w K mg base nOd "_law_odd" (defScope sOd) f cdv A outer s H E).nox (LU x name) (argOf (valueOf (inOd 1))) _ :=
      (eu_tup (eb_cons (eu_tup (eb_cons (eu_tup (eb_cons (eu_var (pv 0) (fun _ => (.head _))) eb_nil)) (eb_cons (eu_tup (eb_cons (eu_tup (eb_cons (eu_var (pv 1) (fun _ => (.tail _ (.head _)))) (eb_cons (eu_tup (eb_cons (eu_var (pv 6) (fun _ => (.tail _ (.tail _ (.head _))))) eb_nil)) (eb_cons (eu_tup eb_nil) eb_nil)))) eb_nil)) eb_nil))) (eb_cons (eu_tup (eb_cons eu_int eb_nil)) eb_nil)))
    obtain ⟨teb1, pb1, rb1⟩ := db1
    have db2 : ETu (cxOf CX0 P w K mg base nOd "_law_odd" (defScope sOd) f cdv A outer s H E).nox (LU x name) (argOf (valueOf (inOd 2))) _ :=
      (eu_tup (eb_cons (eu_tup (eb_cons (eu_tup (eb_cons (eu_var (pv 0) (fun _ => (.head _))) eb_nil)) (eb_cons (eu_tup (eb_cons (eu_tup (eb_cons (eu_var (pv 1) (fun _ => (.tail _ (.head _)))) (eb_cons (eu_tup (eb_cons (eu_tup (eb_cons (eu_var (pv 6) (fun _ => (.tail _ (.tail _ (.head _))))) (eb_cons eu_str eb_nil))) eb_nil)) (eb_cons (eu_tup eb_nil) eb_nil)))) eb_nil)) eb_nil))) (eb_cons (eu_tup (eb_cons eu_int eb_nil)) eb_nil)))
    obtain ⟨teb2, pb2, rb2⟩ := db2
    have db3 : ETu (cxOf CX0 P w K mg base nOd "_law_odd" (defScope sOd) f cdv A outer s H E).nox (LU x name) (argOf (valueOf (inOd 3))) _ :=
      (eu_tup (eb_cons (eu_tup (eb_cons (eu_tup (eb_cons (eu_var (pv 0) (fun _ => (.head _))) eb_nil)) (eb_cons (eu_tup (eb_cons (eu_tup (eb_cons (eu_var (pv 1) (fun _ => (.tail _ (.head _)))) (eb_cons (eu_tup (eb_cons (eu_tup (eb_cons (eu_var (pv 0) (fun _ => (.head _))) (eb_cons (eu_var (pv 6) (fun _ => (.tail _ (.tail _ (.head _))))) eb_nil))) eb_nil)) (eb_cons (eu_tup eb_nil) eb_nil)))) eb_nil)) eb_nil))) (eb_cons (eu_tup (eb_cons eu_int eb_nil)) eb_nil)))
    obtain ⟨teb3, pb3, rb3⟩ := db3
    have db4 : ETu (cxOf CX0 P w K mg base nOd "_law_odd" (defScope sOd) f cdv A outer s H E).nox (LU x name) (iterOf (inOd 4)) _ :=
      (eu_tup (eb_cons (eu_tup (eb_cons eu_str (eb_cons (eu_var (pv 0) (fun _ => (.head _))) (eb_cons (eu_var (pv 6) (fun _ => (.tail _ (.tail _ (.head _))))) eb_nil)))) (eb_cons (eu_tup (eb_cons eu_str (eb_cons (eu_var (pv 6) (fun _ => (.tail _ (.tail _ (.head _))))) (eb_cons eu_int eb_nil)))) (eb_cons (eu_tup (eb_cons eu_str (eb_cons (eu_var (pv 6) (fun _ => (.tail _ (.tail _ (.head _))))) eb_nil))) (eb_cons (eu_tup (eb_cons eu_str (eb_cons (eu_var (pv 0) (fun _ => (.head _))) (eb_cons (eu_var (pv 6) (fun _ => (.tail _ (.tail _ (.head _))))) (eb_cons (eu_tup eb_nil) (eb_cons (eu_tup eb_nil) eb_nil)))))) (eb_cons (eu_tup (eb_cons eu_str (eb_cons (eu_var (pv 6) (fun _ => (.tail _ (.tail _ (.head _))))) eb_nil))) eb_nil))))))
    obtain ⟨teb4, pb4, rb4⟩ := db4
    have db4i : ETu (cxOf CX0 P w K mg base nOd "_law_odd" (defScope sOd) f cdv A outer s H E).nox (LV x name) (argOf (valueOf (bodyAt (inOd 4) 0))) _ :=
      (eu_tup (eb_cons (eu_book GB bB gB kB hr1 (eu_var (pv 0) (fun _ => (.head _))) (eu_var (pv 1) (fun _ => (.tail _ (.head _)))) (eu_tup (eb_cons (eu_var (pv 7) (fun _ => (.tail _ (.tail _ (.head _))))) eb_nil))) (eb_cons (eu_tup (eb_cons eu_int (eb_cons (eu_tup (eb_cons eu_int eb_nil)) eb_nil))) eb_nil)))
    obtain ⟨teb4i, pb4i, rb4i⟩ := db4i
    have db5 : ETu (cxOf CX0 P w K mg base nOd "_law_odd" (defScope sOd) f cdv A outer s H E).nox (LU x name) (argOf (valueOf (inOd 5))) _ :=
      (eu_tup (eb_cons (eu_book GB bB gB kB hr1 (eu_var (pv 0) (fun _ => (.head _))) (eu_var (pv 1) (fun _ => (.tail _ (.head _)))) (eu_tup (eb_cons (eu_tup (eb_cons eu_str (eb_cons (eu_var (pv 0) (fun _ => (.head _))) eb_nil))) (eb_cons (eu_var (pv 6) (fun _ => (.tail _ (.tail _ (.head _))))) eb_nil)))) (eb_cons (eu_tup (eb_cons eu_int (eb_cons (eu_tup (eb_cons eu_int eb_nil)) eb_nil))) eb_nil)))
    obtain ⟨teb5, pb5, rb5⟩ := db5
    have db6 : ETu (cxOf CX0 P w K mg base nOd "_law_odd" (defScope sOd) f cdv A outer s H E).nox (LU x name) (argOf (valueOf (inOd 6))) _ :=
      (eu_tup (eb_cons (eu_book GB bB gB kB hr1 (eu_var (pv 0) (fun _ => (.head _))) (eu_var (pv 1) (fun _ => (.tail _ (.head _)))) (eu_tup (eb_cons (eu_tup (eb_cons eu_str (eb_cons (eu_var (pv 6) (fun _ => (.tail _ (.tail _ (.head _))))) eb_nil))) eb_nil))) (eb_cons (eu_tup (eb_cons eu_int (eb_cons (eu_tup (eb_cons eu_int eb_nil)) eb_nil))) eb_nil)))
    obtain ⟨teb6, pb6, rb6⟩ := db6
    have db8 : ETu (cxOf CX0 P w K mg base nOd "_law_odd" (defScope sOd) f cdv A outer s H E).nox (LW x name) (argOf (valueOf (inOd 8))) _ :=
      (eu_tup (eb_cons (eu_book GB bB gB kB hr1 (eu_var (pv 0) (fun _ => (.head _))) (eu_var (pv 1) (fun _ => (.tail _ (.head _)))) (eu_tup (eb_cons (eu_tup (eb_cons eu_str (eb_cons (eu_var (pv 6) (fun _ => (.tail _ (.tail _ (.head _))))) (eb_cons (eu_tup eb_nil) eb_nil)))) eb_nil))) (eb_cons (eu_var (pv 8) (fun _ => (.tail _ (.tail _ (.tail _ (.head _)))))) eb_nil)))
    obtain ⟨teb8, pb8, rb8⟩ := db8
    refine ⟨_, (C8.pss_cut (ps_asg (pe_tup (pa_cons (pe_tup pa_nil) (pa_cons (pe_tup (pa_cons (pe_tup pa_nil) (pa_cons (pe_tup pa_nil) pa_nil))) pa_nil))) (pg_tup rfl (pgs_cons (pg_name (i := 2) scOd.nd rfl (Or.inl rfl)) (pgs_cons (pg_name (i := 3) scOd.nd rfl (Or.inl rfl)) pgs_nil))))
      (C8.pss_cut (ps_for PassesOwn.never rfl (pi_range1 rfl mR (pa_cons pe_int pa_nil)) (pg_name (i := 4) scOd.nd rfl (Or.inl rfl)) (pss_one (ps_set (i := 2) scOd.nd rfl (Or.inl rfl) (pe_tup (pa_cons (pv 2) pa_nil)))))
      (C8.pss_cut (ps_for PassesOwn.never rfl (pi_range1 rfl mR (pa_cons pe_int pa_nil)) (pg_name (i := 4) scOd.nd rfl (Or.inl rfl)) (pss_one (ps_set (i := 3) scOd.nd rfl (Or.inl rfl) (pe_tup (pa_cons (pv 3) (pa_cons (pv 3) pa_nil))))))
      (C8.pss_cut (ps_set (i := 5) scOd.nd rfl (Or.inl rfl) p3)
      (C8.pss_cut (ps_set (i := 5) scOd.nd rfl (Or.inl rfl) (pe_op op_cat (pv 5) p4))
      (C8.pss_cut (ps_for PassesOwn.never rfl (pi_tup p5) (pg_name (i := 6) scOd.nd rfl (Or.inl rfl))
          (C8.pss_cut (ps_expr (pe_bm PySem.F.plainAttrs_list PySem.F.slot_list_append PySem.F.type_list_append mt_append (pv 5) (pa_cons pb0 pa_nil)))
          (C8.pss_cut (ps_expr (pe_bm PySem.F.plainAttrs_list PySem.F.slot_list_append PySem.F.type_list_append mt_append (pv 5) (pa_cons pb1 pa_nil)))
          (C8.pss_cut (ps_expr (pe_bm PySem.F.plainAttrs_list PySem.F.slot_list_append PySem.F.type_list_append mt_append (pv 5) (pa_cons pb2 pa_nil)))
          (C8.pss_cut (ps_expr (pe_bm PySem.F.plainAttrs_list PySem.F.slot_list_append PySem.F.type_list_append mt_append (pv 5) (pa_cons pb3 pa_nil)))
          (C8.pss_cut (ps_for PassesOwn.never rfl (pi_tup pb4) (pg_name (i := 7) scOd.nd rfl (Or.inl rfl)) (pss_one (ps_expr (pe_bm PySem.F.plainAttrs_list PySem.F.slot_list_append PySem.F.type_list_append mt_append (pv 5) (pa_cons pb4i pa_nil)))))
          (C8.pss_cut (ps_expr (pe_bm PySem.F.plainAttrs_list PySem.F.slot_list_append PySem.F.type_list_append mt_append (pv 5) (pa_cons pb5 pa_nil)))
          (C8.pss_cut (ps_expr (pe_bm PySem.F.plainAttrs_list PySem.F.slot_list_append PySem.F.type_list_append mt_append (pv 5) (pa_cons pb6 pa_nil)))
          (C8.pss_cut (ps_set (i := 8) scOd.nd rfl (Or.inl rfl) (pe_ifExp (pt_val (pe_callB call_isi (by rfl) mI boot_isinstance (pa_cons (pv 6) (pa_cons (pe_bltn (v := .ty "tuple") (u := .type "tuple") (by rfl) mT (by decide +kernel) rfl) pa_nil)))) (pe_tup (pa_cons pe_int (pa_cons (pe_tup (pa_cons pe_int (pa_cons pe_int (pa_cons pe_int pa_nil)))) pa_nil))) (pe_tup (pa_cons pe_int (pa_cons (pe_tup (pa_cons pe_int pa_nil)) pa_nil)))))
          (pss_one (ps_expr (pe_bm PySem.F.plainAttrs_list PySem.F.slot_list_append PySem.F.type_list_append mt_append (pv 5) (pa_cons pb8 pa_nil)))))))))))))
      (pss_one (ps_ret (pv 5))))))))), ?_⟩
    have one' : 1 ≤ sizeLine := by decide
    have two' : 2 ≤ sizeLine := by decide
    have three' : 3 ≤ sizeLine := by decide
    have lx : ∀ {H : Hp}, TrAt K H (.str x) (.str x) := str_tr hx
    have ln : ∀ {H : Hp}, TrAt K H (.str name) (.str name) := str_tr hn
    -- deep, wide
    refine ⟨fun σ H2 => ∃ v2 v3 : V, σ = [some (.str x), some (.str name), some v2, some v3, none, none, none, none, none] ∧ Same H H2 ∧ TrAt K H2 v2 (deepT 0) ∧ TrAt K H2 v3 (wideT 0), ?_, ?_⟩
    · refine ⟨Nat.zero_le _, fun q1 n1 => ⟨Nat.zero_le _, fun q2 n2 => ⟨Nat.zero_le _, fun q3 n3 => ⟨two', fun q4 n4 => ⟨two', fun q5 n5 => ⟨q5, _, rfl, SqT.of upd_same, rfl, _, _, rfl, _, _, rfl, rfl, ?_⟩⟩⟩⟩⟩⟩
      obtain ⟨a1, b1⟩ := new_tr (K := K) n1 .nil
      generalize upd H q1 (.tup []) = F1 at a1 b1 n2 n3 n4 n5 ⊢
      obtain ⟨a2, b2⟩ := new_tr (K := K) n2 .nil
      generalize upd F1 q2 (.tup []) = F2 at a2 b2 n3 n4 n5 ⊢
      obtain ⟨a3, b3⟩ := new_tr (K := K) n3 .nil
      generalize upd F2 q3 (.tup []) = F3 at a3 b3 n4 n5 ⊢
      obtain ⟨a4, b4⟩ := new_tr n4 (.cons (b2.same a3) (.cons b3 .nil))
      generalize upd F3 q4 (.tup [.ref q2, .ref q3]) = F4 at a4 b4 n5 ⊢
      have a5 := same_new (o := .tup [.ref q1, .ref q4]) n5
      exact ⟨.ref q1, .ref q4, rfl, ((a1.trans a2).trans (a3.trans a4)).trans a5, b1.same (((a2.trans a3).trans a4).trans a5), b4.same a5⟩
    rintro σ H2 ⟨v2, v3, rfl, s2, t2, t3⟩
    refine ⟨fun σ H3 => ∃ (v2 : V) (v4 : Option V), σ = [some (.str x), some (.str name), some v2, some v3, v4, none, none, none, none] ∧ Same H2 H3 ∧ TrAt K H3 v2 (deepT 3000), ?_, ?_⟩
    · refine ⟨_, rfl, by decide, by decide, for_range (lo := 0) (n := (3000 : Int).toNat) (fun i σ H3 => ∃ (v2 : V) (v4 : Option V), σ = [some (.str x), some (.str name), some v2, some v3, v4, none, none, none, none] ∧ Same H2 H3 ∧ TrAt K H3 v2 (deepT i))
        ⟨v2, none, rfl, fun _ _ e => e, t2⟩ ?_ (fun σ H3 h => h)⟩
      rintro i σ H3 hi ⟨v2, v4, rfl, s3, t2⟩
      refine ⟨_, rfl, one', fun q1 n1 => ?_⟩
      obtain ⟨a1, b1⟩ := new_tr n1 (.cons t2 .nil)
      exact ⟨_, _, rfl, s3.trans a1, b1⟩
    rintro σ H3 ⟨u2, v4, rfl, s3, t2⟩
    rw [← ed] at t2
    have t3 := t3.same s3
    refine ⟨fun σ H4 => ∃ (v3 : V) (v4 : Option V), σ = [some (.str x), some (.str name), some u2, some v3, v4, none, none, none, none] ∧ Same H3 H4 ∧ TrAt K H4 v3 (wideT 60), ?_, ?_⟩
    · refine ⟨_, rfl, by decide, by decide, for_range (lo := 0) (n := (60 : Int).toNat) (fun i σ H4 => ∃ (v3 : V) (v4 : Option V), σ = [some (.str x), some (.str name), some u2, some v3, v4, none, none, none, none] ∧ Same H3 H4 ∧ TrAt K H4 v3 (wideT i))
        ⟨v3, v4, rfl, fun _ _ e => e, t3⟩ ?_ (fun σ H3 h => h)⟩
      rintro i σ H4 hi ⟨v3, v4, rfl, s4, t3⟩
      refine ⟨_, rfl, _, rfl, two', fun q1 n1 => ?_⟩
      obtain ⟨a1, b1⟩ := new_tr n1 (.cons t3 (.cons t3 .nil))
      exact ⟨_, _, rfl, s4.trans a1, b1⟩
    rintro σ H4 ⟨u3, v4', rfl, s4, t3⟩
    rw [← ew] at t3
    have t2 := t2.same s4
    have s04 : Same H H4 := (s2.trans s3).trans s4
    clear s2 s3 s4 ed ew
    have gO : ∀ {H' : Hp} {v5 : Option V}, Same H4 H' → Gt K (LO x name dT wT) [some (.str x), some (.str name), some u2, some u3, v4', v5, none, none, none] H' := fun {H' v5} e p hp => by
      simp only [LO, List.mem_cons, List.not_mem_nil, or_false] at hp
      rcases hp with rfl | rfl | rfl | rfl
      · exact ⟨_, rfl, lx⟩
      · exact ⟨_, rfl, ln⟩
      · exact ⟨_, rfl, t2.same e⟩
      · exact ⟨_, rfl, t3.same e⟩
    -- some
    refine ⟨fun σ H5 => ∃ D : Addr, σ = [some (.str x), some (.str name), some u2, some u3, v4', some (.ref D), none, none, none] ∧ Same H4 H5 ∧ H4 D = none ∧ Coll K H5 D 4, ?_, ?_⟩
    · refine r3 _ H4 _ (gO fun _ _ e => e) fun D vs H5 s5 nD eD tD => ⟨D, rfl, s5, nD, vs, _, eD, tD, Nat.le_refl _, ?_⟩
      intro p hp
      simp only [List.mem_cons, List.not_mem_nil, or_false] at hp
      rcases hp with rfl | rfl | rfl | rfl
      · exact hd0
      · exact hw0
      · exact hd1
      · exact hN0 x hx
    rintro σ H5 ⟨D0, rfl, s5, nD0, C5⟩
    refine ⟨fun σ H6 => ∃ D : Addr, σ = [some (.str x), some (.str name), some u2, some u3, v4', some (.ref D), none, none, none] ∧ Same H4 H6 ∧ H4 D = none ∧ Coll K H6 D 6, ?_, ?_⟩
    · refine cat_stage r4 (gO s5) rfl C5 s5 ?_ (by omega) (Nat.le_of_ble_eq_true rfl) fun p H6 s6 _ np C6 => ⟨p, rfl, s6, np, C6⟩
      intro p hp
      simp only [List.mem_cons, List.not_mem_nil, or_false] at hp
      rcases hp with rfl | rfl
      · exact hN1 x hx
      · exact hN2 x name hx hn
    clear s5 C5 nD0
    rintro σ H6 ⟨D, rfl, s6, nD4, C6⟩
    have nD : H D = none := s04.free nD4
    -- the odd things
    refine ⟨fun σ H8 => ∃ v6 v7 v8 : Option V, σ = [some (.str x), some (.str name), some u2, some u3, v4', some (.ref D), v6, v7, v8] ∧ Same H H8 ∧ Coll K H8 D 78, ?_, ?_⟩
    · refine r5 _ H6 _ (gO s6) fun v H7 s7 t7 => ?_
      cases t7 with
      | @tup ia xs _ hia tia =>
      have xl : xs.length = 6 := tia.len
      refine ⟨ia, rfl, ⟨_, hia⟩, for_it (walk_tup (K := K) (a := ia) (xs := xs)) (fun i σ Hc => ∃ v6 v7 v8 : Option V, σ = [some (.str x), some (.str name), some u2, some u3, v4', some (.ref D), v6, v7, v8] ∧ Same H Hc ∧ Coll K Hc D (6 + 12 * i) ∧ Kp K H7 Hc)
        ⟨none, none, none, rfl, (s04.trans s6).trans s7, C6.same s7, Kp.refl⟩ (fun i σ Hc _ ⟨_, _, _, _, _, _, kp⟩ => kp.s _ _ hia) ?_ ?_⟩
      · rintro i y σ Hx Hc hi ⟨v6, v7, v8, rfl, sc, C, kp⟩ ⟨rfl, hy⟩
        obtain ⟨u, hu', tu⟩ := tia.get hy
        have il : i < 6 := (List.getElem?_eq_some_iff.mp hu').1
        have hm := List.mem_of_getElem? hu'
        have hodd : OddK u := by
          simp only [List.mem_cons, List.not_mem_nil, or_false] at hm
          rcases hm with rfl | rfl | rfl | rfl | rfl | rfl
          · exact od0
          · exact ow0
          · exact lst_oddK
          · exact dct_oddK
          · exact od1
          · exact int_oddK (.inr (by decide +kernel))
        clear hm hu' hy
        have tu := kp.t _ _ tu
        have gU : ∀ {H' : Hp} {v7 v8 : Option V}, Kp K Hc H' → Gt K (LU x name u) [some (.str x), some (.str name), some u2, some u3, v4', some (.ref D), some y, v7, v8] H' := fun {H' v7 v8} e p hp => by
          simp only [LU, List.mem_cons, List.not_mem_nil, or_false] at hp
          rcases hp with rfl | rfl | rfl
          · exact ⟨_, rfl, lx⟩
          · exact ⟨_, rfl, ln⟩
          · exact ⟨_, rfl, e.t _ _ tu⟩
        generalize hm0 : 6 + 12 * i = m at C
        have m8 : m ≤ 800 := by omega
        refine ⟨fun σ Hd => σ = [some (.str x), some (.str name), some u2, some u3, v4', some (.ref D), some y, v7, v8] ∧ Same H Hd ∧ Coll K Hd D (m + 1) ∧ Kp K Hc Hd, ?_, ?_⟩
        · exact app_kp (m := m) (rb0 u) (gU Kp.refl) rfl C sc nD (od_1 hx hodd) (by omega) fun H' C' s' k' _ => ⟨rfl, s', C', k'⟩
        rintro σ H1 ⟨rfl, s1, C1, k1⟩
        refine ⟨fun σ Hd => σ = [some (.str x), some (.str name), some u2, some u3, v4', some (.ref D), some y, v7, v8] ∧ Same H Hd ∧ Coll K Hd D (m + 2) ∧ Kp K Hc Hd, ?_, ?_⟩
        · exact app_kp (m := m + 1) (rb1 u) (gU k1) rfl C1 s1 nD (od_2 hx hodd) (by omega) fun H' C' s' k' _ => ⟨rfl, s', C', k1.trans k'⟩
        clear s1 C1 k1
        rintro σ H1 ⟨rfl, s1, C1, k1⟩
        refine ⟨fun σ Hd => σ = [some (.str x), some (.str name), some u2, some u3, v4', some (.ref D), some y, v7, v8] ∧ Same H Hd ∧ Coll K Hd D (m + 3) ∧ Kp K Hc Hd, ?_, ?_⟩
        · exact app_kp (m := m + 2) (rb2 u) (gU k1) rfl C1 s1 nD (od_3 hx hodd) (by omega) fun H' C' s' k' _ => ⟨rfl, s', C', k1.trans k'⟩
        clear s1 C1 k1
        rintro σ H1 ⟨rfl, s1, C1, k1⟩
        refine ⟨fun σ Hd => σ = [some (.str x), some (.str name), some u2, some u3, v4', some (.ref D), some y, v7, v8] ∧ Same H Hd ∧ Coll K Hd D (m + 4) ∧ Kp K Hc Hd, ?_, ?_⟩
        · exact app_kp (m := m + 3) (rb3 u) (gU k1) rfl C1 s1 nD (od_4 hx hodd) (by omega) fun H' C' s' k' _ => ⟨rfl, s', C', k1.trans k'⟩
        clear s1 C1 k1
        rintro σ H1 ⟨rfl, s1, C1, k1⟩
        -- the statements
        refine ⟨fun σ Hd => ∃ v7 : Option V, σ = [some (.str x), some (.str name), some u2, some u3, v4', some (.ref D), some y, v7, v8] ∧ Same H Hd ∧ Coll K Hd D (m + 9) ∧ Kp K Hc Hd, ?_, ?_⟩
        · refine rb4 u _ H1 _ (gU k1) fun w4 H2 s2 t4 => ?_
          cases t4 with
          | @tup ib zs _ hib tib =>
          have zl : zs.length = 5 := tib.len
          refine ⟨ib, rfl, ⟨_, hib⟩, for_it (walk_tup (K := K) (a := ib) (xs := zs)) (fun j σ Hd => ∃ v7 : Option V, σ = [some (.str x), some (.str name), some u2, some u3, v4', some (.ref D), some y, v7, v8] ∧ Same H Hd ∧ Coll K Hd D (m + 4 + j) ∧ Kp K H2 Hd)
            ⟨v7, rfl, s1.trans s2, C1.same s2, Kp.refl⟩ (fun j σ Hd _ ⟨_, _, _, _, kp⟩ => kp.s _ _ hib) ?_ ?_⟩
          · rintro j z σ Hy Hd hj ⟨v7, rfl, sd, Cd, kd⟩ ⟨rfl, hz⟩
            obtain ⟨t, ht', tt⟩ := tib.get hz
            have jl : j < 5 := (List.getElem?_eq_some_iff.mp ht').1
            have hp := od_5 hx hn hodd t (List.mem_of_getElem? ht')
            have tt := kd.t _ _ tt
            have gV : Gt K (LV x name t) [some (.str x), some (.str name), some u2, some u3, v4', some (.ref D), some y, some z, v8] Hd := fun p hp => by
              simp only [LV, List.mem_cons, List.not_mem_nil, or_false] at hp
              rcases hp with rfl | rfl | rfl
              · exact ⟨_, rfl, lx⟩
              · exact ⟨_, rfl, ln⟩
              · exact ⟨_, rfl, tt⟩
            exact app_kp (m := m + 4 + j) (rb4i t) gV rfl Cd sd nD hp (by omega) fun H' C' s' k' _ => ⟨_, rfl, s', C', kd.trans k'⟩
          · rintro σ Hd ⟨v7, rfl, sd, Cd, kd⟩
            rw [zl] at Cd
            exact ⟨v7, rfl, sd, Cd, (k1.trans (Kp.of s2)).trans kd⟩
        clear s1 C1 k1
        rintro σ H1 ⟨v7, rfl, s1, C1, k1⟩
        refine ⟨fun σ Hd => σ = [some (.str x), some (.str name), some u2, some u3, v4', some (.ref D), some y, v7, v8] ∧ Same H Hd ∧ Coll K Hd D (m + 10) ∧ Kp K Hc Hd, ?_, ?_⟩
        · exact app_kp (m := m + 9) (rb5 u) (gU k1) rfl C1 s1 nD (od_6 hx hn hodd) (by omega) fun H' C' s' k' _ => ⟨rfl, s', C', k1.trans k'⟩
        clear s1 C1 k1
        rintro σ H1 ⟨rfl, s1, C1, k1⟩
        refine ⟨fun σ Hd => σ = [some (.str x), some (.str name), some u2, some u3, v4', some (.ref D), some y, v7, v8] ∧ Same H Hd ∧ Coll K Hd D (m + 11) ∧ Kp K Hc Hd, ?_, ?_⟩
        · exact app_kp (m := m + 10) (rb6 u) (gU k1) rfl C1 s1 nD (od_7 hx hn hodd) (by omega) fun H' C' s' k' _ => ⟨rfl, s', C', k1.trans k'⟩
        clear s1 C1 k1
        rintro σ H1 ⟨rfl, s1, C1, k1⟩
        -- bad
        refine ⟨fun σ H2 => ∃ b : V, σ = [some (.str x), some (.str name), some u2, some u3, v4', some (.ref D), some y, v7, some b] ∧ Same H1 H2 ∧ TrAt K H2 b (badOd u), ?_, ?_⟩
        · have tu1 := k1.t _ _ tu
          refine ⟨_, rfl, y, .ty "tuple", .type (tyT u), .type "tuple", isTup u, rfl, .ty "tuple", tu1.ty, k_tup K u, _, rfl, ?_⟩
          cases eu : isTup u with
          | true =>
            refine iteT ⟨three', fun q1 n1 => ⟨two', fun q2 n2 => ?_⟩⟩
            obtain ⟨a1, b1⟩ := new_tr (K := K) n1 (.cons (.int 0) (.cons (.int 0) (.cons (.int 0) .nil)))
            generalize upd H1 q1 (.tup [.int 0, .int 0, .int 0]) = F1 at a1 b1 n2 ⊢
            obtain ⟨a2, b2⟩ := new_tr (K := K) n2 (.cons (.int 0) (.cons b1 .nil))
            refine ⟨_, rfl, a1.trans a2, ?_⟩
            unfold badOd
            rw [eu]
            exact b2
          | false =>
            refine iteF ⟨one', fun q1 n1 => ⟨two', fun q2 n2 => ?_⟩⟩
            obtain ⟨a1, b1⟩ := new_tr (K := K) n1 (.cons (.int 0) .nil)
            generalize upd H1 q1 (.tup [.int 0]) = F1 at a1 b1 n2 ⊢
            obtain ⟨a2, b2⟩ := new_tr (K := K) n2 (.cons (.int 0) (.cons b1 .nil))
            refine ⟨_, rfl, a1.trans a2, ?_⟩
            unfold badOd
            rw [eu]
            exact b2
        rintro σ H2 ⟨b, rfl, s2, tb⟩
        have gW : Gt K (LW x name (u, badOd u)) [some (.str x), some (.str name), some u2, some u3, v4', some (.ref D), some y, v7, some b] H2 := fun p hp => by
          simp only [LW, List.mem_cons, List.not_mem_nil, or_false] at hp
          rcases hp with rfl | rfl | rfl | rfl
          · exact ⟨_, rfl, lx⟩
          · exact ⟨_, rfl, ln⟩
          · exact ⟨_, rfl, (k1.t _ _ tu).same s2⟩
          · exact ⟨_, rfl, tb⟩
        exact app_kp (m := m + 11) (rb8 (u, badOd u)) gW rfl (C1.same s2) (s1.trans s2) nD (od_8 hx hn hodd) (by omega) fun H' C' s' k' _ => ⟨_, _, _, rfl, s', C'.more (by omega), ((kp.trans k1).trans (Kp.of s2)).trans k'⟩
      · rintro σ Hc ⟨v6, v7, v8, rfl, sc, C, kp⟩
        rw [xl] at C
        exact ⟨v6, v7, v8, rfl, sc, C⟩
    rintro σ H8 ⟨v6, v7, v8, rfl, s8, C8⟩
    exact ⟨_, rfl, k D H8 s8 nD (C8.more (by omega))⟩
end
end BK

set_option Elab.async false
set_option maxRecDepth 100000
set_option maxHeartbeats 4000000
set_option linter.unusedVariables false
/-! the law -/
namespace BK
open PySem PySem.Spec PyProof.Rows L2 SW RZ ET
abbrev sLaw : Stmt := top 64
abbrev nLaw : List Str := ["script", "state", "x", "names", "some", "thing", "place"]
theorem scLaw : FnScope nLaw ["script"] (defScope sLaw) := ⟨rfl, rfl, rfl, by decide +kernel, rfl, by decide +kernel, by decide +kernel⟩
def spLaw (K : PySem.W.Frag) : Sp := fun vs H Q _ => ∃ (x : Addr) (ns : List Int), vs = [.ref x] ∧ SqL K H x (ns.map V.int) ∧ ns.length ≤ 63 ∧ ∀ H', Q (.bl true) H'
theorem cat_coll {K : PySem.W.Frag} {H : Hp} {p q : Addr} {m1 m2 : Nat} (C1 : Coll K H p m1) (C2 : Coll K H q m2) (h : m1 + m2 ≤ 900) {Q : VK} (k : ∀ r H', Same H H' → Coll K H' r (m1 + m2) → Q (.ref r) H') : rCat (.ref p) (.ref q) H Q := by
  obtain ⟨vs, ts, h1, h2, h3, h4⟩ := C1
  obtain ⟨ws, us, g1, g2, g3, g4⟩ := C2
  have l1 := h2.len
  have l2 := g2.len
  refine ⟨p, q, vs, ws, rfl, rfl, h1, g1, by rw [sizeLine_eq]; omega, fun r nr => ?_⟩
  have s := same_new (o := .lst (vs ++ ws)) nr
  refine k r _ s ⟨vs ++ ws, ts ++ us, upd_same, (h2.app g2).same s, by rw [List.length_append]; omega, fun u hu => ?_⟩
  rcases List.mem_append.mp hu with hu | hu
  · exact h4 u hu
  · exact g4 u hu
theorem tr_two7 {K : PySem.W.Frag} {H : Hp} {v : V} {x y : Tr} (h : TrAt K H v (.tup [x, y])) : ∃ a v1 v2, v = .ref a ∧ SqT K H a [v1, v2] ∧ TrAt K H v1 x ∧ TrAt K H v2 y := by
  cases h with
  | @tup a vs _ ha ta =>
  cases ta with
  | cons h1 r =>
  cases r with
  | cons h2 r =>
  cases r
  exact ⟨_, _, _, rfl, ha, h1, h2⟩
theorem mem_alpha : ∀ i : Fin 123, 97 ≤ i.1 → i.1 ∈ alpha.cps.toList := by decide +kernel
theorem nm_name {z : Str} (h : isNm z) : nameS z = true := by
  unfold isNm isNmB at h
  unfold nameS
  rw [Bool.and_eq_true, Bool.and_eq_true] at h ⊢
  obtain ⟨⟨h1, h2⟩, h3⟩ := h
  refine ⟨⟨h1, h2⟩, ?_⟩
  rw [List.all_eq_true] at h3 ⊢
  intro c hc
  have q := h3 c hc
  rw [Bool.and_eq_true] at q
  have q1 := of_decide_eq_true q.1
  have q2 := of_decide_eq_true q.2
  exact decide_eq_true (mem_alpha ⟨c, by omega⟩ q1)
theorem nine {zs : List Str} (h : zs.length = 9) : ∃ n0 n1 n2 n3 n4 n5 n6 n7 n8, zs = [n0, n1, n2, n3, n4, n5, n6, n7, n8] := by
  match zs, h with
  | [n0, n1, n2, n3, n4, n5, n6, n7, n8], _ => exact ⟨n0, n1, n2, n3, n4, n5, n6, n7, n8, rfl⟩
section
variable {P : Program} {w : World} {K : PySem.W.Frag} {mg : Str → Option Value} {base : Heap}
theorem ok_law {f fB fA fN fD fC fL fT fX fU fW fO : Addr} {fdB fdA fdN fdD fdC fdL fdT fdX fdU fdW fdO : FuncData} {oc kV doc pm ct cdv : Value} {od an : Option Addr} {osl : Array (Option Value)} (lk : K.lookup f = some ⟨oc, od, .func (PySem.W.fnOf "law" "law" (defArgs sLaw) (defBody sLaw) (defScope sLaw) .none kV doc pm an cdv ct), osl⟩)
    (hcd : PySem.W.codeIn K cdv "law" = true)
    (GB : FnOk P w K mg base CX0 1 fB fdB ["script"] (spBegin K)) (bB : Binds K fdB ["script"] []) (gB : mg "_law_begin" = some (.ref fB)) (kB : PySem.W.keepIn K (.ref fB) = true)
    (GA : FnOk P w K mg base CX0 3 fA fdA ["state"] spName) (bA : Binds K fdA ["state"] []) (gA : mg "_law_name" = some (.ref fA)) (kA : PySem.W.keepIn K (.ref fA) = true)
    (GN : FnOk P w K mg base CX0 4 fN fdN ["state", "many"] spNames) (bN : Binds K fdN ["state", "many"] []) (gN : mg "_law_names" = some (.ref fN)) (kN : PySem.W.keepIn K (.ref fN) = true)
    (GD : FnOk P w K mg base CX0 3 fD fdD ["state", "x", "name"] (spDe K)) (bD : Binds K fdD ["state", "x", "name"] []) (gD : mg "_law_depths" = some (.ref fD)) (kD : PySem.W.keepIn K (.ref fD) = true)
    (GC : FnOk P w K mg base CX0 2 fC fdC ["x", "name", "names"] (spCo K)) (bC : Binds K fdC ["x", "name", "names"] []) (gC : mg "_law_counts" = some (.ref fC)) (kC : PySem.W.keepIn K (.ref fC) = true)
    (GL : FnOk P w K mg base CX0 2 fL fdL ["x", "name"] (spLe K)) (bL : Binds K fdL ["x", "name"] []) (gL : mg "_law_letters" = some (.ref fL)) (kL : PySem.W.keepIn K (.ref fL) = true)
    (GT : FnOk P w K mg base CX0 2 fT fdT ["x", "name", "far"] (spTt K)) (bT : Binds K fdT ["x", "name", "far"] []) (gT : mg "_law_truths" = some (.ref fT)) (kT : PySem.W.keepIn K (.ref fT) = true)
    (GX : FnG P w K mg base 19 fX fdX ["thing", "place"] (spDue K)) (bX : Binds K fdX ["thing", "place"] []) (gX : mg "_law_text_right" = some (.ref fX)) (kX : PySem.W.keepIn K (.ref fX) = true)
    (GU : FnG P w K mg base 18 fU fdU ["thing", "place"] (spDue K)) (bU : Binds K fdU ["thing", "place"] []) (gU : mg "_law_due_right" = some (.ref fU)) (kU : PySem.W.keepIn K (.ref fU) = true)
    (GW : FnOk P w K mg base CX0 2 fW fdW ["x", "name", "far"] (spTw K)) (bW : Binds K fdW ["x", "name", "far"] []) (gW : mg "_law_twice" = some (.ref fW)) (kW : PySem.W.keepIn K (.ref fW) = true)
    (GO : FnOk P w K mg base CX0 2 fO fdO ["x", "name"] (spOd K)) (bO : Binds K fdO ["x", "name"] []) (gO : mg "_law_odd" = some (.ref fO)) (kO : PySem.W.keepIn K (.ref fO) = true) :
    FnG P w K mg base 20 f (PySem.W.fnOf "law" "law" (defArgs sLaw) (defBody sLaw) (defScope sLaw) .none kV doc pm an cdv ct) ["script"] (spLaw K) := by
  refine fng_of lk hcd scLaw (fun vs H Q E h => ?_) (fun A outer s H vs Q E gd hr h => ?_)
  · obtain ⟨x, ns, rfl, _⟩ := h
    rfl
  · obtain ⟨xs, ns, rfl, hS, hl, k⟩ := h
    have hr1 : Room 1 _ := hr.mono (by decide)
    have hr2 : Room 2 _ := hr.mono (by decide)
    have hr3 : Room 3 _ := hr.mono (by decide)
    have hr4 : Room 4 _ := hr.mono (by decide)
    have hr18 : Room 18 _ := hr.mono (by decide)
    have gd' : (A.deeper (envOfC "law" (defScope sLaw) s.heap.objs.size f cdv)).guards = some [] := gd
    refine ⟨_, C8.pss_cut (ps_set (i := 1) scLaw.nd rfl (Or.inl rfl) (pe_call GB hr1 rfl gB kB bB .nil pass0 (pa_cons (pv 0) pa_nil)))
      (C8.pss_cut (ps_par (i := 2) (j := 3) rfl scLaw.nd rfl rfl (by decide) rfl rfl (pa_cons (pe_call GA hr3 rfl gA kA bA .nil pass0 (pa_cons (pv 1) pa_nil)) (pa_cons (pe_call GN hr4 rfl gN kN bN .nil pass0 (pa_cons (pv 1) (pa_cons pe_int pa_nil))) pa_nil)) (by rfl))
      (C8.pss_cut (ps_set (i := 4) scLaw.nd rfl (Or.inl rfl) (pe_op op_cat (pe_op op_cat (pe_call GD hr3 rfl gD kD bD .nil pass0 (pa_cons (pv 1) (pa_cons (pv 2) (pa_cons (pe_ix ix_list (pv 3) pe_int (fun _ _ => rfl)) pa_nil))))
          (pe_call GC hr2 rfl gC kC bC .nil pass0 (pa_cons (pv 2) (pa_cons (pe_ix ix_list (pv 3) pe_int (fun _ _ => rfl)) (pa_cons (pe_slice sl_list (pv 3) po_none (po_some pe_int)) pa_nil)))))
          (pe_call GL hr2 rfl gL kL bL .nil pass0 (pa_cons (pv 2) (pa_cons (pe_ix ix_list (pv 3) pe_int (fun _ _ => rfl)) pa_nil)))))
      (C8.pss_cut (ps_set (i := 4) scLaw.nd rfl (Or.inl rfl) (pe_op op_cat (pv 4) (pe_call GT hr2 rfl gT kT bT .nil pass0 (pa_cons (pv 2) (pa_cons (pe_ix ix_list (pv 3) pe_int (fun _ _ => rfl)) (pa_cons (pe_ix ix_list (pv 3) pe_int (fun _ _ => rfl)) pa_nil))))))
      (C8.pss_cut (ps_if (pt_cmpR (op_neD hr.units) (pe_lc (own := [("thing", 5), ("place", 6)]) (g := gTup K 2 (gCons (gName 5) (gCons (gName 6) gNil))) (te := tC (.int 1)) (tt := tNot (tB (tCall (spDue K) [] E0 (tCons (tVar 5) (tCons (tVar 6) tNil))))) rfl scLaw.nd (pi_list (pv 4)) (blkOk_by (N := nLaw) (sc := defScope sLaw) (by decide +kernel))
            (fun _ _ _ _ _ => by exact pg_tup rfl (pgs_cons (pg_name (i := 5) scLaw.nd rfl (Or.inl rfl)) (pgs_cons (pg_name (i := 6) scLaw.nd rfl (Or.inl rfl)) pgs_nil)))
            (fun _ _ _ _ _ => pts_one (pt_not (pt_val (by exact pe_callG GX gd' hr rfl gX kX bX (pa_cons (pv 5) (pa_cons (pv 6) pa_nil)))))) (fun _ _ _ _ _ => pe_int)) (pe_lst pa_nil) (nomark _)) (pss_one (ps_ret pe_bl)) pss_nil)
      (C8.pss_cut (ps_set (i := 4) scLaw.nd rfl (Or.inl rfl) (pe_op op_cat (pe_op op_cat (pv 4) (pe_call GW hr2 rfl gW kW bW .nil pass0 (pa_cons (pv 2) (pa_cons (pe_ix ix_list (pv 3) pe_int (fun _ _ => rfl)) (pa_cons (pe_ix ix_list (pv 3) pe_int (fun _ _ => rfl)) pa_nil)))))
          (pe_call GO hr2 rfl gO kO bO .nil pass0 (pa_cons (pv 2) (pa_cons (pe_ix ix_list (pv 3) pe_int (fun _ _ => rfl)) pa_nil)))))
      (pss_one (ps_ret (pe_cmpR (op_eqD hr.units) (pe_lc (own := [("thing", 5), ("place", 6)]) (g := gTup K 2 (gCons (gName 5) (gCons (gName 6) gNil))) (te := tC (.int 1)) (tt := tNot (tB (tCall (spDue K) [] E0 (tCons (tVar 5) (tCons (tVar 6) tNil))))) rfl scLaw.nd (pi_list (pv 4)) (blkOk_by (N := nLaw) (sc := defScope sLaw) (by decide +kernel))
            (fun _ _ _ _ _ => by exact pg_tup rfl (pgs_cons (pg_name (i := 5) scLaw.nd rfl (Or.inl rfl)) (pgs_cons (pg_name (i := 6) scLaw.nd rfl (Or.inl rfl)) pgs_nil)))
            (fun _ _ _ _ _ => pts_one (pt_not (pt_val (by exact pe_callG GU gd' hr18 rfl gU kU bU (pa_cons (pv 5) (pa_cons (pv 6) pa_nil)))))) (fun _ _ _ _ _ => pe_int)) (pe_lst pa_nil) (nomark _))))))))), ?_⟩
    -- state
    refine ⟨fun σ H1 => ∃ a : RA, σ = [some (.ref xs), some (.ref a.s), none, none, none, none, none] ∧ Rnd H1 a 0, ?_, ?_⟩
    · exact ⟨_, rfl, xs, ns, rfl, hS, hl, fun a H1 s1 _ _ R1 => ⟨a, rfl, R1⟩⟩
    rintro σ H1 ⟨a, rfl, R1⟩
    -- x, names
    refine ⟨fun σ H2 => ∃ (x : Str) (nm : Addr) (n0 n1 n2 n3 n4 n5 n6 n7 n8 : Str) (n : Nat), σ = [some (.ref xs), some (.ref a.s), some (.str x), some (.ref nm), none, none, none] ∧ Rnd H2 a n ∧ n ≤ 200 ∧ Off a nm ∧ H2 nm = some (.lst ([n0, n1, n2, n3, n4, n5, n6, n7, n8].map V.str)) ∧ nameS x = true ∧ (∀ z ∈ [n0, n1, n2, n3, n4, n5, n6, n7, n8], nameS z = true) ∧ [n0, n1, n2, n3, n4, n5, n6, n7, n8].Nodup, ?_, ?_⟩
    · refine ⟨_, rfl, a, 0, rfl, R1, by decide, fun x m1 H2 hx hm1 R2 b2 => ?_⟩
      refine ⟨_, rfl, a, m1, 9, rfl, R2, by decide, by omega, fun nm zs m2 H3 np on en ln dn qn hm2 R3 b3 => ?_⟩
      obtain ⟨n0, n1, n2, n3, n4, n5, n6, n7, n8, rfl⟩ := nine ln
      exact ⟨_, _, rfl, x, nm, n0, n1, n2, n3, n4, n5, n6, n7, n8, m2, rfl, R3, by omega, on, en, nm_name hx, fun z hz => nm_name (qn z hz), dn⟩
    rintro σ H2 ⟨x, nm, n0, n1, n2, n3, n4, n5, n6, n7, n8, n, rfl, R2, hn, on, en, hx, hnm, dn⟩
    have h7 : nameS n7 = true := hnm _ (by simp)
    have h8 : nameS n8 = true := hnm _ (by simp)
    have d78 : ¬ n7 = n8 := by
      have q : [n7, n8].Nodup := dn.sublist (List.drop_sublist 7 [n0, n1, n2, n3, n4, n5, n6, n7, n8])
      simpa using q
    have d06 : [n0, n1, n2, n3, n4, n5, n6].Nodup := by
      have : [n0, n1, n2, n3, n4, n5, n6] = [n0, n1, n2, n3, n4, n5, n6, n7, n8].take 7 := rfl
      rw [this]
      exact dn.sublist (List.take_sublist _ _)
    have h06 : ∀ z ∈ [n0, n1, n2, n3, n4, n5, n6], nameS z = true := fun z hz => hnm z (List.mem_of_mem_take (i := 7) (l := [n0, n1, n2, n3, n4, n5, n6, n7, n8]) hz)
    -- some
    refine ⟨fun σ H3 => ∃ D : Addr, σ = [some (.ref xs), some (.ref a.s), some (.str x), some (.ref nm), some (.ref D), none, none] ∧ H3 nm = some (.lst ([n0, n1, n2, n3, n4, n5, n6, n7, n8].map V.str)) ∧ Coll K H3 D 72, ?_, ?_⟩
    · refine ⟨_, rfl, _, rfl, _, rfl, nm, _, 7, .str n7, rfl, rfl, SqL.of en, rfl, ?_⟩
      refine ⟨a, n, x, n7, rfl, R2, by omega, hx, h7, fun D1 m1 H3 _ _ R3 b3 C3 => ?_⟩
      have e3 := b3.at on en
      refine ⟨_, rfl, _, rfl, nm, _, 7, .str n7, rfl, rfl, SqL.of e3, rfl, ?_⟩
      refine ⟨_, rfl, 7, rfl, nm, _, rfl, SqL.of e3, fun q nq => ?_⟩
      have s4 := same_new (o := .lst ([n0, n1, n2, n3, n4, n5, n6].map V.str)) nq
      have e4 := s4 _ _ e3
      refine ⟨x, n7, q, n0, n1, n2, n3, n4, n5, n6, rfl, hx, h7, upd_same, h06, d06, fun D2 H5 s5 _ C5 => ?_⟩
      have s45 := s4.trans s5
      refine cat_coll (C3.same s45) C5 (by omega) fun D3 H6 s6 C6 => ?_
      have e6 := (s45.trans s6) _ _ e3
      refine ⟨_, rfl, _, rfl, nm, _, 7, .str n7, rfl, rfl, SqL.of e6, rfl, ?_⟩
      refine ⟨x, n7, rfl, hx, h7, fun D4 H7 s7 _ C7 => ?_⟩
      refine cat_coll (C6.same s7) C7 (by omega) fun D5 H8 s8 C8 => ?_
      exact ⟨D5, rfl, (s7.trans s8) _ _ e6, C8⟩
    clear R2 en
    rintro σ H3 ⟨D, rfl, e3, C3⟩
    -- some + truths
    refine ⟨fun σ H4 => ∃ D : Addr, σ = [some (.ref xs), some (.ref a.s), some (.str x), some (.ref nm), some (.ref D), none, none] ∧ H4 nm = some (.lst ([n0, n1, n2, n3, n4, n5, n6, n7, n8].map V.str)) ∧ Coll K H4 D 92, ?_, ?_⟩
    · refine ⟨_, rfl, _, rfl, _, rfl, nm, _, 7, .str n7, rfl, rfl, SqL.of e3, rfl, _, rfl, nm, _, 8, .str n8, rfl, rfl, SqL.of e3, rfl, ?_⟩
      refine ⟨x, n7, n8, rfl, hx, h7, h8, fun D2 H5 s5 _ C5 => ?_⟩
      refine cat_coll (C3.same s5) C5 (by omega) fun D3 H6 s6 C6 => ?_
      exact ⟨D3, rfl, (s5.trans s6) _ _ e3, C6⟩
    clear C3 e3
    rintro σ H3 ⟨D, rfl, e3, C3⟩
    -- the texts
    refine ⟨fun σ H4 => σ = [some (.ref xs), some (.ref a.s), some (.str x), some (.ref nm), some (.ref D), none, none] ∧ H4 nm = some (.lst ([n0, n1, n2, n3, n4, n5, n6, n7, n8].map V.str)) ∧ Coll K H4 D 92, ?_, ?_⟩
    · obtain ⟨us, ts, eD, tus, hl2, hok⟩ := id C3
      refine ⟨_, rfl, D, rfl, ⟨_, SqL.of eD⟩, fun G nG => ?_⟩
      refine lc_list (K := K) (a := D) (xs := us) (fun i H5 => Same H3 H5 ∧ H5 G = some (.lst [])) ⟨same_new nG, upd_same⟩ (fun i H5 _ ⟨s5, _⟩ => SqL.of (s5 _ _ eD)) ?_ ?_
      · rintro i y H5 hi ⟨s5, eG⟩
        obtain ⟨p, hp, tp⟩ := (tus.same s5).get hi
        obtain ⟨t, pl, rfl, e1, e2, e4⟩ := hok p (List.mem_of_getElem? hp)
        obtain ⟨pa, u1, u2, rfl, hpa, tu1, tu2⟩ := tr_two7 tp
        subst e1
        refine ⟨pa, _, rfl, hpa, rfl, _, _, rfl, _, _, rfl, rfl, rfl, ?_⟩
        refine ⟨_, rfl, _, rfl, u1, u2, t, rfl, tu1, tu2, e2, e4, fun H6 s6 => ⟨true, rfl, ?_⟩⟩
        exact iteF ⟨s5.trans s6, s6 _ _ eG⟩
      · rintro H5 ⟨s5, eG⟩
        refine ⟨Nat.zero_le _, fun l nl => ?_⟩
        have s6 := same_new (o := .lst []) nl
        refine ⟨.list [], .list [], .lst (SqL.of (s6 _ _ eG)) .nil, .lst (SqL.of upd_same) .nil, by decide, by decide, ?_⟩
        exact ⟨_, rfl, iteF ⟨rfl, (s5.trans s6) _ _ e3, C3.same (s5.trans s6)⟩⟩
    clear C3 e3
    rintro σ H3 ⟨rfl, e3, C3⟩
    refine ⟨fun σ H4 => ∃ D : Addr, σ = [some (.ref xs), some (.ref a.s), some (.str x), some (.ref nm), some (.ref D), none, none] ∧ Coll K H4 D 192, ?_, ?_⟩
    · refine ⟨_, rfl, _, rfl, _, rfl, nm, _, 7, .str n7, rfl, rfl, SqL.of e3, rfl, _, rfl, nm, _, 8, .str n8, rfl, rfl, SqL.of e3, rfl, ?_⟩
      refine ⟨x, n7, n8, rfl, hx, h7, h8, d78, fun D2 H5 s5 _ C5 => ?_⟩
      refine cat_coll (C3.same s5) C5 (by omega) fun D3 H6 s6 C6 => ?_
      have e6 := (s5.trans s6) _ _ e3
      refine ⟨_, rfl, _, rfl, nm, _, 7, .str n7, rfl, rfl, SqL.of e6, rfl, ?_⟩
      refine ⟨x, n7, rfl, hx, h7, fun D4 H7 s7 _ C7 => ?_⟩
      refine cat_coll (C6.same s7) C7 (by omega) fun D5 H8 s8 C8 => ?_
      exact ⟨D5, rfl, C8⟩
    clear C3 e3
    rintro σ H9 ⟨D, rfl, us, ts, eD, tus, hl2, hok⟩
    -- none is wrong
    refine ⟨_, rfl, D, rfl, ⟨_, SqL.of eD⟩, fun G nG => ?_⟩
    refine lc_list (K := K) (a := D) (xs := us) (fun i H5 => Same H9 H5 ∧ H5 G = some (.lst [])) ⟨same_new nG, upd_same⟩ (fun i H5 _ ⟨s5, _⟩ => SqL.of (s5 _ _ eD)) ?_ ?_
    · rintro i y H5 hi ⟨s5, eG⟩
      obtain ⟨p, hp, tp⟩ := (tus.same s5).get hi
      obtain ⟨t, pl, rfl, e1, e2, e4⟩ := hok p (List.mem_of_getElem? hp)
      obtain ⟨pa, u1, u2, rfl, hpa, tu1, tu2⟩ := tr_two7 tp
      subst e1
      refine ⟨pa, _, rfl, hpa, rfl, _, _, rfl, _, _, rfl, rfl, rfl, ?_⟩
      refine ⟨_, rfl, _, rfl, u1, u2, t, rfl, tu1, tu2, e2, e4, fun H6 s6 => ⟨true, rfl, ?_⟩⟩
      exact iteF ⟨s5.trans s6, s6 _ _ eG⟩
    · rintro H5 ⟨s5, eG⟩
      refine ⟨Nat.zero_le _, fun l nl => ?_⟩
      have s6 := same_new (o := .lst []) nl
      exact ⟨.list [], .list [], .lst (SqL.of (s6 _ _ eG)) .nil, .lst (SqL.of upd_same) .nil, by decide, by decide, k _⟩
end
end BK

set_option Elab.async false
set_option maxRecDepth 100000
set_option maxHeartbeats 2000000
/-! The law is called where nothing runs: the script alone is told. -/
namespace BK
open PySem PySem.Spec PyProof.Rows L2
abbrev listOf (us : List Value) : Obj := { cls := .type "list", data := .seq us.toArray }
section
variable {P : Program} {w : World} {K : PySem.W.Frag} {mg mb : Str → Option Value} {s : Shared} {us : List Value} {ns : List Int} {sc : Addr}
theorem first_hp (hs : s.heap.get? sc = some (listOf us)) (KX : K.In s.heap) (inz : IntsAre us ns) (few : ns.length ≤ sizeLine) :
    ∃ H : Hp, SqL K H sc (ns.map V.int) ∧ HOk P w H s.heap ∧ ∀ b u, H b = some u → (b = sc ∧ K.lookup sc = none ∧ ∃ o xs, u = .frz o (.lst xs)) := by
  have vi := vals_ints inz
  have li := inz.length
  cases kl : K.lookup sc with
  | some o =>
    have eo : o = listOf us := Option.some.inj ((KX sc o kl).symm.trans hs)
    refine ⟨fun _ => none, .inr ⟨o, us.toArray, 0, kl, by rw [eo], by rw [eo], by rw [eo], by rw [List.size_toArray, li]; exact few, by simpa using vi⟩, fun b u e => ?_, fun b u e => ?_⟩
    · cases e
    · cases e
  | none =>
    refine ⟨upd (fun _ => none) sc (.frz (listOf us) (.lst (ns.map V.int))), .inl (.inr ⟨listOf us, upd_same⟩), fun b u e => ?_, fun b u e => ?_⟩
    · by_cases hb : b = sc
      · rw [hb, upd_same] at e
        cases e
        rw [hb]
        exact ⟨hs, by rw [List.length_map]; exact few, us, 0, vi, hs⟩
      · rw [upd_ne hb] at e
        cases e
    · by_cases hb : b = sc
      · rw [hb, upd_same] at e
        cases e
        exact ⟨hb, rfl, _, _, rfl⟩
      · rw [upd_ne hb] at e
        cases e
theorem call_law {k : Nat} {fa : Addr} {fd : FuncData} {x : Str} {sp : Sp} (KX : K.In s.heap) (gl : s.heap.Ns mainGlobals mg) (bl : s.heap.Ns builtinsNs mb) (bb : ∀ x : Str, x ≠ "__name__" → mb x = bootBuiltins x) (nl : s.heap.NoLimit) (ge : s.gens = #[])
    (hs : s.heap.get? sc = some (listOf us)) (inz : IntsAre us ns) (few : ns.length ≤ sizeLine) (hr : Room k callerA)
    (F : ∀ base : Heap, K.In base → base.Ns mainGlobals mg → FnG P w K mg base k fa fd [x] sp) (bd : ∀ (s : Shared) (u : Value), BindsTo s fd ⟨[u], []⟩ [(x, u)])
    (pr : ∀ H : Hp, SqL K H sc (ns.map V.int) → sp [.ref sc] H (fun v _ => v = .bl true) fun _ _ _ => False) :
    codeAny (model P w) callerA (.call (.ref fa) ⟨[.ref sc], []⟩) (fun r s' => r = .ok (.ret (.bool true)) ∧ OldK s.heap s'.heap ∧ s'.os = s.os ∧ AllBare s'.gens) s := by
  obtain ⟨H, hS, ok, only⟩ := first_hp (P := P) (w := w) hs KX inz few
  have stays : ∀ {b : Addr} {o : Obj}, s.heap.get? b = some o → (b = sc → K.lookup sc = none → False) → (hidT s.heap H).get? b = some o := fun {b o} e h2 => hidT_get e (by
    cases q : H b with
    | none => rfl
    | some u =>
      obtain ⟨z, z2, _⟩ := only b u q
      exact (h2 z z2).elim)
  have other : ∀ {b : Addr} {o : Obj}, s.heap.get? b = some o → o ≠ listOf us → (hidT s.heap H).get? b = some o := fun {b o} e h2 =>
    stays e (fun z _ => h2 (Option.some.inj ((by rw [← e, z]; exact hs))))
  have kb : K.In (hidT s.heap H) := fun b o e => stays (KX b o e) fun z z2 => by rw [z, z2] at e; cases e
  have dict_ : ∀ {b : Addr} {m : Str → Option Value}, s.heap.Ns b m → (hidT s.heap H).Ns b m := fun {b m} h => by
    obtain ⟨o, es, ep, e, d, r⟩ := h
    exact ⟨o, es, ep, other e (fun z => by rw [z] at d; cases d), d, r⟩
  have md : L2.Mod K mg (hidT s.heap H) := by
    obtain ⟨mc, q1, q2⟩ := nl
    exact ⟨kb, dict_ gl, ⟨mb, dict_ bl, bb⟩, mc, dict_ q1, q2⟩
  have e0 : Env0 P w K mg (hidT s.heap H) callerA [] s H := ⟨rfl, md, fun b o e => of_hidT e, Nat.le_of_eq (hidT_size _ _), trivial, (fun b hb => by cases hb), ok, .of_eq ge⟩
  refine codeAny_mono ((F _ kb (dict_ gl)).run callerA [] s H [.ref sc] [.ref sc] _ _ rfl hr e0 (bd s (.ref sc)) (.cons rfl .nil) (pr H hS)) fun r s' h => ?_
  match r, h with
  | .ok (.ret u), ⟨v, H', os, bare, un, ok', rv, q⟩ =>
    have ev : v = .bl true := q
    rw [ev] at rv
    have eu : u = Value.bool true := rv
    have old : ∀ b o, s.heap.get? b = some o → s'.heap.get? b = some o := fun b o e => by
      cases q : H b with
      | none => exact un.keep b o e q (by intro z; cases z) (by simp)
      | some u =>
        obtain ⟨_, _, o2, xs, z⟩ := only b u q
        rw [z] at q
        have a1 := (ok b _ q).1
        have a2 := (ok' b _ (un.frzs b o2 _ q)).1
        rw [e] at a1
        cases a1
        exact a2
    exact ⟨by rw [eu], ⟨fun b o e => .inl (old b o e), fun b o e => ⟨o, old b o e⟩⟩, os, bare⟩
end
/-! the dict of the forms -/
def litKeys (es : List DictEntry) : Bool := es.all fun e => match e.key with
  | .str k _ => (kindsOf k).isSome
  | _ => false
theorem no_of {K : PySem.W.Frag} {p : Addr} {es : Array DictEntry} {n : Nat} (hl : K.lookup p = some ⟨.type "dict", none, .dict es n, #[]⟩) (hk : litKeys es.toList = true) (x : Str) (hx : kindsOf x = none) : PySem.W.nsIn K p x = some none := by
  have e1 : es.toList.find? (·.key.isStr x) = none := by
    rw [List.find?_eq_none]
    intro e he
    have q := List.all_eq_true.mp hk e he
    cases ek : e.key with
    | str k t =>
      rw [ek] at q
      intro z
      have z2 : Value.isStrOf x (.str k t) = true := by rw [← PySem.W.isStr_of]; exact z
      have e2 : k = x := by
        unfold Value.isStrOf at z2
        simpa using z2
      have q2 : (kindsOf k).isSome = true := q
      rw [e2, hx] at q2
      cases q2
    | _ => rw [ek] at q; cases q
  have e2 : es.toList.any (·.refKey) = false := by
    rw [List.any_eq_false]
    intro e he
    have q := List.all_eq_true.mp hk e he
    cases ek : e.key with
    | str k t =>
      unfold DictEntry.refKey
      rw [ek]
      simp
    | _ => rw [ek] at q; cases q
  unfold PySem.W.nsIn
  rw [hl]
  show (match es.toList.find? (·.key.isStr x) with
      | some e => some (some e.val)
      | none => if es.toList.any (·.refKey) then none else some none) = some none
  rw [e1, e2]
  rfl
theorem kinds_mem {x : Str} {ks : List Str} (h : kindsOf x = some ks) : (x, ks) ∈ kindTab := by
  unfold kindsOf at h
  cases e : kindTab.find? fun e => decide (e.1 = x) with
  | none => rw [e] at h; cases h
  | some p =>
    rw [e] at h
    have q : p.2 = ks := Option.some.inj h
    have q0 : (fun e : Str × List Str => decide (e.1 = x)) p = true := List.find?_some (p := fun e : Str × List Str => decide (e.1 = x)) e
    have q1 : p.1 = x := of_decide_eq_true q0
    have m := List.mem_of_find?_eq_some e
    rw [← q, ← q1]
    exact m
end BK


set_option Elab.async false
set_option maxRecDepth 100000
set_option maxHeartbeats 4000000
/-! What the top has written, and the claim. -/
namespace BK
open PySem PySem.Spec PyProof.Rows L2 SW
theorem exm_own {K : PySem.W.Frag} {S : Addr} (h1 : PySem.W.subIn K (.ref S) (.type "BaseException") = some true) (h2 : PySem.W.isClsIn K S = true) (h3 : PySem.W.typeIn K (.ref S) = some (.type "type")) (h4 : PySem.W.subIn K (.ref S) (.ref S) = some true) : PySem.W.exmOne K (.ref S) (.ref S) = some true := by
  have a : (PySem.W.subIn K (.ref S) (.type "BaseException") == some true) = true := by rw [h1] <;> rfl
  have b : ((PySem.W.clsIn K S).isSome && PySem.W.typeIn K (.ref S) == some (.type "type")) = true := by
    have c : (PySem.W.clsIn K S).isSome = true := h2
    rw [c, h3] <;> rfl
  unfold PySem.W.exmOne
  rw [if_pos a]
  unfold PySem.W.kitCls
  exact (if_pos b).trans h4
theorem sz4 {n : Nat} (h : n ≤ 4) : n ≤ sizeLine := by
  rw [sizeLine_eq]
  omega
theorem walkG {l : PySem.W.OpenLaw} {q : Program} {loose : List Str} {XP : (Str → Option Value) → Heap → Prop} {YP : World → Heap → Prop} {d : DefRec} {K : Params → PySem.W.Frag} (hn : l.most = some 63) (hdf : d.params.defaults = [])
    (hY : ∀ (w : World) (h : Heap), YP w h → (K w.params).In h)
    (F : ∀ (w : World) (mg : Str → Option Value) (fa : Addr) (h : Heap), (K w.params).In h → h.Ns mainGlobals mg → mg d.name = some (.ref fa) →
      ∃ (fd : FuncData), (∀ (s : Shared) (u : Value), BindsTo s fd ⟨[u], []⟩ [("script", u)]) ∧ ∀ base : Heap, (K w.params).In base → base.Ns mainGlobals mg → FnG l.prog w (K w.params) mg base 20 fa fd ["script"] (spLaw (K w.params))) :
    PySem.W.WalkO q loose XP YP l.row.toRowW d [] (fun f vs => PySem.call f vs) := by
  refine Att.attach_callB hn hdf fun w s0 s mg mb fa o pm cd doc a vs ns G Y _ _ _ hmg obj inz few _ ge => ?_
  have KX := hY w _ Y
  obtain ⟨fd, bd, GF⟩ := F w mg fa _ KX G.T.g hmg
  exact call_law KX G.T.g G.T.b G.T.builtins G.T.nolimit ge obj inz (Nat.le_trans few (by decide)) ⟨rfl, by decide, by decide⟩ GF bd
    fun H h2 => ⟨a, ns, rfl, h2, few, fun _ => rfl⟩
theorem all_mk {P : Program} {w : World} {K : PySem.W.Frag} {h : Heap} {mg : Str → Option Value} {fa C CB CP CQ CT CF CS : Addr} (X : K.In h) (G : h.Ns mainGlobals mg) (hfa : mg "law" = some (.ref fa))
    {fcin : Addr} {odcin ancin : Option Addr} {slcin : Array (Option Value)} {occin kVcin dccin pmcin cdcin ctcin : Value}
    {ftak : Addr} {odtak antak : Option Addr} {sltak : Array (Option Value)} {octak kVtak dctak pmtak cdtak cttak : Value}
    {fknw : Addr} {odknw anknw : Option Addr} {slknw : Array (Option Value)} {ocknw kVknw dcknw pmknw cdknw ctknw : Value}
    {ffin : Addr} {odfin anfin : Option Addr} {slfin : Array (Option Value)} {ocfin kVfin dcfin pmfin cdfin ctfin : Value}
    {fbin : Addr} {odbin anbin : Option Addr} {slbin : Array (Option Value)} {ocbin kVbin dcbin pmbin cdbin ctbin : Value}
    {fisn : Addr} {odisn anisn : Option Addr} {slisn : Array (Option Value)} {ocisn kVisn dcisn pmisn cdisn ctisn : Value}
    {farn : Addr} {odarn anarn : Option Addr} {slarn : Array (Option Value)} {ocarn kVarn dcarn pmarn cdarn ctarn : Value}
    {fitg : Addr} {oditg anitg : Option Addr} {slitg : Array (Option Value)} {ocitg kVitg dcitg pmitg cditg ctitg : Value}
    {fnum : Addr} {odnum annum : Option Addr} {slnum : Array (Option Value)} {ocnum kVnum dcnum pmnum cdnum ctnum : Value}
    {ftup : Addr} {odtup antup : Option Addr} {sltup : Array (Option Value)} {octup kVtup dctup pmtup cdtup cttup : Value}
    {fdif : Addr} {oddif andif : Option Addr} {sldif : Array (Option Value)} {ocdif kVdif dcdif pmdif cddif ctdif : Value}
    {fprt : Addr} {odprt anprt : Option Addr} {slprt : Array (Option Value)} {ocprt kVprt dcprt pmprt cdprt ctprt : Value}
    {fwrd : Addr} {odwrd anwrd : Option Addr} {slwrd : Array (Option Value)} {ocwrd kVwrd dcwrd pmwrd cdwrd ctwrd : Value}
    {ffit : Addr} {odfit anfit : Option Addr} {slfit : Array (Option Value)} {ocfit kVfit dcfit pmfit cdfit ctfit : Value}
    {ffrm : Addr} {odfrm anfrm : Option Addr} {slfrm : Array (Option Value)} {ocfrm kVfrm dcfrm pmfrm cdfrm ctfrm : Value}
    {fpts : Addr} {odpts anpts : Option Addr} {slpts : Array (Option Value)} {ocpts kVpts dcpts pmpts cdpts ctpts : Value}
    {fblk : Addr} {odblk anblk : Option Addr} {slblk : Array (Option Value)} {ocblk kVblk dcblk pmblk cdblk ctblk : Value}
    {fcan : Addr} {odcan ancan : Option Addr} {slcan : Array (Option Value)} {occan kVcan dccan pmcan cdcan ctcan : Value}
    {fhyi : Addr} {odhyi anhyi : Option Addr} {slhyi : Array (Option Value)} {ochyi kVhyi dchyi pmhyi cdhyi cthyi : Value}
    {fknd : Addr} {odknd anknd : Option Addr} {slknd : Array (Option Value)} {ocknd kVknd dcknd pmknd cdknd ctknd : Value}
    {fprm : Addr} {odprm anprm : Option Addr} {slprm : Array (Option Value)} {ocprm kVprm dcprm pmprm cdprm ctprm : Value}
    {ftrp : Addr} {odtrp antrp : Option Addr} {sltrp : Array (Option Value)} {octrp kVtrp dctrp pmtrp cdtrp cttrp : Value}
    {ffpc : Addr} {odfpc anfpc : Option Addr} {slfpc : Array (Option Value)} {ocfpc kVfpc dcfpc pmfpc cdfpc ctfpc : Value}
    {fflt : Addr} {odflt anflt : Option Addr} {slflt : Array (Option Value)} {ocflt kVflt dcflt pmflt cdflt ctflt : Value}
    {fnee : Addr} {odnee annee : Option Addr} {slnee : Array (Option Value)} {ocnee kVnee dcnee pmnee cdnee ctnee : Value}
    {fisb : Addr} {odisb anisb : Option Addr} {slisb : Array (Option Value)} {ocisb kVisb dcisb pmisb cdisb ctisb : Value}
    {fmix : Addr} {odmix anmix : Option Addr} {slmix : Array (Option Value)} {ocmix kVmix dcmix pmmix cdmix ctmix : Value}
    {fbeg : Addr} {odbeg anbeg : Option Addr} {slbeg : Array (Option Value)} {ocbeg kVbeg dcbeg pmbeg cdbeg ctbeg : Value}
    {fdrw : Addr} {oddrw andrw : Option Addr} {sldrw : Array (Option Value)} {ocdrw kVdrw dcdrw pmdrw cddrw ctdrw : Value}
    {fnam : Addr} {odnam annam : Option Addr} {slnam : Array (Option Value)} {ocnam kVnam dcnam pmnam cdnam ctnam : Value}
    {fnms : Addr} {odnms annms : Option Addr} {slnms : Array (Option Value)} {ocnms kVnms dcnms pmnms cdnms ctnms : Value}
    {fdue : Addr} {oddue andue : Option Addr} {sldue : Array (Option Value)} {ocdue kVdue dcdue pmdue cddue ctdue : Value}
    {fwob : Addr} {odwob anwob : Option Addr} {slwob : Array (Option Value)} {ocwob kVwob dcwob pmwob cdwob ctwob : Value}
    {fwop : Addr} {odwop anwop : Option Addr} {slwop : Array (Option Value)} {ocwop kVwop dcwop pmwop cdwop ctwop : Value}
    {fwpi : Addr} {odwpi anwpi : Option Addr} {slwpi : Array (Option Value)} {ocwpi kVwpi dcwpi pmwpi cdwpi ctwpi : Value}
    {ftxt : Addr} {odtxt antxt : Option Addr} {sltxt : Array (Option Value)} {octxt kVtxt dctxt pmtxt cdtxt cttxt : Value}
    {flbk : Addr} {odlbk anlbk : Option Addr} {sllbk : Array (Option Value)} {oclbk kVlbk dclbk pmlbk cdlbk ctlbk : Value}
    {fnst : Addr} {odnst annst : Option Addr} {slnst : Array (Option Value)} {ocnst kVnst dcnst pmnst cdnst ctnst : Value}
    {fdep : Addr} {oddep andep : Option Addr} {sldep : Array (Option Value)} {ocdep kVdep dcdep pmdep cddep ctdep : Value}
    {fcnt : Addr} {odcnt ancnt : Option Addr} {slcnt : Array (Option Value)} {occnt kVcnt dccnt pmcnt cdcnt ctcnt : Value}
    {flet : Addr} {odlet anlet : Option Addr} {sllet : Array (Option Value)} {oclet kVlet dclet pmlet cdlet ctlet : Value}
    {fodd : Addr} {ododd anodd : Option Addr} {slodd : Array (Option Value)} {ocodd kVodd dcodd pmodd cdodd ctodd : Value}
    {ftwi : Addr} {odtwi antwi : Option Addr} {sltwi : Array (Option Value)} {octwi kVtwi dctwi pmtwi cdtwi cttwi : Value}
    {ftru : Addr} {odtru antru : Option Addr} {sltru : Array (Option Value)} {octru kVtru dctru pmtru cdtru cttru : Value}
    {ftrt : Addr} {odtrt antrt : Option Addr} {sltrt : Array (Option Value)} {octrt kVtrt dctrt pmtrt cdtrt cttrt : Value}
    {flaw : Addr} {odlaw anlaw : Option Addr} {sllaw : Array (Option Value)} {oclaw kVlaw dclaw pmlaw cdlaw ctlaw : Value}
    {t_LETTERS : Tok} {t_MOST_LETTERS : Tok} {t_MOST_NUMBER : Tok} {t_MOST_VALUE : Tok} {t_MOST_PIECES : Tok} {t_MOST_VARS : Tok} {t_MOST_PARAMS : Tok} {t_MOST_STATEMENTS : Tok} {t_MOST_AROUND : Tok}
    {aKD pP : Addr} {odKD : Option Addr} {nKD nP : Nat} {slKD : Array (Option Value)} {tKD1 tKD2 : Tok} {es : Array DictEntry}
    {p0 : Addr} {odp0 : Option Addr} {np0 : Nat} {slp0 : Array (Option Value)} {q0_0 q0_1 : Tok}
    {p1 : Addr} {odp1 : Option Addr} {np1 : Nat} {slp1 : Array (Option Value)} {q1_0 q1_1 q1_2 : Tok}
    {p2 : Addr} {odp2 : Option Addr} {np2 : Nat} {slp2 : Array (Option Value)} {q2_0 : Tok}
    {p3 : Addr} {odp3 : Option Addr} {np3 : Nat} {slp3 : Array (Option Value)} {q3_0 : Tok}
    {p4 : Addr} {odp4 : Option Addr} {np4 : Nat} {slp4 : Array (Option Value)} {q4_0 : Tok}
    {p5 : Addr} {odp5 : Option Addr} {np5 : Nat} {slp5 : Array (Option Value)} {q5_0 : Tok}
    {p6 : Addr} {odp6 : Option Addr} {np6 : Nat} {slp6 : Array (Option Value)} {q6_0 q6_1 : Tok}
    {p7 : Addr} {odp7 : Option Addr} {np7 : Nat} {slp7 : Array (Option Value)} {q7_0 q7_1 q7_2 q7_3 : Tok}
    {p8 : Addr} {odp8 : Option Addr} {np8 : Nat} {slp8 : Array (Option Value)} {q8_0 q8_1 q8_2 : Tok}
    {p9 : Addr} {odp9 : Option Addr} {np9 : Nat} {slp9 : Array (Option Value)} {q9_0 q9_1 : Tok}
    {p10 : Addr} {odp10 : Option Addr} {np10 : Nat} {slp10 : Array (Option Value)} {q10_0 : Tok}
    {p11 : Addr} {odp11 : Option Addr} {np11 : Nat} {slp11 : Array (Option Value)}
    {p12 : Addr} {odp12 : Option Addr} {np12 : Nat} {slp12 : Array (Option Value)}
    {p13 : Addr} {odp13 : Option Addr} {np13 : Nat} {slp13 : Array (Option Value)}
    {nm q : Str} {N : Addr} {bs bm : List Value} {sn : List Str} {sub : List Value} {abb : Bool} {col : Option Bool} {dd : Option Addr} {m0 m1 m2 m3 m5 : Option Value}
    (aC : PySem.W.nsIn K mainGlobals "Check" = some (some (.ref C)))
    (aCB : PySem.W.nsIn K mainGlobals "BadBook" = some (some (.ref CB)))
    (aCP : PySem.W.nsIn K mainGlobals "BadProgram" = some (some (.ref CP)))
    (aCQ : PySem.W.nsIn K mainGlobals "BadQuestion" = some (some (.ref CQ)))
    (aCT : PySem.W.nsIn K mainGlobals "BadText" = some (some (.ref CT)))
    (aCF : PySem.W.nsIn K mainGlobals "Fails" = some (some (.ref CF)))
    (aCS : PySem.W.nsIn K mainGlobals "StepwhereError" = some (some (.ref CS)))
    (acin : PySem.W.findIn K (.ref C) "__init__" = some (some (.ref fcin)))
    (icin : PySem.W.isFn K (.ref fcin) = true)
    (lcin : K.lookup fcin = some ⟨occin, odcin, .func (PySem.W.fnOf "__init__" "Check.__init__" (defArgs sCInit) (defBody sCInit) (defScope sCInit) .none kVcin dccin pmcin ancin cdcin ctcin), slcin⟩)
    (ccin : PySem.W.codeIn K cdcin "Check.__init__" = true)
    (kcin : PySem.W.keepIn K (.ref fcin) = true)
    (atak : PySem.W.findIn K (.ref C) "takes" = some (some (.ref ftak)))
    (itak : PySem.W.isFn K (.ref ftak) = true)
    (ltak : K.lookup ftak = some ⟨octak, odtak, .func (PySem.W.fnOf "takes" "Check.takes" (defArgs sTakes) (defBody sTakes) (defScope sTakes) .none kVtak dctak pmtak antak cdtak cttak), sltak⟩)
    (ctak : PySem.W.codeIn K cdtak "Check.takes" = true)
    (ktak : PySem.W.keepIn K (.ref ftak) = true)
    (aknw : PySem.W.findIn K (.ref C) "knows" = some (some (.ref fknw)))
    (iknw : PySem.W.isFn K (.ref fknw) = true)
    (lknw : K.lookup fknw = some ⟨ocknw, odknw, .func (PySem.W.fnOf "knows" "Check.knows" (defArgs sKnows) (defBody sKnows) (defScope sKnows) .none kVknw dcknw pmknw anknw cdknw ctknw), slknw⟩)
    (cknw : PySem.W.codeIn K cdknw "Check.knows" = true)
    (kknw : PySem.W.keepIn K (.ref fknw) = true)
    (afin : PySem.W.findIn K (.ref C) "fault_in" = some (some (.ref ffin)))
    (ifin : PySem.W.isFn K (.ref ffin) = true)
    (lfin : K.lookup ffin = some ⟨ocfin, odfin, .func (PySem.W.fnOf "fault_in" "Check.fault_in" (defArgs sFault) (defBody sFault) (defScope sFault) .none kVfin dcfin pmfin anfin cdfin ctfin), slfin⟩)
    (cfin : PySem.W.codeIn K cdfin "Check.fault_in" = true)
    (kfin : PySem.W.keepIn K (.ref ffin) = true)
    (abin : PySem.W.findIn K (.ref CB) "__init__" = some (some (.ref fbin)))
    (ibin : PySem.W.isFn K (.ref fbin) = true)
    (lbin : K.lookup fbin = some ⟨ocbin, odbin, .func (PySem.W.fnOf "__init__" "BadBook.__init__" (defArgs sBadInit) (defBody sBadInit) (defScope sBadInit) .none kVbin dcbin pmbin anbin cdbin ctbin), slbin⟩)
    (cbin : PySem.W.codeIn K cdbin "BadBook.__init__" = true)
    (kbin : PySem.W.keepIn K (.ref fbin) = true)
    (aisn : PySem.W.nsIn K mainGlobals "is_name" = some (some (.ref fisn)))
    (lisn : K.lookup fisn = some ⟨ocisn, odisn, .func (PySem.W.fnOf "is_name" "is_name" (defArgs BK.sName) (defBody BK.sName) (defScope BK.sName) .none kVisn dcisn pmisn anisn cdisn ctisn), slisn⟩)
    (cisn : PySem.W.codeIn K cdisn "is_name" = true)
    (kisn : PySem.W.keepIn K (.ref fisn) = true)
    (aarn : PySem.W.nsIn K mainGlobals "are_names" = some (some (.ref farn)))
    (larn : K.lookup farn = some ⟨ocarn, odarn, .func (PySem.W.fnOf "are_names" "are_names" (defArgs sAreNames) (defBody sAreNames) (defScope sAreNames) .none kVarn dcarn pmarn anarn cdarn ctarn), slarn⟩)
    (carn : PySem.W.codeIn K cdarn "are_names" = true)
    (karn : PySem.W.keepIn K (.ref farn) = true)
    (aitg : PySem.W.nsIn K mainGlobals "is_integer" = some (some (.ref fitg)))
    (litg : K.lookup fitg = some ⟨ocitg, oditg, .func (PySem.W.fnOf "is_integer" "is_integer" (defArgs sInteger) (defBody sInteger) (defScope sInteger) .none kVitg dcitg pmitg anitg cditg ctitg), slitg⟩)
    (citg : PySem.W.codeIn K cditg "is_integer" = true)
    (kitg : PySem.W.keepIn K (.ref fitg) = true)
    (anum : PySem.W.nsIn K mainGlobals "is_number" = some (some (.ref fnum)))
    (lnum : K.lookup fnum = some ⟨ocnum, odnum, .func (PySem.W.fnOf "is_number" "is_number" (defArgs sNumber) (defBody sNumber) (defScope sNumber) .none kVnum dcnum pmnum annum cdnum ctnum), slnum⟩)
    (cnum : PySem.W.codeIn K cdnum "is_number" = true)
    (knum : PySem.W.keepIn K (.ref fnum) = true)
    (atup : PySem.W.nsIn K mainGlobals "is_tuple" = some (some (.ref ftup)))
    (ltup : K.lookup ftup = some ⟨octup, odtup, .func (PySem.W.fnOf "is_tuple" "is_tuple" (defArgs sTuple) (defBody sTuple) (defScope sTuple) .none kVtup dctup pmtup antup cdtup cttup), sltup⟩)
    (ctup : PySem.W.codeIn K cdtup "is_tuple" = true)
    (ktup : PySem.W.keepIn K (.ref ftup) = true)
    (adif : PySem.W.nsIn K mainGlobals "are_different_names" = some (some (.ref fdif)))
    (ldif : K.lookup fdif = some ⟨ocdif, oddif, .func (PySem.W.fnOf "are_different_names" "are_different_names" (defArgs sDiff) (defBody sDiff) (defScope sDiff) .none kVdif dcdif pmdif andif cddif ctdif), sldif⟩)
    (cdif : PySem.W.codeIn K cddif "are_different_names" = true)
    (kdif : PySem.W.keepIn K (.ref fdif) = true)
    (aprt : PySem.W.nsIn K mainGlobals "is_part" = some (some (.ref fprt)))
    (lprt : K.lookup fprt = some ⟨ocprt, odprt, .func (PySem.W.fnOf "is_part" "is_part" (defArgs sPart) (defBody sPart) (defScope sPart) .none kVprt dcprt pmprt anprt cdprt ctprt), slprt⟩)
    (cprt : PySem.W.codeIn K cdprt "is_part" = true)
    (kprt : PySem.W.keepIn K (.ref fprt) = true)
    (awrd : PySem.W.nsIn K mainGlobals "word_of" = some (some (.ref fwrd)))
    (lwrd : K.lookup fwrd = some ⟨ocwrd, odwrd, .func (PySem.W.fnOf "word_of" "word_of" (defArgs sWord) (defBody sWord) (defScope sWord) .none kVwrd dcwrd pmwrd anwrd cdwrd ctwrd), slwrd⟩)
    (cwrd : PySem.W.codeIn K cdwrd "word_of" = true)
    (kwrd : PySem.W.keepIn K (.ref fwrd) = true)
    (afit : PySem.W.nsIn K mainGlobals "fits" = some (some (.ref ffit)))
    (lfit : K.lookup ffit = some ⟨ocfit, odfit, .func (PySem.W.fnOf "fits" "fits" (defArgs sFits) (defBody sFits) (defScope sFits) .none kVfit dcfit pmfit anfit cdfit ctfit), slfit⟩)
    (cfit : PySem.W.codeIn K cdfit "fits" = true)
    (kfit : PySem.W.keepIn K (.ref ffit) = true)
    (afrm : PySem.W.nsIn K mainGlobals "has_form" = some (some (.ref ffrm)))
    (lfrm : K.lookup ffrm = some ⟨ocfrm, odfrm, .func (PySem.W.fnOf "has_form" "has_form" (defArgs sForm) (defBody sForm) (defScope sForm) .none kVfrm dcfrm pmfrm anfrm cdfrm ctfrm), slfrm⟩)
    (cfrm : PySem.W.codeIn K cdfrm "has_form" = true)
    (kfrm : PySem.W.keepIn K (.ref ffrm) = true)
    (apts : PySem.W.nsIn K mainGlobals "parts_of" = some (some (.ref fpts)))
    (lpts : K.lookup fpts = some ⟨ocpts, odpts, .func (PySem.W.fnOf "parts_of" "parts_of" (defArgs sParts) (defBody sParts) (defScope sParts) .none kVpts dcpts pmpts anpts cdpts ctpts), slpts⟩)
    (cpts : PySem.W.codeIn K cdpts "parts_of" = true)
    (kpts : PySem.W.keepIn K (.ref fpts) = true)
    (ablk : PySem.W.nsIn K mainGlobals "blocks_of" = some (some (.ref fblk)))
    (lblk : K.lookup fblk = some ⟨ocblk, odblk, .func (PySem.W.fnOf "blocks_of" "blocks_of" (defArgs sBlocks) (defBody sBlocks) (defScope sBlocks) .none kVblk dcblk pmblk anblk cdblk ctblk), slblk⟩)
    (cblk : PySem.W.codeIn K cdblk "blocks_of" = true)
    (kblk : PySem.W.keepIn K (.ref fblk) = true)
    (acan : PySem.W.nsIn K mainGlobals "can_stand" = some (some (.ref fcan)))
    (lcan : K.lookup fcan = some ⟨occan, odcan, .func (PySem.W.fnOf "can_stand" "can_stand" (defArgs sCan) (defBody sCan) (defScope sCan) .none kVcan dccan pmcan ancan cdcan ctcan), slcan⟩)
    (ccan : PySem.W.codeIn K cdcan "can_stand" = true)
    (kcan : PySem.W.keepIn K (.ref fcan) = true)
    (ahyi : PySem.W.nsIn K mainGlobals "has_yield" = some (some (.ref fhyi)))
    (lhyi : K.lookup fhyi = some ⟨ochyi, odhyi, .func (PySem.W.fnOf "has_yield" "has_yield" (defArgs sYield) (defBody sYield) (defScope sYield) .none kVhyi dchyi pmhyi anhyi cdhyi cthyi), slhyi⟩)
    (chyi : PySem.W.codeIn K cdhyi "has_yield" = true)
    (khyi : PySem.W.keepIn K (.ref fhyi) = true)
    (aknd : PySem.W.nsIn K mainGlobals "is_kind" = some (some (.ref fknd)))
    (lknd : K.lookup fknd = some ⟨ocknd, odknd, .func (PySem.W.fnOf "is_kind" "is_kind" (defArgs sKind) (defBody sKind) (defScope sKind) .none kVknd dcknd pmknd anknd cdknd ctknd), slknd⟩)
    (cknd : PySem.W.codeIn K cdknd "is_kind" = true)
    (kknd : PySem.W.keepIn K (.ref fknd) = true)
    (aprm : PySem.W.nsIn K mainGlobals "are_params" = some (some (.ref fprm)))
    (lprm : K.lookup fprm = some ⟨ocprm, odprm, .func (PySem.W.fnOf "are_params" "are_params" (defArgs sParams) (defBody sParams) (defScope sParams) .none kVprm dcprm pmprm anprm cdprm ctprm), slprm⟩)
    (cprm : PySem.W.codeIn K cdprm "are_params" = true)
    (kprm : PySem.W.keepIn K (.ref fprm) = true)
    (atrp : PySem.W.nsIn K mainGlobals "is_triple" = some (some (.ref ftrp)))
    (ltrp : K.lookup ftrp = some ⟨octrp, odtrp, .func (PySem.W.fnOf "is_triple" "is_triple" (defArgs sTriple) (defBody sTriple) (defScope sTriple) .none kVtrp dctrp pmtrp antrp cdtrp cttrp), sltrp⟩)
    (ctrp : PySem.W.codeIn K cdtrp "is_triple" = true)
    (ktrp : PySem.W.keepIn K (.ref ftrp) = true)
    (afpc : PySem.W.nsIn K mainGlobals "fault_of_pieces" = some (some (.ref ffpc)))
    (lfpc : K.lookup ffpc = some ⟨ocfpc, odfpc, .func (PySem.W.fnOf "fault_of_pieces" "fault_of_pieces" (defArgs sPieces) (defBody sPieces) (defScope sPieces) .none kVfpc dcfpc pmfpc anfpc cdfpc ctfpc), slfpc⟩)
    (cfpc : PySem.W.codeIn K cdfpc "fault_of_pieces" = true)
    (kfpc : PySem.W.keepIn K (.ref ffpc) = true)
    (aflt : PySem.W.nsIn K mainGlobals "fault_of" = some (some (.ref fflt)))
    (lflt : K.lookup fflt = some ⟨ocflt, odflt, .func (PySem.W.fnOf "fault_of" "fault_of" (defArgs sFaultOf) (defBody sFaultOf) (defScope sFaultOf) .none kVflt dcflt pmflt anflt cdflt ctflt), slflt⟩)
    (cflt : PySem.W.codeIn K cdflt "fault_of" = true)
    (kflt : PySem.W.keepIn K (.ref fflt) = true)
    (anee : PySem.W.nsIn K mainGlobals "need_book" = some (some (.ref fnee)))
    (lnee : K.lookup fnee = some ⟨ocnee, odnee, .func (PySem.W.fnOf "need_book" "need_book" (defArgs sNeed) (defBody sNeed) (defScope sNeed) .none kVnee dcnee pmnee annee cdnee ctnee), slnee⟩)
    (cnee : PySem.W.codeIn K cdnee "need_book" = true)
    (knee : PySem.W.keepIn K (.ref fnee) = true)
    (aisb : PySem.W.nsIn K mainGlobals "is_book" = some (some (.ref fisb)))
    (lisb : K.lookup fisb = some ⟨ocisb, odisb, .func (PySem.W.fnOf "is_book" "is_book" (defArgs sIsBook) (defBody sIsBook) (defScope sIsBook) .none kVisb dcisb pmisb anisb cdisb ctisb), slisb⟩)
    (cisb : PySem.W.codeIn K cdisb "is_book" = true)
    (kisb : PySem.W.keepIn K (.ref fisb) = true)
    (amix : PySem.W.nsIn K mainGlobals "_law_mixed" = some (some (.ref fmix)))
    (lmix : K.lookup fmix = some ⟨ocmix, odmix, .func (PySem.W.fnOf "_law_mixed" "_law_mixed" (defArgs SW.sMixed) (defBody SW.sMixed) (defScope SW.sMixed) .none kVmix dcmix pmmix anmix cdmix ctmix), slmix⟩)
    (cmix : PySem.W.codeIn K cdmix "_law_mixed" = true)
    (kmix : PySem.W.keepIn K (.ref fmix) = true)
    (abeg : PySem.W.nsIn K mainGlobals "_law_begin" = some (some (.ref fbeg)))
    (lbeg : K.lookup fbeg = some ⟨ocbeg, odbeg, .func (PySem.W.fnOf "_law_begin" "_law_begin" (defArgs SW.sBegin) (defBody SW.sBegin) (defScope SW.sBegin) .none kVbeg dcbeg pmbeg anbeg cdbeg ctbeg), slbeg⟩)
    (cbeg : PySem.W.codeIn K cdbeg "_law_begin" = true)
    (kbeg : PySem.W.keepIn K (.ref fbeg) = true)
    (adrw : PySem.W.nsIn K mainGlobals "_law_draw" = some (some (.ref fdrw)))
    (ldrw : K.lookup fdrw = some ⟨ocdrw, oddrw, .func (PySem.W.fnOf "_law_draw" "_law_draw" (defArgs SW.sDraw) (defBody SW.sDraw) (defScope SW.sDraw) .none kVdrw dcdrw pmdrw andrw cddrw ctdrw), sldrw⟩)
    (cdrw : PySem.W.codeIn K cddrw "_law_draw" = true)
    (kdrw : PySem.W.keepIn K (.ref fdrw) = true)
    (anam : PySem.W.nsIn K mainGlobals "_law_name" = some (some (.ref fnam)))
    (lnam : K.lookup fnam = some ⟨ocnam, odnam, .func (PySem.W.fnOf "_law_name" "_law_name" (defArgs SW.sName) (defBody SW.sName) (defScope SW.sName) .none kVnam dcnam pmnam annam cdnam ctnam), slnam⟩)
    (cnam : PySem.W.codeIn K cdnam "_law_name" = true)
    (knam : PySem.W.keepIn K (.ref fnam) = true)
    (anms : PySem.W.nsIn K mainGlobals "_law_names" = some (some (.ref fnms)))
    (lnms : K.lookup fnms = some ⟨ocnms, odnms, .func (PySem.W.fnOf "_law_names" "_law_names" (defArgs SW.sNames) (defBody SW.sNames) (defScope SW.sNames) .none kVnms dcnms pmnms annms cdnms ctnms), slnms⟩)
    (cnms : PySem.W.codeIn K cdnms "_law_names" = true)
    (knms : PySem.W.keepIn K (.ref fnms) = true)
    (adue : PySem.W.nsIn K mainGlobals "_law_due_right" = some (some (.ref fdue)))
    (ldue : K.lookup fdue = some ⟨ocdue, oddue, .func (PySem.W.fnOf "_law_due_right" "_law_due_right" (defArgs sDue) (defBody sDue) (defScope sDue) .none kVdue dcdue pmdue andue cddue ctdue), sldue⟩)
    (cdue : PySem.W.codeIn K cddue "_law_due_right" = true)
    (kdue : PySem.W.keepIn K (.ref fdue) = true)
    (awob : PySem.W.nsIn K mainGlobals "words_of_block" = some (some (.ref fwob)))
    (lwob : K.lookup fwob = some ⟨ocwob, odwob, .func (PySem.W.fnOf "words_of_block" "words_of_block" (defArgs sBw) (defBody sBw) (defScope sBw) .none kVwob dcwob pmwob anwob cdwob ctwob), slwob⟩)
    (cwob : PySem.W.codeIn K cdwob "words_of_block" = true)
    (kwob : PySem.W.keepIn K (.ref fwob) = true)
    (awop : PySem.W.nsIn K mainGlobals "words_of_part" = some (some (.ref fwop)))
    (lwop : K.lookup fwop = some ⟨ocwop, odwop, .func (PySem.W.fnOf "words_of_part" "words_of_part" (defArgs sPw) (defBody sPw) (defScope sPw) .none kVwop dcwop pmwop anwop cdwop ctwop), slwop⟩)
    (cwop : PySem.W.codeIn K cdwop "words_of_part" = true)
    (kwop : PySem.W.keepIn K (.ref fwop) = true)
    (awpi : PySem.W.nsIn K mainGlobals "words_of_piece" = some (some (.ref fwpi)))
    (lwpi : K.lookup fwpi = some ⟨ocwpi, odwpi, .func (PySem.W.fnOf "words_of_piece" "words_of_piece" (defArgs sPiece) (defBody sPiece) (defScope sPiece) .none kVwpi dcwpi pmwpi anwpi cdwpi ctwpi), slwpi⟩)
    (cwpi : PySem.W.codeIn K cdwpi "words_of_piece" = true)
    (kwpi : PySem.W.keepIn K (.ref fwpi) = true)
    (atxt : PySem.W.nsIn K mainGlobals "book_text" = some (some (.ref ftxt)))
    (ltxt : K.lookup ftxt = some ⟨octxt, odtxt, .func (PySem.W.fnOf "book_text" "book_text" (defArgs sText) (defBody sText) (defScope sText) .none kVtxt dctxt pmtxt antxt cdtxt cttxt), sltxt⟩)
    (ctxt : PySem.W.codeIn K cdtxt "book_text" = true)
    (ktxt : PySem.W.keepIn K (.ref ftxt) = true)
    (albk : PySem.W.nsIn K mainGlobals "_law_book" = some (some (.ref flbk)))
    (llbk : K.lookup flbk = some ⟨oclbk, odlbk, .func (PySem.W.fnOf "_law_book" "_law_book" (defArgs sLBook) (defBody sLBook) (defScope sLBook) .none kVlbk dclbk pmlbk anlbk cdlbk ctlbk), sllbk⟩)
    (clbk : PySem.W.codeIn K cdlbk "_law_book" = true)
    (klbk : PySem.W.keepIn K (.ref flbk) = true)
    (anst : PySem.W.nsIn K mainGlobals "_law_nested" = some (some (.ref fnst)))
    (lnst : K.lookup fnst = some ⟨ocnst, odnst, .func (PySem.W.fnOf "_law_nested" "_law_nested" (defArgs sNe) (defBody sNe) (defScope sNe) .none kVnst dcnst pmnst annst cdnst ctnst), slnst⟩)
    (cnst : PySem.W.codeIn K cdnst "_law_nested" = true)
    (knst : PySem.W.keepIn K (.ref fnst) = true)
    (adep : PySem.W.nsIn K mainGlobals "_law_depths" = some (some (.ref fdep)))
    (ldep : K.lookup fdep = some ⟨ocdep, oddep, .func (PySem.W.fnOf "_law_depths" "_law_depths" (defArgs sDe) (defBody sDe) (defScope sDe) .none kVdep dcdep pmdep andep cddep ctdep), sldep⟩)
    (cdep : PySem.W.codeIn K cddep "_law_depths" = true)
    (kdep : PySem.W.keepIn K (.ref fdep) = true)
    (acnt : PySem.W.nsIn K mainGlobals "_law_counts" = some (some (.ref fcnt)))
    (lcnt : K.lookup fcnt = some ⟨occnt, odcnt, .func (PySem.W.fnOf "_law_counts" "_law_counts" (defArgs sCo) (defBody sCo) (defScope sCo) .none kVcnt dccnt pmcnt ancnt cdcnt ctcnt), slcnt⟩)
    (ccnt : PySem.W.codeIn K cdcnt "_law_counts" = true)
    (kcnt : PySem.W.keepIn K (.ref fcnt) = true)
    (alet : PySem.W.nsIn K mainGlobals "_law_letters" = some (some (.ref flet)))
    (llet : K.lookup flet = some ⟨oclet, odlet, .func (PySem.W.fnOf "_law_letters" "_law_letters" (defArgs sLe) (defBody sLe) (defScope sLe) .none kVlet dclet pmlet anlet cdlet ctlet), sllet⟩)
    (clet : PySem.W.codeIn K cdlet "_law_letters" = true)
    (klet : PySem.W.keepIn K (.ref flet) = true)
    (aodd : PySem.W.nsIn K mainGlobals "_law_odd" = some (some (.ref fodd)))
    (lodd : K.lookup fodd = some ⟨ocodd, ododd, .func (PySem.W.fnOf "_law_odd" "_law_odd" (defArgs sOd) (defBody sOd) (defScope sOd) .none kVodd dcodd pmodd anodd cdodd ctodd), slodd⟩)
    (codd : PySem.W.codeIn K cdodd "_law_odd" = true)
    (kodd : PySem.W.keepIn K (.ref fodd) = true)
    (atwi : PySem.W.nsIn K mainGlobals "_law_twice" = some (some (.ref ftwi)))
    (ltwi : K.lookup ftwi = some ⟨octwi, odtwi, .func (PySem.W.fnOf "_law_twice" "_law_twice" (defArgs sTw) (defBody sTw) (defScope sTw) .none kVtwi dctwi pmtwi antwi cdtwi cttwi), sltwi⟩)
    (ctwi : PySem.W.codeIn K cdtwi "_law_twice" = true)
    (ktwi : PySem.W.keepIn K (.ref ftwi) = true)
    (atru : PySem.W.nsIn K mainGlobals "_law_truths" = some (some (.ref ftru)))
    (ltru : K.lookup ftru = some ⟨octru, odtru, .func (PySem.W.fnOf "_law_truths" "_law_truths" (defArgs sTt) (defBody sTt) (defScope sTt) .none kVtru dctru pmtru antru cdtru cttru), sltru⟩)
    (ctru : PySem.W.codeIn K cdtru "_law_truths" = true)
    (ktru : PySem.W.keepIn K (.ref ftru) = true)
    (atrt : PySem.W.nsIn K mainGlobals "_law_text_right" = some (some (.ref ftrt)))
    (ltrt : K.lookup ftrt = some ⟨octrt, odtrt, .func (PySem.W.fnOf "_law_text_right" "_law_text_right" (defArgs sTr) (defBody sTr) (defScope sTr) .none kVtrt dctrt pmtrt antrt cdtrt cttrt), sltrt⟩)
    (ctrt : PySem.W.codeIn K cdtrt "_law_text_right" = true)
    (ktrt : PySem.W.keepIn K (.ref ftrt) = true)
    (alaw : PySem.W.nsIn K mainGlobals "law" = some (some (.ref flaw)))
    (llaw : K.lookup flaw = some ⟨oclaw, odlaw, .func (PySem.W.fnOf "law" "law" (defArgs sLaw) (defBody sLaw) (defScope sLaw) .none kVlaw dclaw pmlaw anlaw cdlaw ctlaw), sllaw⟩)
    (claw : PySem.W.codeIn K cdlaw "law" = true)
    (klaw : PySem.W.keepIn K (.ref flaw) = true)
    (v_LETTERS : PySem.W.nsIn K mainGlobals "LETTERS" = some (some (.str "abcdefghijklmnopqrstuvwxyz" t_LETTERS)))
    (v_MOST_LETTERS : PySem.W.nsIn K mainGlobals "MOST_LETTERS" = some (some (.int 8 t_MOST_LETTERS)))
    (v_MOST_NUMBER : PySem.W.nsIn K mainGlobals "MOST_NUMBER" = some (some (.int 99 t_MOST_NUMBER)))
    (v_MOST_VALUE : PySem.W.nsIn K mainGlobals "MOST_VALUE" = some (some (.int 9999 t_MOST_VALUE)))
    (v_MOST_PIECES : PySem.W.nsIn K mainGlobals "MOST_PIECES" = some (some (.int 6 t_MOST_PIECES)))
    (v_MOST_VARS : PySem.W.nsIn K mainGlobals "MOST_VARS" = some (some (.int 3 t_MOST_VARS)))
    (v_MOST_PARAMS : PySem.W.nsIn K mainGlobals "MOST_PARAMS" = some (some (.int 2 t_MOST_PARAMS)))
    (v_MOST_STATEMENTS : PySem.W.nsIn K mainGlobals "MOST_STATEMENTS" = some (some (.int 16 t_MOST_STATEMENTS)))
    (v_MOST_AROUND : PySem.W.nsIn K mainGlobals "MOST_AROUND" = some (some (.int 4 t_MOST_AROUND)))
    (vKD : PySem.W.nsIn K mainGlobals "KINDS" = some (some (.ref aKD)))
    (lKD : K.lookup aKD = some ⟨.type "tuple", odKD, .seq #[.str "context" tKD1, .str "token" tKD2] nKD, slKD⟩)
    (vPP : PySem.W.nsIn K mainGlobals "PARTS" = some (some (.ref pP)))
    (lPP : K.lookup pP = some ⟨.type "dict", none, .dict es nP, #[]⟩)
    (litP : PySem.W.KeysLit w.params es.toList)
    (keyP : litKeys es.toList = true)
    (rfE : refsE es.toList = true)
    (ndE : decide ((es.toList.map keyE).Nodup) = true)
    (lnE : decide (es.toList.length ≤ 1000) = true)
    (lowP : (pP == sysModules) = false)
    (nP0 : PySem.W.nsIn K pP "set" = some (some (.ref p0)))
    (lP0 : K.lookup p0 = some ⟨.type "tuple", odp0, .seq #[.str "variable" q0_0, .str "source" q0_1] np0, slp0⟩)
    (nP1 : PySem.W.nsIn K pP "hold" = some (some (.ref p1)))
    (lP1 : K.lookup p1 = some ⟨.type "tuple", odp1, .seq #[.str "token" q1_0, .str "variable" q1_1, .str "source" q1_2] np1, slp1⟩)
    (nP2 : PySem.W.nsIn K pP "reset" = some (some (.ref p2)))
    (lP2 : K.lookup p2 = some ⟨.type "tuple", odp2, .seq #[.str "token" q2_0] np2, slp2⟩)
    (nP3 : PySem.W.nsIn K pP "drop" = some (some (.ref p3)))
    (lP3 : K.lookup p3 = some ⟨.type "tuple", odp3, .seq #[.str "variable" q3_0] np3, slp3⟩)
    (nP4 : PySem.W.nsIn K pP "show" = some (some (.ref p4)))
    (lP4 : K.lookup p4 = some ⟨.type "tuple", odp4, .seq #[.str "variable" q4_0] np4, slp4⟩)
    (nP5 : PySem.W.nsIn K pP "copy" = some (some (.ref p5)))
    (lP5 : K.lookup p5 = some ⟨.type "tuple", odp5, .seq #[.str "context" q5_0] np5, slp5⟩)
    (nP6 : PySem.W.nsIn K pP "within" = some (some (.ref p6)))
    (lP6 : K.lookup p6 = some ⟨.type "tuple", odp6, .seq #[.str "context" q6_0, .str "block" q6_1] np6, slp6⟩)
    (nP7 : PySem.W.nsIn K pP "if" = some (some (.ref p7)))
    (lP7 : K.lookup p7 = some ⟨.type "tuple", odp7, .seq #[.str "variable" q7_0, .str "integer" q7_1, .str "block" q7_2, .str "block" q7_3] np7, slp7⟩)
    (nP8 : PySem.W.nsIn K pP "with" = some (some (.ref p8)))
    (lP8 : K.lookup p8 = some ⟨.type "tuple", odp8, .seq #[.str "variable" q8_0, .str "source" q8_1, .str "block" q8_2] np8, slp8⟩)
    (nP9 : PySem.W.nsIn K pP "guard" = some (some (.ref p9)))
    (lP9 : K.lookup p9 = some ⟨.type "tuple", odp9, .seq #[.str "block" q9_0, .str "block" q9_1] np9, slp9⟩)
    (nP10 : PySem.W.nsIn K pP "loop" = some (some (.ref p10)))
    (lP10 : K.lookup p10 = some ⟨.type "tuple", odp10, .seq #[.str "block" q10_0] np10, slp10⟩)
    (nP11 : PySem.W.nsIn K pP "leave" = some (some (.ref p11)))
    (lP11 : K.lookup p11 = some ⟨.type "tuple", odp11, .seq #[] np11, slp11⟩)
    (nP12 : PySem.W.nsIn K pP "yield" = some (some (.ref p12)))
    (lP12 : K.lookup p12 = some ⟨.type "tuple", odp12, .seq #[] np12, slp12⟩)
    (nP13 : PySem.W.nsIn K pP "fail" = some (some (.ref p13)))
    (lP13 : K.lookup p13 = some ⟨.type "tuple", odp13, .seq #[] np13, slp13⟩)
    (pg : PySem.W.plainGet K C Str.empty = true)
    (hd : PySem.W.hasDictIn K C = true)
    (po : PySem.W.plainOver K C = true)
    (sa : PySem.W.findIn K (.ref C) "__setattr__" = some (some (.builtin "object.__setattr__")))
    (mk : PySem.W.makesIn K C = true)
    (kc : PySem.W.keepIn K (.ref C) = true)
    (nV : PySem.W.findIn K (.ref C) "variables" = some none)
    (nK : PySem.W.findIn K (.ref C) "kinds" = some none)
    (nM : PySem.W.findIn K (.ref C) "met" = some none)
    (xL : K.lookup CB = some (excClassObj nm q CB N bs bm true sn sub abb col dd m0 m1 m2 m3 m5 "ValueError.__new__"))
    (xV : HandSPX.refsVE bm = true)
    (saB : PySem.W.findIn K (.ref CB) "__setattr__" = some (some (.builtin "object.__setattr__")))
    (gaB : PySem.W.findIn K (.ref CB) "__getattribute__" = some (some (.builtin "BaseException.__getattribute__")))
    (ggB : PySem.W.findIn K (.ref CB) "__getattr__" = some none)
    (nbB : PySem.W.findIn K (.ref CB) "place" = some none)
    (tyI : PySem.W.typeIn K (.ref fbin) = some (.type "function"))
    (kB : PySem.W.keepIn K (.ref CB) = true)
    (eB : PySem.W.subIn K (.ref CB) (.type "BaseException") = some true)
    (tB : PySem.W.typeIn K (.ref CB) = some (.type "type"))
    (hB : PySem.W.hasDictIn K CB = true)
    (iB : PySem.W.isClsIn K CB = true)
    (hN : PySem.W.specialIn K (.builtin "object.__class__") "__get__" = some (some (.builtin "getset_descriptor.__get__")))
    (hT : PySem.W.takesIn K (.builtin "object.__class__") = some true)
    (hB1 : PySem.W.findIn K (.ref CB) "__class__" = some (some (.builtin "object.__class__")))
    (hB2 : PySem.W.mroIn K CB (.type "object") = some true)
    (exB : PySem.W.exmAny K (.ref CB) [.ref CB, .ref CP, .ref CQ, .ref CT] = some true)
    (k4B : PySem.W.kitAny K (.ref CB) [.ref CP, .ref CQ, .ref CT, .ref CF] = some false)
    (kBB : PySem.W.kitOne K (.ref CB) (.ref CB) = some true)
    (kBS : PySem.W.kitOne K (.ref CB) (.ref CS) = some true)
    (kBV : PySem.W.kitOne K (.ref CB) (.type "ValueError") = some true)
    (z_isinstance : PySem.W.nsIn K mainGlobals "isinstance" = some none)
    (z_str : PySem.W.nsIn K mainGlobals "str" = some none)
    (z_int : PySem.W.nsIn K mainGlobals "int" = some none)
    (z_bool : PySem.W.nsIn K mainGlobals "bool" = some none)
    (z_tuple : PySem.W.nsIn K mainGlobals "tuple" = some none)
    (z_len : PySem.W.nsIn K mainGlobals "len" = some none)
    (z_all : PySem.W.nsIn K mainGlobals "all" = some none)
    (z_set : PySem.W.nsIn K mainGlobals "set" = some none)
    (z_zip : PySem.W.nsIn K mainGlobals "zip" = some none)
    (z_list : PySem.W.nsIn K mainGlobals "list" = some none)
    (z_enumerate : PySem.W.nsIn K mainGlobals "enumerate" = some none)
    (z_repr : PySem.W.nsIn K mainGlobals "repr" = some none)
    (z_ValueError : PySem.W.nsIn K mainGlobals "ValueError" = some none)
    (z_range : PySem.W.nsIn K mainGlobals "range" = some none)
    (z_dict : PySem.W.nsIn K mainGlobals "dict" = some none) :
    ∃ (fd : FuncData), (∀ (s : Shared) (u : Value), BindsTo s fd ⟨[u], []⟩ [("script", u)]) ∧ ∀ base : Heap, K.In base → base.Ns mainGlobals mg → FnG P w K mg base 20 fa fd ["script"] (spLaw K) := by
  have e := hfa.symm.trans (PySem.W.mg_of X G alaw)
  cases e
  have m_isinstance := PySem.W.mg_none_of X G z_isinstance
  have m_str := PySem.W.mg_none_of X G z_str
  have m_int := PySem.W.mg_none_of X G z_int
  have m_bool := PySem.W.mg_none_of X G z_bool
  have m_tuple := PySem.W.mg_none_of X G z_tuple
  have m_len := PySem.W.mg_none_of X G z_len
  have m_all := PySem.W.mg_none_of X G z_all
  have m_set := PySem.W.mg_none_of X G z_set
  have m_zip := PySem.W.mg_none_of X G z_zip
  have m_list := PySem.W.mg_none_of X G z_list
  have m_enumerate := PySem.W.mg_none_of X G z_enumerate
  have m_repr := PySem.W.mg_none_of X G z_repr
  have m_ValueError := PySem.W.mg_none_of X G z_ValueError
  have m_range := PySem.W.mg_none_of X G z_range
  have m_dict := PySem.W.mg_none_of X G z_dict
  have gC := PySem.W.mg_of X G aC
  have gCB := PySem.W.mg_of X G aCB
  have gCP := PySem.W.mg_of X G aCP
  have gCQ := PySem.W.mg_of X G aCQ
  have gCT := PySem.W.mg_of X G aCT
  have gCF := PySem.W.mg_of X G aCF
  have gCS := PySem.W.mg_of X G aCS
  have gisn := PySem.W.mg_of X G aisn
  have Fisn := fun_mk (st := BK.sName) lisn cisn kisn
  have bisn := Fisn.binds (ps := ["thing"]) fun _ _ _ _ _ _ us hl => match us, hl with | [_], _ => rfl
  have garn := PySem.W.mg_of X G aarn
  have Farn := fun_mk (st := sAreNames) larn carn karn
  have barn := Farn.binds (ps := ["thing"]) fun _ _ _ _ _ _ us hl => match us, hl with | [_], _ => rfl
  have gitg := PySem.W.mg_of X G aitg
  have Fitg := fun_mk (st := sInteger) litg citg kitg
  have bitg := Fitg.binds (ps := ["thing"]) fun _ _ _ _ _ _ us hl => match us, hl with | [_], _ => rfl
  have gnum := PySem.W.mg_of X G anum
  have Fnum := fun_mk (st := sNumber) lnum cnum knum
  have bnum := Fnum.binds (ps := ["thing", "most"]) fun _ _ _ _ _ _ us hl => match us, hl with | [_, _], _ => rfl
  have gtup := PySem.W.mg_of X G atup
  have Ftup := fun_mk (st := sTuple) ltup ctup ktup
  have btup := Ftup.binds (ps := ["thing", "count"]) fun _ _ _ _ _ _ us hl => match us, hl with | [_, _], _ => rfl
  have gdif := PySem.W.mg_of X G adif
  have Fdif := fun_mk (st := sDiff) ldif cdif kdif
  have bdif := Fdif.binds (ps := ["things"]) fun _ _ _ _ _ _ us hl => match us, hl with | [_], _ => rfl
  have gprt := PySem.W.mg_of X G aprt
  have Fprt := fun_mk (st := sPart) lprt cprt kprt
  have bprt := Fprt.binds (ps := ["thing", "kind"]) fun _ _ _ _ _ _ us hl => match us, hl with | [_, _], _ => rfl
  have gwrd := PySem.W.mg_of X G awrd
  have Fwrd := fun_mk (st := sWord) lwrd cwrd kwrd
  have bwrd := Fwrd.binds (ps := ["thing"]) fun _ _ _ _ _ _ us hl => match us, hl with | [_], _ => rfl
  have gfit := PySem.W.mg_of X G afit
  have Ffit := fun_mk (st := sFits) lfit cfit kfit
  have bfit := Ffit.binds (ps := ["thing", "kinds"]) fun _ _ _ _ _ _ us hl => match us, hl with | [_, _], _ => rfl
  have gfrm := PySem.W.mg_of X G afrm
  have Ffrm := fun_mk (st := sForm) lfrm cfrm kfrm
  have bfrm := Ffrm.binds (ps := ["thing"]) fun _ _ _ _ _ _ us hl => match us, hl with | [_], _ => rfl
  have gpts := PySem.W.mg_of X G apts
  have Fpts := fun_mk (st := sParts) lpts cpts kpts
  have bpts := Fpts.binds (ps := ["statement"]) fun _ _ _ _ _ _ us hl => match us, hl with | [_], _ => rfl
  have gblk := PySem.W.mg_of X G ablk
  have Fblk := fun_mk (st := sBlocks) lblk cblk kblk
  have bblk := Fblk.binds (ps := ["statement"]) fun _ _ _ _ _ _ us hl => match us, hl with | [_], _ => rfl
  have gcan := PySem.W.mg_of X G acan
  have Fcan := fun_mk (st := sCan) lcan ccan kcan
  have bcan := Fcan.binds (ps := ["statement", "around"]) fun _ _ _ _ _ _ us hl => match us, hl with | [_, _], _ => rfl
  have ghyi := PySem.W.mg_of X G ahyi
  have Fhyi := fun_mk (st := sYield) lhyi chyi khyi
  have bhyi := Fhyi.binds (ps := ["block"]) fun _ _ _ _ _ _ us hl => match us, hl with | [_], _ => rfl
  have gknd := PySem.W.mg_of X G aknd
  have Fknd := fun_mk (st := sKind) lknd cknd kknd
  have bknd := Fknd.binds (ps := ["thing"]) fun _ _ _ _ _ _ us hl => match us, hl with | [_], _ => rfl
  have gprm := PySem.W.mg_of X G aprm
  have Fprm := fun_mk (st := sParams) lprm cprm kprm
  have bprm := Fprm.binds (ps := ["thing"]) fun _ _ _ _ _ _ us hl => match us, hl with | [_], _ => rfl
  have gtrp := PySem.W.mg_of X G atrp
  have Ftrp := fun_mk (st := sTriple) ltrp ctrp ktrp
  have btrp := Ftrp.binds (ps := ["thing"]) fun _ _ _ _ _ _ us hl => match us, hl with | [_], _ => rfl
  have gfpc := PySem.W.mg_of X G afpc
  have Ffpc := fun_mk (st := sPieces) lfpc cfpc kfpc
  have bfpc := Ffpc.binds (ps := ["variables", "pieces"]) fun _ _ _ _ _ _ us hl => match us, hl with | [_, _], _ => rfl
  have gflt := PySem.W.mg_of X G aflt
  have Fflt := fun_mk (st := sFaultOf) lflt cflt kflt
  have bflt := Fflt.binds (ps := ["thing"]) fun _ _ _ _ _ _ us hl => match us, hl with | [_], _ => rfl
  have gnee := PySem.W.mg_of X G anee
  have Fnee := fun_mk (st := sNeed) lnee cnee knee
  have bnee := Fnee.binds (ps := ["thing"]) fun _ _ _ _ _ _ us hl => match us, hl with | [_], _ => rfl
  have gisb := PySem.W.mg_of X G aisb
  have Fisb := fun_mk (st := sIsBook) lisb cisb kisb
  have bisb := Fisb.binds (ps := ["thing"]) fun _ _ _ _ _ _ us hl => match us, hl with | [_], _ => rfl
  have gmix := PySem.W.mg_of X G amix
  have Fmix := fun_mk (st := SW.sMixed) lmix cmix kmix
  have bmix := Fmix.binds (ps := ["cell", "k"]) fun _ _ _ _ _ _ us hl => match us, hl with | [_, _], _ => rfl
  have gbeg := PySem.W.mg_of X G abeg
  have Fbeg := fun_mk (st := SW.sBegin) lbeg cbeg kbeg
  have bbeg := Fbeg.binds (ps := ["script"]) fun _ _ _ _ _ _ us hl => match us, hl with | [_], _ => rfl
  have gdrw := PySem.W.mg_of X G adrw
  have Fdrw := fun_mk (st := SW.sDraw) ldrw cdrw kdrw
  have bdrw := Fdrw.binds (ps := ["state", "many"]) fun _ _ _ _ _ _ us hl => match us, hl with | [_, _], _ => rfl
  have gnam := PySem.W.mg_of X G anam
  have Fnam := fun_mk (st := SW.sName) lnam cnam knam
  have bnam := Fnam.binds (ps := ["state"]) fun _ _ _ _ _ _ us hl => match us, hl with | [_], _ => rfl
  have gnms := PySem.W.mg_of X G anms
  have Fnms := fun_mk (st := SW.sNames) lnms cnms knms
  have bnms := Fnms.binds (ps := ["state", "many"]) fun _ _ _ _ _ _ us hl => match us, hl with | [_, _], _ => rfl
  have gdue := PySem.W.mg_of X G adue
  have bdue : Binds K (PySem.W.fnOf "_law_due_right" "_law_due_right" (defArgs sDue) (defBody sDue) (defScope sDue) .none kVdue dcdue pmdue andue cddue ctdue) ["thing", "place"] [] := .all fun us hl => match us, hl with | [_, _], _ => rfl
  have gwob := PySem.W.mg_of X G awob
  have Fwob := fun_mk (st := sBw) lwob cwob kwob
  have bwob := Fwob.binds (ps := ["block", "forms"]) fun _ _ _ _ _ _ us hl => match us, hl with | [_, _], _ => rfl
  have gwop := PySem.W.mg_of X G awop
  have Fwop := fun_mk (st := sPw) lwop cwop kwop
  have bwop := Fwop.binds (ps := ["part", "kind", "forms"]) fun _ _ _ _ _ _ us hl => match us, hl with | [_, _, _], _ => rfl
  have gwpi := PySem.W.mg_of X G awpi
  have Fwpi := fun_mk (st := sPiece) lwpi cwpi kwpi
  have bwpi := Fwpi.binds (ps := ["piece"]) fun _ _ _ _ _ _ us hl => match us, hl with | [_], _ => rfl
  have gtxt := PySem.W.mg_of X G atxt
  have Ftxt := fun_mk (st := sText) ltxt ctxt ktxt
  have btxt := Ftxt.binds (ps := ["book"]) fun _ _ _ _ _ _ us hl => match us, hl with | [_], _ => rfl
  have glbk := PySem.W.mg_of X G albk
  have Flbk := fun_mk (st := sLBook) llbk clbk klbk
  have blbk := Flbk.binds (ps := ["x", "name", "block"]) fun _ _ _ _ _ _ us hl => match us, hl with | [_, _, _], _ => rfl
  have gnst := PySem.W.mg_of X G anst
  have Fnst := fun_mk (st := sNe) lnst cnst knst
  have bnst := Fnst.binds (ps := ["x", "kinds", "one"]) fun _ _ _ _ _ _ us hl => match us, hl with | [_, _, _], _ => rfl
  have gdep := PySem.W.mg_of X G adep
  have Fdep := fun_mk (st := sDe) ldep cdep kdep
  have bdep := Fdep.binds (ps := ["state", "x", "name"]) fun _ _ _ _ _ _ us hl => match us, hl with | [_, _, _], _ => rfl
  have gcnt := PySem.W.mg_of X G acnt
  have Fcnt := fun_mk (st := sCo) lcnt ccnt kcnt
  have bcnt := Fcnt.binds (ps := ["x", "name", "names"]) fun _ _ _ _ _ _ us hl => match us, hl with | [_, _, _], _ => rfl
  have glet := PySem.W.mg_of X G alet
  have Flet := fun_mk (st := sLe) llet clet klet
  have blet := Flet.binds (ps := ["x", "name"]) fun _ _ _ _ _ _ us hl => match us, hl with | [_, _], _ => rfl
  have godd := PySem.W.mg_of X G aodd
  have Fodd := fun_mk (st := sOd) lodd codd kodd
  have bodd := Fodd.binds (ps := ["x", "name"]) fun _ _ _ _ _ _ us hl => match us, hl with | [_, _], _ => rfl
  have gtwi := PySem.W.mg_of X G atwi
  have Ftwi := fun_mk (st := sTw) ltwi ctwi ktwi
  have btwi := Ftwi.binds (ps := ["x", "name", "far"]) fun _ _ _ _ _ _ us hl => match us, hl with | [_, _, _], _ => rfl
  have gtru := PySem.W.mg_of X G atru
  have Ftru := fun_mk (st := sTt) ltru ctru ktru
  have btru := Ftru.binds (ps := ["x", "name", "far"]) fun _ _ _ _ _ _ us hl => match us, hl with | [_, _, _], _ => rfl
  have gtrt := PySem.W.mg_of X G atrt
  have btrt : Binds K (PySem.W.fnOf "_law_text_right" "_law_text_right" (defArgs sTr) (defBody sTr) (defScope sTr) .none kVtrt dctrt pmtrt antrt cdtrt cttrt) ["thing", "place"] [] := .all fun us hl => match us, hl with | [_, _], _ => rfl
  have glaw := PySem.W.mg_of X G alaw
  have blaw : Binds K (PySem.W.fnOf "law" "law" (defArgs sLaw) (defBody sLaw) (defScope sLaw) .none kVlaw dclaw pmlaw anlaw cdlaw ctlaw) ["script"] [] := .all fun us hl => match us, hl with | [_], _ => rfl
  have Fcin := fun_mk (st := sCInit) lcin ccin kcin
  have bcin := Fcin.binds (ps := ["self", "variables", "params"]) fun _ _ _ _ _ _ us hl => match us, hl with | [_, _, _], _ => rfl
  have Ftak := fun_mk (st := sTakes) ltak ctak ktak
  have btak := Ftak.binds (ps := ["self", "statement", "around"]) fun _ _ _ _ _ _ us hl => match us, hl with | [_, _, _], _ => rfl
  have Fknw := fun_mk (st := sKnows) lknw cknw kknw
  have bknw := Fknw.binds (ps := ["self", "statement"]) fun _ _ _ _ _ _ us hl => match us, hl with | [_, _], _ => rfl
  have Ffin := fun_mk (st := sFault) lfin cfin kfin
  have bfin := Ffin.binds (ps := ["self", "block", "way", "around"]) fun _ _ _ _ _ _ us hl => match us, hl with | [_, _, _, _], _ => rfl
  have Fbin := fun_mk (st := sBadInit) lbin cbin kbin
  have bbin := Fbin.binds (ps := ["self", "place"]) fun _ _ _ _ _ _ us hl => match us, hl with | [_, _], _ => rfl
  have T : Forms mg := ⟨⟨_, PySem.W.mg_of X G v_LETTERS⟩, ⟨_, PySem.W.mg_of X G v_MOST_LETTERS⟩, ⟨_, PySem.W.mg_of X G v_MOST_NUMBER⟩, m_isinstance, m_str, m_int, m_bool, m_tuple, m_len, m_all⟩
  have Kd : BK.Kinds K mg := ⟨⟨aKD, PySem.W.mg_of X G vKD, fun H => .inr ⟨_, _, _, lKD, rfl, rfl, sz4 (Nat.le_of_ble_eq_true rfl), .cons ⟨_, rfl⟩ (.cons ⟨_, rfl⟩ .nil)⟩⟩, ⟨_, PySem.W.mg_of X G v_MOST_PARAMS⟩⟩
  have Mo : BK.Most mg := ⟨⟨_, PySem.W.mg_of X G v_MOST_STATEMENTS⟩, ⟨_, PySem.W.mg_of X G v_MOST_AROUND⟩⟩
  have Mb : MostB mg := ⟨⟨_, PySem.W.mg_of X G v_MOST_PIECES⟩, ⟨_, PySem.W.mg_of X G v_MOST_VARS⟩⟩
  have D : PartsD K mg w pP es nP :=
    { d := ⟨lPP, litP, lowP⟩, g := PySem.W.mg_of X G vPP, no := no_of lPP keyP,
      at_ := fun x ks e => by
        have m := kinds_mem e
        simp only [kindTab, List.mem_cons, List.not_mem_nil, or_false, Prod.mk.injEq] at m
        rcases m with ⟨rfl, rfl⟩ | ⟨rfl, rfl⟩ | ⟨rfl, rfl⟩ | ⟨rfl, rfl⟩ | ⟨rfl, rfl⟩ | ⟨rfl, rfl⟩ | ⟨rfl, rfl⟩ | ⟨rfl, rfl⟩ | ⟨rfl, rfl⟩ | ⟨rfl, rfl⟩ | ⟨rfl, rfl⟩ | ⟨rfl, rfl⟩ | ⟨rfl, rfl⟩ | ⟨rfl, rfl⟩
        · exact ⟨p0, nP0, fun H => .inr ⟨_, _, _, lP0, rfl, rfl, sz4 (Nat.le_of_ble_eq_true rfl), (.cons ⟨_, rfl⟩ (.cons ⟨_, rfl⟩ .nil))⟩⟩
        · exact ⟨p1, nP1, fun H => .inr ⟨_, _, _, lP1, rfl, rfl, sz4 (Nat.le_of_ble_eq_true rfl), (.cons ⟨_, rfl⟩ (.cons ⟨_, rfl⟩ (.cons ⟨_, rfl⟩ .nil)))⟩⟩
        · exact ⟨p2, nP2, fun H => .inr ⟨_, _, _, lP2, rfl, rfl, sz4 (Nat.le_of_ble_eq_true rfl), (.cons ⟨_, rfl⟩ .nil)⟩⟩
        · exact ⟨p3, nP3, fun H => .inr ⟨_, _, _, lP3, rfl, rfl, sz4 (Nat.le_of_ble_eq_true rfl), (.cons ⟨_, rfl⟩ .nil)⟩⟩
        · exact ⟨p4, nP4, fun H => .inr ⟨_, _, _, lP4, rfl, rfl, sz4 (Nat.le_of_ble_eq_true rfl), (.cons ⟨_, rfl⟩ .nil)⟩⟩
        · exact ⟨p5, nP5, fun H => .inr ⟨_, _, _, lP5, rfl, rfl, sz4 (Nat.le_of_ble_eq_true rfl), (.cons ⟨_, rfl⟩ .nil)⟩⟩
        · exact ⟨p6, nP6, fun H => .inr ⟨_, _, _, lP6, rfl, rfl, sz4 (Nat.le_of_ble_eq_true rfl), (.cons ⟨_, rfl⟩ (.cons ⟨_, rfl⟩ .nil))⟩⟩
        · exact ⟨p7, nP7, fun H => .inr ⟨_, _, _, lP7, rfl, rfl, sz4 (Nat.le_of_ble_eq_true rfl), (.cons ⟨_, rfl⟩ (.cons ⟨_, rfl⟩ (.cons ⟨_, rfl⟩ (.cons ⟨_, rfl⟩ .nil))))⟩⟩
        · exact ⟨p8, nP8, fun H => .inr ⟨_, _, _, lP8, rfl, rfl, sz4 (Nat.le_of_ble_eq_true rfl), (.cons ⟨_, rfl⟩ (.cons ⟨_, rfl⟩ (.cons ⟨_, rfl⟩ .nil)))⟩⟩
        · exact ⟨p9, nP9, fun H => .inr ⟨_, _, _, lP9, rfl, rfl, sz4 (Nat.le_of_ble_eq_true rfl), (.cons ⟨_, rfl⟩ (.cons ⟨_, rfl⟩ .nil))⟩⟩
        · exact ⟨p10, nP10, fun H => .inr ⟨_, _, _, lP10, rfl, rfl, sz4 (Nat.le_of_ble_eq_true rfl), (.cons ⟨_, rfl⟩ .nil)⟩⟩
        · exact ⟨p11, nP11, fun H => .inr ⟨_, _, _, lP11, rfl, rfl, sz4 (Nat.le_of_ble_eq_true rfl), .nil⟩⟩
        · exact ⟨p12, nP12, fun H => .inr ⟨_, _, _, lP12, rfl, rfl, sz4 (Nat.le_of_ble_eq_true rfl), .nil⟩⟩
        · exact ⟨p13, nP13, fun H => .inr ⟨_, _, _, lP13, rfl, rfl, sz4 (Nat.le_of_ble_eq_true rfl), .nil⟩⟩ }
  have Tx : TxK K mg C := ⟨⟨pg, hd, po, sa⟩, nV, nK, nM, gC⟩
  have M : Mk K C fcin := ⟨mk, acin, icin, kc⟩
  have Mt : Meth K C "takes" ftak := ⟨atak, itak, ktak⟩
  have Mn : Meth K C "knows" fknw := ⟨aknw, iknw, kknw⟩
  have Mf : Meth K C "fault_in" ffin := ⟨afin, ifin, kfin⟩
  have Ox : OexC K CB := ⟨⟨nm, q, N, bs, bm, sn, sub, abb, col, dd, m0, m1, m2, m3, m5, xL, xV⟩, saB, eB, tB, kB⟩
  have Ef : ErrF K CB := ⟨gaB, ggB, eB, hB, nbB⟩
  have Is : IsFacts K CB := ⟨iB, hB1, hN, hT, hB2⟩
  have Er : Errs K mg CB CP CQ CT CF CS := ⟨gCB, gCP, gCQ, gCT, gCF, gCS, exB, k4B, kBB, kBS, kBV⟩
  refine ⟨(PySem.W.fnOf "law" "law" (defArgs sLaw) (defBody sLaw) (defScope sLaw) .none kVlaw dclaw pmlaw anlaw cdlaw ctlaw), fun s u => .of_eq rfl, fun base _ _ => ?_⟩
  have Gisn := BK.ok_name (P := P) (w := w) (base := base) (mg := mg) Fisn T
  have Garn := ok_areNames (P := P) (w := w) (base := base) (mg := mg) Farn T Gisn bisn gisn kisn
  have Gitg := ok_integer (P := P) (w := w) (base := base) (mg := mg) Fitg T
  have Gnum := ok_number (P := P) (w := w) (base := base) (mg := mg) Fnum Gitg bitg gitg kitg
  have Gtup := ok_tuple (P := P) (w := w) (base := base) (mg := mg) Ftup T
  have Gdif := ok_diff (P := P) (w := w) (base := base) (mg := mg) Fdif T m_set Gisn bisn gisn kisn
  have Gprt := ok_part (P := P) (w := w) (base := base) (mg := mg) Fprt T ⟨_, PySem.W.mg_of X G v_MOST_VALUE⟩ Gisn bisn gisn kisn Gnum bnum gnum knum Garn barn garn karn
  have Gwrd := ok_word (P := P) (w := w) (base := base) (mg := mg) Fwrd T
  have Gfit := ok_fits (P := P) (w := w) (base := base) (mg := mg) Ffit T m_zip Gprt bprt gprt kprt
  have Gfrm := ok_form (P := P) (w := w) (base := base) (mg := mg) Ffrm D Gwrd bwrd gwrd kwrd Gfit bfit gfit kfit
  have Gpts := ok_parts (P := P) (w := w) (base := base) (mg := mg) Fpts D.parts m_list m_zip
  have Gblk := ok_blocks (P := P) (w := w) (base := base) (mg := mg) Fblk T
  have Ghyi := ok_yield (P := P) (w := w) (base := base) (mg := mg) Fhyi Gfrm bfrm gfrm kfrm
  have Gcan := ok_can (P := P) (w := w) (base := base) (mg := mg) Fcan Ghyi bhyi ghyi khyi
  have Gknd := ok_kind (P := P) (w := w) (base := base) (mg := mg) Fknd T Kd
  have Gprm := ok_params (P := P) (w := w) (base := base) (mg := mg) Fprm T Kd Gtup btup gtup ktup Gknd bknd gknd kknd Gdif bdif gdif kdif
  have Gtrp := ok_triple (P := P) (w := w) (base := base) (mg := mg) Ftrp T Gtup btup gtup ktup Gisn bisn gisn kisn Gprm bprm gprm kprm
  have Gcin := ok_cinit (P := P) (w := w) (base := base) (mg := mg) Fcin Tx
  have Gknw := ok_knows (P := P) (w := w) (base := base) (mg := mg) Fknw T Kd Tx Gpts bpts gpts kpts
  have Gtak := ok_takes (P := P) (w := w) (base := base) (mg := mg) Ftak T Mo Tx Gfrm bfrm gfrm kfrm Gknw bknw Mn Gcan bcan gcan kcan
  have Gfin := ok_fault (P := P) (w := w) (base := base) (mg := mg) Ffin Tx m_enumerate Gtak btak Mt Gblk bblk gblk kblk bfin Mf 5
  have Gfpc := ok_pieces (P := P) (w := w) (base := base) (mg := mg) Ffpc Tx m_enumerate Gtrp btrp gtrp ktrp M Gcin bcin Gfin bfin Mf
  have Gflt := ok_faultOf (P := P) (w := w) (base := base) (mg := mg) Fflt T Mb Gtup btup gtup ktup Gdif bdif gdif kdif Gfpc bfpc gfpc kfpc
  have Gisb := ok_isBook (P := P) (w := w) (base := base) (mg := mg) Fisb Gflt bflt gflt kflt
  have Gbin := ok_badInit (P := P) (w := w) (base := base) (mg := mg) Fbin Ox nbB
  have Gnee := ok_need (P := P) (w := w) (base := base) (mg := mg) Fnee Gflt bflt gflt kflt Ox gCB abin tyI Gbin bbin
  have Gdue := ok_due (P := P) (w := w) (base := base) (mg := mg) ldue cdue Er Ef Is Gnee bnee gnee knee Gisb bisb gisb kisb m_repr m_isinstance m_ValueError
  have Gmix := ok_mixed (P := P) (w := w) (base := base) (mg := mg) Fmix m_int
  have Gbeg := ok_begin (P := P) (w := w) (base := base) (mg := mg) Fbeg m_list
  have Gdrw := ok_draw (P := P) (w := w) (base := base) (mg := mg) Fdrw Gmix bmix gmix kmix m_int m_len
  have Gnam := SW.ok_name (P := P) (w := w) (base := base) (mg := mg) Fnam Gdrw bdrw gdrw kdrw m_range
  have Gnms := ok_names (P := P) (w := w) (base := base) (mg := mg) Fnms Gnam bnam gnam knam m_range m_len
  have Gwob := (ok_words (P := P) (w := w) (base := base) (mg := mg) Fwob Fwop m_enumerate m_zip m_list m_str bwop gwop kwop bwob gwob kwob 5).1
  have Gwpi := ok_piece (P := P) (w := w) (base := base) (mg := mg) Fwpi D ⟨rfE, of_decide_eq_true ndE, of_decide_eq_true lnE⟩ m_dict Gwob bwob gwob kwob
  have Gtxt := ok_text (P := P) (w := w) (base := base) (mg := mg) Ftxt Gnee bnee gnee knee Gwpi bwpi gwpi kwpi
  have Gtrt := ok_tr (P := P) (w := w) (base := base) (mg := mg) ltrt ctrt Er Ef Is Gtxt btxt gtxt ktxt m_repr m_isinstance
  have Glbk := ok_lbook (P := P) (w := w) (base := base) (mg := mg) Flbk
  have Gnst := ok_nested (P := P) (w := w) (base := base) (mg := mg) Fnst
  have Gdep := ok_depths (P := P) (w := w) (base := base) (mg := mg) Fdep Gdrw bdrw gdrw kdrw Gnst bnst gnst knst Glbk blbk glbk klbk m_range
  have Gcnt := ok_counts (P := P) (w := w) (base := base) (mg := mg) Fcnt m_tuple Glbk blbk glbk klbk
  have Glet := ok_letters (P := P) (w := w) (base := base) (mg := mg) Flet Glbk blbk glbk klbk
  have Godd := ok_oddL (P := P) (w := w) (base := base) (mg := mg) Fodd m_range m_isinstance m_tuple Glbk blbk glbk klbk
  have Gtwi := ok_twice (P := P) (w := w) (base := base) (mg := mg) Ftwi Glbk blbk glbk klbk
  have Gtru := ok_truths (P := P) (w := w) (base := base) (mg := mg) Ftru m_range Glbk blbk glbk klbk
  exact ok_law (P := P) (w := w) (base := base) (mg := mg) llaw claw Gbeg bbeg gbeg kbeg Gnam bnam gnam knam Gnms bnms gnms knms Gdep bdep gdep kdep Gcnt bcnt gcnt kcnt Glet blet glet klet Gtru btru gtru ktru Gtrt btrt gtrt ktrt Gdue bdue gdue kdue Gtwi btwi gtwi ktwi Godd bodd godd kodd
end BK

set_option Elab.async false
open PySem PySem.W PyProof.Rows
set_option maxRecDepth 100000 in
set_option maxHeartbeats 0 in
theorem PySem.Challenge.cw_stepwhere_k07_whole_books_at_their_bound_holds : PySem.Challenge.rw_stepwhere_k07_whole_books_at_their_bound.Holds := by
  w_on; o_law; k_head; (case hw => w_witness2)
  k_fill
  refine BK.walkG (l := PySem.Challenge.rw_stepwhere_k07_whole_books_at_their_bound) rfl rfl (fun w h Y => PySem.W.kIn_of Y) ?F
  case F =>
    intro w mg fa h KX G hmg
    refine' BK.all_mk KX G hmg ?aC ?aCB ?aCP ?aCQ ?aCT ?aCF ?aCS ?acin ?icin ?lcin ?ccin ?kcin ?atak ?itak ?ltak ?ctak ?ktak ?aknw ?iknw ?lknw ?cknw ?kknw ?afin ?ifin ?lfin ?cfin ?kfin ?abin ?ibin ?lbin ?cbin ?kbin ?aisn ?lisn ?cisn ?kisn ?aarn ?larn ?carn ?karn ?aitg ?litg ?citg ?kitg ?anum ?lnum ?cnum ?knum ?atup ?ltup ?ctup ?ktup ?adif ?ldif ?cdif ?kdif ?aprt ?lprt ?cprt ?kprt ?awrd ?lwrd ?cwrd ?kwrd ?afit ?lfit ?cfit ?kfit ?afrm ?lfrm ?cfrm ?kfrm ?apts ?lpts ?cpts ?kpts ?ablk ?lblk ?cblk ?kblk ?acan ?lcan ?ccan ?kcan ?ahyi ?lhyi ?chyi ?khyi ?aknd ?lknd ?cknd ?kknd ?aprm ?lprm ?cprm ?kprm ?atrp ?ltrp ?ctrp ?ktrp ?afpc ?lfpc ?cfpc ?kfpc ?aflt ?lflt ?cflt ?kflt ?anee ?lnee ?cnee ?knee ?aisb ?lisb ?cisb ?kisb ?amix ?lmix ?cmix ?kmix ?abeg ?lbeg ?cbeg ?kbeg ?adrw ?ldrw ?cdrw ?kdrw ?anam ?lnam ?cnam ?knam ?anms ?lnms ?cnms ?knms ?adue ?ldue ?cdue ?kdue ?awob ?lwob ?cwob ?kwob ?awop ?lwop ?cwop ?kwop ?awpi ?lwpi ?cwpi ?kwpi ?atxt ?ltxt ?ctxt ?ktxt ?albk ?llbk ?clbk ?klbk ?anst ?lnst ?cnst ?knst ?adep ?ldep ?cdep ?kdep ?acnt ?lcnt ?ccnt ?kcnt ?alet ?llet ?clet ?klet ?aodd ?lodd ?codd ?kodd ?atwi ?ltwi ?ctwi ?ktwi ?atru ?ltru ?ctru ?ktru ?atrt ?ltrt ?ctrt ?ktrt ?alaw ?llaw ?claw ?klaw ?v_LETTERS ?v_MOST_LETTERS ?v_MOST_NUMBER ?v_MOST_VALUE ?v_MOST_PIECES ?v_MOST_VARS ?v_MOST_PARAMS ?v_MOST_STATEMENTS ?v_MOST_AROUND ?vKD ?lKD ?vPP ?lPP ?litP ?keyP ?rfE ?ndE ?lnE ?lowP ?nP0 ?lP0 ?nP1 ?lP1 ?nP2 ?lP2 ?nP3 ?lP3 ?nP4 ?lP4 ?nP5 ?lP5 ?nP6 ?lP6 ?nP7 ?lP7 ?nP8 ?lP8 ?nP9 ?lP9 ?nP10 ?lP10 ?nP11 ?lP11 ?nP12 ?lP12 ?nP13 ?lP13 ?pg ?hd ?po ?sa ?mk ?kc ?nV ?nK ?nM ?xL ?xV ?saB ?gaB ?ggB ?nbB ?tyI ?kB ?eB ?tB ?hB ?iB ?hN ?hT ?hB1 ?hB2 ?exB ?k4B ?kBB ?kBS ?kBV ?z_isinstance ?z_str ?z_int ?z_bool ?z_tuple ?z_len ?z_all ?z_set ?z_zip ?z_list ?z_enumerate ?z_repr ?z_ValueError ?z_range ?z_dict
    (case aC => k_is); (case aCB => k_is); (case aCP => k_is); (case aCQ => k_is); (case aCT => k_is); (case aCF => k_is)
    (case aCS => k_is); (case acin => k_is); (case icin => k_is); (case lcin => k_is); (case ccin => k_is); (case kcin => k_is)
    (case atak => k_is); (case itak => k_is); (case ltak => k_is); (case ctak => k_is); (case ktak => k_is); (case aknw => k_is)
    (case iknw => k_is); (case lknw => k_is); (case cknw => k_is); (case kknw => k_is); (case afin => k_is); (case ifin => k_is)
    (case lfin => k_is); (case cfin => k_is); (case kfin => k_is); (case abin => k_is); (case ibin => k_is); (case lbin => k_is)
    (case cbin => k_is); (case kbin => k_is); (case aisn => k_is); (case lisn => k_is); (case cisn => k_is); (case kisn => k_is)
    (case aarn => k_is); (case larn => k_is); (case carn => k_is); (case karn => k_is); (case aitg => k_is); (case litg => k_is)
    (case citg => k_is); (case kitg => k_is); (case anum => k_is); (case lnum => k_is); (case cnum => k_is); (case knum => k_is)
    (case atup => k_is); (case ltup => k_is); (case ctup => k_is); (case ktup => k_is); (case adif => k_is); (case ldif => k_is)
    (case cdif => k_is); (case kdif => k_is); (case aprt => k_is); (case lprt => k_is); (case cprt => k_is); (case kprt => k_is)
    (case awrd => k_is); (case lwrd => k_is); (case cwrd => k_is); (case kwrd => k_is); (case afit => k_is); (case lfit => k_is)
    (case cfit => k_is); (case kfit => k_is); (case afrm => k_is); (case lfrm => k_is); (case cfrm => k_is); (case kfrm => k_is)
    (case apts => k_is); (case lpts => k_is); (case cpts => k_is); (case kpts => k_is); (case ablk => k_is); (case lblk => k_is)
    (case cblk => k_is); (case kblk => k_is); (case acan => k_is); (case lcan => k_is); (case ccan => k_is); (case kcan => k_is)
    (case ahyi => k_is); (case lhyi => k_is); (case chyi => k_is); (case khyi => k_is); (case aknd => k_is); (case lknd => k_is)
    (case cknd => k_is); (case kknd => k_is); (case aprm => k_is); (case lprm => k_is); (case cprm => k_is); (case kprm => k_is)
    (case atrp => k_is); (case ltrp => k_is); (case ctrp => k_is); (case ktrp => k_is); (case afpc => k_is); (case lfpc => k_is)
    (case cfpc => k_is); (case kfpc => k_is); (case aflt => k_is); (case lflt => k_is); (case cflt => k_is); (case kflt => k_is)
    (case anee => k_is); (case lnee => k_is); (case cnee => k_is); (case knee => k_is); (case aisb => k_is); (case lisb => k_is)
    (case cisb => k_is); (case kisb => k_is); (case amix => k_is); (case lmix => k_is); (case cmix => k_is); (case kmix => k_is)
    (case abeg => k_is); (case lbeg => k_is); (case cbeg => k_is); (case kbeg => k_is); (case adrw => k_is); (case ldrw => k_is)
    (case cdrw => k_is); (case kdrw => k_is); (case anam => k_is); (case lnam => k_is); (case cnam => k_is); (case knam => k_is)
    (case anms => k_is); (case lnms => k_is); (case cnms => k_is); (case knms => k_is); (case adue => k_is); (case ldue => k_is)
    (case cdue => k_is); (case kdue => k_is); (case awob => k_is); (case lwob => k_is); (case cwob => k_is); (case kwob => k_is)
    (case awop => k_is); (case lwop => k_is); (case cwop => k_is); (case kwop => k_is); (case awpi => k_is); (case lwpi => k_is)
    (case cwpi => k_is); (case kwpi => k_is); (case atxt => k_is); (case ltxt => k_is); (case ctxt => k_is); (case ktxt => k_is)
    (case albk => k_is); (case llbk => k_is); (case clbk => k_is); (case klbk => k_is); (case anst => k_is); (case lnst => k_is)
    (case cnst => k_is); (case knst => k_is); (case adep => k_is); (case ldep => k_is); (case cdep => k_is); (case kdep => k_is)
    (case acnt => k_is); (case lcnt => k_is); (case ccnt => k_is); (case kcnt => k_is); (case alet => k_is); (case llet => k_is)
    (case clet => k_is); (case klet => k_is); (case aodd => k_is); (case lodd => k_is); (case codd => k_is); (case kodd => k_is)
    (case atwi => k_is); (case ltwi => k_is); (case ctwi => k_is); (case ktwi => k_is); (case atru => k_is); (case ltru => k_is)
    (case ctru => k_is); (case ktru => k_is); (case atrt => k_is); (case ltrt => k_is); (case ctrt => k_is); (case ktrt => k_is)
    (case alaw => k_is); (case llaw => k_is); (case claw => k_is); (case klaw => k_is); (case v_LETTERS => k_is); (case v_MOST_LETTERS => k_is)
    (case v_MOST_NUMBER => k_is); (case v_MOST_VALUE => k_is); (case v_MOST_PIECES => k_is); (case v_MOST_VARS => k_is); (case v_MOST_PARAMS => k_is); (case v_MOST_STATEMENTS => k_is)
    (case v_MOST_AROUND => k_is); (case vKD => k_is); (case lKD => k_is); (case vPP => k_is); (case lPP => k_is); (case litP => exact ⟨⟨_, _, rfl, rfl⟩, ⟨_, _, rfl, rfl⟩, ⟨_, _, rfl, rfl⟩, ⟨_, _, rfl, rfl⟩, ⟨_, _, rfl, rfl⟩, ⟨_, _, rfl, rfl⟩, ⟨_, _, rfl, rfl⟩, ⟨_, _, rfl, rfl⟩, ⟨_, _, rfl, rfl⟩, ⟨_, _, rfl, rfl⟩, ⟨_, _, rfl, rfl⟩, ⟨_, _, rfl, rfl⟩, ⟨_, _, rfl, rfl⟩, ⟨_, _, rfl, rfl⟩, trivial⟩)
    (case keyP => kernel_rfl); (case rfE => kernel_rfl); (case ndE => kernel_rfl); (case lnE => kernel_rfl); (case lowP => kernel_rfl); (case nP0 => k_is)
    (case lP0 => k_is); (case nP1 => k_is); (case lP1 => k_is); (case nP2 => k_is); (case lP2 => k_is); (case nP3 => k_is)
    (case lP3 => k_is); (case nP4 => k_is); (case lP4 => k_is); (case nP5 => k_is); (case lP5 => k_is); (case nP6 => k_is)
    (case lP6 => k_is); (case nP7 => k_is); (case lP7 => k_is); (case nP8 => k_is); (case lP8 => k_is); (case nP9 => k_is)
    (case lP9 => k_is); (case nP10 => k_is); (case lP10 => k_is); (case nP11 => k_is); (case lP11 => k_is); (case nP12 => k_is)
    (case lP12 => k_is); (case nP13 => k_is); (case lP13 => k_is); (case pg => k_is); (case hd => k_is); (case po => k_is)
    (case sa => k_is); (case mk => k_is); (case kc => k_is); (case nV => k_is); (case nK => k_is); (case nM => k_is)
    (case xL => k_is); (case xV => kernel_rfl); (case saB => k_is); (case gaB => k_is); (case ggB => k_is); (case nbB => k_is)
    (case tyI => k_is); (case kB => k_is); (case eB => k_is); (case tB => k_is); (case hB => k_is); (case iB => k_is)
    (case hN => k_is); (case hT => k_is); (case hB1 => k_is); (case hB2 => k_is); (case exB => kernel_rfl); (case k4B => kernel_rfl)
    (case kBB => kernel_rfl); (case kBS => kernel_rfl); (case kBV => kernel_rfl); (case z_isinstance => k_is); (case z_str => k_is); (case z_int => k_is)
    (case z_bool => k_is); (case z_tuple => k_is); (case z_len => k_is); (case z_all => k_is); (case z_set => k_is); (case z_zip => k_is)
    (case z_list => k_is); (case z_enumerate => k_is); (case z_repr => k_is); (case z_ValueError => k_is); (case z_range => k_is); (case z_dict => k_is)

