import PyProof.Rows.All
import Wide.All
import OpenK.AllK
import Wide.FinOn
import HandS.ForMost
import HandS.EndTab
import HandS.Wide
import HandS.More
import HandS.Conv
import HandS.IsInst
import HandS.Steps
import HandS.Walk
import HandS.Iter
import HandS.Style
import HandS.Strs
import HandS.Zip
import HandS.NoneIn
import KE.KDictZip
import KE.GoesEnum
import HandS.SetKeys
import HandS.TupAny
import HandS.DictComp
import HandS.CallRecv
import HandS.ExcInit
import HandS.ForExc
import KE.KTryMore
import KE.KExcIs
import HandS.RaiseMore
import HandS.Lambda
import HandS.Small
import HandS.TupMul
import HandS.Dict
import HandS.Star
import HandS.Text
import PyProof.StrOps2
import KE.KDictPairs
import KE.KDictLaws
import HandS.Finally
import KE.KRevSl
import PySem.Challenge.RW_stepwhere_k09_whole_books_as_texts
set_option Elab.async false
set_option maxRecDepth 100000
set_option maxHeartbeats 1000000
/-! Trees of data; names, numbers, tuples. -/
namespace BK
open PySem PySem.Spec PyProof.Rows L2
def top (i : Nat) : Stmt := PySem.Challenge.pw_stepwhere_k09_whole_books_as_texts.main.body.getD i (.Pass ⟨0, 0, 0, 0⟩)
theorem same_new {H : Hp} {p : Addr} {o : HO} (h : H p = none) : Same H (upd H p o) := fun b u e => by
  rw [upd_ne (ne_of_none e h)]
  exact e
theorem sqt_same {K : PySem.W.Frag} {H H' : Hp} {q : Addr} {xs : List V} (e : Same H H') (h : SqT K H q xs) : SqT K H' q xs := by
  rcases h with (h | ⟨o, h⟩) | h
  · exact .inl (.inl (e _ _ h))
  · exact .inl (.inr ⟨o, e _ _ h⟩)
  · exact .inr h
theorem sqt_ty {K : PySem.W.Frag} {H : Hp} {t : Addr} {xs : List V} (h : SqT K H t xs) : TyX K H (.ref t) (.type "tuple") := by
  rcases h with (h | ⟨o2, h⟩) | ⟨o2, its, n, h1, h2, _⟩
  · exact .base (.tup h)
  · exact .fTuple h
  · exact .kTuple h1 h2
theorem sql_ty {K : PySem.W.Frag} {H : Hp} {t : Addr} {xs : List V} (h : SqL K H t xs) : TyX K H (.ref t) (.type "list") := by
  rcases h with (h | ⟨o2, h⟩) | ⟨o2, its, n, h1, h2, _⟩
  · exact .base (.lst h)
  · exact .base (.frz h)
  · exact .kList h1 h2
theorem tyes {σ : L2.St} {H : Hp} {f g : Hp → Prop} (h : f H) : tYes σ H fun b H3 => if b = true then f H3 else g H3 := by
  show (if true = true then f H else g H)
  exact iteT h
/-- a tree of data; of lists and dicts only that they are such -/
inductive Tr where
  | non
  | bl (b : Bool)
  | int (i : Int)
  | str (s : Str)
  | lst
  | dct
  | tup (ts : List Tr)
mutual
inductive TrAt (K : PySem.W.Frag) (H : Hp) : V → Tr → Prop
  | non : TrAt K H .non .non
  | bl (b : Bool) : TrAt K H (.bl b) (.bl b)
  | int (i : Int) : TrAt K H (.int i) (.int i)
  | str (s : Str) (h : s.length ≤ sizeLine) : TrAt K H (.str s) (.str s)
  | lst {a : Addr} {xs : List V} (h : SqL K H a xs) : TrAt K H (.ref a) .lst
  | dct {a : Addr} {kvs : List (Key × V)} (h : H a = some (.dK kvs)) : TrAt K H (.ref a) .dct
  | tup {a : Addr} {xs : List V} {ts : List Tr} (h : SqT K H a xs) (k : TrAll K H xs ts) : TrAt K H (.ref a) (.tup ts)
inductive TrAll (K : PySem.W.Frag) (H : Hp) : List V → List Tr → Prop
  | nil : TrAll K H [] []
  | cons {v : V} {vs : List V} {t : Tr} {ts : List Tr} (h : TrAt K H v t) (k : TrAll K H vs ts) : TrAll K H (v :: vs) (t :: ts)
end
section
variable {K : PySem.W.Frag} {H H' : Hp}
mutual
theorem TrAt.same (e : Same H H') : ∀ {v : V} {t : Tr}, TrAt K H v t → TrAt K H' v t
  | _, _, .non => .non
  | _, _, .bl b => .bl b
  | _, _, .int i => .int i
  | _, _, .str s h => .str s h
  | _, _, .lst h => .lst (e.seq h)
  | _, _, .dct h => .dct (e _ _ h)
  | _, _, .tup h k => .tup (sqt_same e h) (TrAll.same e k)
theorem TrAll.same (e : Same H H') : ∀ {vs : List V} {ts : List Tr}, TrAll K H vs ts → TrAll K H' vs ts
  | _, _, .nil => .nil
  | _, _, .cons h k => .cons (h.same e) (k.same e)
end
theorem TrAll.len : ∀ {vs : List V} {ts : List Tr}, TrAll K H vs ts → vs.length = ts.length
  | _, _, .nil => rfl
  | _, _, .cons _ k => congrArg (· + 1) k.len
theorem TrAll.get : ∀ {vs : List V} {ts : List Tr} {i : Nat} {v : V}, TrAll K H vs ts → vs[i]? = some v → ∃ t, ts[i]? = some t ∧ TrAt K H v t
  | _, _, _, _, .nil, h => by simp at h
  | _, _, 0, _, .cons h k, e => by
    rw [List.getElem?_cons_zero] at e
    cases e
    exact ⟨_, rfl, h⟩
  | _, _, i + 1, _, .cons h k, e => by
    rw [List.getElem?_cons_succ] at e
    obtain ⟨t, h1, h2⟩ := k.get e
    exact ⟨t, by rw [List.getElem?_cons_succ]; exact h1, h2⟩
theorem TrAll.get' : ∀ {vs : List V} {ts : List Tr} {i : Nat} {t : Tr}, TrAll K H vs ts → ts[i]? = some t → ∃ v, vs[i]? = some v ∧ TrAt K H v t
  | _, _, _, _, .nil, h => by simp at h
  | _, _, 0, _, .cons h k, e => by
    rw [List.getElem?_cons_zero] at e
    cases e
    exact ⟨_, rfl, h⟩
  | _, _, i + 1, _, .cons h k, e => by
    rw [List.getElem?_cons_succ] at e
    obtain ⟨t, h1, h2⟩ := k.get' e
    exact ⟨t, by rw [List.getElem?_cons_succ]; exact h1, h2⟩
/-- a list is written -/
theorem sqt_updL {D : Addr} {ys ys' xs : List V} {a : Addr} (e : H D = some (.lst ys)) (h : SqT K H a xs) : SqT K (upd H D (.lst ys')) a xs := by
  rcases h with (h | ⟨o, h⟩) | h
  · exact .inl (.inl (by rw [upd_ne (ne_of h e (by intro z; cases z))]; exact h))
  · exact .inl (.inr ⟨o, by rw [upd_ne (ne_of h e (by intro z; cases z))]; exact h⟩)
  · exact .inr h
mutual
theorem TrAt.updL {D : Addr} {ys ys' : List V} (e : H D = some (.lst ys)) : ∀ {v : V} {t : Tr}, TrAt K H v t → TrAt K (upd H D (.lst ys')) v t
  | _, _, .non => .non
  | _, _, .bl b => .bl b
  | _, _, .int i => .int i
  | _, _, .str s h => .str s h
  | _, _, .lst (a := a) (xs := xs) h => by
    by_cases z : a = D
    · rw [z]
      exact .lst (SqL.of upd_same)
    · refine .lst (xs := xs) ?_
      rcases h with (h | ⟨o, h⟩) | h
      · exact .inl (.inl (by rw [upd_ne z]; exact h))
      · exact .inl (.inr ⟨o, by rw [upd_ne z]; exact h⟩)
      · exact .inr h
  | _, _, .dct h => .dct (by rw [upd_ne (ne_of h e (by intro z; cases z))]; exact h)
  | _, _, .tup h k => .tup (sqt_updL e h) (TrAll.updL e k)
theorem TrAll.updL {D : Addr} {ys ys' : List V} (e : H D = some (.lst ys)) : ∀ {vs : List V} {ts : List Tr}, TrAll K H vs ts → TrAll K (upd H D (.lst ys')) vs ts
  | _, _, .nil => .nil
  | _, _, .cons h k => .cons (h.updL e) (k.updL e)
end
def tyT : Tr → String
  | .non => "NoneType"
  | .bl _ => "bool"
  | .int _ => "int"
  | .str _ => "str"
  | .lst => "list"
  | .dct => "dict"
  | .tup _ => "tuple"
theorem TrAt.ty {v : V} {t : Tr} (h : TrAt K H v t) : TyX K H v (.type (tyT t)) := by
  cases h with
  | non => exact .base .non
  | bl b => exact .base (.bl b)
  | int i => exact .base (.int i)
  | str s h => exact .base (.str s)
  | lst h => exact sql_ty h
  | dct h => exact .base (.dK h)
  | tup h k => exact sqt_ty h
end
def isStr : Tr → Bool
  | .str _ => true
  | _ => false
def isInt : Tr → Bool
  | .int _ => true
  | .bl _ => true
  | _ => false
def isBl : Tr → Bool
  | .bl _ => true
  | _ => false
def isTup : Tr → Bool
  | .tup _ => true
  | _ => false
theorem k_str (K : PySem.W.Frag) (t : Tr) : PySem.W.kitOne K (.type (tyT t)) (.type "str") = some (isStr t) := by
  cases t <;> exact kit_ty (by simp only [tyT, isStr]; decide +kernel)
theorem k_int (K : PySem.W.Frag) (t : Tr) : PySem.W.kitOne K (.type (tyT t)) (.type "int") = some (isInt t) := by
  cases t <;> exact kit_ty (by simp only [tyT, isInt]; decide +kernel)
theorem k_bl (K : PySem.W.Frag) (t : Tr) : PySem.W.kitOne K (.type (tyT t)) (.type "bool") = some (isBl t) := by
  cases t <;> exact kit_ty (by simp only [tyT, isBl]; decide +kernel)
theorem k_tup (K : PySem.W.Frag) (t : Tr) : PySem.W.kitOne K (.type (tyT t)) (.type "tuple") = some (isTup t) := by
  cases t <;> exact kit_ty (by simp only [tyT, isTup]; decide +kernel)
def alpha : Str := "abcdefghijklmnopqrstuvwxyz"
/-- a word of 1 to 8 letters -/
def nameS (s : Str) : Bool := decide (1 ≤ s.length) && decide (s.length ≤ 8) && s.cps.toList.all fun c => decide (c ∈ alpha.cps.toList)
def nameT : Tr → Bool
  | .str s => nameS s
  | _ => false
def numT (most : Int) : Tr → Bool
  | .int i => decide (0 ≤ i) && decide (i ≤ most)
  | _ => false
def tupT (n : Nat) : Tr → Bool
  | .tup ts => ts.length == n
  | _ => false
/-- what the top has written of the forms -/
structure Forms (mg : Str → Option Value) : Prop where
  le : ∃ t, mg "LETTERS" = some (.str alpha t)
  ml : ∃ t, mg "MOST_LETTERS" = some (.int 8 t)
  mn : ∃ t, mg "MOST_NUMBER" = some (.int 99 t)
  isi : mg "isinstance" = none
  str : mg "str" = none
  int : mg "int" = none
  bool : mg "bool" = none
  tuple : mg "tuple" = none
  len : mg "len" = none
  all : mg "all" = none
def spOf (f : Tr → Bool) (K : PySem.W.Frag) : Sp := fun vs H Q _ => ∃ v t, vs = [v] ∧ TrAt K H v t ∧ ∀ H', Same H H' → Q (.bl (f t)) H'
section
variable {P : Program} {w : World} {K : PySem.W.Frag} {mg : Str → Option Value} {base : Heap}
abbrev sName : Stmt := top 7
abbrev sInteger : Stmt := top 9
abbrev sNumber : Stmt := top 10
abbrev sTuple : Stmt := top 11
theorem scName : FnScope ["thing", "letter"] ["thing"] (defScope sName) := ⟨rfl, rfl, rfl, by decide +kernel, rfl, by decide +kernel, by decide +kernel⟩
theorem ok_name {f : Addr} {fd : FuncData} (F : Fun K "is_name" "is_name" sName f fd) (T : Forms mg) : FnOk P w K mg base CX0 1 f fd ["thing"] (spOf nameT K) := by
  refine F.ok scName (fun vs H Q E h => ?_) (fun cdv A outer s H vs Q E hr h => ?_)
  · obtain ⟨v, t, rfl, _⟩ := h
    rfl
  · obtain ⟨v, t, rfl, ht, k⟩ := h
    obtain ⟨t1, gL⟩ := T.le
    obtain ⟨t2, gM⟩ := T.ml
    refine ⟨_, pss_cons (ps_if (PW.pt (pw_or (pt_not (pt_val (pe_callB call_isi (by rfl) T.isi boot_isinstance (pa_cons (pv 0) (pa_cons (pe_bltn (v := .ty "str") (u := .type "str") (by rfl) T.str (by decide +kernel) rfl) pa_nil)))))
        (pw_or1 (pt_not (pt_chain op_le op_le pe_int (pe_callB call_len_str (by rfl) T.len boot_len (pa_cons (pv 0) pa_nil)) (pe_glob (v := .int 8) rfl gM ⟨_, rfl⟩)))))) (pss_one (ps_ret pe_bl)) pss_nil)
      (pss_one (ps_ret (pe_callB (cr_all rfl) (by rfl) T.all (by decide +kernel) (pa_cons (pe_lc (own := [("letter", 1)]) (g := gName 1) (tt := tYes) rfl scName.nd (pi_str (pv 0))
          (blkOk_by (N := ["thing", "letter"]) (sc := defScope sName) (by decide +kernel)) (fun _ _ _ _ _ => pg_name (i := 1) scName.nd rfl (Or.inl rfl)) (fun _ _ _ _ _ => pts_nil)
          (fun _ _ _ _ _ => pe_cmpR op_inS (pv 1) (pe_glob (v := .str alpha) rfl gL ⟨_, rfl⟩) rfl)) pa_nil)))), ?_⟩
    refine ⟨_, rfl, v, .ty "str", .type (tyT t), .type "str", isStr t, rfl, .ty "str", ht.ty, k_str K t, _, rfl, ?_⟩
    cases ht with
    | str z hz =>
      refine iteF ?_
      have fin : ∀ b : Bool, b = nameS z → ∀ H', Same H H' → Q (.bl b) H' := fun b e H' s' => by
        rw [e]
        exact k H' s'
      refine ⟨_, rfl, z, rfl, hz, _, _, rfl, rfl, _, rfl, ?_⟩
      refine ite2 (fun h1 => ?_) (fun h1 => ?_)
      · refine ⟨_, _, rfl, rfl, _, rfl, ?_⟩
        refine ite2 (fun h2 => ?_) (fun h2 => ?_)
        · refine fin false ?_ H fun _ _ e => e
          have h : ¬ ((z.length : Int) ≤ 8) := by simpa using h2
          have h' : ¬ (z.length ≤ 8) := by omega
          unfold nameS
          rw [decide_eq_false h', Bool.and_false, Bool.false_and]
        · have h : (z.length : Int) ≤ 8 := by simpa using h2
          have hl : z.length ≤ 8 := by omega
          have hl1 : 1 ≤ z.length := by
            have q : (1 : Int) ≤ (z.length : Int) := of_decide_eq_true h1
            omega
          refine ⟨_, rfl, z, rfl, fun D nD => ?_⟩
          refine lc_it (walk_str (z := z)) (fun i H2 => Same H H2 ∧ H2 D = some (.lst (((z.cps.toList.take i).map fun c => decide (c ∈ alpha.cps.toList)).map V.bl))) ⟨same_new nD, upd_same⟩ (fun _ _ _ _ => True.intro) ?_ ?_
          · rintro i x H2 H3 hi ⟨s2, e2⟩ ⟨rfl, c, hc, rfl⟩
            refine ⟨rfl, ?_⟩
            refine tyes ?_
            refine ⟨_, rfl, c, alpha, rfl, rfl, _, e2, small1000 (by rw [List.length_map, List.length_map, List.length_take, Array.length_toList]; have : z.cps.size ≤ 8 := hl; omega), fun b o e => ?_, ?_⟩
            · rw [upd_ne (ne_of_none e nD)]
              exact s2 b o e
            · have hc' : z.cps.toList[i]? = some c := by rw [Array.getElem?_toList]; exact hc
              rw [upd_same, List.take_add_one, hc', List.map_append, List.map_append]
              rfl
          · rintro H2 ⟨s2, e2⟩
            refine ⟨D, _, rfl, SqL.of e2, fin _ ?_ H2 s2⟩
            have et : z.cps.toList.take z.cps.size = z.cps.toList := by rw [← Array.length_toList, List.take_length]
            unfold nameS
            rw [decide_eq_true hl, decide_eq_true hl1, et, List.all_map]
            simp [Function.comp]
      · refine ⟨_, rfl, iteT (fin false ?_ H fun _ _ e => e)⟩
        have h : ¬ ((1 : Int) ≤ (z.length : Int)) := fun q => h1 (decide_eq_true q)
        have h' : ¬ (1 ≤ z.length) := by omega
        unfold nameS
        rw [decide_eq_false h', Bool.false_and, Bool.false_and]
    | non => exact iteT (k H fun _ _ e => e)
    | bl b => exact iteT (k H fun _ _ e => e)
    | int i => exact iteT (k H fun _ _ e => e)
    | lst h => exact iteT (k H fun _ _ e => e)
    | dct h => exact iteT (k H fun _ _ e => e)
    | tup h q => exact iteT (k H fun _ _ e => e)
/-! numbers, tuples -/
def spNumber (K : PySem.W.Frag) : Sp := fun vs H Q _ => ∃ v t most, vs = [v, .int most] ∧ TrAt K H v t ∧ Q (.bl (numT most t)) H
def spTuple (K : PySem.W.Frag) : Sp := fun vs H Q _ => ∃ v t n, vs = [v, .int n] ∧ TrAt K H v t ∧ Q (.bl (match t with | .tup ts => decide ((ts.length : Int) = n) | _ => false)) H
def spInteger (K : PySem.W.Frag) : Sp := fun vs H Q _ => ∃ v t, vs = [v] ∧ TrAt K H v t ∧ Q (.bl (isInt t && !isBl t)) H
theorem scInteger : FnScope ["thing"] ["thing"] (defScope sInteger) := ⟨rfl, rfl, rfl, by decide +kernel, rfl, by decide +kernel, by decide +kernel⟩
theorem ok_integer {f : Addr} {fd : FuncData} (F : Fun K "is_integer" "is_integer" sInteger f fd) (T : Forms mg) : FnOk P w K mg base CX0 1 f fd ["thing"] (spInteger K) := by
  refine F.ok scInteger (fun vs H Q E h => ?_) (fun cdv A outer s H vs Q E hr h => ?_)
  · obtain ⟨v, t, rfl, _⟩ := h
    rfl
  · obtain ⟨v, t, rfl, ht, k⟩ := h
    refine ⟨_, pss_one (ps_ret (pe_and (pe_callB call_isi (by rfl) T.isi boot_isinstance (pa_cons (pv 0) (pa_cons (pe_bltn (v := .ty "int") (u := .type "int") (by rfl) T.int (by decide +kernel) rfl) pa_nil)))
      (pe_one (pe_not (pe_callB call_isi (by rfl) T.isi boot_isinstance (pa_cons (pv 0) (pa_cons (pe_bltn (v := .ty "bool") (u := .type "bool") (by rfl) T.bool (by decide +kernel) rfl) pa_nil))))))), ?_⟩
    refine ⟨_, rfl, v, .ty "int", .type (tyT t), .type "int", isInt t, rfl, .ty "int", ht.ty, k_int K t, _, rfl, ?_⟩
    have two := ht.ty
    cases ht with
    | int i => exact iteT ⟨_, rfl, _, .ty "bool", .type (tyT (.int i)), .type "bool", isBl (.int i), rfl, .ty "bool", two, k_bl K _, _, rfl, k⟩
    | bl b => exact iteT ⟨_, rfl, _, .ty "bool", .type (tyT (.bl b)), .type "bool", isBl (.bl b), rfl, .ty "bool", two, k_bl K _, _, rfl, k⟩
    | str z hz => exact iteF k
    | non => exact iteF k
    | lst h => exact iteF k
    | dct h => exact iteF k
    | tup h q => exact iteF k
theorem scNumber : FnScope ["thing", "most"] ["thing", "most"] (defScope sNumber) := ⟨rfl, rfl, rfl, by decide +kernel, rfl, by decide +kernel, by decide +kernel⟩
theorem ok_number {f fI : Addr} {fd fdI : FuncData} (F : Fun K "is_number" "is_number" sNumber f fd)
    (GI : FnOk P w K mg base CX0 1 fI fdI ["thing"] (spInteger K)) (bI : Binds K fdI ["thing"] []) (gI : mg "is_integer" = some (.ref fI)) (kI : PySem.W.keepIn K (.ref fI) = true) : FnOk P w K mg base CX0 2 f fd ["thing", "most"] (spNumber K) := by
  refine F.ok scNumber (fun vs H Q E h => ?_) (fun cdv A outer s H vs Q E hr h => ?_)
  · obtain ⟨v, t, most, rfl, _⟩ := h
    rfl
  · obtain ⟨v, t, most, rfl, ht, k⟩ := h
    refine ⟨_, pss_one (ps_ret (pe_and (pe_call GI hr rfl gI kI bI .nil pass0 (pa_cons (pv 0) pa_nil))
      (pe_one (pe_chain op_le op_le pe_int (pv 0) (pv 1))))), ?_⟩
    refine ⟨_, rfl, v, t, rfl, ht, _, rfl, ?_⟩
    cases ht with
    | int i =>
      refine iteT ⟨_, rfl, _, _, rfl, rfl, _, rfl, ?_⟩
      refine ite2 (fun h => ?_) (fun h => ?_)
      · have h' : decide ((0 : Int) ≤ i) = true := h
        have e : numT most (.int i) = decide (i ≤ most) := by
          show (decide (0 ≤ i) && decide (i ≤ most)) = _
          rw [h', Bool.true_and]
        rw [e] at k
        exact ⟨_, rfl, _, _, rfl, rfl, k⟩
      · have h' : decide ((0 : Int) ≤ i) = false := by simpa using h
        have e : numT most (.int i) = false := by
          show (decide (0 ≤ i) && decide (i ≤ most)) = _
          rw [h', Bool.false_and]
        rw [e] at k
        exact k
    | bl b => exact iteF k
    | str z hz => exact iteF k
    | non => exact iteF k
    | lst h => exact iteF k
    | dct h => exact iteF k
    | tup h q => exact iteF k
theorem scTuple : FnScope ["thing", "count"] ["thing", "count"] (defScope sTuple) := ⟨rfl, rfl, rfl, by decide +kernel, rfl, by decide +kernel, by decide +kernel⟩
theorem ok_tuple {f : Addr} {fd : FuncData} (F : Fun K "is_tuple" "is_tuple" sTuple f fd) (T : Forms mg) : FnOk P w K mg base CX0 1 f fd ["thing", "count"] (spTuple K) := by
  refine F.ok scTuple (fun vs H Q E h => ?_) (fun cdv A outer s H vs Q E hr h => ?_)
  · obtain ⟨v, t, n, rfl, _⟩ := h
    rfl
  · obtain ⟨v, t, n, rfl, ht, k⟩ := h
    refine ⟨_, pss_one (ps_ret (pe_and (pe_callB call_isi (by rfl) T.isi boot_isinstance (pa_cons (pv 0) (pa_cons (pe_bltn (v := .ty "tuple") (u := .type "tuple") (by rfl) T.tuple (by decide +kernel) rfl) pa_nil)))
      (pe_one (pe_cmpR op_eq (pe_callB call_len_seq (by rfl) T.len boot_len (pa_cons (pv 0) pa_nil)) (pv 1) (nomark _))))), ?_⟩
    refine ⟨_, rfl, v, .ty "tuple", .type (tyT t), .type "tuple", isTup t, rfl, .ty "tuple", ht.ty, k_tup K t, _, rfl, ?_⟩
    cases ht with
    | @tup a xs ts h q =>
      refine iteT ⟨_, rfl, a, xs, rfl, .inr h, _, rfl, rfl, ?_⟩
      have e : decide (V.int (xs.length : Int) = V.int n) = decide ((ts.length : Int) = n) := by
        rw [dec_int, q.len]
        by_cases z : (ts.length : Int) = n
        · rw [z]
          simp
        · rw [decide_eq_false z, beq_eq_false_iff_ne]
          exact z
      rw [e]
      exact k
    | int i => exact iteF k
    | bl b => exact iteF k
    | str z hz => exact iteF k
    | non => exact iteF k
    | lst h => exact iteF k
    | dct h => exact iteF k
/-! the parts of a statement that are blocks -/
abbrev sBlocks : Stmt := top 18
def spBlocks (K : PySem.W.Frag) : Sp := fun vs H Q _ => ∃ v ts, vs = [v] ∧ TrAt K H v (.tup ts) ∧ ts.length ≤ 1000 ∧ ∀ (D : Addr) (bs : List V) (H' : Hp), Same H H' → H D = none → H' D = some (.lst bs) → TrAll K H' bs (ts.filter isTup) → Q (.ref D) H'
theorem scBlocks : FnScope ["statement", "part"] ["statement"] (defScope sBlocks) := ⟨rfl, rfl, rfl, by decide +kernel, rfl, by decide +kernel, by decide +kernel⟩
theorem TrAll.snoc {H : Hp} : ∀ {vs : List V} {ts : List Tr} {v : V} {t : Tr}, TrAll K H vs ts → TrAt K H v t → TrAll K H (vs ++ [v]) (ts ++ [t])
  | _, _, _, _, .nil, h => .cons h .nil
  | _, _, _, _, .cons a k, h => .cons a (k.snoc h)
theorem ok_blocks {f : Addr} {fd : FuncData} (F : Fun K "blocks_of" "blocks_of" sBlocks f fd) (T : Forms mg) : FnOk P w K mg base CX0 1 f fd ["statement"] (spBlocks K) := by
  refine F.ok scBlocks (fun vs H Q E h => ?_) (fun cdv A outer s H vs Q E hr h => ?_)
  · obtain ⟨v, ts, rfl, _⟩ := h
    rfl
  · obtain ⟨v, ts, rfl, ht, hl, k⟩ := h
    cases ht with
    | @tup a xs ts h q =>
    refine ⟨_, pss_one (ps_ret (pe_lc (own := [("part", 1)]) (g := gName 1) (tt := tB (tCB (rIsi K) (tCons (tVar 1) (tCons (tC (.ty "tuple")) tNil)))) (te := tVar 1) rfl scBlocks.nd (pi_tup (pv 0))
        (blkOk_by (N := ["statement", "part"]) (sc := defScope sBlocks) (by decide +kernel)) (fun _ _ _ _ _ => pg_name (i := 1) scBlocks.nd rfl (Or.inl rfl))
        (fun _ _ _ _ _ => pts_one (pt_val (by exact pe_callB call_isi (by rfl) T.isi boot_isinstance (pa_cons (pv 1) (pa_cons (pe_bltn (v := .ty "tuple") (u := .type "tuple") (by rfl) T.tuple (by decide +kernel) rfl) pa_nil)))))
        (fun _ _ _ _ _ => pv 1))), ?_⟩
    refine ⟨_, rfl, a, rfl, ⟨_, h⟩, fun D nD => ?_⟩
    refine lc_it (walk_tup (K := K) (a := a) (xs := xs)) (fun i H2 => Same H H2 ∧ ∃ bs, H2 D = some (.lst bs) ∧ TrAll K H2 bs ((ts.take i).filter isTup)) ⟨same_new nD, [], upd_same, .nil⟩ (fun i H2 _ ⟨s2, _⟩ => sqt_same s2 h) ?_ ?_
    · rintro i x H2 H3 hi ⟨s2, bs, e2, b2⟩ ⟨rfl, hx⟩
      obtain ⟨t, ht, tx⟩ := (q.same s2).get hx
      have et : ts.take (i + 1) = ts.take i ++ [t] := by rw [List.take_add_one, ht]; rfl
      refine ⟨rfl, _, rfl, x, .ty "tuple", .type (tyT t), .type "tuple", isTup t, rfl, .ty "tuple", tx.ty, k_tup K t, _, rfl, ?_⟩
      have s3 : ∀ o, Same H (upd H3 D o) := fun o b u e => by
        rw [upd_ne (ne_of_none e nD)]
        exact s2 b u e
      cases e : isTup t with
      | true =>
        refine iteT ⟨_, rfl, bs, e2, small1000 ?_, s3 _, _, upd_same, ?_⟩
        · rw [b2.len]
          exact Nat.le_trans (List.length_filter_le _ _) (by rw [List.length_take]; omega)
        · rw [et, List.filter_append]
          have e' : [t].filter isTup = [t] := by simp [List.filter, e]
          rw [e']
          exact (b2.updL e2).snoc (tx.updL e2)
      | false =>
        refine iteF ⟨s2, bs, e2, ?_⟩
        rw [et, List.filter_append]
        have e' : [t].filter isTup = [] := by simp [List.filter, e]
        rw [e', List.append_nil]
        exact b2
    · rintro H2 ⟨s2, bs, e2, b2⟩
      have e : ts.take xs.length = ts := by rw [q.len, List.take_length]
      rw [e] at b2
      exact k D bs H2 s2 nD e2 b2
end
end BK



set_option Elab.async false
set_option linter.all false
set_option maxRecDepth 100000
set_option maxHeartbeats 4000000
/-! A set of texts, of any number below 4000; its length. -/
namespace BS
open PySem PySem.Spec PyProof.Rows
/-- how many different ones among the first i -/
def cnt (xs : List Str) : Nat → Nat
  | 0 => 0
  | i + 1 => if ((xs.take i).any (· == xs.getD i Str.empty)) = true then cnt xs i else cnt xs i + 1
theorem cnt_le (xs : List Str) : ∀ i, cnt xs i ≤ i
  | 0 => Nat.le_refl 0
  | i + 1 => by
    have := cnt_le xs i
    unfold cnt
    split <;> omega
theorem take_get {xs : List Str} {i : Nat} (h : i < xs.length) : xs.take (i + 1) = xs.take i ++ [xs.getD i Str.empty] := by
  rw [List.take_add_one, List.getElem?_eq_getElem h]
  simp [List.getD, List.getElem?_eq_getElem h]
abbrev freshSet (led : Bool) : Obj := { cls := .type "set", dict := none, data := .set #[] 0 (.fresh 0 0 led) }
/-- the texts among the first i -/
abbrev met (xs : List Str) (i : Nat) : Str → Bool := fun y => (xs.take i).any (· == y)
section
variable {prog : Program} {w : World} {A : Around} {R : Result → Shared → Prop} {it : Addr} {fs ws : List Addr} {G : Array GenState → Array GenState → Prop} {n : Nat} {P : Nat → Value → Prop} {St : Nat → Shared → Prop}
theorem turns (W : WalksS prog w A.in1 it fs ws G n P St) (a : Addr) (na : a ∉ fs) (xs : List Str) (len : xs.length = n) (few : n + 1 < scanBound) (val : ∀ i v, P i v → ∃ t, v = .str (xs.getD i Str.empty) t) (d : Nat) :
    ∀ (i : Nat) (s : Shared), i + d = n → St i s → s.heap.SetOf (PySem.strKind prog w) a (met xs i) (cnt xs i) →
      (∀ s', Moved (a :: ws) G s s' → s'.heap.SetOf (PySem.strKind prog w) a (met xs n) (cnt xs n) → R (.ok (.ret .none)) s') → codeAny (model prog w) A (.builtin "set.update.loop" ⟨[.ref a, .ref it], []⟩) R s := by
  have nw : a ∉ ws := fun z => na (W.sub _ z)
  have wider : ∀ b ∈ ws, b ∈ a :: ws := fun b z => List.mem_cons_of_mem _ z
  have moved : ∀ {s s' : Shared} {S : Str → Bool} {m : Nat}, Moved ws G s s' → s.heap.SetOf (PySem.strKind prog w) a S m → s'.heap.SetOf (PySem.strKind prog w) a S m := fun mv ⟨o, es, ep, t, q, rest⟩ => ⟨o, es, ep, t, mv.heap a _ nw q, rest⟩
  induction d with
  | zero =>
    intro i s e st here then_
    obtain rfl : i = n := e
    refine codeAny_builtin PyProof.Rows.F.entry_set_update_loop ?_
    rw [Around.under_plainId PyProof.Rows.F.plain_set_update_loop _]
    show wpAny _ A.in1 (pyNext (.ref it) >>= _) _ _ s
    refine wpAny_bind (W.done s _ _ st fun s' mv => ?_)
    exact wpAny_pure (then_ s' (mv.mono wider) (moved mv here))
  | succ d ih =>
    intro i s e st here then_
    have lt : i < n := by omega
    refine codeAny_builtin PyProof.Rows.F.entry_set_update_loop ?_
    rw [Around.under_plainId PyProof.Rows.F.plain_set_update_loop _]
    show wpAny _ A.in1 (pyNext (.ref it) >>= _) _ _ s
    refine wpAny_bind (W.item i s _ _ lt st fun v s' pv st' mv => ?_)
    obtain ⟨t, rfl⟩ := val i v pv
    have here' := moved mv here
    have room : cnt xs i + 1 < scanBound := by have := cnt_le xs i; omega
    show wpAny _ A.in1 (holding [Value.str (xs.getD i Str.empty) t] (setAdd a (.str (xs.getD i Str.empty) t)) >>= _) _ _ s'
    refine wpAny_bind (wpAny_holding ?_)
    unfold setAdd
    refine wpAny_holding (wpAny_bind ((PySem.strKind prog w).pyHash (k := xs.getD i Str.empty) (strKind_is _ _ _ _) ?_))
    refine wpAny_setAddHashed_of (knd := PySem.strKind prog w) (s := { s' with toks := s'.toks + 1 }) (strKind_is _ _ _ _) rfl here' room fun h' but there => ?_
    have next : h'.SetOf (PySem.strKind prog w) a (met xs (i + 1)) (cnt xs (i + 1)) := by
      refine SetOf_congr there (fun y => ?_) rfl
      show ((xs.take i).any (· == y) || decide (y = xs.getD i Str.empty)) = (xs.take (i + 1)).any (· == y)
      rw [take_get (by omega), List.any_append]
      have one : ∀ x : Str, decide (y = x) = [x].any (· == y) := fun x => by
        by_cases z : y = x
        · simp [z]
        · have z' : ¬ x = y := fun q => z q.symm
          simp [z, z']
      rw [one]
    have keep : ∀ b, b ≠ a → h'.get? b = s'.heap.get? b := fun b nb => but.2 b nb
    refine wpAny_pure ⟨plainId_quiet PyProof.Rows.F.plain_set_update_loop _, ih (i + 1) _ (by omega) (W.frame _ s' _ _ st' (Nat.le_succ _) fun b z o q => ?_) next fun s'' mv2 done => ?_⟩
    · rw [keep b fun q => na (by rw [← q]; exact z)]
      exact q
    · refine then_ s'' (Moved.trans W.gtrans ((mv.mono wider).then_heap (Nat.le_succ _) fun b o z q => ?_) mv2) done
      rw [keep b fun q => z (by rw [q]; exact List.mem_cons_self)]
      exact q
end
section
variable {prog : Program} {w : World} {A : Around} {E : Value → Shared → Prop} {s : Shared}
/-- set(xs) of a list of texts -/
theorem set_list {l : Addr} {its : Array Value} {xs : List Str} {Q : Value → Shared → Prop} (calm : A.handled = none) (ml : s.heap.IsList l its) (tx : StrsAre its.toList xs) (few : xs.length + 1 < scanBound)
    (q : ∀ (h' : Heap) (tk : Nat), h'.SetOf (PySem.strKind prog w) s.heap.objs.size (met xs xs.length) (cnt xs xs.length) → (∀ b o, b < s.heap.objs.size → s.heap.get? b = some o → h'.get? b = some o) → Q (.ref s.heap.objs.size) { s with heap := h', toks := tk }) :
    wpAny (model prog w) A (call (.type "set") [.ref l]) Q E s := by
  have len : xs.length = its.size := by rw [← StrsAre.len_eq tx, Array.length_toList]
  obtain ⟨c, tl, hmro⟩ := PySem.F.called_set.mro
  have f1 := PySem.F.called_set.made
  have f2 := PySem.F.called_set.sub
  refine wpAny_call (codeAny_of_tree ?_)
  show wpAny _ _ (callAny (.type "set") _) _ _ _
  refine wpAny_pure ⟨Code.quiet_builtin _ (by decide +kernel), codeAny_builtin PySem.F.entry_type_call ?_⟩
  rw [Around.under_plain (weight_type_call_type "set" [.ref l] []) rfl]
  have f3 := PySem.F.called_set.notType
  have f4 := PySem.F.called_set.canCreate
  have f5 := PySem.F.typeCall_set_1 (.ref l)
  repeat (any_goals (first | assumption | wp_step))
  refine codeAny_mono (code_set_new_1 (.ref l) (E := E) (Q₁ := fun obj s₁ => ∃ led : Bool, obj = .ref s.heap.objs.size ∧ s₁ = { s with heap := s.heap.push (freshSet led) }) fun led => ⟨led, rfl, rfl⟩) fun r s₁ hr => ?_
  match r, hr with
  | .error e, hr => exact hr
  | .ok (.ret obj), hr =>
    obtain ⟨led, rfl, rfl⟩ := hr
    have at0 : (s.heap.push (freshSet led)).get? s.heap.objs.size = some (freshSet led) := Heap.get?_push_size _ rfl
    have ty0 : Shared.TypeIs { s with heap := s.heap.push (freshSet led) } (.ref s.heap.objs.size) "set" := ⟨_, at0, rfl⟩
    have f6 := PySem.F.called_set.init.lookup
    have f7 := PySem.F.called_set.init.bind (.ref s.heap.objs.size)
    repeat (any_goals (first | assumption | wp_step))
    refine codeAny_mono (codeAny_call_builtin (R := wants (fun r s₂ => r = .none ∧ ∃ h' tk, s₂ = { s with heap := h', toks := tk } ∧ h'.SetOf (PySem.strKind prog w) s.heap.objs.size (met xs xs.length) (cnt xs xs.length) ∧
        ∀ b o, b < s.heap.objs.size → s.heap.get? b = some o → h'.get? b = some o) E) PySem.F.called_set.init.plain PySem.F.entry_set_init (check_set_init_1 ty0 ?_)) fun r₂ s₂ hr₂ => ?_
    · obtain ⟨⟨oc, od, odt, osl⟩, gl, e1, nl, e2⟩ := ml
      simp only at e1 e2
      subst e1
      subst e2
      have gl' : (s.heap.push (freshSet led)).get? l = some { cls := .type "list", dict := od, data := .seq its nl, slots := osl } := Heap.get?_push_of_some _ gl
      have g1 := PySem.F.sub_list_set
      have g2 := PySem.F.sub_list_frozenset
      have g3 : (Value.type "list" == Value.type "dict") = false := by decide
      have ml' : (s.heap.push (freshSet led)).IsList l its := ⟨_, gl', rfl, nl, rfl⟩
      unfold Builtin.«set.__init__» noKeywords Builtin.Frozenset.updateFrom
      generalize eP : pyIter = PI
      wp_walk
      subst eP
      refine wpAny_pyIter_list ml' (wpAny_bind (wpAny_runValue ?_))
      have ll : l < s.heap.objs.size := Heap.lt_size gl
      have sz : (s.heap.push (freshSet led)).objs.size = s.heap.objs.size + 1 := Heap.size_push ..
      have ni : l ≠ (s.heap.push (freshSet led)).objs.size := sz ▸ Nat.ne_of_lt (Nat.lt_succ_of_lt ll)
      have nm : s.heap.objs.size ∉ [(s.heap.push (freshSet led)).objs.size, l] := by
        simp only [List.mem_cons, List.not_mem_nil, or_false, not_or, sz]
        exact ⟨Nat.ne_of_lt (Nat.lt_succ_self _), Nat.ne_of_gt ll⟩
      refine turns ((Walks.list (show A.in1.in1.in1.handled = none by simp [calm]) _ l ni its).toS) s.heap.objs.size nm xs len (by rw [← len]; exact few) (fun i v e => SS.strs_at tx i v (by rw [Array.getElem?_toList]; exact e)) its.size 0 _ (by omega)
        ⟨⟨_, Heap.get?_push_size _ rfl, rfl, rfl⟩, ml'.push _⟩ ?z0 ?z1
      case z0 =>
        refine SetOf_congr ((setObjOf_fresh (knd := PySem.strKind prog w) led).setOf (Heap.get?_push_of_some _ at0) (by unfold scanBound; omega)) (fun _ => rfl) rfl
      case z1 =>
        rintro ⟨h', g', d', tk', os'⟩ mv done
        obtain rfl : g' = s.gens := mv.gens
        obtain rfl : d' = s.drawn := mv.drawn
        obtain rfl : os' = s.os := mv.os
        rw [← len] at done
        show wpAny _ _ _ _ _ _
        refine wpAny_pure ?_
        show wpAny _ _ (ret Value.none) _ _ _
        refine wpAny_pure ⟨rfl, h', tk', rfl, done, fun b o z e => ?_⟩
        refine mv.heap b o ?_ (Heap.get?_push_of_some _ (Heap.get?_push_of_some _ e))
        simp only [List.mem_cons, List.not_mem_nil, or_false, not_or, sz]
        exact ⟨Nat.ne_of_lt z, Nat.ne_of_lt (Nat.lt_succ_of_lt z)⟩
    · match r₂, hr₂ with
      | .error e, hr₂ => exact hr₂
      | .ok (.ret r), hr₂ =>
        obtain ⟨rfl, h', tk, rfl, done, kp⟩ := hr₂
        repeat (any_goals (first | assumption | wp_step))
        exact q _ _ done kp
/-- set(xs) of a tuple of texts -/
theorem set_tuple {l : Addr} {its : Array Value} {xs : List Str} {Q : Value → Shared → Prop} (calm : A.handled = none) (ml : s.heap.IsTuple l its) (tx : StrsAre its.toList xs) (few : xs.length + 1 < scanBound)
    (q : ∀ (h' : Heap) (tk : Nat), h'.SetOf (PySem.strKind prog w) s.heap.objs.size (met xs xs.length) (cnt xs xs.length) → (∀ b o, b < s.heap.objs.size → s.heap.get? b = some o → h'.get? b = some o) → Q (.ref s.heap.objs.size) { s with heap := h', toks := tk }) :
    wpAny (model prog w) A (call (.type "set") [.ref l]) Q E s := by
  have len : xs.length = its.size := by rw [← StrsAre.len_eq tx, Array.length_toList]
  obtain ⟨c, tl, hmro⟩ := PySem.F.called_set.mro
  have f1 := PySem.F.called_set.made
  have f2 := PySem.F.called_set.sub
  refine wpAny_call (codeAny_of_tree ?_)
  show wpAny _ _ (callAny (.type "set") _) _ _ _
  refine wpAny_pure ⟨Code.quiet_builtin _ (by decide +kernel), codeAny_builtin PySem.F.entry_type_call ?_⟩
  rw [Around.under_plain (weight_type_call_type "set" [.ref l] []) rfl]
  have f3 := PySem.F.called_set.notType
  have f4 := PySem.F.called_set.canCreate
  have f5 := PySem.F.typeCall_set_1 (.ref l)
  repeat (any_goals (first | assumption | wp_step))
  refine codeAny_mono (code_set_new_1 (.ref l) (E := E) (Q₁ := fun obj s₁ => ∃ led : Bool, obj = .ref s.heap.objs.size ∧ s₁ = { s with heap := s.heap.push (freshSet led) }) fun led => ⟨led, rfl, rfl⟩) fun r s₁ hr => ?_
  match r, hr with
  | .error e, hr => exact hr
  | .ok (.ret obj), hr =>
    obtain ⟨led, rfl, rfl⟩ := hr
    have at0 : (s.heap.push (freshSet led)).get? s.heap.objs.size = some (freshSet led) := Heap.get?_push_size _ rfl
    have ty0 : Shared.TypeIs { s with heap := s.heap.push (freshSet led) } (.ref s.heap.objs.size) "set" := ⟨_, at0, rfl⟩
    have f6 := PySem.F.called_set.init.lookup
    have f7 := PySem.F.called_set.init.bind (.ref s.heap.objs.size)
    repeat (any_goals (first | assumption | wp_step))
    refine codeAny_mono (codeAny_call_builtin (R := wants (fun r s₂ => r = .none ∧ ∃ h' tk, s₂ = { s with heap := h', toks := tk } ∧ h'.SetOf (PySem.strKind prog w) s.heap.objs.size (met xs xs.length) (cnt xs xs.length) ∧
        ∀ b o, b < s.heap.objs.size → s.heap.get? b = some o → h'.get? b = some o) E) PySem.F.called_set.init.plain PySem.F.entry_set_init (check_set_init_1 ty0 ?_)) fun r₂ s₂ hr₂ => ?_
    · obtain ⟨⟨oc, od, odt, osl⟩, gl, e1, nl, e2⟩ := ml
      simp only at e1 e2
      subst e1
      subst e2
      have gl' : (s.heap.push (freshSet led)).get? l = some { cls := .type "tuple", dict := od, data := .seq its nl, slots := osl } := Heap.get?_push_of_some _ gl
      have g1 := PySem.F.sub_tuple_set
      have g2 := PySem.F.sub_tuple_frozenset
      have g3 : (Value.type "tuple" == Value.type "dict") = false := by decide
      have ml' : (s.heap.push (freshSet led)).IsTuple l its := ⟨_, gl', rfl, nl, rfl⟩
      unfold Builtin.«set.__init__» noKeywords Builtin.Frozenset.updateFrom
      generalize eP : pyIter = PI
      wp_walk
      subst eP
      refine wpAny_pyIter_tuple ml' (wpAny_bind (wpAny_runValue ?_))
      have ll : l < s.heap.objs.size := Heap.lt_size gl
      have sz : (s.heap.push (freshSet led)).objs.size = s.heap.objs.size + 1 := Heap.size_push ..
      have ni : l ≠ (s.heap.push (freshSet led)).objs.size := sz ▸ Nat.ne_of_lt (Nat.lt_succ_of_lt ll)
      have nm : s.heap.objs.size ∉ [(s.heap.push (freshSet led)).objs.size, l] := by
        simp only [List.mem_cons, List.not_mem_nil, or_false, not_or, sz]
        exact ⟨Nat.ne_of_lt (Nat.lt_succ_self _), Nat.ne_of_gt ll⟩
      refine turns ((Walks.tuple (show A.in1.in1.in1.handled = none by simp [calm]) _ l ni its).toS) s.heap.objs.size nm xs len (by rw [← len]; exact few) (fun i v e => SS.strs_at tx i v (by rw [Array.getElem?_toList]; exact e)) its.size 0 _ (by omega)
        ⟨⟨_, Heap.get?_push_size _ rfl, rfl, rfl⟩, ml'.push _⟩ ?z0 ?z1
      case z0 =>
        refine SetOf_congr ((setObjOf_fresh (knd := PySem.strKind prog w) led).setOf (Heap.get?_push_of_some _ at0) (by unfold scanBound; omega)) (fun _ => rfl) rfl
      case z1 =>
        rintro ⟨h', g', d', tk', os'⟩ mv done
        obtain rfl : g' = s.gens := mv.gens
        obtain rfl : d' = s.drawn := mv.drawn
        obtain rfl : os' = s.os := mv.os
        rw [← len] at done
        show wpAny _ _ _ _ _ _
        refine wpAny_pure ?_
        show wpAny _ _ (ret Value.none) _ _ _
        refine wpAny_pure ⟨rfl, h', tk', rfl, done, fun b o z e => ?_⟩
        refine mv.heap b o ?_ (Heap.get?_push_of_some _ (Heap.get?_push_of_some _ e))
        simp only [List.mem_cons, List.not_mem_nil, or_false, not_or, sz]
        exact ⟨Nat.ne_of_lt z, Nat.ne_of_lt (Nat.lt_succ_of_lt z)⟩
    · match r₂, hr₂ with
      | .error e, hr₂ => exact hr₂
      | .ok (.ret r), hr₂ =>
        obtain ⟨rfl, h', tk, rfl, done, kp⟩ := hr₂
        repeat (any_goals (first | assumption | wp_step))
        exact q _ _ done kp
end
end BS



set_option Elab.async false
set_option linter.all false
set_option maxRecDepth 100000
set_option maxHeartbeats 2000000
/-! len(set(texts)); different names. -/
namespace BK
open PySem PySem.Spec PyProof.Rows L2 BS
def tLenTexts (K : PySem.W.Frag) (ta : TE) : TE := fun σ H Q => ta σ H fun x H1 => ∃ l, ∃ xs : List Str, x = .ref l ∧ (SqL K H1 l (xs.map V.str) ∨ SqT K H1 l (xs.map V.str)) ∧ xs.length ≤ 4000 ∧ Q (.int (cnt xs xs.length)) H1
section
variable {X : Cx}
theorem pe_lenTexts {a : Expr} {ta : TE} {p p2 q pos : Pos} (hc : X.calm = true) (g1 : Gl X "len") (m1 : X.mg "len" = none) (g2 : Gl X "set") (m2 : X.mg "set" = none) (ha : PE X a ta)
    (na : starEach [a] X.env = (false, eval a X.env) :: starEach [] X.env := by rfl) : PE X (.Call (.Name "len" p) [.Call (.Name "set" p2) [a] [] q] [] pos) (tLenTexts X.K ta) := by
  refine ⟨fun pins s σ H Q I h => Call_ (ld_blt I g1 m1 boot_len (PyProof.Rows.callWith_builtin1 (PyProof.Rows.args_cons ?_ rfl) rfl rfl))⟩
  refine Call_ (ld_blt I g2 m2 boot_set (PyProof.Rows.callWith_type1 (PyProof.Rows.args_cons (thn (ha.run pins s σ H _ I h) fun v s1 z => PyProof.Rows.args_nil ?_) na) na rfl))
  obtain ⟨x, H1, I1, rx, l, xs, rfl, sq, few, k⟩ := z
  obtain rfl : v = Value.ref l := rx
  have room : xs.length + 1 < scanBound := by unfold scanBound; omega
  have after : ∀ (h' : Heap) (tk : Nat), h'.SetOf (PySem.strKind X.prog X.w) s1.heap.objs.size (met xs xs.length) (cnt xs xs.length) → (∀ b o, b < s1.heap.objs.size → s1.heap.get? b = some o → h'.get? b = some o) →
      wpAny (model X.prog X.w) X.A (spliced (backTo pos (starEach [] X.env))) (fun vs s₂ => wpAny (model X.prog X.w) X.A (call (.builtin "len") (Value.ref s1.heap.objs.size :: vs)) (EP X pins σ Q) X.xe s₂) X.xe { s1 with heap := h', toks := tk } := fun h' tk so kp => by
    have I2 : Inv X pins σ H1 { s1 with heap := h', toks := tk } := I1.kept fun b o e => kp b o (Heap.lt_size e) e
    obtain ⟨o, es, ep, t, e1, e2, e3, _, _, _, e4, e5⟩ := so
    have le := cnt_le xs xs.length
    exact PyProof.Rows.args_nil (call_len_set e1 e2 e3 e4 (by rw [e5]; omega) ⟨.int (cnt xs xs.length), H1, I2.tok _, ⟨_, by rw [e5]⟩, k⟩)
  rcases sq with sq | sq
  · obtain ⟨its, r, pl, _⟩ := I1.list sq
    exact set_list (I1.ok.hd hc) pl.isList (by simpa using strsAre_of r) room after
  · obtain ⟨its, r, pl, _⟩ := I1.tuple sq
    exact set_tuple (I1.ok.hd hc) pl (by simpa using strsAre_of r) room after
end
/-- all different: as many as there are -/
theorem cnt_all {xs : List Str} (h : xs.Nodup) : ∀ i, i ≤ xs.length → cnt xs i = i
  | 0, _ => rfl
  | i + 1, hi => by
    have ih := cnt_all h i (by omega)
    unfold BS.cnt
    rw [ih, if_neg]
    intro z
    rw [List.any_eq_true] at z
    obtain ⟨y, hy, e⟩ := z
    obtain ⟨j, hj⟩ := List.getElem?_of_mem hy
    have jl : j < i := by
      have := (List.getElem?_eq_some_iff.mp hj).1
      rw [List.length_take] at this
      omega
    rw [List.getElem?_take_of_lt jl] at hj
    have hi' : xs[i]? = some y := by
      have e' : y = xs.getD i Str.empty := by simpa using e
      rw [e']
      simp [List.getD, List.getElem?_eq_getElem (show i < xs.length by omega)]
    have := L2.nd_ix h hj hi'
    omega
theorem cnt_lt {xs : List Str} : ∀ i, i ≤ xs.length → cnt xs i = i → (xs.take i).Nodup
  | 0, _, _ => by simp
  | i + 1, hi, e => by
    have le := cnt_le xs i
    unfold BS.cnt at e
    by_cases z : ((xs.take i).any (· == xs.getD i Str.empty)) = true
    · rw [if_pos z] at e
      omega
    · rw [if_neg z] at e
      have ih := cnt_lt (xs := xs) i (by omega) (by omega)
      rw [take_get (xs := xs) (i := i) (by omega)]
      refine nd_snoc ih fun m => z ?_
      rw [List.any_eq_true]
      exact ⟨_, m, by simp⟩
theorem cnt_nodup (xs : List Str) : (cnt xs xs.length = xs.length) ↔ xs.Nodup :=
  ⟨fun h => by have := cnt_lt xs.length (Nat.le_refl _) h; rwa [List.take_length] at this, fun h => cnt_all h _ (Nat.le_refl _)⟩
end BK



set_option Elab.async false
set_option maxRecDepth 100000
set_option maxHeartbeats 1000000
/-! are_different_names. -/
namespace BK
open PySem PySem.Spec PyProof.Rows L2
theorem pi_two {X : Cx} {tg e : Expr} {u t : TI} (h1 : PI X tg e u) (h2 : PI X tg e t) : PI X tg e (fun σ H R => u σ H R ∨ t σ H R) := by
  refine ⟨fun pins s σ H R I h => ?_⟩
  rcases h with h | h
  · exact h1.run pins s σ H R I h
  · exact h2.run pins s σ H R I h
/-- a list or a tuple -/
def SqA (K : PySem.W.Frag) (H : Hp) (a : Addr) (xs : List V) : Prop := SqL K H a xs ∨ SqT K H a xs
theorem SqA.same {K : PySem.W.Frag} {H H' : Hp} {a : Addr} {xs : List V} (e : Same H H') (h : SqA K H a xs) : SqA K H' a xs := h.elim (fun h => .inl (e.seq h)) fun h => .inr (sqt_same e h)
def texts : List Tr → List Str
  | [] => []
  | .str s :: r => s :: texts r
  | _ :: r => texts r
def diffT (ts : List Tr) : Bool := ts.all nameT && decide (texts ts).Nodup
def spDiff (K : PySem.W.Frag) : Sp := fun vs H Q _ => ∃ a xs ts, vs = [.ref a] ∧ SqA K H a xs ∧ TrAll K H xs ts ∧ ts.length ≤ 1000 ∧ ∀ H', Same H H' → Q (.bl (diffT ts)) H'
theorem names_texts {K : PySem.W.Frag} {H : Hp} : ∀ {xs : List V} {ts : List Tr}, TrAll K H xs ts → ts.all nameT = true → xs = (texts ts).map V.str
  | _, _, .nil, _ => rfl
  | _, _, .cons (t := t) h k, e => by
    rw [List.all_cons, Bool.and_eq_true] at e
    cases h with
    | str s hs => exact congrArg (V.str s :: ·) (names_texts k e.2)
    | non => exact absurd e.1 (by simp [nameT])
    | bl b => exact absurd e.1 (by simp [nameT])
    | int i => exact absurd e.1 (by simp [nameT])
    | lst h => exact absurd e.1 (by simp [nameT])
    | dct h => exact absurd e.1 (by simp [nameT])
    | tup h q => exact absurd e.1 (by simp [nameT])
section
variable {P : Program} {w : World} {K : PySem.W.Frag} {mg : Str → Option Value} {base : Heap}
abbrev sDiff : Stmt := top 12
theorem scDiff : FnScope ["things", "thing"] ["things"] (defScope sDiff) := ⟨rfl, rfl, rfl, by decide +kernel, rfl, by decide +kernel, by decide +kernel⟩
theorem ok_diff {f fN : Addr} {fd fdN : FuncData} (F : Fun K "are_different_names" "are_different_names" sDiff f fd) (T : Forms mg) (mS : mg "set" = none) (GN : FnOk P w K mg base CX0 1 fN fdN ["thing"] (spOf nameT K)) (bN : Binds K fdN ["thing"] []) (gN : mg "is_name" = some (.ref fN))
    (kN : PySem.W.keepIn K (.ref fN) = true) : FnOk P w K mg base CX0 2 f fd ["things"] (spDiff K) := by
  refine F.ok scDiff (fun vs H Q E h => ?_) (fun cdv A outer s H vs Q E hr h => ?_)
  · obtain ⟨a, xs, ts, rfl, _⟩ := h
    rfl
  · obtain ⟨a, xs, ts, rfl, sq, tr, tl, k⟩ := h
    refine ⟨_, pss_one (ps_ret (pe_and (pe_callB (cr_all rfl) (by rfl) T.all (by decide +kernel) (pa_cons (pe_lc (own := [("thing", 1)]) (g := gName 1) (tt := tYes) (te := tCall (spOf nameT K) [] E0 (tCons (tVar 1) tNil)) rfl scDiff.nd (pi_two (pi_list (pv 0)) (pi_tup (pv 0)))
          (blkOk_by (N := ["things", "thing"]) (sc := defScope sDiff) (by decide +kernel)) (fun _ _ _ _ _ => pg_name (i := 1) scDiff.nd rfl (Or.inl rfl)) (fun _ _ _ _ _ => pts_nil)
          (fun _ _ _ _ _ => by exact pe_call GN hr rfl gN kN bN .nil pass0 (pa_cons (pv 1) pa_nil))) pa_nil))
        (pe_one (pe_cmpR op_eq (pe_lenTexts rfl rfl T.len rfl mS (pv 0)) (pe_callB call_len_seq (by rfl) T.len boot_len (pa_cons (pv 0) pa_nil)) rfl)))), ?_⟩
    -- the walk, by either road
    have step : ∀ (D : Addr) (i : Nat) (x : V) (H2 : Hp), H D = none → xs[i]? = some x → Same H H2 → H2 D = some (.lst (((ts.take i).map nameT).map V.bl)) → ∀ vs : List V, vs = [x] ++ [] → ∃ v t, vs = [v] ∧ TrAt K H2 v t ∧ ∀ H', Same H2 H' → 
        ∃ acc, H' D = some (.lst acc) ∧ acc.length < sizeLine ∧ (Same H (upd H' D (.lst (acc ++ [.bl (nameT t)]))) ∧ (upd H' D (.lst (acc ++ [.bl (nameT t)]))) D = some (.lst (((ts.take (i + 1)).map nameT).map V.bl))) := by
      intro D i x H2 nD hx s2 e2 vs ev
      obtain ⟨t, ht, tx⟩ := (tr.same s2).get hx
      have il : i < ts.length := (List.getElem?_eq_some_iff.mp ht).1
      refine ⟨x, t, by rw [ev]; rfl, tx, fun H' s' => ⟨_, s' _ _ e2, small1000 (by rw [List.length_map, List.length_map, List.length_take]; omega), fun b o e => ?_, ?_⟩⟩
      · rw [upd_ne (ne_of_none e nD)]
        exact s' _ _ (s2 b o e)
      · rw [upd_same, List.take_add_one, ht, List.map_append, List.map_append]
        rfl
    rcases sq with sq | sq
    · refine Or.inl ⟨_, rfl, a, rfl, ⟨xs, sq⟩, fun D nD => ?_⟩
      refine lc_it (walk_list (K := K) (a := a) (xs := xs)) (fun i H2 => Same H H2 ∧ H2 D = some (.lst (((ts.take i).map nameT).map V.bl))) ⟨same_new nD, upd_same⟩ (fun i H2 _ ⟨s2, _⟩ => s2.seq sq) ?_ ?_
      · rintro i x H2 H3 hi ⟨s2, e2⟩ ⟨rfl, hx⟩
        obtain ⟨v, t, ev, tv, more⟩ := step D i x H3 nD hx s2 e2 _ rfl
        refine ⟨rfl, ?_⟩
        refine tyes ?_
        exact ⟨_, rfl, v, t, ev, tv, more⟩
      · rintro H2 ⟨s2, e2⟩
        have et : ts.take xs.length = ts := by rw [tr.len, List.take_length]
        rw [et] at e2
        refine ⟨D, _, rfl, SqL.of e2, _, rfl, ?_⟩
        have ea : (ts.map nameT).all id = ts.all nameT := by rw [List.all_map]; rfl
        rw [ea]
        refine ite2 (fun h => ?_) (fun h => ?_)
        · have ex := names_texts tr h
          have el : (texts ts).length = ts.length := by rw [← tr.len, ex, List.length_map]
          refine ⟨_, rfl, a, texts ts, rfl, (by rw [← ex]; exact (.inl (s2.seq sq))), by omega, _, rfl, a, xs, rfl, (.inl (s2.seq sq)), rfl, ?_⟩
          have e : decide (V.int (BS.cnt (texts ts) (texts ts).length : Nat) = V.int (xs.length : Nat)) = decide (texts ts).Nodup := by
            rw [dec_int, tr.len, ← el]
            by_cases z : (texts ts).Nodup
            · rw [(cnt_nodup _).mpr z, decide_eq_true z]
              simp
            · rw [decide_eq_false z, beq_eq_false_iff_ne]
              intro q
              exact z ((cnt_nodup _).mp (by omega))
          rw [e]
          have q := k H2 s2
          unfold diffT at q
          rw [h, Bool.true_and] at q
          exact q
        · have q := k H2 s2
          unfold diffT at q
          rw [show ts.all nameT = false by simpa using h, Bool.false_and] at q
          exact q
    · refine Or.inr ⟨_, rfl, a, rfl, ⟨xs, sq⟩, fun D nD => ?_⟩
      refine lc_it (walk_tup (K := K) (a := a) (xs := xs)) (fun i H2 => Same H H2 ∧ H2 D = some (.lst (((ts.take i).map nameT).map V.bl))) ⟨same_new nD, upd_same⟩ (fun i H2 _ ⟨s2, _⟩ => sqt_same s2 sq) ?_ ?_
      · rintro i x H2 H3 hi ⟨s2, e2⟩ ⟨rfl, hx⟩
        obtain ⟨v, t, ev, tv, more⟩ := step D i x H3 nD hx s2 e2 _ rfl
        refine ⟨rfl, ?_⟩
        refine tyes ?_
        exact ⟨_, rfl, v, t, ev, tv, more⟩
      · rintro H2 ⟨s2, e2⟩
        have et : ts.take xs.length = ts := by rw [tr.len, List.take_length]
        rw [et] at e2
        refine ⟨D, _, rfl, SqL.of e2, _, rfl, ?_⟩
        have ea : (ts.map nameT).all id = ts.all nameT := by rw [List.all_map]; rfl
        rw [ea]
        refine ite2 (fun h => ?_) (fun h => ?_)
        · have ex := names_texts tr h
          have el : (texts ts).length = ts.length := by rw [← tr.len, ex, List.length_map]
          refine ⟨_, rfl, a, texts ts, rfl, (by rw [← ex]; exact (.inr (sqt_same s2 sq))), by omega, _, rfl, a, xs, rfl, (.inr (sqt_same s2 sq)), rfl, ?_⟩
          have e : decide (V.int (BS.cnt (texts ts) (texts ts).length : Nat) = V.int (xs.length : Nat)) = decide (texts ts).Nodup := by
            rw [dec_int, tr.len, ← el]
            by_cases z : (texts ts).Nodup
            · rw [(cnt_nodup _).mpr z, decide_eq_true z]
              simp
            · rw [decide_eq_false z, beq_eq_false_iff_ne]
              intro q
              exact z ((cnt_nodup _).mp (by omega))
          rw [e]
          have q := k H2 s2
          unfold diffT at q
          rw [h, Bool.true_and] at q
          exact q
        · have q := k H2 s2
          unfold diffT at q
          rw [show ts.all nameT = false by simpa using h, Bool.false_and] at q
          exact q
end
end BK



set_option Elab.async false
set_option maxRecDepth 100000
set_option maxHeartbeats 1000000
/-! are_names, is_part; None in a written dict. -/
namespace BK
open PySem PySem.Spec PyProof.Rows L2
def argsT : Tr → Bool
  | .tup ts => ts.all nameT
  | _ => false
def partT (t : Tr) (k : Str) : Bool := if k = "block" then isTup t else if k = "args" then argsT t else if k = "integer" then numT 99 t else if k = "value" then numT 9999 t else if k = "source" ∧ numT 99 t = true then true else nameT t
def spPart (K : PySem.W.Frag) : Sp := fun vs H Q _ => ∃ v t k, vs = [v, .str k] ∧ TrAt K H v t ∧ (k = "args" → ∀ ts, t = .tup ts → ts.length ≤ 4000000) ∧ ∀ H', Same H H' → Q (.bl (partT t k)) H'
abbrev sAreNames : Stmt := top 8
abbrev sPart : Stmt := top 13
theorem scAreNames : FnScope ["thing", "part"] ["thing"] (defScope sAreNames) := ⟨rfl, rfl, rfl, by decide +kernel, rfl, by decide +kernel, by decide +kernel⟩
theorem scPart : FnScope ["thing", "kind"] ["thing", "kind"] (defScope sPart) := ⟨rfl, rfl, rfl, by decide +kernel, rfl, by decide +kernel, by decide +kernel⟩
theorem eq_txt (a b : Str) : decide (V.str a = V.str b) = decide (a = b) := by
  by_cases h : a = b
  · simp [h]
  · rw [decide_eq_false h, decide_eq_false fun e => h (V.str.inj e)]
def spArgs (K : PySem.W.Frag) : Sp := fun vs H Q _ => ∃ v t, vs = [v] ∧ TrAt K H v t ∧ (∀ ts, t = .tup ts → ts.length ≤ 4000000) ∧ ∀ H', Same H H' → Q (.bl (argsT t)) H'
section
variable {P : Program} {w : World} {K : PySem.W.Frag} {mg : Str → Option Value} {base : Heap}
theorem ok_areNames {f fN : Addr} {fd fdN : FuncData} (F : Fun K "are_names" "are_names" sAreNames f fd) (T : Forms mg) (GN : FnOk P w K mg base CX0 1 fN fdN ["thing"] (spOf nameT K)) (bN : Binds K fdN ["thing"] []) (gN : mg "is_name" = some (.ref fN)) (kN : PySem.W.keepIn K (.ref fN) = true) :
    FnOk P w K mg base CX0 2 f fd ["thing"] (spArgs K) := by
  refine F.ok scAreNames (fun vs H Q E h => ?_) (fun cdv A outer s H vs Q E hr h => ?_)
  · obtain ⟨v, t, rfl, _⟩ := h
    rfl
  · obtain ⟨v, t, rfl, ht, hl, k⟩ := h
    refine ⟨_, pss_one (ps_ret (pe_and (pe_callB call_isi (by rfl) T.isi boot_isinstance (pa_cons (pv 0) (pa_cons (pe_bltn (v := .ty "tuple") (u := .type "tuple") (by rfl) T.tuple (by decide +kernel) rfl) pa_nil)))
      (pe_one (pe_callB (cr_all rfl) (by rfl) T.all (by decide +kernel) (pa_cons (pe_lc (own := [("part", 1)]) (g := gName 1) (tt := tYes) (te := tCall (spOf nameT K) [] E0 (tCons (tVar 1) tNil)) rfl scAreNames.nd (pi_tup (pv 0))
          (blkOk_by (N := ["thing", "part"]) (sc := defScope sAreNames) (by decide +kernel)) (fun _ _ _ _ _ => pg_name (i := 1) scAreNames.nd rfl (Or.inl rfl)) (fun _ _ _ _ _ => pts_nil)
          (fun _ _ _ _ _ => by exact pe_call GN hr rfl gN kN bN .nil pass0 (pa_cons (pv 1) pa_nil))) pa_nil))))), ?_⟩
    refine ⟨_, rfl, v, .ty "tuple", .type (tyT t), .type "tuple", isTup t, rfl, .ty "tuple", ht.ty, k_tup K t, _, rfl, ?_⟩
    have q0 := k H fun _ _ e => e
    cases ht with
    | int i => exact iteF q0
    | bl b => exact iteF q0
    | str z hz => exact iteF q0
    | non => exact iteF q0
    | lst h => exact iteF q0
    | dct h => exact iteF q0
    | @tup a xs ts h tr =>
    have el := tr.len
    have few : ts.length ≤ 4000000 := hl ts rfl
    refine iteT ⟨_, rfl, a, rfl, ⟨xs, h⟩, fun D nD => ?_⟩
    refine lc_it (walk_tup (K := K) (a := a) (xs := xs)) (fun i H2 => Same H H2 ∧ H2 D = some (.lst (((ts.take i).map nameT).map V.bl))) ⟨same_new nD, upd_same⟩ (fun i H2 _ ⟨s2, _⟩ => sqt_same s2 h) ?_ ?_
    · rintro i x H2 H3 hi ⟨s2, e2⟩ ⟨rfl, hx⟩
      obtain ⟨t, ht, tx⟩ := (tr.same s2).get hx
      have il : i < ts.length := (List.getElem?_eq_some_iff.mp ht).1
      refine ⟨rfl, ?_⟩
      refine tyes ?_
      refine ⟨_, rfl, x, t, rfl, tx, fun H' s' => ⟨_, s' _ _ e2, ?_, fun b o e => ?_, ?_⟩⟩
      · have : sizeLine = 16777216 := sizeLine_eq
        rw [List.length_map, List.length_map, List.length_take]; omega
      · rw [upd_ne (ne_of_none e nD)]
        exact s' _ _ (s2 b o e)
      · rw [upd_same, List.take_add_one, ht, List.map_append, List.map_append]
        rfl
    · rintro H2 ⟨s2, e2⟩
      have et : ts.take xs.length = ts := by rw [el, List.take_length]
      rw [et] at e2
      refine ⟨D, _, rfl, SqL.of e2, ?_⟩
      have ea : (ts.map nameT).all id = ts.all nameT := by rw [List.all_map]; rfl
      rw [ea]
      exact k H2 s2
theorem ok_part {f fN fM fA : Addr} {fd fdN fdM fdA : FuncData} (F : Fun K "is_part" "is_part" sPart f fd) (T : Forms mg) (mV : ∃ t, mg "MOST_VALUE" = some (.int 9999 t)) (GN : FnOk P w K mg base CX0 1 fN fdN ["thing"] (spOf nameT K)) (bN : Binds K fdN ["thing"] []) (gN : mg "is_name" = some (.ref fN)) (kN : PySem.W.keepIn K (.ref fN) = true)
    (GM : FnOk P w K mg base CX0 2 fM fdM ["thing", "most"] (spNumber K)) (bM : Binds K fdM ["thing", "most"] []) (gM : mg "is_number" = some (.ref fM)) (kM : PySem.W.keepIn K (.ref fM) = true)
    (GA : FnOk P w K mg base CX0 2 fA fdA ["thing"] (spArgs K)) (bA : Binds K fdA ["thing"] []) (gA : mg "are_names" = some (.ref fA)) (kA : PySem.W.keepIn K (.ref fA) = true) : FnOk P w K mg base CX0 3 f fd ["thing", "kind"] (spPart K) := by
  refine F.ok scPart (fun vs H Q E h => ?_) (fun cdv A outer s H vs Q E hr h => ?_)
  · obtain ⟨v, t, k, rfl, _⟩ := h
    rfl
  · obtain ⟨v, t, kd, rfl, tv, hl, k⟩ := h
    obtain ⟨t2, gX⟩ := T.mn
    obtain ⟨t3, gY⟩ := mV
    have hr1 : Room 1 _ := hr.mono (by decide)
    refine ⟨_, pss_cons (ps_if (pt_cmpR op_eq (pv 1) pe_str (nomark _)) (pss_one (ps_ret (pe_callB call_isi (by rfl) T.isi boot_isinstance (pa_cons (pv 0) (pa_cons (pe_bltn (v := .ty "tuple") (u := .type "tuple") (by rfl) T.tuple (by decide +kernel) rfl) pa_nil))))) pss_nil)
      (pss_cons (ps_if (pt_cmpR op_eq (pv 1) pe_str (nomark _)) (pss_one (ps_ret (pe_call GA hr rfl gA kA bA .nil pass0 (pa_cons (pv 0) pa_nil)))) pss_nil)
      (pss_cons (ps_if (pt_cmpR op_eq (pv 1) pe_str (nomark _)) (pss_one (ps_ret (pe_call GM hr rfl gM kM bM .nil pass0 (pa_cons (pv 0) (pa_cons (pe_glob (v := .int 99) rfl gX ⟨_, rfl⟩) pa_nil))))) pss_nil)
      (pss_cons (ps_if (pt_cmpR op_eq (pv 1) pe_str (nomark _)) (pss_one (ps_ret (pe_call GM hr rfl gM kM bM .nil pass0 (pa_cons (pv 0) (pa_cons (pe_glob (v := .int 9999) rfl gY ⟨_, rfl⟩) pa_nil))))) pss_nil)
      (pss_cons (ps_if (PW.pt (pw_and (pt_cmpR op_eq (pv 1) pe_str (nomark _)) (pw_and1 (pt_val (pe_call GM hr rfl gM kM bM .nil pass0 (pa_cons (pv 0) (pa_cons (pe_glob (v := .int 99) rfl gX ⟨_, rfl⟩) pa_nil))))))) (pss_one (ps_ret pe_bl)) pss_nil)
      (pss_one (ps_ret (pe_call GN hr1 rfl gN kN bN .nil pass0 (pa_cons (pv 0) pa_nil)))))))), ?_⟩
    refine ⟨_, rfl, rfl, _, rfl, ?_⟩
    rw [eq_txt]
    refine ite2 (fun h => ?_) (fun h => ?_)
    · have h1 : kd = "block" := of_decide_eq_true h
      refine ⟨_, rfl, v, .ty "tuple", .type (tyT t), .type "tuple", isTup t, rfl, .ty "tuple", tv.ty, k_tup K t, ?_⟩
      have q := k H fun _ _ e => e
      unfold partT at q
      rw [if_pos h1] at q
      exact q
    have h1 : ¬ kd = "block" := fun e => h (decide_eq_true e)
    refine ⟨_, rfl, rfl, _, rfl, ?_⟩
    rw [eq_txt]
    refine ite2 (fun h => ?_) (fun h => ?_)
    · have h2 : kd = "args" := of_decide_eq_true h
      refine ⟨_, rfl, v, t, rfl, tv, hl h2, fun H' s' => ?_⟩
      have q := k H' s'
      unfold partT at q
      rw [if_neg h1, if_pos h2] at q
      exact q
    have h2 : ¬ kd = "args" := fun e => h (decide_eq_true e)
    refine ⟨_, rfl, rfl, _, rfl, ?_⟩
    rw [eq_txt]
    refine ite2 (fun h => ?_) (fun h => ?_)
    · have h3 : kd = "integer" := of_decide_eq_true h
      refine ⟨_, rfl, v, t, 99, rfl, tv, ?_⟩
      have q := k H fun _ _ e => e
      unfold partT at q
      rw [if_neg h1, if_neg h2, if_pos h3] at q
      exact q
    have h3 : ¬ kd = "integer" := fun e => h (decide_eq_true e)
    refine ⟨_, rfl, rfl, _, rfl, ?_⟩
    rw [eq_txt]
    refine ite2 (fun h => ?_) (fun h => ?_)
    · have h4 : kd = "value" := of_decide_eq_true h
      refine ⟨_, rfl, v, t, 9999, rfl, tv, ?_⟩
      have q := k H fun _ _ e => e
      unfold partT at q
      rw [if_neg h1, if_neg h2, if_neg h3, if_pos h4] at q
      exact q
    have h4 : ¬ kd = "value" := fun e => h (decide_eq_true e)
    have last : ¬ (kd = "source" ∧ numT 99 t = true) → spOf nameT K [v] H Q E0 := fun h5 => ⟨v, t, rfl, tv, fun H' s' => by
      have q := k H' s'
      unfold partT at q
      rw [if_neg h1, if_neg h2, if_neg h3, if_neg h4, if_neg h5] at q
      exact q⟩
    refine ⟨_, rfl, rfl, _, rfl, ?_⟩
    rw [eq_txt]
    refine ite2 (fun h => ?_) (fun h => ?_)
    · have h5 : kd = "source" := of_decide_eq_true h
      refine ⟨_, rfl, v, t, 99, rfl, tv, _, rfl, ?_⟩
      cases e : numT 99 t with
      | true =>
        have q := k H fun _ _ e => e
        unfold partT at q
        rw [if_neg h1, if_neg h2, if_neg h3, if_neg h4, if_pos ⟨h5, e⟩] at q
        exact iteT q
      | false => exact iteF ⟨_, rfl, last fun z => by rw [e] at z; exact Bool.noConfusion z.2⟩
    · exact iteF ⟨_, rfl, last fun z => h (decide_eq_true z.1)⟩
end
/-! None in a dict of the module -/
section
variable {X : Cx} {d : Addr} {es : Array DictEntry} {n : Nat}
theorem kd_none {P : Program} {w : World} {h : Heap} {f : Str → Option Value} (m : h.MapOf (PySem.strKind P w) d f) : ∃ g, h.MapOf (noneKind P w) d g ∧ g none = none := by
  obtain ⟨o, es, ep, ho, hx, hdt, hk, hf⟩ := m
  refine ⟨fun k => findBy (noneKind P w).is es k, ⟨o, es, ep, ho, hx, hdt, fun e he => ?_, fun k => rfl⟩, ?_⟩
  · obtain ⟨k, h1, h2⟩ := hk e he
    exact ⟨some (.inr k), h1, h2⟩
  · have q : (es.find? fun e => nkIs none e.key) = none := by
      rw [Array.find?_eq_none]
      intro e he hq
      obtain ⟨k, h1, _⟩ := hk e he
      have e1 : keyIs (.inr k) e.key = true := h1
      rw [nk_none hq] at e1
      exact keyIs_none (.inr k) e1
    show (es.find? fun e => nkIs none e.key).map (·.val) = none
    rw [q] <;> rfl
/-- None or a text in a dict of the module -/
theorem op_in_kdN (D : KDict X.K X.w d es n) : OpR X (compareOp .In) (fun x y H Q => y = .ref d ∧ ((x = .non ∧ Q (.bl false) H) ∨ ∃ (z : Str) (r : Option Value), x = .str z ∧ PySem.W.nsIn X.K d z = some r ∧ Q (.bl r.isSome) H)) := by
  intro pins s σ H x y v u Q I rx ry h
  obtain ⟨rfl, ⟨rfl, q⟩ | ⟨z, r, rfl, e, q⟩⟩ := h
  · cases ry
    obtain rfl : v = Value.none := rx
    obtain ⟨g, m, e⟩ := kd_none (PySem.W.mapOf_K (prog := X.prog) I.kIn D.at_ D.lit)
    refine wpAny_in_of (show (noneKind X.prog X.w).is none .none = true from rfl) D.low m ?_
    rw [e]
    exact ⟨.bl false, H, I.tok _, rfl, q⟩
  · exact op_in_kd D pins s σ H _ _ _ _ Q I rx ry ⟨z, r, rfl, rfl, e, q⟩
end
end BK



set_option Elab.async false
set_option maxRecDepth 100000
set_option maxHeartbeats 1000000
/-! is_kind, are_params, is_triple. -/
namespace BK
open PySem PySem.Spec PyProof.Rows L2
def kindT : Tr → Bool
  | .str s => decide (s = "context") || decide (s = "token")
  | _ => false
def paramT : Tr → Bool
  | .tup [_, k] => kindT k
  | _ => false
def firstT : Tr → Tr
  | .tup (s :: _) => s
  | t => t
def paramsT : Tr → Bool
  | .tup ts => decide (ts.length ≤ 2) && ts.all paramT && diffT (ts.map firstT)
  | _ => false
def tripleT : Tr → Bool
  | .tup [n, p, b] => nameT n && paramsT p && isTup b
  | _ => false
/-- the kinds, the greatest number of params -/
structure Kinds (K : PySem.W.Frag) (mg : Str → Option Value) : Prop where
  kd : ∃ a, mg "KINDS" = some (.ref a) ∧ ∀ H, SqT K H a [.str "context", .str "token"]
  mp : ∃ t, mg "MOST_PARAMS" = some (.int 2 t)
section
variable {P : Program} {w : World} {K : PySem.W.Frag} {mg : Str → Option Value} {base : Heap}
abbrev sKind : Stmt := top 33
abbrev sParams : Stmt := top 34
abbrev sTriple : Stmt := top 35
theorem scKind : FnScope ["thing"] ["thing"] (defScope sKind) := ⟨rfl, rfl, rfl, by decide +kernel, rfl, by decide +kernel, by decide +kernel⟩
theorem ok_kind {f : Addr} {fd : FuncData} (F : Fun K "is_kind" "is_kind" sKind f fd) (T : Forms mg) (U : Kinds K mg) : FnOk P w K mg base CX0 1 f fd ["thing"] (spOf kindT K) := by
  refine F.ok scKind (fun vs H Q E h => ?_) (fun cdv A outer s H vs Q E hr h => ?_)
  · obtain ⟨v, t, rfl, _⟩ := h
    rfl
  · obtain ⟨v, t, rfl, ht, k⟩ := h
    obtain ⟨a, gK, sK⟩ := U.kd
    refine ⟨_, pss_one (ps_ret (pe_and (pe_callB call_isi (by rfl) T.isi boot_isinstance (pa_cons (pv 0) (pa_cons (pe_bltn (v := .ty "str") (u := .type "str") (by rfl) T.str (by decide +kernel) rfl) pa_nil)))
      (pe_one (pe_cmpR op_in_seq (pv 0) (pe_glob (v := .ref a) rfl gK rfl) rfl)))), ?_⟩
    refine ⟨_, rfl, v, .ty "str", .type (tyT t), .type "str", isStr t, rfl, .ty "str", ht.ty, k_str K t, _, rfl, ?_⟩
    have q := k H fun _ _ e => e
    cases ht with
    | str z hz =>
      refine iteT ⟨_, rfl, a, _, rfl, .inr (sK _), rfl, rfl, ?_⟩
      have e : inV (.str z) [.str "context", .str "token"] = kindT (.str z) := by
        show (eqV (.str "context") (.str z) || (eqV (.str "token") (.str z) || false)) = (decide (z = "context") || decide (z = "token"))
        rw [Bool.or_false]
        congr 1
        · show (("context" : Str) == z) = _
          by_cases e : z = "context"
          · simp [e]
          · have e' : ¬ ("context" : Str) = z := fun w => e w.symm
            simp [e, e']
        · show (("token" : Str) == z) = _
          by_cases e : z = "token"
          · simp [e]
          · have e' : ¬ ("token" : Str) = z := fun w => e w.symm
            simp [e, e']
      rw [e]
      exact q
    | int i => exact iteF q
    | bl b => exact iteF q
    | non => exact iteF q
    | lst h => exact iteF q
    | dct h => exact iteF q
    | tup h r => exact iteF q
theorem scParams : FnScope ["thing", "param", "slot", "kind"] ["thing"] (defScope sParams) := ⟨rfl, rfl, rfl, by decide +kernel, rfl, by decide +kernel, by decide +kernel⟩
theorem params_tup (ts : List Tr) : paramsT (.tup ts) = (decide (ts.length ≤ 2) && ts.all paramT && diffT (ts.map firstT)) := rfl
theorem param_not {ts : List Tr} (h : ¬ ts.length = 2) : paramT (.tup ts) = false := by
  match ts, h with
  | [], _ => rfl
  | [_], _ => rfl
  | [_, _], h => exact absurd rfl h
  | _ :: _ :: _ :: _, _ => rfl
theorem param_two : ∀ {t : Tr}, paramT t = true → ∃ s k, t = .tup [s, k]
  | .tup [s, k], _ => ⟨s, k, rfl⟩
theorem ok_params {f fT fK fD : Addr} {fd fdT fdK fdD : FuncData} (F : Fun K "are_params" "are_params" sParams f fd) (T : Forms mg) (U : Kinds K mg)
    (GT : FnOk P w K mg base CX0 1 fT fdT ["thing", "count"] (spTuple K)) (bT : Binds K fdT ["thing", "count"] []) (gT : mg "is_tuple" = some (.ref fT)) (kT : PySem.W.keepIn K (.ref fT) = true)
    (GK : FnOk P w K mg base CX0 1 fK fdK ["thing"] (spOf kindT K)) (bK : Binds K fdK ["thing"] []) (gK : mg "is_kind" = some (.ref fK)) (kK : PySem.W.keepIn K (.ref fK) = true)
    (GD : FnOk P w K mg base CX0 2 fD fdD ["things"] (spDiff K)) (bD : Binds K fdD ["things"] []) (gD : mg "are_different_names" = some (.ref fD)) (kD : PySem.W.keepIn K (.ref fD) = true) : FnOk P w K mg base CX0 3 f fd ["thing"] (spOf paramsT K) := by
  refine F.ok scParams (fun vs H Q E h => ?_) (fun cdv A outer s H vs Q E hr h => ?_)
  · obtain ⟨v, t, rfl, _⟩ := h
    rfl
  · obtain ⟨v, t, rfl, ht, k⟩ := h
    obtain ⟨t2, gM⟩ := U.mp
    have hr1 : Room 1 _ := hr.mono (by decide)
    refine ⟨_, pss_cons (ps_if (PW.pt (pw_or (pt_not (pt_val (pe_callB call_isi (by rfl) T.isi boot_isinstance (pa_cons (pv 0) (pa_cons (pe_bltn (v := .ty "tuple") (u := .type "tuple") (by rfl) T.tuple (by decide +kernel) rfl) pa_nil)))))
        (pw_or1 (pt_cmpR op_gt (pe_callB call_len_seq (by rfl) T.len boot_len (pa_cons (pv 0) pa_nil)) (pe_glob (v := .int 2) rfl gM ⟨_, rfl⟩) rfl)))) (pss_one (ps_ret pe_bl)) pss_nil)
      (pss_cons (ps_if (pt_not (pt_val (pe_callB (cr_all rfl) (by rfl) T.all (by decide +kernel) (pa_cons (pe_lc (own := [("param", 1)]) (g := gName 1) (tt := tYes)
          (te := tAndV (tCall (spTuple K) [] E0 (tCons (tVar 1) (tCons (tC (.int 2)) tNil))) (tCall (spOf kindT K) [] E0 (tCons (tOp (rIxT K) (tVar 1) (tC (.int 1))) tNil))) rfl scParams.nd (pi_tup (pv 0))
          (blkOk_by (N := ["thing", "param", "slot", "kind"]) (sc := defScope sParams) (by decide +kernel)) (fun _ _ _ _ _ => pg_name (i := 1) scParams.nd rfl (Or.inl rfl)) (fun _ _ _ _ _ => pts_nil)
          (fun _ _ _ _ _ => pe_and (by exact pe_call GT hr1 rfl gT kT bT .nil pass0 (pa_cons (pv 1) (pa_cons pe_int pa_nil))) (pe_one (by exact pe_call GK hr1 rfl gK kK bK .nil pass0 (pa_cons (pe_ix ix_tup (pv 1) pe_int (fun _ _ => rfl)) pa_nil))))) pa_nil)))) (pss_one (ps_ret pe_bl)) pss_nil)
      (pss_one (ps_ret (pe_call GD hr rfl gD kD bD .nil pass0 (pa_cons (pe_lc (own := [("slot", 2), ("kind", 3)]) (g := gTup K 2 (gCons (gName 2) (gCons (gName 3) gNil))) (tt := tYes) (te := tVar 2) rfl scParams.nd (pi_tup (pv 0))
          (blkOk_by (N := ["thing", "param", "slot", "kind"]) (sc := defScope sParams) (by decide +kernel))
          (fun _ _ _ _ _ => by exact pg_tup rfl (pgs_cons (pg_name (i := 2) scParams.nd rfl (Or.inl rfl)) (pgs_cons (pg_name (i := 3) scParams.nd rfl (Or.inl rfl)) pgs_nil))) (fun _ _ _ _ _ => pts_nil)
          (fun _ _ _ _ _ => pv 2)) pa_nil))))), ?_⟩
    refine ⟨_, rfl, v, .ty "tuple", .type (tyT t), .type "tuple", isTup t, rfl, .ty "tuple", ht.ty, k_tup K t, _, rfl, ?_⟩
    have q0 := k H fun _ _ e => e
    cases ht with
    | int i => exact iteT (iteT q0)
    | bl b => exact iteT (iteT q0)
    | str z hz => exact iteT (iteT q0)
    | non => exact iteT (iteT q0)
    | lst h => exact iteT (iteT q0)
    | dct h => exact iteT (iteT q0)
    | @tup a xs ts h tr =>
    refine iteF ⟨_, rfl, a, xs, rfl, .inr h, _, _, rfl, rfl, _, rfl, ?_⟩
    have el := tr.len
    refine ite2 (fun hgt => ?_) (fun hgt => ?_)
    · have hl : ¬ ts.length ≤ 2 := by
        have := of_decide_eq_true hgt
        omega
      have e : paramsT (.tup ts) = false := by
        rw [params_tup, decide_eq_false hl, Bool.false_and, Bool.false_and]
      rw [e] at q0
      exact q0
    have hl : ts.length ≤ 2 := by
      have : ¬ ((xs.length : Int) > 2) := fun z => hgt (decide_eq_true z)
      omega
    -- all([..])
    refine ⟨_, rfl, a, rfl, ⟨xs, h⟩, fun D nD => ?_⟩
    refine lc_it (walk_tup (K := K) (a := a) (xs := xs)) (fun i H2 => Same H H2 ∧ H2 D = some (.lst (((ts.take i).map paramT).map V.bl))) ⟨same_new nD, upd_same⟩ (fun i H2 _ ⟨s2, _⟩ => sqt_same s2 h) ?_ ?_
    · rintro i x H2 H3 hi ⟨s2, e2⟩ ⟨rfl, hx⟩
      obtain ⟨t, ht, tx⟩ := (tr.same s2).get hx
      have put : ∀ (b : Bool) (H' : Hp), b = paramT t → Same H3 H' → ∃ acc, H' D = some (.lst acc) ∧ acc.length < sizeLine ∧ Same H (upd H' D (.lst (acc ++ [.bl b]))) ∧ (upd H' D (.lst (acc ++ [.bl b]))) D = some (.lst (((ts.take (i + 1)).map paramT).map V.bl)) := by
        intro b H' eb s'
        refine ⟨_, s' _ _ e2, small1000 (by rw [List.length_map, List.length_map, List.length_take]; omega), fun b o e => ?_, ?_⟩
        · rw [upd_ne (ne_of_none e nD)]
          exact s' _ _ (s2 b o e)
        · rw [upd_same, List.take_add_one, ht, List.map_append, List.map_append, eb]
          rfl
      refine ⟨rfl, ?_⟩
      refine tyes ?_
      refine ⟨_, rfl, x, t, 2, rfl, tx, ?_⟩
      cases tx with
      | int i => exact ⟨_, rfl, iteF (put false _ rfl fun _ _ e => e)⟩
      | bl b => exact ⟨_, rfl, iteF (put false _ rfl fun _ _ e => e)⟩
      | str z hz => exact ⟨_, rfl, iteF (put false _ rfl fun _ _ e => e)⟩
      | non => exact ⟨_, rfl, iteF (put false _ rfl fun _ _ e => e)⟩
      | lst h => exact ⟨_, rfl, iteF (put false _ rfl fun _ _ e => e)⟩
      | dct h => exact ⟨_, rfl, iteF (put false _ rfl fun _ _ e => e)⟩
      | @tup b ys us hu tu =>
        refine ⟨_, rfl, ?_⟩
        refine ite2 (fun h2 => ?_) (fun h2 => ?_)
        · have l2 : us.length = 2 := by
            have := of_decide_eq_true h2
            omega
          obtain ⟨s0, k0, rfl⟩ : ∃ s0 k0, us = [s0, k0] := by
            match us, l2 with
            | [s0, k0], _ => exact ⟨s0, k0, rfl⟩
          obtain ⟨w, hw, tw⟩ := tu.get' (i := 1) (t := k0) rfl
          exact ⟨_, rfl, b, ys, 1, w, rfl, rfl, hu, at_of (j := 1) rfl hw, w, k0, rfl, tw, fun H' s' => put (kindT k0) H' rfl s'⟩
        · have l2 : ¬ us.length = 2 := fun z => h2 (decide_eq_true (by omega))
          exact put false _ (param_not l2).symm fun _ _ e => e
    rintro H2 ⟨s2, e2⟩
    have et : ts.take xs.length = ts := by rw [el, List.take_length]
    rw [et] at e2
    refine ⟨D, _, rfl, SqL.of e2, _, rfl, ?_⟩
    have ea : (ts.map paramT).all id = ts.all paramT := by rw [List.all_map]; rfl
    rw [ea]
    cases hp : ts.all paramT with
    | false =>
      have e : paramsT (.tup ts) = false := by rw [params_tup, hp, Bool.and_false, Bool.false_and]
      have q2 := k H2 s2
      rw [e] at q2
      exact iteT q2
    | true =>
    refine iteF ?_
    have e : paramsT (.tup ts) = diffT (ts.map firstT) := by rw [params_tup, hp, decide_eq_true hl, Bool.true_and, Bool.true_and]
    refine ⟨_, rfl, a, rfl, ⟨xs, sqt_same s2 h⟩, fun D2 nD2 => ?_⟩
    refine lc_it (walk_tup (K := K) (a := a) (xs := xs)) (fun i H3 => Same H2 H3 ∧ ∃ bs, H3 D2 = some (.lst bs) ∧ TrAll K H3 bs ((ts.take i).map firstT)) ⟨same_new nD2, [], upd_same, .nil⟩ (fun i H3 _ ⟨s3, _⟩ => sqt_same (s2.trans s3) h) ?_ ?_
    · rintro i x H3 H4 hi ⟨s3, bs, e3, b3⟩ ⟨rfl, hx⟩
      obtain ⟨t, ht, tx⟩ := (tr.same (s2.trans s3)).get hx
      have pt : paramT t = true := List.all_eq_true.mp hp t (List.mem_of_getElem? ht)
      obtain ⟨s0, k0, rfl⟩ := param_two pt
      cases tx with
      | @tup b ys us hu tu =>
        have l2 := tu.len
        obtain ⟨y0, y1, rfl⟩ : ∃ y0 y1, ys = [y0, y1] := by
          match ys, l2 with
          | [y0, y1], _ => exact ⟨y0, y1, rfl⟩
        obtain ⟨w, hw, tw⟩ := tu.get' (i := 0) (t := s0) rfl
        obtain rfl : y0 = w := Option.some.inj hw
        refine ⟨b, _, rfl, hu, rfl, _, _, rfl, _, _, rfl, rfl, rfl, ?_⟩
        refine tyes ?_
        refine ⟨_, rfl, bs, e3, small1000 (by rw [b3.len, List.length_map, List.length_take]; omega), fun b o e => ?_, _, upd_same, ?_⟩
        · rw [upd_ne (ne_of_none e nD2)]
          exact s3 b o e
        · rw [List.take_add_one, ht, List.map_append]
          exact (b3.updL e3).snoc (tw.updL e3)
    · rintro H3 ⟨s3, bs, e3, b3⟩
      rw [et] at b3
      refine ⟨D2, bs, ts.map firstT, rfl, .inl (SqL.of e3), b3, by rw [List.length_map]; omega, fun H4 s4 => ?_⟩
      have q2 := k H4 ((s2.trans s3).trans s4)
      rw [e] at q2
      exact q2
end
end BK



set_option Elab.async false
set_option maxRecDepth 100000
set_option maxHeartbeats 1000000
/-! is_triple. -/
namespace BK
open PySem PySem.Spec PyProof.Rows L2
section
variable {P : Program} {w : World} {K : PySem.W.Frag} {mg : Str → Option Value} {base : Heap}
theorem scTriple : FnScope ["thing"] ["thing"] (defScope sTriple) := ⟨rfl, rfl, rfl, by decide +kernel, rfl, by decide +kernel, by decide +kernel⟩
theorem triple_not {ts : List Tr} (h : ¬ ts.length = 3) : tripleT (.tup ts) = false := by
  match ts, h with
  | [], _ => rfl
  | [_], _ => rfl
  | [_, _], _ => rfl
  | [_, _, _], h => exact absurd rfl h
  | _ :: _ :: _ :: _ :: _, _ => rfl
theorem ok_triple {f fT fN fP : Addr} {fd fdT fdN fdP : FuncData} (F : Fun K "is_triple" "is_triple" sTriple f fd) (T : Forms mg)
    (GT : FnOk P w K mg base CX0 1 fT fdT ["thing", "count"] (spTuple K)) (bT : Binds K fdT ["thing", "count"] []) (gT : mg "is_tuple" = some (.ref fT)) (kT : PySem.W.keepIn K (.ref fT) = true)
    (GN : FnOk P w K mg base CX0 1 fN fdN ["thing"] (spOf nameT K)) (bN : Binds K fdN ["thing"] []) (gN : mg "is_name" = some (.ref fN)) (kN : PySem.W.keepIn K (.ref fN) = true)
    (GP : FnOk P w K mg base CX0 3 fP fdP ["thing"] (spOf paramsT K)) (bP : Binds K fdP ["thing"] []) (gP : mg "are_params" = some (.ref fP)) (kP : PySem.W.keepIn K (.ref fP) = true) : FnOk P w K mg base CX0 4 f fd ["thing"] (spOf tripleT K) := by
  refine F.ok scTriple (fun vs H Q E h => ?_) (fun cdv A outer s H vs Q E hr h => ?_)
  · obtain ⟨v, t, rfl, _⟩ := h
    rfl
  · obtain ⟨v, t, rfl, ht, k⟩ := h
    have hr1 : Room 1 _ := hr.mono (by decide)
    refine ⟨_, pss_one (ps_ret (pe_and (pe_call GT hr1 rfl gT kT bT .nil pass0 (pa_cons (pv 0) (pa_cons pe_int pa_nil)))
      (pe_and (pe_call GN hr1 rfl gN kN bN .nil pass0 (pa_cons (pe_ix ix_tup (pv 0) pe_int (fun _ _ => rfl)) pa_nil))
      (pe_and (pe_call GP hr rfl gP kP bP .nil pass0 (pa_cons (pe_ix ix_tup (pv 0) pe_int (fun _ _ => rfl)) pa_nil))
      (pe_one (pe_callB call_isi (by rfl) T.isi boot_isinstance (pa_cons (pe_ix ix_tup (pv 0) pe_int (fun _ _ => rfl)) (pa_cons (pe_bltn (v := .ty "tuple") (u := .type "tuple") (by rfl) T.tuple (by decide +kernel) rfl) pa_nil)))))))), ?_⟩
    refine ⟨_, rfl, v, t, 3, rfl, ht, _, rfl, ?_⟩
    have q0 := k H fun _ _ e => e
    cases ht with
    | int i => exact iteF q0
    | bl b => exact iteF q0
    | str z hz => exact iteF q0
    | non => exact iteF q0
    | lst h => exact iteF q0
    | dct h => exact iteF q0
    | @tup a xs ts h tr =>
      refine ite2 (fun h3 => ?_) (fun h3 => ?_)
      · have l3 : ts.length = 3 := by
          have := of_decide_eq_true h3
          omega
        obtain ⟨n, p, b, rfl⟩ : ∃ n p b, ts = [n, p, b] := by
          match ts, l3 with
          | [n, p, b], _ => exact ⟨n, p, b, rfl⟩
        have e : tripleT (.tup [n, p, b]) = (nameT n && paramsT p && isTup b) := rfl
        rw [e] at k
        obtain ⟨v0, g0, t0⟩ := tr.get' (i := 0) (t := n) rfl
        obtain ⟨v1, g1, t1⟩ := tr.get' (i := 1) (t := p) rfl
        obtain ⟨v2, g2, t2⟩ := tr.get' (i := 2) (t := b) rfl
        refine ⟨_, rfl, a, xs, 0, v0, rfl, rfl, h, at_of (j := 0) rfl g0, v0, n, rfl, t0, fun H1 s1 => ⟨_, rfl, ?_⟩⟩
        cases en : nameT n with
        | false =>
          have q := k H1 s1
          rw [en, Bool.false_and, Bool.false_and] at q
          exact iteF q
        | true =>
        refine iteT ⟨_, rfl, a, xs, 1, v1, rfl, rfl, sqt_same s1 h, at_of (j := 1) rfl g1, v1, p, rfl, t1.same s1, fun H2 s2 => ⟨_, rfl, ?_⟩⟩
        have s12 := s1.trans s2
        cases ep : paramsT p with
        | false =>
          have q := k H2 s12
          rw [en, ep, Bool.and_false, Bool.false_and] at q
          exact iteF q
        | true =>
        refine iteT ⟨_, rfl, a, xs, 2, v2, rfl, rfl, sqt_same s12 h, at_of (j := 2) rfl g2, v2, .ty "tuple", .type (tyT b), .type "tuple", isTup b, rfl, .ty "tuple", (t2.same s12).ty, k_tup K b, ?_⟩
        have q := k H2 s12
        rw [en, ep, Bool.true_and, Bool.true_and] at q
        exact q
      · have l3 : ¬ ts.length = 3 := fun z => h3 (decide_eq_true (by omega))
        rw [triple_not l3] at q0
        exact q0
end
end BK



set_option Elab.async false
set_option linter.all false
set_option maxRecDepth 100000
set_option maxHeartbeats 4000000
/-! list(zip(t, u)) of two tuples: a list of new pairs. -/
namespace LZ
open PySem PySem.Spec PyProof.Rows
section
variable {prog : Program} {w : World} {A : Around} {E : Value → Shared → Prop} {s : Shared}
/-- the next pair, the one ahead of it kept by somebody -/
theorem next_kept {z TI TO T i1 i2 a b : Addr} {f : Bool} {oT : Obj} {k : Nat} {xs ys : Array Value} {x y : Value} {Q : Option Value → Shared → Prop} (D : ZipApart z TI TO i1 i2 a b) (hz : IsZipHeld s.heap z TI TO T f) (hT : s.heap.get? T = some oT)
    (hp : IsPair s.heap TI (.ref i1) (.ref i2)) (h1 : s.heap.IsTupleIter i1 a k) (h2 : s.heap.IsTupleIter i2 b k) (ta : s.heap.IsTuple a xs) (tb : s.heap.IsTuple b ys) (hx : xs[k]? = some x) (hy : ys[k]? = some y)
    (q : ∀ h', IsZipHeld h' z TI TO T true → h'.IsTupleIter i1 a (k + 1) → h'.IsTupleIter i2 b (k + 1) → IsPair h' s.heap.objs.size x y → (∀ c o, c ≠ z → c ≠ i1 → c ≠ i2 → s.heap.get? c = some o → h'.get? c = some o) → Q (some (.ref s.heap.objs.size)) { s with heap := h' }) :
    wpAny (model prog w) A (pyNext (.ref z)) Q E s := by
  have ty : s.TypeIs (.ref z) "zip" := ⟨_, hz, rfl⟩
  unfold pyNext
  refine wpAny_bind (wpAny_attempt (wpAny_callSpecial?_slot (name := Str.ofString "__next__") ty F.slot_zip_next (wpAny_call_entry F.slot_zip_next ty F.entry_zip_next ?_ (F.args_zip_next_1 _))))
  show wpAny _ _ (field (.ref z) 2 >>= _) _ _ _
  refine wpAny_bind (wpAny_field hz rfl (x := .bool false) rfl ?_)
  show wpAny _ _ (field (.ref z) 3 >>= _) _ _ _
  refine wpAny_bind (wpAny_field hz rfl (x := .ref TI) rfl (wpAny_bind (wpAny_seqItems hp rfl ?_)))
  show wpAny _ _ (Builtin.SmallTypes.ownedTupleIsFree (.ref z) >>= _) _ _ _
  refine wpAny_bind (wpAny_tupleHeld_zip hz hT fun g₁ z₁ s₁ => ?_)
  simp only [Bool.false_eq_true, if_false]
  refine wpAny_bind ?_
  rw [← Array.forIn_toList]
  simp only [List.forIn_cons, List.forIn_nil]
  refine wpAny_bind (wpAny_bind (wpAny_holding ?_))
  show wpAny _ _ (Builtin.SmallTypes.nextOf (.ref i1) >>= _) _ _ _
  refine wpAny_bind (RZ.nextOf_tuple_item (s := { s with heap := g₁ }) (h1.extBut s₁.extBut D.i1z) (ta.extBut s₁.extBut D.l1z) hx fun g₂ n₁ s₂ => wpAny_pure (wpAny_pure ?_))
  refine wpAny_bind (wpAny_bind (wpAny_holding ?_))
  show wpAny _ _ (Builtin.SmallTypes.nextOf (.ref i2) >>= _) _ _ _
  refine wpAny_bind (RZ.nextOf_tuple_item (s := { s with heap := g₂ }) ((h2.extBut s₁.extBut D.i2z).extBut s₂.extBut D.i12.symm) ((tb.extBut s₁.extBut D.l2z).extBut s₂.extBut D.l2i1) hy fun g₃ n₂ s₃ => wpAny_pure (wpAny_pure (wpAny_pure ?_)))
  show wpAny _ _ (newTuple [x, y] >>= _) _ _ _
  refine wpAny_bind (wpAny_newTuple (wpAny_pure ?_))
  have sz : g₃.objs.size = s.heap.objs.size := by rw [s₃.1, s₂.1, s₁.1]
  have z₃ : IsZipHeld g₃ z TI TO T true := s₃.extBut _ _ D.i2z.symm (s₂.extBut _ _ D.i1z.symm z₁)
  have kp : ∀ c o, c ≠ z → c ≠ i1 → c ≠ i2 → s.heap.get? c = some o → g₃.get? c = some o := fun c o c1 c2 c3 e => s₃.extBut _ _ c3 (s₂.extBut _ _ c2 (s₁.extBut _ _ c1 e))
  have n₃ : g₃.IsTupleIter i1 a (k + 1) := n₁.extBut s₃.extBut D.i12
  have np : IsPair (g₃.push { cls := .type "tuple", data := .seq #[x, y] }) g₃.objs.size x y := Heap.get?_push_size _ rfl
  refine ⟨_, rfl, ?_⟩
  show wpAny _ _ (pure _) _ _ _
  refine wpAny_pure ?_
  show Q (some (.ref g₃.objs.size)) _
  rw [sz] at np ⊢
  exact q _ (Heap.get?_push_of_some _ z₃) (n₃.at fun o e => Heap.get?_push_of_some _ e) (n₂.at fun o e => Heap.get?_push_of_some _ e) np fun c o c1 c2 c3 e => Heap.get?_push_of_some _ (kp c o c1 c2 c3 e)
/-- no more -/
theorem end_kept {z TI TO T i1 i2 a b : Addr} {f : Bool} {oT : Obj} {k : Nat} {xs : Array Value} {Q : Option Value → Shared → Prop} (calm : A.handled = none) (D : ZipApart z TI TO i1 i2 a b) (hz : IsZipHeld s.heap z TI TO T f) (hT : s.heap.get? T = some oT)
    (hp : IsPair s.heap TI (.ref i1) (.ref i2)) (h1 : s.heap.IsTupleIter i1 a k) (ta : s.heap.IsTuple a xs) (hx : xs[k]? = none) (q : ∀ h', (∀ c o, c ≠ z → c ≠ i1 → s.heap.get? c = some o → h'.get? c = some o) → Q none { s with heap := h' }) :
    wpAny (model prog w) A (pyNext (.ref z)) Q E s := by
  have ty : s.TypeIs (.ref z) "zip" := ⟨_, hz, rfl⟩
  unfold pyNext
  refine wpAny_bind (wpAny_attempt (wpAny_callSpecial?_slot (name := Str.ofString "__next__") ty F.slot_zip_next (wpAny_call_entry F.slot_zip_next ty F.entry_zip_next ?_ (F.args_zip_next_1 _))))
  show wpAny _ _ (field (.ref z) 2 >>= _) _ _ _
  refine wpAny_bind (wpAny_field hz rfl (x := .bool false) rfl ?_)
  show wpAny _ _ (field (.ref z) 3 >>= _) _ _ _
  refine wpAny_bind (wpAny_field hz rfl (x := .ref TI) rfl (wpAny_bind (wpAny_seqItems hp rfl ?_)))
  show wpAny _ _ (Builtin.SmallTypes.ownedTupleIsFree (.ref z) >>= _) _ _ _
  refine wpAny_bind (wpAny_tupleHeld_zip hz hT fun g₁ z₁ s₁ => ?_)
  simp only [Bool.false_eq_true, if_false]
  refine wpAny_bind ?_
  rw [← Array.forIn_toList]
  simp only [List.forIn_cons, List.forIn_nil]
  refine wpAny_bind (wpAny_bind (wpAny_holding ?_))
  show wpAny _ _ (Builtin.SmallTypes.nextOf (.ref i1) >>= _) _ _ _
  refine wpAny_bind (RZ.nextOf_tuple_end (s := { s with heap := g₁ }) calm (h1.extBut s₁.extBut D.i1z) (ta.extBut s₁.extBut D.l1z) hx fun g₂ e s₂ he => ?_)
  obtain ⟨o, ho, hc⟩ := he
  refine wpAny_bind (wpAny_isInstance (T := "StopIteration") (b := true) ⟨o, ho, hc⟩ isSubtype_stop ?_)
  exact wpAny_pure (q _ fun c o c1 c2 x => s₂ _ _ c2 (s₁.extBut _ _ c1 x))
end
end LZ



set_option Elab.async false
set_option linter.all false
set_option maxRecDepth 100000
set_option maxHeartbeats 4000000
namespace LZ
open PySem PySem.Spec PyProof.Rows
theorem cls_ne {h : Heap} {c : Addr} {o o' : Obj} (e : h.get? c = some o) (e' : h.get? c = some o') (n : o.cls ≠ o'.cls) : False := n (congrArg Obj.cls (Option.some.inj (e.symm.trans e')))
abbrev lstO (vs : List Value) (c : Nat) : Obj := { cls := .type "list", dict := none, data := .seq vs.toArray c, slots := #[] }
/-- the zip at its turn i -/
structure ZS (h : Heap) (z TI TO i1 i2 a b : Addr) (xs ys : Array Value) (i : Nat) : Prop where
  p : IsPair h TI (.ref i1) (.ref i2)
  o : ∃ x y, IsPair h TO x y
  n1 : h.IsTupleIter i1 a i
  n2 : h.IsTupleIter i2 b i
  ta : h.IsTuple a xs
  tb : h.IsTuple b ys
  zz : (i = 0 ∧ IsZip h z TI TO .none) ∨ ∃ T f x y, IsZipHeld h z TI TO T f ∧ IsPair h T x y
section
variable {prog : Program} {w : World} {A : Around} {E : Value → Shared → Prop} {s : Shared} {z TI TO i1 i2 a b S : Addr} {xs ys : Array Value} {h h' : Heap} {i : Nat}
/-- only the list at S is written -/
theorem ZS.keep (Z : ZS h z TI TO i1 i2 a b xs ys i) {vs : List Value} {c : Nat} (hS : h.get? S = some (lstO vs c)) (k : ∀ c o, c ≠ S → h.get? c = some o → h'.get? c = some o) : ZS h' z TI TO i1 i2 a b xs ys i := by
  have ne : ∀ {c : Addr} {o : Obj}, h.get? c = some o → o.cls ≠ .type "list" → c ≠ S := fun e ho q => by
    rw [q, hS] at e
    cases e
    exact ho rfl
  have pr : ∀ {T : Addr} {x y : Value}, IsPair h T x y → IsPair h' T x y := fun e => k _ _ (ne e (by simp)) e
  obtain ⟨x0, y0, o0⟩ := Z.o
  obtain ⟨o1, e1, c1, d1⟩ := Z.n1
  obtain ⟨o2, e2, c2, d2⟩ := Z.n2
  obtain ⟨o3, e3, c3, n3, d3⟩ := Z.ta
  obtain ⟨o4, e4, c4, n4, d4⟩ := Z.tb
  refine ⟨pr Z.p, ⟨x0, y0, pr o0⟩, ⟨o1, k _ _ (ne e1 (by rw [c1]; simp)) e1, c1, d1⟩, ⟨o2, k _ _ (ne e2 (by rw [c2]; simp)) e2, c2, d2⟩, ⟨o3, k _ _ (ne e3 (by rw [c3]; simp)) e3, c3, n3, d3⟩, ⟨o4, k _ _ (ne e4 (by rw [c4]; simp)) e4, c4, n4, d4⟩, ?_⟩
  rcases Z.zz with ⟨e, q⟩ | ⟨T, f, x, y, q, t⟩
  · exact .inl ⟨e, k _ _ (ne q (by simp)) q⟩
  · exact .inr ⟨T, f, x, y, k _ _ (ne q (by simp)) q, pr t⟩
theorem ZS.zip (Z : ZS h z TI TO i1 i2 a b xs ys i) : ∃ f0 f1 : Value, h.get? z = some { cls := .type "zip", dict := none, data := .fields #[f0, f1, .bool false, .ref TI, .ref TO], slots := #[] } := by
  rcases Z.zz with ⟨e, q⟩ | ⟨T, f, x, y, q, t⟩
  · exact ⟨_, _, q⟩
  · exact ⟨_, _, q⟩
/-- one turn -/
theorem ZS.next (Z : ZS s.heap z TI TO i1 i2 a b xs ys i) (D : ZipApart z TI TO i1 i2 a b) {x y : Value} (hx : xs[i]? = some x) (hy : ys[i]? = some y) {Q : Option Value → Shared → Prop}
    (q : ∀ h', ZS h' z TI TO i1 i2 a b xs ys (i + 1) → IsPair h' s.heap.objs.size x y → (∀ c o, c ≠ z → c ≠ TO → c ≠ i1 → c ≠ i2 → s.heap.get? c = some o → h'.get? c = some o) → Q (some (.ref s.heap.objs.size)) { s with heap := h' }) :
    wpAny (model prog w) A (pyNext (.ref z)) Q E s := by
  obtain ⟨x0, y0, o0⟩ := Z.o
  rcases Z.zz with ⟨e, g⟩ | ⟨T, f, xT, yT, g, t⟩
  · refine RZ.pyNext_zipT_item D g Z.p o0 Z.n1 Z.n2 Z.ta Z.tb hx hy fun h' a1 a2 a3 a4 a5 a6 a7 => ?_
    have lt : ∀ {c o}, s.heap.get? c = some o → s.heap.objs.size ≠ c := fun e => Nat.ne_of_gt (Heap.lt_size e)
    exact q h' ⟨a7 _ _ D.TIz D.TITO D.TIi1 D.TIi2 Z.p, ⟨_, _, a2⟩, a3, a4, Z.ta.at fun o e => a7 _ o D.l1z D.l1TO D.l1i1 D.l1i2 e, Z.tb.at fun o e => a7 _ o D.l2z D.l2TO D.l2i1 D.l2i2 e, .inr ⟨_, false, x, y, a1, a5⟩⟩ a5 a7
  · refine next_kept D g t Z.p Z.n1 Z.n2 Z.ta Z.tb hx hy fun h' a1 a3 a4 a5 a7 => ?_
    have kp : ∀ c o, c ≠ z → c ≠ TO → c ≠ i1 → c ≠ i2 → s.heap.get? c = some o → h'.get? c = some o := fun c o c1 _ c3 c4 e => a7 c o c1 c3 c4 e
    have nz : T ≠ z := fun e => by
      rw [e] at t
      exact cls_ne t g (by simp)
    have n1 : T ≠ i1 := fun e => by
      obtain ⟨o, e1, e2, _⟩ := Z.n1
      rw [e] at t
      exact cls_ne t e1 (by rw [e2]; simp)
    have n2 : T ≠ i2 := fun e => by
      obtain ⟨o, e1, e2, _⟩ := Z.n2
      rw [e] at t
      exact cls_ne t e1 (by rw [e2]; simp)
    exact q h' ⟨kp _ _ D.TIz D.TITO D.TIi1 D.TIi2 Z.p, ⟨_, _, a7 _ _ D.TOz D.TOi1 D.TOi2 o0⟩, a3, a4, Z.ta.at fun o e => kp _ o D.l1z D.l1TO D.l1i1 D.l1i2 e, Z.tb.at fun o e => kp _ o D.l2z D.l2TO D.l2i1 D.l2i2 e, .inr ⟨T, true, _, _, a1, a7 _ _ nz n1 n2 t⟩⟩ a5 kp
theorem ZS.fin (Z : ZS s.heap z TI TO i1 i2 a b xs ys i) (D : ZipApart z TI TO i1 i2 a b) (calm : A.handled = none) (hx : xs[i]? = none) {Q : Option Value → Shared → Prop}
    (q : ∀ h', (∀ c o, c ≠ z → c ≠ TO → c ≠ i1 → c ≠ i2 → s.heap.get? c = some o → h'.get? c = some o) → Q none { s with heap := h' }) : wpAny (model prog w) A (pyNext (.ref z)) Q E s := by
  obtain ⟨x0, y0, o0⟩ := Z.o
  rcases Z.zz with ⟨e, g⟩ | ⟨T, f, xT, yT, g, t⟩
  · exact RZ.pyNext_zipT_end calm D g Z.p o0 Z.n1 Z.n2 Z.ta Z.tb (.inl hx) q
  · exact end_kept calm D g t Z.p Z.n1 Z.ta hx fun h' k => q h' fun c o c1 _ c3 _ e => k c o c1 c3 e
/-- the pairs made so far -/
def Made (h : Heap) (xs ys : Array Value) (ts : List Addr) : Prop := ∀ (j : Nat) (T : Addr), ts[j]? = some T → ∃ x y, xs[j]? = some x ∧ ys[j]? = some y ∧ IsPair h T x y
theorem loop {n N : Nat} {res : Value} {R : Result → Shared → Prop} (D : ZipApart z TI TO i1 i2 a b) (calm : A.handled = none) (lx : xs.size = n) (ly : ys.size = n) (few : n ≤ 1000) (lz : z < N) (lO : TO < N) (l1 : i1 < N) (l2 : i2 < N) (lS : S < N) (d : Nat) :
    ∀ (i : Nat) (s : Shared) (ts : List Addr) (c : Nat), i + d = n → ts.length = i → ZS s.heap z TI TO i1 i2 a b xs ys i → s.heap.get? S = some (lstO (ts.map Value.ref) c) → Made s.heap xs ys ts → ts.Nodup → (∀ T ∈ ts, N ≤ T) → N ≤ s.heap.objs.size →
      (∀ h' ts' c', ts'.length = n → h'.get? S = some (lstO (ts'.map Value.ref) c') → Made h' xs ys ts' → ts'.Nodup → (∀ T ∈ ts', N ≤ T) → (∀ c o, c ≠ S → c ≠ z → c ≠ TO → c ≠ i1 → c ≠ i2 → s.heap.get? c = some o → h'.get? c = some o) → R (.ok (.ret res)) { s with heap := h' }) →
      codeAny (model prog w) A (.builtin "list.extend.loop" ⟨[.ref S, .ref z, res], []⟩) R s := by
  have sz : sizeLine = 16777216 := sizeLine_eq
  induction d with
  | zero =>
    intro i s ts c e el Z hS mk nd ge le then_
    obtain rfl : i = n := e
    refine codeAny_builtin F.entry_extend_loop ?_
    rw [Around.under_plainId F.plain_extend_loop _]
    show wpAny _ A.in1 (pyNext (.ref z) >>= _) _ _ s
    refine wpAny_bind (Z.fin D (show A.in1.handled = none by simp [calm]) (by rw [Array.getElem?_eq_none_iff]; omega) fun h' k => ?_)
    have big : ∀ {c T : Nat}, c < N → N ≤ T → T ≠ c := fun h1 h2 => by omega
    have nS : S ≠ z ∧ S ≠ TO ∧ S ≠ i1 ∧ S ≠ i2 := by
      obtain ⟨f0, f1, gz⟩ := Z.zip
      obtain ⟨x0, y0, o0⟩ := Z.o
      obtain ⟨o1, e1, c1, _⟩ := Z.n1
      obtain ⟨o2, e2, c2, _⟩ := Z.n2
      refine ⟨fun q => ?_, fun q => ?_, fun q => ?_, fun q => ?_⟩
      · rw [q] at hS; exact cls_ne hS gz (by simp)
      · rw [q] at hS; exact cls_ne hS o0 (by simp)
      · rw [q] at hS; exact cls_ne hS e1 (by rw [c1]; simp)
      · rw [q] at hS; exact cls_ne hS e2 (by rw [c2]; simp)
    refine wpAny_pure (then_ h' ts c el (k _ _ nS.1 nS.2.1 nS.2.2.1 nS.2.2.2 hS) (fun j T hj => ?_) nd ge fun c o _ c1 c2 c3 c4 e => k c o c1 c2 c3 c4 e)
    obtain ⟨x, y, p1, p2, p3⟩ := mk j T hj
    have gT := ge T (List.mem_of_getElem? hj)
    exact ⟨x, y, p1, p2, k _ _ (big lz gT) (big lO gT) (big l1 gT) (big l2 gT) p3⟩
  | succ d ih =>
    intro i s ts c e el Z hS mk nd ge le then_
    have lt : i < n := by omega
    obtain ⟨x, hx⟩ : ∃ x, xs[i]? = some x := ⟨_, Array.getElem?_eq_getElem (by omega)⟩
    obtain ⟨y, hy⟩ : ∃ y, ys[i]? = some y := ⟨_, Array.getElem?_eq_getElem (by omega)⟩
    refine codeAny_builtin F.entry_extend_loop ?_
    rw [Around.under_plainId F.plain_extend_loop _]
    show wpAny _ A.in1 (pyNext (.ref z) >>= _) _ _ s
    refine wpAny_bind (Z.next D hx hy fun h' Z' np k => ?_)
    have big : ∀ {c T : Nat}, c < N → N ≤ T → T ≠ c := fun h1 h2 => by omega
    have nS : S ≠ z ∧ S ≠ TO ∧ S ≠ i1 ∧ S ≠ i2 := by
      obtain ⟨f0, f1, gz⟩ := Z.zip
      obtain ⟨x0, y0, o0⟩ := Z.o
      obtain ⟨o1, e1, c1, _⟩ := Z.n1
      obtain ⟨o2, e2, c2, _⟩ := Z.n2
      refine ⟨fun q => ?_, fun q => ?_, fun q => ?_, fun q => ?_⟩
      · rw [q] at hS; exact cls_ne hS gz (by simp)
      · rw [q] at hS; exact cls_ne hS o0 (by simp)
      · rw [q] at hS; exact cls_ne hS e1 (by rw [c1]; simp)
      · rw [q] at hS; exact cls_ne hS e2 (by rw [c2]; simp)
    have hS' := k _ _ nS.1 nS.2.1 nS.2.2.1 nS.2.2.2 hS
    show wpAny _ A.in1 (updateSeq S (·.push (.ref s.heap.objs.size)) >>= _) _ _ _
    have sm : ((ts.map Value.ref).toArray).size ≤ sizeLine := by rw [List.size_toArray, List.length_map]; omega
    refine wpAny_bind (wpAny_updateSeq hS' rfl ?_ sm (by show (((ts.map Value.ref).toArray).push _).size ≤ sizeLine + 1; rw [Array.size_push]; omega))
    have hS2 := Heap.get?_update_self (Obj.mapSeq (·.push (.ref s.heap.objs.size))) hS' rfl
    have oth : ∀ c o, c ≠ S → h'.get? c = some o → (h'.update S (Obj.mapSeq (·.push (.ref s.heap.objs.size)))).get? c = some o := fun c o nc e => (Heap.get?_update_other _ _ (Ne.symm nc)).trans e
    obtain ⟨c2, eS⟩ : ∃ c2, Obj.mapSeq (·.push (.ref s.heap.objs.size)) (lstO (ts.map Value.ref) c) = lstO ((ts ++ [s.heap.objs.size]).map Value.ref) c2 := by
      simp [Obj.mapSeq]
    rw [eS] at hS2
    have Z2 := Z'.keep hS' oth
    have nTS : s.heap.objs.size ≠ S := Nat.ne_of_gt (Heap.lt_size hS)
    have mk2 : Made (h'.update S (Obj.mapSeq (·.push (.ref s.heap.objs.size)))) xs ys (ts ++ [s.heap.objs.size]) := fun j T hj => by
      by_cases hj2 : j < ts.length
      · rw [List.getElem?_append_left hj2] at hj
        obtain ⟨x', y', p1, p2, p3⟩ := mk j T hj
        have gT := ge T (List.mem_of_getElem? hj)
        exact ⟨x', y', p1, p2, oth _ _ (big lS gT) (k _ _ (big lz gT) (big lO gT) (big l1 gT) (big l2 gT) p3)⟩
      · rw [List.getElem?_append_right (by omega)] at hj
        have j0 : j = ts.length := by
          have := (List.getElem?_eq_some_iff.mp hj).1
          simp at this
          omega
        subst j0
        rw [Nat.sub_self, List.getElem?_cons_zero] at hj
        obtain rfl : s.heap.objs.size = T := Option.some.inj hj
        rw [el]
        exact ⟨x, y, hx, hy, oth _ _ nTS np⟩
    have fresh : s.heap.objs.size ∉ ts := fun m => by
      obtain ⟨j, hj⟩ := List.getElem?_of_mem m
      obtain ⟨x', y', _, _, p3⟩ := mk j _ hj
      exact Nat.lt_irrefl _ (Heap.lt_size p3)
    refine wpAny_pure ⟨plainId_quiet F.plain_extend_loop _, ih (i + 1) _ (ts ++ [s.heap.objs.size]) c2 (by omega) (by rw [List.length_append, el]; rfl) Z2 hS2 mk2 (L2.nd_snoc nd fresh) (fun T hT => ?_) ?_ fun h2 ts' c' a1 a2 a3 a4 a5 a6 => ?_⟩
    · rcases List.mem_append.mp hT with q | q
      · exact ge T q
      · rw [List.mem_singleton.mp q]
        exact le
    · exact Nat.le_trans le (Nat.le_of_lt (Heap.lt_size (oth _ _ nTS np)))
    · exact then_ h2 ts' c' a1 a2 a3 a4 a5 fun c o c0 c1 c2 c3 c4 e => a6 c o c0 c1 c2 c3 c4 (oth _ _ c0 (k _ _ c1 c2 c3 c4 e))
end
end LZ



set_option Elab.async false
set_option linter.all false
set_option maxRecDepth 100000
set_option maxHeartbeats 4000000
namespace LZ
open PySem PySem.Spec PyProof.Rows
theorem zip_len : typeLookup (.type "zip") "__len__" = pure none := am_miss_of_fast (by decide +kernel)
theorem zip_hint : typeLookup (.type "zip") "__length_hint__" = pure none := am_miss_of_fast (by decide +kernel)
section
variable {prog : Program} {w : World} {A : Around} {E : Value → Shared → Prop} {s : Shared} {z TI TO i1 i2 a b : Addr} {xs ys : Array Value}
theorem ZS.mono {h h' : Heap} {i : Nat} (Z : ZS h z TI TO i1 i2 a b xs ys i) (k : ∀ c o, h.get? c = some o → h'.get? c = some o) : ZS h' z TI TO i1 i2 a b xs ys i := by
  obtain ⟨x0, y0, o0⟩ := Z.o
  refine ⟨k _ _ Z.p, ⟨x0, y0, k _ _ o0⟩, Z.n1.at fun o e => k _ o e, Z.n2.at fun o e => k _ o e, Z.ta.at fun o e => k _ o e, Z.tb.at fun o e => k _ o e, ?_⟩
  rcases Z.zz with ⟨e, q⟩ | ⟨T, f, x, y, q, t⟩
  · exact .inl ⟨e, k _ _ q⟩
  · exact .inr ⟨T, f, x, y, k _ _ q, k _ _ t⟩
/-- list(z), z a zip of two tuples of one length that nobody has asked -/
theorem list_zip {n : Nat} {Q : Value → Shared → Prop} (D : ZipApart z TI TO i1 i2 a b) (calm : A.handled = none) (Z : ZS s.heap z TI TO i1 i2 a b xs ys 0) (gz0 : IsZip s.heap z TI TO .none) (lx : xs.size = n) (ly : ys.size = n) (few : n ≤ 1000)
    (q : ∀ h' ts c, ts.length = n → h'.get? s.heap.objs.size = some (lstO (ts.map Value.ref) c) → Made h' xs ys ts → ts.Nodup → (∀ T ∈ ts, s.heap.objs.size < T) → (∀ c o, c ≠ z → c ≠ TO → c ≠ i1 → c ≠ i2 → s.heap.get? c = some o → h'.get? c = some o) →
      Q (.ref s.heap.objs.size) { s with heap := h' }) : wpAny (model prog w) A (call (.type "list") [.ref z]) Q E s := by
  obtain ⟨f0, f1, gz⟩ := Z.zip
  obtain ⟨x0, y0, gO⟩ := Z.o
  obtain ⟨o1, g1, _⟩ := id Z.n1
  obtain ⟨o2, g2, _⟩ := id Z.n2
  have lz : z < s.heap.objs.size := Heap.lt_size gz
  refine callType_codes (Q₁ := fun obj s₁ => obj = .ref s.heap.objs.size ∧ s₁ = { s with heap := s.heap.push (lstO [] 0) }) F.called_list (F.typeCall_list_1 _) F.entry_list_init (code_list_new _ ⟨rfl, rfl⟩) fun obj s₁ e => ?_
  obtain ⟨rfl, rfl⟩ := e
  have gS : (s.heap.push (lstO [] 0)).get? s.heap.objs.size = some (lstO [] 0) := Heap.get?_push_size _ rfl
  refine ⟨⟨_, gS, rfl⟩, F.args_list_init_2 _ _, ?_⟩
  show wpAny _ A.in1.in1 (do let old ← Builtin.List.listItems (.ref s.heap.objs.size); Builtin.List.listUpdate (.ref s.heap.objs.size) (fun _ => #[]); letGo old.toList.reverse; Builtin.List.listExtendWith (.ref s.heap.objs.size) (.ref z) .none) _ _ _
  refine wpAny_bind ?_
  unfold Builtin.List.listItems
  refine wpAny_bind (wpAny_seqItems gS rfl (wpAny_pure ?_))
  show wpAny _ A.in1.in1 (updateSeq s.heap.objs.size (fun _ => #[]) >>= fun _ => letGo (#[] : Array Value).toList.reverse >>= fun _ => Builtin.List.listExtendWith (.ref s.heap.objs.size) (.ref z) .none) _ _ _
  refine wpAny_bind (wpAny_updateSeq gS rfl ?_)
  have gS2 := Heap.get?_update_self (Obj.mapSeq (fun _ => (#[] : Array Value))) gS rfl
  refine wpAny_bind (wpAny_letGo ?_)
  have oth2 : ∀ c o, c ≠ s.heap.objs.size → (s.heap.push (lstO [] 0)).get? c = some o → ((s.heap.push (lstO [] 0)).update s.heap.objs.size (Obj.mapSeq (fun _ => (#[] : Array Value)))).get? c = some o := fun c o nc e => (Heap.get?_update_other _ _ (Ne.symm nc)).trans e
  have nzS : z ≠ s.heap.objs.size := Nat.ne_of_lt lz
  have gz2 : IsZip ((s.heap.push (lstO [] 0)).update s.heap.objs.size (Obj.mapSeq (fun _ => (#[] : Array Value)))) z TI TO .none := oth2 _ _ nzS (Heap.get?_push_of_some _ gz0)
  have ty : ∀ {h : Heap} {g d t os}, IsZip h z TI TO .none → Shared.TypeIs ⟨h, g, d, t, os⟩ (.ref z) "zip" := fun e => ⟨_, e, rfl⟩
  unfold Builtin.List.listExtendWith
  refine wpAny_bind (wpAny_typeOf (ty gz2) ?_)
  have c1 : Builtin.List.listSameRef (.ref s.heap.objs.size) (.ref z) = false := by simp [Builtin.List.listSameRef, Ne.symm nzS]
  have c2 : (Value.type "zip" == Value.type "list") = false := by decide
  have c3 : (Value.type "zip" == Value.type "tuple") = false := by decide
  simp only [c1, c2, c3, Bool.or_false, Bool.false_eq_true, if_false]
  refine wpAny_bind (wpAny_pyIter_zip gz2 (wpAny_bind (wpAny_holding ?_)))
  unfold Builtin.List.listLengthHint
  refine wpAny_bind (wpAny_specialOf (ty gz2) zip_len ?_)
  show wpAny _ A.in1.in1 (specialOf (Value.ref z) (Str.ofString "__length_hint__") >>= _) _ _ _
  refine wpAny_bind (wpAny_specialOf (ty gz2) zip_hint (wpAny_pure ?_))
  show wpAny _ A.in1.in1 (rule "list.extend.makes-room" >>= fun _ => Builtin.List.listTouch (.ref s.heap.objs.size) >>= fun _ => again (.builtin "list.extend.loop" ⟨[.ref s.heap.objs.size, .ref z, .none], []⟩)) _ _ _
  refine wpAny_bind (wpAny_rule (wpAny_bind ?_))
  show wpAny _ A.in1.in1 (updateSeq s.heap.objs.size (·.push .none) >>= fun _ => updateSeq s.heap.objs.size (·.pop)) _ _ _
  refine wpAny_bind (wpAny_updateSeq gS2 rfl ?_)
  have gS3 := Heap.get?_update_self (Obj.mapSeq (·.push Value.none)) gS2 rfl
  refine wpAny_updateSeq (hz := by seq_fits) gS3 rfl ?_
  have gS4 := Heap.get?_update_self (Obj.mapSeq (·.pop)) gS3 rfl
  have oth4 : ∀ c o, c ≠ s.heap.objs.size → (s.heap.push (lstO [] 0)).get? c = some o → ((((s.heap.push (lstO [] 0)).update s.heap.objs.size (Obj.mapSeq (fun _ => (#[] : Array Value)))).update s.heap.objs.size (Obj.mapSeq (·.push Value.none))).update s.heap.objs.size (Obj.mapSeq (·.pop))).get? c = some o :=
    fun c o nc e => (Heap.get?_update_other _ _ (Ne.symm nc)).trans ((Heap.get?_update_other _ _ (Ne.symm nc)).trans (oth2 c o nc e))
  obtain ⟨c4, e4⟩ : ∃ c4, Obj.mapSeq (·.pop) (Obj.mapSeq (·.push Value.none) (Obj.mapSeq (fun _ => (#[] : Array Value)) (lstO [] 0))) = lstO (([] : List Addr).map Value.ref) c4 := ⟨_, rfl⟩
  rw [e4] at gS4
  have Z4 := (Z.mono fun c o e => Heap.get?_push_of_some _ e).keep gS oth4
  have big : s.heap.objs.size + 1 ≤ ((((s.heap.push (lstO [] 0)).update s.heap.objs.size (Obj.mapSeq (fun _ => (#[] : Array Value)))).update s.heap.objs.size (Obj.mapSeq (·.push Value.none))).update s.heap.objs.size (Obj.mapSeq (·.pop))).objs.size := Nat.succ_le_of_lt (Heap.lt_size gS4)
  refine wpAny_pure ⟨plainId_quiet F.plain_extend_loop _, loop (N := s.heap.objs.size + 1) D (show A.in1.handled = none by simp [calm]) lx ly few (Nat.lt_succ_of_lt lz) (Nat.lt_succ_of_lt (Heap.lt_size gO)) (Nat.lt_succ_of_lt (Heap.lt_size g1)) (Nat.lt_succ_of_lt (Heap.lt_size g2)) (Nat.lt_succ_self _) n 0 _ [] c4 (by omega) rfl Z4 gS4
    (fun j T hj => by simp at hj) List.nodup_nil (fun T hT => by simp at hT) big fun h' ts c a1 a2 a3 a4 a5 a6 => ?_⟩
  exact ⟨rfl, q h' ts c a1 a2 a3 a4 a5 fun c o k1 k2 k3 k4 e => a6 c o (Nat.ne_of_lt (Heap.lt_size e)) k1 k2 k3 k4 (oth4 _ _ (Nat.ne_of_lt (Heap.lt_size e)) (Heap.get?_push_of_some _ e))⟩
end
end LZ



set_option Elab.async false
set_option linter.all false
set_option maxRecDepth 100000
set_option maxHeartbeats 2000000
/-! list(zip(t, u)): the rule. -/
namespace BK
open PySem PySem.Spec PyProof.Rows L2
section
variable {X : Cx} {pins : List (Addr × Obj)} {σ : L2.St} {H : Hp} {s : Shared}
/-- nothing knows of the place a -/
structure Fr (X : Cx) (pins : List (Addr × Obj)) (a : Addr) : Prop where
  n0 : ∀ u, X.s_0.heap.get? a = some u → a ∈ X.ex ∨ X.H_0 a ≠ none
  nL : a ≠ X.env.locals
  nC : ∀ x c, X.env.cells.lookup x = some c → c ≠ a
  nP : ∀ p ∈ X.pn ++ pins, p.1 ≠ a
/-- a place above the heap -/
theorem Fr.of (I : Inv X pins σ H s) {a : Addr} (h : s.heap.objs.size ≤ a) : Fr X pins a := by
  have no : ∀ o, s.heap.get? a = some o → False := fun o e => Nat.lt_irrefl _ (Nat.lt_of_lt_of_le (Heap.lt_size e) h)
  refine ⟨fun u e => ?_, fun e => ?_, fun x c e z => ?_, fun p hp z => ?_⟩
  · by_cases hx : a ∈ X.ex
    · exact .inl hx
    · obtain ⟨o, q⟩ := I.base.there a u e hx
      exact (no o q).elim
  · obtain ⟨m, ⟨o, es, ep, q, _⟩, _⟩ := I.loc
    rw [e] at no
    exact no o q
  · obtain ⟨v, o, q, _⟩ := I.cell x c e
    rw [z] at q
    exact no o q
  · have q := (I.pin p hp).1
    rw [z] at q
    exact no _ q
theorem tell {a : Addr} {o : HO} (I : Inv X pins σ H s) (na : H a = none) (F : Fr X pins a) (ok : ObjOk X.prog X.w (upd H a o) s.heap a o) : Inv X pins σ (upd H a o) s := by
  have at_ : ∀ b u, H b = some u → upd H a o b = some u := same_new na
  refine ⟨I.ok, I.os, I.bare, ⟨I.base.keep, I.base.slot, fun b u e n hx => ?_, I.base.there, fun b xs e => at_ _ _ (I.base.tups b xs e), fun b u v e => at_ _ _ (I.base.frzs b u v e), fun b ps e => ?_⟩, I.loc, I.cell, ?_, fun x c e => ?_, fun p hp => ?_, fun b u e => ?_, I.len⟩
  · by_cases hb : b = a
    · subst hb
      exact ((F.n0 u e).elim (fun z => absurd z hx) fun z => absurd n z)
    · rw [upd_ne hb]
      exact I.base.free b u e n hx
  · obtain ⟨more, e'⟩ := I.base.tbls b ps e
    exact ⟨more, at_ _ _ e'⟩
  · rw [upd_ne F.nL.symm]
    exact I.free
  · rw [upd_ne (F.nC x c e)]
    exact I.freeC x c e
  · obtain ⟨h1, h2, h3⟩ := I.pin p hp
    exact ⟨h1, by rw [upd_ne (F.nP p hp)]; exact h2, h3⟩
  · by_cases hb : b = a
    · subst hb
      rw [upd_same] at e
      cases e
      exact ok
    · rw [upd_ne hb] at e
      exact (I.hok b u e).stay (fun _ _ _ q => q) (fun b q => at_ _ _ q) fun b xs q => at_ _ _ q
/-- new pairs are told of -/
theorem tell_pairs : ∀ (zs : List (Addr × V × V)) {H : Hp}, (zs.map (·.1)).Nodup → (∀ z ∈ zs, Fr X pins z.1 ∧ H z.1 = none ∧ ∃ u v, RelV z.2.1 u ∧ RelV z.2.2 v ∧ IsPair s.heap z.1 u v) → Inv X pins σ H s →
    ∃ H', Inv X pins σ H' s ∧ Same H H' ∧ (∀ z ∈ zs, H' z.1 = some (.tup [z.2.1, z.2.2])) ∧ ∀ a, H a = none → a ∉ zs.map (·.1) → H' a = none
  | [], H, _, _, I => ⟨H, I, fun _ _ e => e, fun _ h => by simp at h, fun _ e _ => e⟩
  | (a, x, y) :: r, H, nd, h, I => by
    rw [List.map_cons] at nd
    obtain ⟨n1, n2⟩ := List.nodup_cons.mp nd
    obtain ⟨F, na, u, v, ru, rv, hp⟩ := h _ List.mem_cons_self
    have I1 : Inv X pins σ (upd H a (.tup [x, y])) s := tell I na F ⟨(by show 2 ≤ sizeLine; decide), [u, v], .cons ru (.cons rv .nil), ⟨_, hp, rfl, _, rfl⟩⟩
    obtain ⟨H', I2, s2, at2, no2⟩ := tell_pairs r n2 (fun z hz => by
      obtain ⟨F', nz, q⟩ := h z (List.mem_cons_of_mem _ hz)
      refine ⟨F', ?_, q⟩
      have : z.1 ≠ a := fun e => n1 (by rw [← e]; exact List.mem_map.mpr ⟨z, hz, rfl⟩)
      rw [upd_ne this]
      exact nz) I1
    refine ⟨H', I2, (same_new na).trans s2, fun z hz => ?_, fun b e nb => ?_⟩
    · rcases List.mem_cons.mp hz with q | q
      · rw [q]
        exact s2 _ _ upd_same
      · exact at2 z q
    · rw [List.map_cons, List.mem_cons, not_or] at nb
      refine no2 b ?_ nb.2
      rw [upd_ne nb.1]
      exact e
end
theorem vals_refs : ∀ ts : List Addr, Vals (ts.map V.ref) (ts.map Value.ref)
  | [] => .nil
  | t :: r => .cons rfl (vals_refs r)
def tListZip (K : PySem.W.Frag) (ta : TA) : TE := fun σ H Q => ta σ H fun vs H1 => ∃ a b xs ys, vs = [.ref a, .ref b] ∧ SqT K H1 a xs ∧ SqT K H1 b ys ∧ xs.length = ys.length ∧ xs.length ≤ 1000 ∧
  ∀ (L : Addr) (ts : List Addr) (H' : Hp), Same H1 H' → H1 L = none → H' L = some (.lst (ts.map V.ref)) → ts.length = xs.length → (∀ (j : Nat) (T : Addr), ts[j]? = some T → ∃ x y, xs[j]? = some x ∧ ys[j]? = some y ∧ H' T = some (.tup [x, y])) → Q (.ref L) H'
section
variable {X : Cx}
theorem pe_listZip {e e2 : Expr} {ta : TA} {p p2 q pos : Pos} (hc : X.calm = true) (g1 : Gl X "list") (m1 : X.mg "list" = none) (g2 : Gl X "zip") (m2 : X.mg "zip" = none) (ha : PA X [e, e2] ta)
    (hs : starEach [e, e2] X.env = (false, eval e X.env) :: starEach [e2] X.env := by rfl) (hpl : (backTo q (starEach [e2] X.env)).any (·.1) = false := by rfl) : PE X (.Call (.Name "list" p) [.Call (.Name "zip" p2) [e, e2] [] q] [] pos) (tListZip X.K ta) := by
  refine ⟨fun pins s σ H Q I h => Call_ (ld_blt I g1 m1 boot_list (PyProof.Rows.callWith_type1 (PyProof.Rows.args_cons ?_ rfl) rfl rfl))⟩
  refine Call_ (ld_blt I g2 m2 PyProof.Rows.boot_zip (PyProof.Rows.callWith_type1 (thn (ha.run q pins s σ H _ I h) fun us s1 z => ?_) hs hpl))
  obtain ⟨vs, H1, I1, r1, a, b, xs, ys, rfl, sa, sb, el, few, k⟩ := z
  obtain ⟨u1, u2, rfl, ra, rb⟩ := vals2 r1
  obtain rfl : u1 = Value.ref a := ra
  obtain rfl : u2 = Value.ref b := rb
  obtain ⟨its, rx, ta, zx⟩ := I1.tuple sa
  obtain ⟨its2, ry, tb, zy⟩ := I1.tuple sb
  obtain ⟨oa, ga, _⟩ := id ta
  obtain ⟨ob, gb, _⟩ := id tb
  have lx : its.toArray.size = xs.length := by rw [List.size_toArray, rx.length]
  have ly : its2.toArray.size = xs.length := by rw [List.size_toArray, ← ry.length, el]
  refine RZ.call_zipT (show s1.heap.IsTuple a its.toArray from ta) (show s1.heap.IsTuple b its2.toArray from tb) fun h' hz hTI hTO h1 h2 hsz hk => PyProof.Rows.args_nil ?_
  have Z : LZ.ZS h' (s1.heap.objs.size + 4) (s1.heap.objs.size + 2) (s1.heap.objs.size + 3) s1.heap.objs.size (s1.heap.objs.size + 1) a b its.toArray its2.toArray 0 :=
    ⟨hTI, ⟨_, _, hTO⟩, h1, h2, (show s1.heap.IsTuple a its.toArray from ta).at fun o e => hk _ o e, (show s1.heap.IsTuple b its2.toArray from tb).at fun o e => hk _ o e, .inl ⟨rfl, hz⟩⟩
  refine LZ.list_zip (s := { s1 with heap := h' }) (PySem.W.ktu_apart s1.heap.objs.size a b (Heap.lt_size ga) (Heap.lt_size gb)) (I1.ok.hd hc) Z hz lx ly few fun h2 ts c a1 a2 a3 a4 a5 a6 => ?_
  have lt : ∀ {c : Addr} {o : Obj} (m : Nat), s1.heap.get? c = some o → c ≠ s1.heap.objs.size + m := fun m e => Nat.ne_of_lt (Nat.lt_of_lt_of_le (Heap.lt_size e) (Nat.le_add_right _ _))
  have kp : ∀ c o, s1.heap.get? c = some o → h2.get? c = some o := fun c o e => a6 c o (lt 4 e) (lt 3 e) (Nat.ne_of_lt (Heap.lt_size e)) (lt 1 e) (hk c o e)
  have I2 : Inv X pins σ H1 { s1 with heap := h2 } := I1.kept (t' := s1.toks) kp
  have up : s1.heap.objs.size ≤ h'.objs.size := by rw [hsz]; exact Nat.le_add_right _ _
  have ezs : (ts.zip (xs.zip ys)).map (·.1) = ts := by
    rw [List.map_fst_zip]
    rw [List.length_zip]
    omega
  have inz : ∀ z ∈ ts.zip (xs.zip ys), ∃ j, ts[j]? = some z.1 ∧ xs[j]? = some z.2.1 ∧ ys[j]? = some z.2.2 := fun z hz => by
    obtain ⟨j, hj⟩ := List.getElem?_of_mem hz
    obtain ⟨T, x, y⟩ := z
    obtain ⟨q1, q2⟩ := List.getElem?_zip_eq_some.mp hj
    obtain ⟨q3, q4⟩ := List.getElem?_zip_eq_some.mp q2
    exact ⟨j, q1, q3, q4⟩
  obtain ⟨H2, I3, s3, at3, no3⟩ := tell_pairs (ts.zip (xs.zip ys)) (by rw [ezs]; exact a4) (fun z hz => by
    obtain ⟨j, q1, q2, q3⟩ := inz z hz
    obtain ⟨u', v', w1, w2, w3⟩ := a3 j z.1 q1
    obtain ⟨u, w4, ru⟩ := rx.get q2
    obtain ⟨v, w5, rv⟩ := ry.get q3
    have e1 : u' = u := Option.some.inj (w1.symm.trans (by rw [List.getElem?_toArray]; exact w4))
    have e2 : v' = v := Option.some.inj (w2.symm.trans (by rw [List.getElem?_toArray]; exact w5))
    rw [e1, e2] at w3
    have le : s1.heap.objs.size ≤ z.1 := Nat.le_trans up (Nat.le_of_lt (a5 z.1 (List.mem_of_getElem? q1)))
    exact ⟨Fr.of I1 le, I1.hok.fresh le, u, v, ru, rv, w3⟩) I2
  have nL : H2 h'.objs.size = none := no3 _ (I1.hok.fresh up) (by
    rw [ezs]
    intro m
    exact Nat.lt_irrefl _ (a5 _ m))
  have I4 : Inv X pins σ (upd H2 h'.objs.size (.lst (ts.map V.ref))) { s1 with heap := h2 } := tell I3 nL (Fr.of I1 up) ⟨by rw [List.length_map, a1]; exact Nat.le_of_lt (small1000 few), ts.map Value.ref, c, vals_refs ts, a2⟩
  refine ⟨.ref h'.objs.size, _, I4, rfl, k h'.objs.size ts _ (s3.trans (same_new nL)) (I1.hok.fresh up) upd_same a1 fun j T hj => ?_⟩
  have jl : j < ts.length := (List.getElem?_eq_some_iff.mp hj).1
  have hx : xs[j]? = some xs[j] := List.getElem?_eq_getElem (by omega)
  have hy : ys[j]? = some ys[j] := List.getElem?_eq_getElem (by omega)
  have mem : (T, xs[j], ys[j]) ∈ ts.zip (xs.zip ys) := List.mem_of_getElem? (i := j) (List.getElem?_zip_eq_some.mpr ⟨hj, List.getElem?_zip_eq_some.mpr ⟨hx, hy⟩⟩)
  exact ⟨xs[j], ys[j], hx, hy, same_new nL _ _ (at3 _ mem)⟩
end
end BK



set_option Elab.async false
set_option maxRecDepth 100000
set_option maxHeartbeats 1000000
/-! parts_of. -/
namespace BK
open PySem PySem.Spec PyProof.Rows L2
/-- the words and the kinds of their parts -/
def kindTab : List (Str × List Str) := [("set", ["variable", "source"]), ("hold", ["token", "variable", "source"]), ("reset", ["token"]), ("drop", ["variable"]), ("show", ["variable"]), ("copy", ["context"]), ("within", ["context", "block"]),
  ("if", ["variable", "integer", "block", "block"]), ("with", ["variable", "source", "block"]), ("guard", ["block", "block"]), ("loop", ["block"]), ("leave", []), ("yield", []), ("fail", [])]
def kindsOf (w : Str) : Option (List Str) := (kindTab.find? fun e => decide (e.1 = w)).map (·.2)
theorem tab_few : (kindTab.all fun e => decide (e.2.length ≤ 4)) = true := by decide +kernel
theorem kinds_few {w : Str} {ks : List Str} (h : kindsOf w = some ks) : ks.length ≤ 4 := by
  unfold kindsOf at h
  cases e : kindTab.find? fun e => decide (e.1 = w) with
  | none => rw [e] at h; cases h
  | some x =>
    rw [e] at h
    have q : x.2 = ks := Option.some.inj h
    rw [← q]
    exact of_decide_eq_true (List.all_eq_true.mp tab_few x (List.mem_of_find?_eq_some e))
structure Parts (K : PySem.W.Frag) (mg : Str → Option Value) (w : World) : Prop where
  at_ : ∃ p, mg "PARTS" = some (.ref p) ∧ ∀ x ks, kindsOf x = some ks → ∃ t, KDct K w p x (.ref t) ∧ ∀ H, SqT K H t (ks.map V.str)
theorem cut1 (x : V) (r : List V) : cutV (x :: r) (some 1) none = r := by
  have e : HT.sIx (x :: r).length 0 (some 1) = 1 := by
    simp [HT.sIx]
  have e2 : HT.sIx (x :: r).length (x :: r).length none = r.length + 1 := by
    simp [HT.sIx]
  unfold cutV
  rw [e, e2]
  simp
def spParts (K : PySem.W.Frag) : Sp := fun vs H Q _ => ∃ v x rest ks, vs = [v] ∧ TrAt K H v (.tup (.str x :: rest)) ∧ kindsOf x = some ks ∧ rest.length = ks.length ∧
  ∀ (L : Addr) (ts : List Addr) (H' : Hp), Same H H' → H' L = some (.lst (ts.map V.ref)) → ts.length = ks.length → (∀ (j : Nat) (T : Addr), ts[j]? = some T → ∃ y t k, rest[j]? = some t ∧ ks[j]? = some k ∧ TrAt K H' y t ∧ H' T = some (.tup [y, .str k])) → Q (.ref L) H'
abbrev sParts : Stmt := top 17
theorem scParts : FnScope ["statement"] ["statement"] (defScope sParts) := ⟨rfl, rfl, rfl, by decide +kernel, rfl, by decide +kernel, by decide +kernel⟩
section
variable {P : Program} {w : World} {K : PySem.W.Frag} {mg : Str → Option Value} {base : Heap}
theorem ok_parts {f : Addr} {fd : FuncData} (F : Fun K "parts_of" "parts_of" sParts f fd) (U : Parts K mg w) (mL : mg "list" = none) (mZ : mg "zip" = none) : FnOk P w K mg base CX0 1 f fd ["statement"] (spParts K) := by
  refine F.ok scParts (fun vs H Q E h => ?_) (fun cdv A outer s H vs Q E hr h => ?_)
  · obtain ⟨v, x, rest, ks, rfl, _⟩ := h
    rfl
  · obtain ⟨v, x, rest, ks, rfl, tv, ek, el, k⟩ := h
    obtain ⟨p, gP, at_⟩ := U.at_
    obtain ⟨t, kd, st⟩ := at_ x ks ek
    refine ⟨_, pss_one (ps_ret (pe_listZip rfl (by rfl) mL (by rfl) mZ (pa_cons (pe_slice sl_tup (pv 0) (po_some pe_int) po_none) (pa_cons (pe_ix ix_kdict (pe_glob (v := .ref p) rfl gP rfl) (pe_ix ix_tup (pv 0) pe_int (fun _ _ => rfl)) (fun _ _ => rfl)) pa_nil)))), ?_⟩
    cases tv with
    | @tup a xs _ h tr =>
    cases tr with
    | @cons y ys _ _ hy rs =>
    cases hy with
    | str _ hx =>
    refine ⟨_, rfl, 1, rfl, a, _, rfl, h, (by rintro ⟨e, _⟩; simp [HT.sIx] at e), fun q nq => ?_⟩
    rw [cut1]
    have s1 := same_new (o := .tup ys) nq
    refine ⟨_, rfl, a, _, 0, _, rfl, rfl, sqt_same s1 h, at_of (j := 0) rfl rfl, p, x, .ref t, rfl, rfl, kd, ?_⟩
    refine ⟨q, t, ys, ks.map V.str, rfl, SqT.of upd_same, st _, by rw [rs.len, List.length_map]; exact el, by rw [rs.len, el]; have := kinds_few ek; omega, fun L ts H' s2 nL eL lt at2 => ?_⟩
    refine k L ts H' (s1.trans s2) eL (by rw [lt, rs.len]; exact el) fun j T hj => ?_
    obtain ⟨y', k', q1, q2, q3⟩ := at2 j T hj
    obtain ⟨t', q4, q5⟩ := (rs.same (s1.trans s2)).get q1
    rw [List.getElem?_map] at q2
    cases e : ks[j]? with
    | none => rw [e] at q2; cases q2
    | some kk =>
      rw [e] at q2
      obtain rfl : V.str kk = k' := Option.some.inj q2
      exact ⟨y', t', kk, q4, rfl, q5, q3⟩
end
end BK



set_option Elab.async false
set_option maxRecDepth 100000
set_option maxHeartbeats 1000000
/-! has_form. -/
namespace BK
open PySem PySem.Spec PyProof.Rows L2 RZ
def wordV : Tr → V
  | .tup (.str w :: _) => .str w
  | _ => .non
def fitsT (rest : List Tr) (ks : List Str) : Bool := decide (rest.length = ks.length) && (rest.zip ks).all fun e => partT e.1 e.2
def formT : Tr → Bool
  | .tup (.str w :: rest) => match kindsOf w with
    | some ks => fitsT rest ks
    | none => false
  | _ => false
theorem no_args {w : Str} {ks : List Str} (h : kindsOf w = some ks) : ("args" : Str) ∉ ks := by
  have all : (kindTab.all fun e => decide (("args" : Str) ∉ e.2)) = true := by decide +kernel
  unfold kindsOf at h
  cases e : kindTab.find? fun e => decide (e.1 = w) with
  | none => rw [e] at h; cases h
  | some x =>
    rw [e] at h
    have q : x.2 = ks := Option.some.inj h
    rw [← q]
    exact of_decide_eq_true (List.all_eq_true.mp all x (List.mem_of_find?_eq_some e))
theorem walk_zipT {K : PySem.W.Frag} {a b : Addr} {xs ys : List V} {n : Nat} (hn : n = min xs.length ys.length) : Walk (ItzT K a b) n (fun H => SqT K H a xs ∧ SqT K H b ys) (YPair (fun i => xs[i]?) (fun i => ys[i]?)) := by
  subst hn
  refine ⟨fun i _ hi q => ?_, fun _ q => ⟨xs, ys, q.1, q.2, by omega⟩, fun i H v H' _ q y => ?_⟩
  · have h1 : i < xs.length := by omega
    have h2 : i < ys.length := by omega
    exact ⟨xs, ys, xs[i], ys[i], q.1, q.2, by simp [h1], by simp [h2]⟩
  · obtain ⟨T, x, z, h1, h2, h3, h4, h5⟩ := y
    exact ⟨T, x, z, h1, h2, h3, h4 xs q.1, h5 ys q.2⟩
def spWord (K : PySem.W.Frag) : Sp := fun vs H Q _ => ∃ v t, vs = [v] ∧ TrAt K H v t ∧ Q (wordV t) H
def spFits (K : PySem.W.Frag) : Sp := fun vs H Q _ => ∃ v b t0 rest ks, vs = [v, .ref b] ∧ TrAt K H v (.tup (t0 :: rest)) ∧ SqT K H b (ks.map V.str) ∧ ks.length ≤ 1000 ∧ (("args" : Str) ∈ ks → ∀ t ∈ rest, ∀ ts, t = .tup ts → ts.length ≤ 4000000) ∧
  ∀ H', Same H H' → Q (.bl (fitsT rest ks)) H'
/-- the dict of the words as it is written -/
structure PartsD (K : PySem.W.Frag) (mg : Str → Option Value) (w : World) (p : Addr) (es : Array DictEntry) (n : Nat) : Prop where
  d : KDict K w p es n
  g : mg "PARTS" = some (.ref p)
  at_ : ∀ x ks, kindsOf x = some ks → ∃ t, PySem.W.nsIn K p x = some (some (.ref t)) ∧ ∀ H, SqT K H t (ks.map V.str)
  no : ∀ x, kindsOf x = none → PySem.W.nsIn K p x = some none
theorem PartsD.parts {K : PySem.W.Frag} {mg : Str → Option Value} {w : World} {p : Addr} {es : Array DictEntry} {n : Nat} (D : PartsD K mg w p es n) : Parts K mg w := ⟨p, D.g, fun x ks e => by
  obtain ⟨t, h1, h2⟩ := D.at_ x ks e
  exact ⟨t, ⟨es, n, _, D.d.at_, D.d.lit, h1, rfl⟩, h2⟩⟩
abbrev sWord : Stmt := top 14
abbrev sFits : Stmt := top 15
abbrev sForm : Stmt := top 16
theorem scWord : FnScope ["thing"] ["thing"] (defScope sWord) := ⟨rfl, rfl, rfl, by decide +kernel, rfl, by decide +kernel, by decide +kernel⟩
theorem scFits : FnScope ["thing", "kinds", "part", "kind"] ["thing", "kinds"] (defScope sFits) := ⟨rfl, rfl, rfl, by decide +kernel, rfl, by decide +kernel, by decide +kernel⟩
theorem scForm : FnScope ["thing", "word"] ["thing"] (defScope sForm) := ⟨rfl, rfl, rfl, by decide +kernel, rfl, by decide +kernel, by decide +kernel⟩
section
variable {P : Program} {w : World} {K : PySem.W.Frag} {mg : Str → Option Value} {base : Heap}
theorem ok_word {f : Addr} {fd : FuncData} (F : Fun K "word_of" "word_of" sWord f fd) (T : Forms mg) : FnOk P w K mg base CX0 1 f fd ["thing"] (spWord K) := by
  refine F.ok scWord (fun vs H Q E h => ?_) (fun cdv A outer s H vs Q E hr h => ?_)
  · obtain ⟨v, t, rfl, _⟩ := h
    rfl
  · obtain ⟨v, t, rfl, ht, k⟩ := h
    refine ⟨_, pss_cons (ps_if (PW.pt (pw_and (pt_val (pe_callB call_isi (by rfl) T.isi boot_isinstance (pa_cons (pv 0) (pa_cons (pe_bltn (v := .ty "tuple") (u := .type "tuple") (by rfl) T.tuple (by decide +kernel) rfl) pa_nil))))
        (pw_and (pt_cmpR op_gt (pe_callB call_len_seq (by rfl) T.len boot_len (pa_cons (pv 0) pa_nil)) pe_int (nomark _))
        (pw_and1 (pt_val (pe_callB call_isi (by rfl) T.isi boot_isinstance (pa_cons (pe_ix ix_tup (pv 0) pe_int (fun _ _ => rfl)) (pa_cons (pe_bltn (v := .ty "str") (u := .type "str") (by rfl) T.str (by decide +kernel) rfl) pa_nil)))))))) (pss_one (ps_ret (pe_ix ix_tup (pv 0) pe_int (fun _ _ => rfl)))) pss_nil)
      (pss_one (ps_ret pe_non)), ?_⟩
    refine ⟨_, rfl, v, .ty "tuple", .type (tyT t), .type "tuple", isTup t, rfl, .ty "tuple", ht.ty, k_tup K t, _, rfl, ?_⟩
    cases ht with
    | int i => exact iteF k
    | bl b => exact iteF k
    | str z hz => exact iteF k
    | non => exact iteF k
    | lst h => exact iteF k
    | dct h => exact iteF k
    | @tup a xs ts h tr =>
    refine iteT ⟨_, rfl, a, xs, rfl, .inr h, _, _, rfl, rfl, _, rfl, ?_⟩
    cases tr with
    | nil => exact iteF k
    | @cons y ys t0 rest hy rs =>
    refine ite2 (fun _ => ?_) (fun z => ?_)
    · refine ⟨_, rfl, a, _, 0, y, rfl, rfl, h, at_of (j := 0) rfl rfl, y, .ty "str", .type (tyT t0), .type "str", isStr t0, rfl, .ty "str", hy.ty, k_str K t0, _, rfl, ?_⟩
      cases hy with
      | int i => exact iteF k
      | bl b => exact iteF k
      | non => exact iteF k
      | lst h => exact iteF k
      | dct h => exact iteF k
      | tup h r => exact iteF k
      | str x hx => exact iteT ⟨_, rfl, a, _, 0, _, rfl, rfl, h, at_of (j := 0) rfl rfl, k⟩
    · have : ((y :: ys).length : Int) > 0 := by rw [List.length_cons]; omega
      exact absurd (decide_eq_true this) z
theorem ok_fits {f fP : Addr} {fd fdP : FuncData} (F : Fun K "fits" "fits" sFits f fd) (T : Forms mg) (mZ : mg "zip" = none)
    (GP : FnOk P w K mg base CX0 3 fP fdP ["thing", "kind"] (spPart K)) (bP : Binds K fdP ["thing", "kind"] []) (gP : mg "is_part" = some (.ref fP)) (kP : PySem.W.keepIn K (.ref fP) = true) : FnOk P w K mg base CX0 4 f fd ["thing", "kinds"] (spFits K) := by
  refine F.ok scFits (fun vs H Q E h => ?_) (fun cdv A outer s H vs Q E hr h => ?_)
  · obtain ⟨v, b, t0, rest, ks, rfl, _⟩ := h
    rfl
  · obtain ⟨v, b, t0, rest, ks, rfl, ht, sb, kl, na, k⟩ := h
    refine ⟨_, pss_cons (ps_if (pt_cmpR op_ne (pe_callB call_len_seq (by rfl) T.len boot_len (pa_cons (pv 0) pa_nil)) (pe_op op_add pe_int (pe_callB call_len_seq (by rfl) T.len boot_len (pa_cons (pv 1) pa_nil))) (nomark _)) (pss_one (ps_ret pe_bl)) pss_nil)
      (pss_one (ps_ret (pe_callB (cr_all rfl) (by rfl) T.all (by decide +kernel) (pa_cons (pe_lc (own := [("part", 2), ("kind", 3)]) (g := gTup K 2 (gCons (gName 2) (gCons (gName 3) gNil))) (tt := tYes) (te := tCall (spPart K) [] E0 (tCons (tVar 2) (tCons (tVar 3) tNil))) rfl scFits.nd
          (pi_zipA (by rfl) mZ (pa_cons (pe_slice sl_tup (pv 0) (po_some pe_int) po_none) (pa_cons (pv 1) pa_nil))) (blkOk_by (N := ["thing", "kinds", "part", "kind"]) (sc := defScope sFits) (by decide +kernel))
          (fun _ _ _ _ _ => by exact pg_tup rfl (pgs_cons (pg_name (i := 2) scFits.nd rfl (Or.inl rfl)) (pgs_cons (pg_name (i := 3) scFits.nd rfl (Or.inl rfl)) pgs_nil))) (fun _ _ _ _ _ => pts_nil)
          (fun _ _ _ _ _ => by exact pe_call GP hr rfl gP kP bP .nil pass0 (pa_cons (pv 2) (pa_cons (pv 3) pa_nil)))) pa_nil)))), ?_⟩
    have q0 := k H fun _ _ e => e
    cases ht with
    | @tup a xs _ h tr =>
    cases tr with
    | @cons y ys _ _ hy rs =>
    have rl := rs.len
    refine ⟨_, rfl, a, _, rfl, .inr h, _, rfl, b, _, rfl, .inr sb, _, _, rfl, rfl, rfl, _, rfl, ?_⟩
    have el : decide (V.int ((y :: ys).length : Nat) = V.int (1 + ((ks.map V.str).length : Nat))) = decide (rest.length = ks.length) := by
      rw [dec_int, List.length_cons, List.length_map, rl]
      by_cases z : rest.length = ks.length
      · rw [decide_eq_true z, beq_iff_eq]
        omega
      · rw [decide_eq_false z, beq_eq_false_iff_ne]
        omega
    rw [el]
    unfold fitsT at k q0
    by_cases hl : rest.length = ks.length
    · rw [decide_eq_true hl] at k ⊢
      rw [Bool.true_and] at k
      refine iteF ?_
      refine ⟨_, rfl, 1, rfl, a, _, rfl, h, (by rintro ⟨e, _⟩; simp [HT.sIx] at e), fun q nq => ?_⟩
      rw [cut1]
      have s1 := same_new (o := .tup ys) nq
      refine ⟨_, rfl, q, b, ys, ks.map V.str, rfl, .inr ⟨SqT.of upd_same, sqt_same s1 sb, fun G nG => ?_⟩⟩
      generalize eH1 : upd H q (.tup ys) = H1 at s1 nG ⊢
      have sq : SqT K H1 q ys := by rw [← eH1]; exact SqT.of upd_same
      refine lc_it (walk_zipT (K := K) (a := q) (b := b) (xs := ys) (ys := ks.map V.str) rfl) (fun i H2 => Same H1 H2 ∧ H2 G = some (.lst ((((rest.zip ks).take i).map fun e => partT e.1 e.2).map V.bl))) ⟨same_new nG, upd_same⟩ (fun i H2 _ ⟨s2, _⟩ => ⟨sqt_same s2 sq, sqt_same (s1.trans s2) sb⟩) ?_ ?_
      · rintro i z H2 H3 hi ⟨s2, e2⟩ ⟨U, y', k', rfl, nU, rfl, q1, q2⟩
        have sU := same_new (o := .tup [y', k']) nU
        obtain ⟨t', q3, ty'⟩ := (rs.same ((s1.trans s2).trans sU)).get q1
        have q2 : (ks.map V.str)[i]? = some k' := q2
        rw [List.getElem?_map] at q2
        cases eK : ks[i]? with
        | none => rw [eK] at q2; cases q2
        | some kk =>
        rw [eK] at q2
        obtain rfl : V.str kk = k' := Option.some.inj q2
        have ez : (rest.zip ks)[i]? = some (t', kk) := List.getElem?_zip_eq_some.mpr ⟨q3, eK⟩
        have il : i < ks.length := (List.getElem?_eq_some_iff.mp eK).1
        refine ⟨U, _, rfl, SqT.of upd_same, rfl, _, _, rfl, _, _, rfl, rfl, rfl, ?_⟩
        refine tyes ?_
        refine ⟨_, rfl, _, rfl, y', t', kk, rfl, ty', fun ea ts et => na (by rw [← ea]; exact List.mem_of_getElem? eK) t' (List.mem_of_getElem? q3) ts et, fun H3 s3 => ⟨_, s3 _ _ (sU _ _ e2), small1000 (by rw [List.length_map, List.length_map, List.length_take]; omega), fun b o e => ?_, ?_⟩⟩
        · rw [upd_ne (ne_of_none e nG)]
          exact s3 _ _ (sU _ _ (s2 b o e))
        · rw [upd_same, List.take_add_one, ez, List.map_append, List.map_append]
          rfl
      · rintro H2 ⟨s2, e2⟩
        have et : (rest.zip ks).take (min ys.length (ks.map V.str).length) = rest.zip ks := by
          rw [List.take_of_length_le]
          rw [List.length_zip, List.length_map]
          omega
        rw [et] at e2
        refine ⟨G, _, rfl, SqL.of e2, ?_⟩
        have ea : ((rest.zip ks).map fun e => partT e.1 e.2).all id = (rest.zip ks).all fun e => partT e.1 e.2 := by rw [List.all_map]; rfl
        rw [ea]
        exact k H2 (s1.trans s2)
    · rw [decide_eq_false hl] at q0 ⊢
      rw [Bool.false_and] at q0
      exact iteT q0
theorem ok_form {f fW fF p : Addr} {fd fdW fdF : FuncData} {es : Array DictEntry} {n : Nat} (F : Fun K "has_form" "has_form" sForm f fd) (D : PartsD K mg w p es n)
    (GW : FnOk P w K mg base CX0 1 fW fdW ["thing"] (spWord K)) (bW : Binds K fdW ["thing"] []) (gW : mg "word_of" = some (.ref fW)) (kW : PySem.W.keepIn K (.ref fW) = true)
    (GF : FnOk P w K mg base CX0 4 fF fdF ["thing", "kinds"] (spFits K)) (bF : Binds K fdF ["thing", "kinds"] []) (gF : mg "fits" = some (.ref fF)) (kF : PySem.W.keepIn K (.ref fF) = true) : FnOk P w K mg base CX0 5 f fd ["thing"] (spOf formT K) := by
  refine F.ok scForm (fun vs H Q E h => ?_) (fun cdv A outer s H vs Q E hr h => ?_)
  · obtain ⟨v, t, rfl, _⟩ := h
    rfl
  · obtain ⟨v, t, rfl, ht, k⟩ := h
    have hr1 : Room 1 _ := hr.mono (by decide)
    refine ⟨_, pss_cons (ps_set (i := 1) scForm.nd rfl (Or.inl rfl) (pe_call GW hr1 rfl gW kW bW .nil pass0 (pa_cons (pv 0) pa_nil)))
      (pss_one (ps_ret (pe_and (pe_cmpR (op_in_kdN D.d) (pv 1) (pe_glob (v := .ref p) rfl D.g rfl) rfl) (pe_one (pe_call GF hr rfl gF kF bF .nil pass0 (pa_cons (pv 0) (pa_cons (pe_ix ix_kdict (pe_glob (v := .ref p) rfl D.g rfl) (pv 1) (fun _ _ => rfl)) pa_nil))))))), ?_⟩
    refine ⟨_, rfl, v, t, rfl, ht, ?_⟩
    have q0 := k H fun _ _ e => e
    have no : wordV t = .non → formT t = false := fun e => by
      unfold wordV at e
      unfold formT
      split at e
      · cases e
      · rfl
    by_cases hw : ∃ x rest, t = .tup (.str x :: rest)
    · obtain ⟨x, rest, rfl⟩ := hw
      cases ek : kindsOf x with
      | none =>
        have e : formT (.tup (.str x :: rest)) = false := by
          show (match kindsOf x with
            | some ks => fitsT rest ks
            | none => false) = false
          rw [ek]
        rw [e] at q0
        exact ⟨_, rfl, rfl, .inr ⟨x, none, rfl, D.no x ek, _, rfl, iteF q0⟩⟩
      | some ks =>
        have e : formT (.tup (.str x :: rest)) = fitsT rest ks := by
          show (match kindsOf x with
            | some ks => fitsT rest ks
            | none => false) = fitsT rest ks
          rw [ek]
        rw [e] at k
        obtain ⟨t, nt, st⟩ := D.at_ x ks ek
        refine ⟨_, rfl, rfl, .inr ⟨x, some (.ref t), rfl, nt, _, rfl, iteT ?_⟩⟩
        refine ⟨_, rfl, _, rfl, p, x, .ref t, rfl, rfl, ⟨es, n, _, D.d.at_, D.d.lit, nt, rfl⟩, v, t, _, rest, ks, rfl, ht, st _, by have := kinds_few ek; omega, fun z => absurd z (no_args ek), k⟩
    · have e : wordV t = .non := by
        unfold wordV
        split
        · exact absurd ⟨_, _, rfl⟩ hw
        · rfl
      rw [no e] at q0
      rw [e]
      exact ⟨_, rfl, rfl, .inl ⟨rfl, _, rfl, iteF q0⟩⟩
end
end BK



set_option Elab.async false
set_option maxRecDepth 100000
set_option maxHeartbeats 1000000
/-! has_yield, can_stand. -/
namespace BK
open PySem PySem.Spec PyProof.Rows L2
def isYield : Tr → Bool
  | .tup (.str w :: rest) => formT (.tup (.str w :: rest)) && decide (w = "yield")
  | _ => false
def yieldT (ts : List Tr) : Bool := ts.any isYield
def spYield (K : PySem.W.Frag) : Sp := fun vs H Q _ => ∃ v ts, vs = [v] ∧ TrAt K H v (.tup ts) ∧ ∀ H', Same H H' → Q (.bl (yieldT ts)) H'
abbrev sYield : Stmt := top 32
theorem scYield : FnScope ["block", "thing"] ["block"] (defScope sYield) := ⟨rfl, rfl, rfl, by decide +kernel, rfl, by decide +kernel, by decide +kernel⟩
theorem form_shape : ∀ {t : Tr}, formT t = true → ∃ w r, t = .tup (.str w :: r)
  | .tup (.str w :: r), _ => ⟨w, r, rfl⟩
theorem yield_form {t : Tr} (h : formT t = false) : isYield t = false := by
  unfold isYield
  split
  · rw [h, Bool.false_and]
  · rfl
section
variable {P : Program} {w : World} {K : PySem.W.Frag} {mg : Str → Option Value} {base : Heap}
theorem ok_yield {f fF : Addr} {fd fdF : FuncData} (F : Fun K "has_yield" "has_yield" sYield f fd) (GF : FnOk P w K mg base CX0 5 fF fdF ["thing"] (spOf formT K)) (bF : Binds K fdF ["thing"] []) (gF : mg "has_form" = some (.ref fF)) (kF : PySem.W.keepIn K (.ref fF) = true) :
    FnOk P w K mg base CX0 6 f fd ["block"] (spYield K) := by
  refine F.ok scYield (fun vs H Q E h => ?_) (fun cdv A outer s H vs Q E hr h => ?_)
  · obtain ⟨v, ts, rfl, _⟩ := h
    rfl
  · obtain ⟨v, ts, rfl, ht, k⟩ := h
    cases ht with
    | @tup a xs _ h tr =>
    refine ⟨_, pss_cons (ps_for PassesOwn.never rfl (pi_tup (pv 0)) (pg_name (i := 1) scYield.nd rfl (Or.inl rfl))
        (pss_one (ps_if (PW.pt (pw_and (pt_val (pe_call GF hr rfl gF kF bF .nil pass0 (pa_cons (pv 1) pa_nil))) (pw_and1 (pt_cmpR op_eq (pe_ix ix_tup (pv 1) pe_int (fun _ _ => rfl)) pe_str (nomark _))))) (pss_one (ps_ret pe_bl)) pss_nil)))
      (pss_one (ps_ret pe_bl)), ?_⟩
    refine ⟨_, rfl, a, rfl, ⟨xs, h⟩, for_tup (K := K) (a := a) (xs := xs) (fun i σ H2 => (∃ v1, σ = [some (.ref a), v1]) ∧ Same H H2 ∧ yieldT (ts.take i) = false) ⟨⟨none, rfl⟩, fun _ _ e => e, rfl⟩ (fun i σ H2 _ ⟨_, s2, _⟩ => sqt_same s2 h) ?_ ?_⟩
    · rintro i y σ H2 hi ⟨⟨v1, rfl⟩, s2, n2⟩
      obtain ⟨t, ht, ty⟩ := (tr.same s2).get hi
      have et : ts.take (i + 1) = ts.take i ++ [t] := by rw [List.take_add_one, ht]; rfl
      have ey : yieldT (ts.take (i + 1)) = isYield t := by
        unfold yieldT at n2 ⊢
        rw [et, List.any_append, n2, Bool.false_or]
        simp
      have all : isYield t = true → yieldT ts = true := fun e => by
        unfold yieldT
        rw [List.any_eq_true]
        exact ⟨t, List.mem_of_getElem? ht, e⟩
      refine ⟨_, rfl, y, t, rfl, ty, fun H3 s3 => ⟨_, rfl, ?_⟩⟩
      cases ef : formT t with
      | false => exact iteF (iteF ⟨⟨_, rfl⟩, s2.trans s3, by rw [ey, yield_form ef]⟩)
      | true =>
        obtain ⟨wd, r, rfl⟩ := form_shape ef
        cases ty with
        | @tup b ys _ hb tb =>
        obtain ⟨w0, hw, tw⟩ := tb.get' (i := 0) (t := .str wd) rfl
        cases tw with
        | str _ hz =>
        refine iteT ⟨_, rfl, b, ys, 0, _, rfl, rfl, sqt_same s3 hb, at_of (j := 0) rfl hw, rfl, _, rfl, ?_⟩
        rw [eq_txt]
        have e : isYield (.tup (.str wd :: r)) = decide (wd = "yield") := by
          show (formT (.tup (.str wd :: r)) && decide (wd = "yield")) = _
          rw [ef, Bool.true_and]
        refine ite2 (fun z => ?_) (fun z => ?_)
        · have q := k H3 (s2.trans s3)
          rw [all (e.trans z)] at q
          exact q
        · exact ⟨⟨_, rfl⟩, s2.trans s3, by rw [ey, e]; simpa using z⟩
    · rintro σ H2 ⟨⟨v1, rfl⟩, s2, n2⟩
      have q := k H2 s2
      have et : ts.take xs.length = ts := by rw [tr.len, List.take_length]
      rw [et] at n2
      rw [n2] at q
      exact q
end
end BK



set_option Elab.async false
set_option maxRecDepth 100000
set_option maxHeartbeats 1000000
/-! can_stand. -/
namespace BK
open PySem PySem.Spec PyProof.Rows L2
theorem in_txts (z : Str) : ∀ zs : List Str, inV (.str z) (zs.map V.str) = decide (z ∈ zs)
  | [] => rfl
  | y :: r => by
    have ih := in_txts z r
    unfold inV at ih ⊢
    rw [List.map_cons, List.any_cons, ih]
    show (y == z || decide (z ∈ r)) = _
    by_cases e : y = z
    · simp [e]
    · have e' : ¬ z = y := fun q => e q.symm
      simp [e, e', List.mem_cons]
theorem flat_txts : ∀ zs : List Str, (zs.map V.str).all flatV = true
  | [] => rfl
  | y :: r => by
    rw [List.map_cons, List.all_cons, flat_txts r]
    rfl
/-- may a statement of the word x stand within the words as? -/
def canT (x : Str) (rest : List Tr) (as : List Str) : Bool :=
  if x = "yield" then !decide (("within" : Str) ∈ as) else if x = "leave" then decide (("loop" : Str) ∈ as) && !decide (("within" : Str) ∈ as) else if x = "loop" then (match rest with
    | .tup ts :: _ => yieldT ts
    | _ => false) else true
def spCan (K : PySem.W.Frag) : Sp := fun vs H Q _ => ∃ v b x rest as, vs = [v, .ref b] ∧ TrAt K H v (.tup (.str x :: rest)) ∧ SqT K H b (as.map V.str) ∧ (x = "loop" → ∃ ts r, rest = .tup ts :: r) ∧ ∀ H', Same H H' → Q (.bl (canT x rest as)) H'
abbrev sCan : Stmt := top 31
theorem scCan : FnScope ["statement", "around", "word"] ["statement", "around"] (defScope sCan) := ⟨rfl, rfl, rfl, by decide +kernel, rfl, by decide +kernel, by decide +kernel⟩
section
variable {P : Program} {w : World} {K : PySem.W.Frag} {mg : Str → Option Value} {base : Heap}
theorem ok_can {f fY : Addr} {fd fdY : FuncData} (F : Fun K "can_stand" "can_stand" sCan f fd) (GY : FnOk P w K mg base CX0 6 fY fdY ["block"] (spYield K)) (bY : Binds K fdY ["block"] []) (gY : mg "has_yield" = some (.ref fY)) (kY : PySem.W.keepIn K (.ref fY) = true) :
    FnOk P w K mg base CX0 7 f fd ["statement", "around"] (spCan K) := by
  refine F.ok scCan (fun vs H Q E h => ?_) (fun cdv A outer s H vs Q E hr h => ?_)
  · obtain ⟨v, b, x, rest, as, rfl, _⟩ := h
    rfl
  · obtain ⟨v, b, x, rest, as, rfl, tv, sb, lp, k⟩ := h
    refine ⟨_, pss_cons (ps_set (i := 2) scCan.nd rfl (Or.inl rfl) (pe_ix ix_tup (pv 0) pe_int (fun _ _ => rfl)))
      (pss_cons (ps_if (pt_cmpR op_eq (pv 2) pe_str (nomark _)) (pss_one (ps_ret (pe_cmpR op_notIn_seq pe_str (pv 1) rfl))) pss_nil)
      (pss_cons (ps_if (pt_cmpR op_eq (pv 2) pe_str (nomark _)) (pss_one (ps_ret (pe_and (pe_cmpR op_in_seq pe_str (pv 1) rfl) (pe_one (pe_cmpR op_notIn_seq pe_str (pv 1) rfl))))) pss_nil)
      (pss_cons (ps_if (pt_cmpR op_eq (pv 2) pe_str (nomark _)) (pss_one (ps_ret (pe_call GY hr rfl gY kY bY .nil pass0 (pa_cons (pe_ix ix_tup (pv 0) pe_int (fun _ _ => rfl)) pa_nil)))) pss_nil)
      (pss_one (ps_ret pe_bl))))), ?_⟩
    have q0 := k H fun _ _ e => e
    cases tv with
    | @tup a xs _ h tr =>
    cases tr with
    | @cons y ys _ _ hy rs =>
    cases hy with
    | str _ hx =>
    refine ⟨_, rfl, a, _, 0, _, rfl, rfl, h, at_of (j := 0) rfl rfl, ?_⟩
    refine ⟨_, rfl, rfl, _, rfl, ?_⟩
    rw [eq_txt]
    refine ite2 (fun z => ?_) (fun z => ?_)
    · have e1 : x = "yield" := of_decide_eq_true z
      refine ⟨_, rfl, b, _, rfl, .inr sb, rfl, flat_txts as, ?_⟩
      show Q (.bl (!inV (.str "within") (as.map V.str))) H
      rw [in_txts]
      unfold canT at q0
      rw [if_pos e1] at q0
      exact q0
    have e1 : ¬ x = "yield" := fun q => z (decide_eq_true q)
    refine ⟨_, rfl, rfl, _, rfl, ?_⟩
    rw [eq_txt]
    refine ite2 (fun z => ?_) (fun z => ?_)
    · have e2 : x = "leave" := of_decide_eq_true z
      unfold canT at q0
      rw [if_neg e1, if_pos e2] at q0
      refine ⟨_, rfl, b, _, rfl, .inr sb, rfl, flat_txts as, inV (.str "loop") (as.map V.str), rfl, ?_⟩
      rw [in_txts]
      cases e : decide (("loop" : Str) ∈ as) with
      | false =>
        rw [e, Bool.false_and] at q0
        exact iteF q0
      | true =>
        rw [e, Bool.true_and] at q0
        refine iteT ⟨_, rfl, b, _, rfl, .inr sb, rfl, flat_txts as, ?_⟩
        show Q (.bl (!inV (.str "within") (as.map V.str))) H
        rw [in_txts]
        exact q0
    have e2 : ¬ x = "leave" := fun q => z (decide_eq_true q)
    refine ⟨_, rfl, rfl, _, rfl, ?_⟩
    rw [eq_txt]
    refine ite2 (fun z => ?_) (fun z => ?_)
    · have e3 : x = "loop" := of_decide_eq_true z
      obtain ⟨ts, r, rfl⟩ := lp e3
      cases rs with
      | @cons y2 _ _ _ h2 _ =>
      refine ⟨_, rfl, a, _, 1, y2, rfl, rfl, h, at_of (j := 1) rfl rfl, y2, ts, rfl, h2, fun H' s' => ?_⟩
      have q := k H' s'
      unfold canT at q
      rw [if_neg e1, if_neg e2, if_pos e3] at q
      exact q
    · have e3 : ¬ x = "loop" := fun q => z (decide_eq_true q)
      unfold canT at q0
      rw [if_neg e1, if_neg e2, if_neg e3] at q0
      exact q0
end
end BK



set_option Elab.async false
set_option linter.all false
set_option maxRecDepth 100000
set_option maxHeartbeats 2000000
/-! enumerate(tuple). -/
namespace ET
open PySem PySem.Spec PyProof.Rows L2
theorem meets_enumT (l : Addr) (items : Array Value) :
    Meets (Builtin.«enumerate.__new__» ⟨[.type "enumerate", .ref l], []⟩) (fun _ R s => s.heap.IsTuple l items ∧
      R (.ok (.ret (.ref (s.heap.push { cls := .type "tuple_iterator", data := .fields #[.ref l, .int 0 0] }).objs.size)))
        { s with heap := (s.heap.push { cls := .type "tuple_iterator", data := .fields #[.ref l, .int 0 0] }).push { cls := .type "enumerate", data := .fields #[.none, .bool false, .ref s.heap.objs.size, rawInt 0, .none, .none] } }) :=
  .of_wp fun prog w A R s h => by
    obtain ⟨hp, g, d, tk, os⟩ := s; obtain ⟨h1, h⟩ := h
    have hsub := sub_enumerate
    have q1 : ∀ {A' : Around} {E : Value → Shared → Prop} {Q : Value → Shared → Prop}, Q (.ref hp.objs.size) ⟨hp.push { cls := .type "tuple_iterator", data := .fields #[.ref l, .int 0 0] }, g, d, tk, os⟩ → wpAny (model prog w) A' (pyIter (.ref l)) Q E ⟨hp, g, d, tk, os⟩ :=
      fun q => wpAny_pyIter_tuple h1 q
    wp_walk using q1
    refine wpAny_stack_any fun st => wpAny_pure ?_
    split
    · rename_i c _ _ _ _ _
      cases (c == Value.type "enumerate")
      · wp_walk using q1
        exact ⟨_, rfl, h⟩
      · wp_walk using q1
        exact ⟨_, rfl, h⟩
    · wp_walk using q1
      exact ⟨_, rfl, h⟩
section
variable {prog : Program} {w : World} {A : Around} {E : Value → Shared → Prop} {s : Shared}
theorem call_enumT {l : Addr} {items : Array Value} {Q : Value → Shared → Prop} (hL : s.heap.IsTuple l items)
    (h : ∀ h', IsEnum h' (s.heap.objs.size + 1) s.heap.objs.size 0 .none → h'.IsTupleIter s.heap.objs.size l 0 → h'.objs.size = s.heap.objs.size + 2 →
      (∀ b o, s.heap.get? b = some o → h'.get? b = some o) → Q (.ref (s.heap.objs.size + 1)) { s with heap := h' }) :
    wpAny (model prog w) A (call (.type "enumerate") [.ref l]) Q E s := by
  refine callType_new F.called_enumerate (by decide) (F.typeCall_enumerate_1 _) (F.newCall_enumerate_1 _) (fun obj => F.args_object_init_2 obj _) F.entry_enumerate_new
    (meets_enumT l items) ⟨hL, ?_⟩
  have hz : (s.heap.push { cls := .type "tuple_iterator", data := .fields #[.ref l, .int 0 0] }).objs.size = s.heap.objs.size + 1 := Heap.size_push ..
  show _ ∧ _
  rw [hz]
  have he : IsEnum ((s.heap.push { cls := .type "tuple_iterator", data := .fields #[.ref l, .int 0 0] }).push
      { cls := .type "enumerate", data := .fields #[.none, .bool false, .ref s.heap.objs.size, rawInt 0, .none, .none] }) (s.heap.objs.size + 1) s.heap.objs.size 0 .none := by
    have := Heap.get?_push_size (s.heap.push { cls := .type "tuple_iterator", data := .fields #[.ref l, .int 0 0] })
      (o := { cls := .type "enumerate", data := .fields #[.none, .bool false, .ref s.heap.objs.size, rawInt 0, .none, .none] }) rfl
    rw [hz] at this; exact this
  refine ⟨⟨_, he, rfl⟩, h _ he ⟨_, Heap.get?_push_of_some _ (Heap.get?_push_size _ rfl), rfl, rfl⟩ (by rw [Heap.size_push, hz]) fun b o x => Heap.get?_push_of_some _ (Heap.get?_push_of_some _ x)⟩
end
/-- the tuple at a, each item in a new pair -/
def IteT (K : PySem.W.Frag) (a : Addr) : It :=
  ⟨fun i H => ∃ (xs : List V) (x : V), SqT K H a xs ∧ xs[i]? = some x, fun i H v H' => ∃ T x, v = .ref T ∧ H T = none ∧ H' = upd H T (.tup [.int (i : Nat), x]) ∧ ∀ xs, SqT K H a xs → xs[i]? = some x, fun i H => ∃ xs : List V, SqT K H a xs ∧ xs.length ≤ i⟩
theorem turn_enumT {P : Program} {w : World} {K : PySem.W.Frag} {elts : List Expr} {kk : Nat} {tpos : Pos} (a e it : Addr) :
    Turn P w K (.Tuple elts kk tpos) (IteT K a) [e, it] e (fun i h => (∃ old, IsEnum h e it ((i : Nat) : Int) old) ∧ h.IsTupleIter it a i ∧ e ≠ it ∧ a ≠ it ∧ e ≠ a) where
  mem := by simp
  obj := fun i h st b hb => by
    obtain ⟨⟨old, he⟩, ⟨o, ho, hc, hd⟩, _⟩ := st
    have e' : b = e ∨ b = it := by simpa using hb
    rcases e' with z | z
    · rw [z]; exact ⟨_, he, fun v q => nomatch q⟩
    · rw [z]; exact ⟨o, ho, fun v q => by rw [hd] at q; cases q⟩
  keep := fun i h h' st k => let ⟨⟨old, he⟩, hi, hne⟩ := st; ⟨⟨old, k e (by simp) _ he⟩, hi.at fun o q => k it (by simp) o q, hne⟩
  item := by
    intro X hP hw hK hc i pins s σ H E I hf st hg
    subst hP hw hK
    obtain ⟨⟨old, he⟩, hit, hne, hai, hea⟩ := st
    obtain ⟨xs, x, hq, hx⟩ := hg
    obtain ⟨its, rv, p, hz⟩ := I.tuple hq
    obtain ⟨u, hu, ru⟩ := rv.get hx
    have hel : e < s.heap.objs.size := Heap.lt_size he
    have hil : it < s.heap.objs.size := by obtain ⟨_, q, _⟩ := hit; exact Heap.lt_size q
    have pt : s.heap.IsTuple a its.toArray := p
    have il : i < its.toArray.size := by
      have := (List.getElem?_eq_some_iff.mp hu).1
      simpa using this
    refine wpAny_pyNext_enum_itemD (Draws.tuple (I.ok.hd hc |> fun h => (show X.A.in1.handled = none by simpa using h)) it a hai its.toArray) he ⟨hit, pt⟩ il hne (by simp; exact ⟨hne, hea⟩) fun y h' tk hy ho hst' hT hsz hk => ?_
    have ey : y = u := Option.some.inj (hy.symm.trans (by simpa using hu))
    subst ey
    refine ⟨_, rfl, wpAny_letOwnedTupleGo_enum (s := { s with heap := h', toks := tk + 1 }) ho fun h'' he' sb => ?_⟩
    have hT2 : h''.get? s.heap.objs.size = some { cls := .type "tuple", data := .seq #[.int i tk, y] } := (sb.2 _ (Nat.ne_of_gt hel)).trans hT
    have new : ObjOk X.prog X.w (upd H s.heap.objs.size (.tup [.int (i : Nat), x])) h'' s.heap.objs.size (.tup [.int (i : Nat), x]) :=
      ⟨by show 2 ≤ sizeLine; decide, [.int i tk, y], .cons ⟨_, rfl⟩ (.cons ru .nil), ⟨_, hT2, rfl, _, rfl⟩⟩
    have I1 : Inv X pins σ (upd H s.heap.objs.size (.tup [.int (i : Nat), x])) { s with heap := h'', toks := tk + 1 } :=
      I.turnedNew (ch := [e, it]) (fun b ob hb q => (sb.2 b (fun z => hb (by simp [z]))).trans (hk b ob (fun z => hb (by simp [z])) (fun z => hb (by simp [z])) q)) hf (Nat.le_refl _) new
    refine ⟨.ref s.heap.objs.size, _, I1, rfl, ⟨_, x, rfl, I.hok.fresh (Nat.le_refl _), rfl, fun ys hy => by rw [I.tuple_inj hy hq]; exact hx⟩, ⟨⟨y, ?_⟩, hst'.1.at fun o q => (sb.2 it (Ne.symm hne)).trans q, hne, hai, hea⟩, fun b hb => ?_⟩
    · have e1 : ((i + 1 : Nat) : Int) = (i : Int) + 1 := by omega
      rw [e1]; exact he'
    · have hb' : b < s.heap.objs.size := by
        have e' : b = e ∨ b = it := by simpa using hb
        rcases e' with z | z
        · rw [z]; exact hel
        · rw [z]; exact hil
      rw [upd_ne (Nat.ne_of_lt hb')]
      exact (hf b hb).1
  done := by
    intro X hP hw hK hc i pins s σ H E I hf st hg
    subst hP hw hK
    obtain ⟨⟨old, he⟩, hit, hne, hai, hea⟩ := st
    obtain ⟨xs, hq, hx⟩ := hg
    obtain ⟨its, rv, p, hz⟩ := I.tuple hq
    obtain ⟨f0, f1, f2, f3, f4, f5⟩ := hf it (by simp)
    have hl := rv.length
    have pt : s.heap.IsTuple a its.toArray := p
    have hT : s.TypeIs (.ref e) "enumerate" := ⟨_, he, rfl⟩
    unfold pyNext
    refine wpAny_bind (wpAny_attempt (wpAny_callSpecial?_slot (name := Str.ofString "__next__") hT F.slot_enumerate_next
      (wpAny_call_entry F.slot_enumerate_next hT F.entry_enumerate_next ?_ (F.args_enumerate_next_1 _))))
    show wpAny _ _ (field (.ref e) 2 >>= _) _ _ _
    refine wpAny_bind (wpAny_field he rfl (x := .ref it) rfl ?_)
    refine wpAny_bind (RZ.nextOf_tuple_end (show X.A.in1.handled = none by simpa using I.ok.hd hc) hit pt (by simp; omega) fun h' x he' hx' => ?_)
    obtain ⟨o, ho, hc⟩ := hx'
    refine wpAny_bind (wpAny_isInstance (T := "StopIteration") (b := true) ⟨o, ho, hc⟩ isSubtype_stop ?_)
    exact wpAny_pure ⟨rfl, I.turned (t' := s.toks) (fun b o hb q => he' b o hb q) f0 f1 f3 f4 f5⟩
  self := fun A i s Q E st h => let ⟨⟨_, he⟩, _⟩ := st; wpAny_pyIter_enum he h
def iEnumT (K : PySem.W.Frag) (ta : TA) : TI := fun σ H R => ta σ H fun vs H1 => ∃ a xs, vs = [.ref a] ∧ SqT K H1 a xs ∧ R (IteT K a) H1
theorem pi_enumT {X : Cx} {e : Expr} {ta : TA} {p pos tpos : Pos} {elts : List Expr} {kk : Nat} (hg : Gl X "enumerate") (hm : X.mg "enumerate" = none) (ha : PA X [e] ta) (hs : starEach [e] X.env = [(false, eval e X.env)] := by rfl) :
    PI X (.Tuple elts kk tpos) (.Call (.Name "enumerate" p) [e] [] pos) (iEnumT X.K ta) := by
  refine ⟨fun pins s σ H R I h => ?_⟩
  refine Call_ (ld_blt I hg hm boot_enumerate (PyProof.Rows.callWith_type1 (thn (ha.run pos pins s σ H _ I h) fun us s1 ⟨vs, H1, I1, r1, q1⟩ => ?_) hs rfl))
  obtain ⟨a, xs, ex, hq, q⟩ := q1
  subst ex
  cases r1 with
  | cons r rr =>
    cases rr
    cases r
    obtain ⟨its, rv, p', hz⟩ := I1.tuple hq
    have pt : s1.heap.IsTuple a its.toArray := p'
    obtain ⟨oa, ga, _⟩ := id pt
    have la : a < s1.heap.objs.size := Heap.lt_size ga
    refine call_enumT pt fun h' he hit hsz hk => wpAny_pyIter_enum he ?_
    have I2 : Inv X pins σ H1 { s1 with heap := h' } := I1.kept (t' := s1.toks) hk
    refine ⟨s1.heap.objs.size + 1, [s1.heap.objs.size + 1, s1.heap.objs.size], _, _, H1, rfl, I2, turn_enumT a (s1.heap.objs.size + 1) s1.heap.objs.size, ⟨⟨.none, he⟩, hit, Nat.succ_ne_self _, Nat.ne_of_lt la, Nat.ne_of_gt (Nat.lt_succ_of_lt la)⟩, fun b hb => ?_, q⟩
    have e' : b = s1.heap.objs.size + 1 ∨ b = s1.heap.objs.size := by simpa using hb
    have hle : s1.heap.objs.size ≤ b := by
      rcases e' with z | z
      · rw [z]; exact Nat.le_add_right _ _
      · rw [z]; exact Nat.le_refl _
    exact I1.fpOk hle (I1.hok.fresh hle)
theorem walk_enumT {K : PySem.W.Frag} {a : Addr} {xs : List V} : Walk (IteT K a) xs.length (fun H => SqT K H a xs) (YPair (fun i => some (.int (i : Nat))) (fun i => xs[i]?)) := by
  refine ⟨fun i _ hi q => ⟨xs, xs[i], q, by simp [hi]⟩, fun _ q => ⟨xs, q, Nat.le_refl _⟩, fun i H v H' _ q y => ?_⟩
  obtain ⟨T, x, h1, h2, h3, h4⟩ := y
  exact ⟨T, .int (i : Nat), x, h1, h2, h3, rfl, h4 xs q⟩
end ET



set_option Elab.async false
set_option maxRecDepth 100000
set_option maxHeartbeats 1000000
/-! Check: what it keeps; knows. -/
namespace BK
open PySem PySem.Spec PyProof.Rows L2 RZ ET
abbrev Km := List (Str × Str)
def kk (m : Km) : List (Key × V) := m.map fun e => (.inr e.1, .str e.2)
def kget (m : Km) (s : Str) : Option Str := (m.find? fun e => decide (e.1 = s)).map (·.2)
def slotK (k : Str) : Bool := decide (k = "context") || decide (k = "token")
def varK (k : Str) : Bool := decide (k = "variable") || decide (k = "source")
/-- the parts of a statement by the kinds so far: the slots' kinds, the variables -/
def knowsT (vars : List Str) : List (Tr × Str) → Km → Bool × Km
  | [], m => (true, m)
  | (.str s, k) :: r, m => if slotK k = true then (match kget m s with
      | none => knowsT vars r (m ++ [(s, k)])
      | some k' => if k' = k then knowsT vars r m else (false, m))
    else if varK k = true then (if s ∈ vars then knowsT vars r m else (false, m)) else knowsT vars r m
  | (_, _) :: r, m => knowsT vars r m
theorem kk_len (m : Km) : (kk m).length = m.length := by unfold kk; rw [List.length_map]
theorem inrE (a b : Str) : ((Sum.inr a : Key) = Sum.inr b) = (a = b) := propext ⟨fun h => Sum.inr.inj h, fun h => congrArg _ h⟩
theorem valV_kk (k : Str) : ∀ m : Km, valV (kk m) (.inr k) = (kget m k).map V.str
  | [] => rfl
  | e :: r => by
    have ih := valV_kk k r
    unfold valV kk kget at ih ⊢
    rw [List.map_cons, List.find?_cons, List.find?_cons]
    by_cases h : e.1 = k
    · simp [h]
    · simp only [inrE, decide_eq_false h]
      exact ih
theorem putK_kk {m : Km} {s k : Str} (h : kget m s = none) : putK (kk m) (.inr s) (.str k) = kk (m ++ [(s, k)]) := by
  unfold putK
  have z : ((kk m).any fun e => decide (e.1 = (.inr s : Key))) = false := by
    unfold kk
    rw [List.any_map, List.any_eq_false]
    intro e he
    simp only [Function.comp, inrE, decide_eq_true_eq]
    intro q
    unfold kget at h
    have : m.find? (fun e => decide (e.1 = s)) = none := by
      cases e : m.find? (fun e => decide (e.1 = s)) with
      | none => rfl
      | some x => rw [e] at h; cases h
    rw [List.find?_eq_none] at this
    exact this e he (decide_eq_true q)
  rw [z, if_neg Bool.false_ne_true]
  unfold kk
  rw [List.map_append]
  rfl
theorem knows_len {vars : List Str} : ∀ (l : List (Tr × Str)) (m : Km), (knowsT vars l m).2.length ≤ m.length + l.length
  | [], m => by simp [knowsT]
  | (.str s, k) :: r, m => by
    unfold knowsT
    have h1 := knows_len (vars := vars) r m
    have h2 := knows_len (vars := vars) r (m ++ [(s, k)])
    rw [List.length_append] at h2
    simp only [List.length_cons, List.length_nil] at h2 ⊢
    split
    · split
      · omega
      · split
        · omega
        · simp only; omega
    · split
      · split
        · omega
        · simp only; omega
      · omega
  | (.non, _) :: r, m => by have h1 := knows_len (vars := vars) r m; unfold knowsT; simp only [List.length_cons]; omega
  | (.bl _, _) :: r, m => by have h1 := knows_len (vars := vars) r m; unfold knowsT; simp only [List.length_cons]; omega
  | (.int _, _) :: r, m => by have h1 := knows_len (vars := vars) r m; unfold knowsT; simp only [List.length_cons]; omega
  | (.lst, _) :: r, m => by have h1 := knows_len (vars := vars) r m; unfold knowsT; simp only [List.length_cons]; omega
  | (.dct, _) :: r, m => by have h1 := knows_len (vars := vars) r m; unfold knowsT; simp only [List.length_cons]; omega
  | (.tup _, _) :: r, m => by have h1 := knows_len (vars := vars) r m; unfold knowsT; simp only [List.length_cons]; omega
/-- where a check keeps its things -/
structure CA where
  p : Addr
  v : Addr
  d : Addr
def cfs (a : CA) (met : Nat) : List (Str × V) := [("variables", .ref a.v), ("kinds", .ref a.d), ("met", .int (met : Nat))]
structure CkAt (K : PySem.W.Frag) (C : Addr) (H : Hp) (a : CA) (vars : List Str) (m : Km) (met : Nat) : Prop where
  ob : ∃ dx, H a.p = some (.ins C dx (cfs a met))
  dc : H a.d = some (.dK (kk m))
  vs : SqT K H a.v (vars.map V.str)
/-- all stays but the check and its dict of kinds -/
def ButC (a : CA) (H H' : Hp) : Prop := ∀ b o, H b = some o → b ≠ a.p → b ≠ a.d → H' b = some o
theorem ButC.refl (a : CA) (H : Hp) : ButC a H H := fun _ _ e _ _ => e
theorem ButC.trans {a : CA} {H H1 H2 : Hp} (x : ButC a H H1) (y : ButC a H1 H2) : ButC a H H2 := fun c o e h1 h2 => y c o (x c o e h1 h2) h1 h2
theorem ButC.of {a : CA} {H H' : Hp} (e : Same H H') : ButC a H H' := fun c o h _ _ => e c o h
section
variable {K : PySem.W.Frag} {C : Addr} {H H' : Hp} {a : CA} {vars : List Str} {m m' : Km} {met met' : Nat}
theorem CkAt.same (c : CkAt K C H a vars m met) (e : Same H H') : CkAt K C H' a vars m met := by
  obtain ⟨⟨dx, ob⟩, dc, vs⟩ := c
  exact ⟨⟨dx, e _ _ ob⟩, e _ _ dc, sqt_same e vs⟩
/-- a tuple stays -/
theorem ButC.tup (b : ButC a H H') (c : CkAt K C H a vars m met) {t : Addr} {xs : List V} (h : SqT K H t xs) : SqT K H' t xs := by
  obtain ⟨⟨dx, ob⟩, dc, _⟩ := c
  rcases h with (h | ⟨o, h⟩) | h
  · exact .inl (.inl (b _ _ h (ne_of h ob (by intro z; cases z)) (ne_of h dc (by intro z; cases z))))
  · exact .inl (.inr ⟨o, b _ _ h (ne_of h ob (by intro z; cases z)) (ne_of h dc (by intro z; cases z))⟩)
  · exact .inr h
theorem ButC.lst (b : ButC a H H') (c : CkAt K C H a vars m met) {t : Addr} {xs : List V} (h : SqL K H t xs) : SqL K H' t xs := by
  obtain ⟨⟨dx, ob⟩, dc, _⟩ := c
  rcases h with (h | ⟨o, h⟩) | h
  · exact .inl (.inl (b _ _ h (ne_of h ob (by intro z; cases z)) (ne_of h dc (by intro z; cases z))))
  · exact .inl (.inr ⟨o, b _ _ h (ne_of h ob (by intro z; cases z)) (ne_of h dc (by intro z; cases z))⟩)
  · exact .inr h
mutual
theorem TrAt.but (b : ButC a H H') (c : CkAt K C H a vars m met) (c' : CkAt K C H' a vars m' met') : ∀ {v : V} {t : Tr}, TrAt K H v t → TrAt K H' v t
  | _, _, .non => .non
  | _, _, .bl b => .bl b
  | _, _, .int i => .int i
  | _, _, .str s h => .str s h
  | _, _, .lst h => .lst (b.lst c h)
  | _, _, .dct (a := x) (kvs := kvs) h => by
    by_cases z : x = a.d
    · rw [z]
      exact .dct c'.dc
    · obtain ⟨⟨dx, ob⟩, dc, _⟩ := c
      exact .dct (b _ _ h (ne_of h ob (by intro z; cases z)) z)
  | _, _, .tup h k => .tup (b.tup c h) (TrAll.but b c c' k)
theorem TrAll.but (b : ButC a H H') (c : CkAt K C H a vars m met) (c' : CkAt K C H' a vars m' met') : ∀ {vs : List V} {ts : List Tr}, TrAll K H vs ts → TrAll K H' vs ts
  | _, _, .nil => .nil
  | _, _, .cons h k => .cons (h.but b c c') (k.but b c c')
end
theorem CkAt.ne (c : CkAt K C H a vars m met) : a.p ≠ a.d := by
  obtain ⟨⟨dx, ob⟩, dc, _⟩ := c
  exact ne_of ob dc (by intro z; cases z)
end
structure TxK (K : PySem.W.Frag) (mg : Str → Option Value) (C : Addr) : Prop where
  cl : Cls K C
  nV : NoAttr K C "variables"
  nK : NoAttr K C "kinds"
  nM : NoAttr K C "met"
  mgC : mg "Check" = some (.ref C)
theorem cfs_v (a : CA) (n : Nat) : (cfs a n).lookup ("variables" : Str) = some (.ref a.v) := by rfl
theorem cfs_k (a : CA) (n : Nat) : (cfs a n).lookup ("kinds" : Str) = some (.ref a.d) := by rfl
theorem cfs_m (a : CA) (n : Nat) : (cfs a n).lookup ("met" : Str) = some (.int (n : Nat)) := by rfl
theorem put_met (a : CA) (n : Nat) : putF "met" (.int ((n : Int) + 1)) (cfs a n) = cfs a (n + 1) := by rfl
theorem cfs_no (a : CA) (n : Nat) {m : Str} (h1 : ¬ m = "variables") (h2 : ¬ m = "kinds") (h3 : ¬ m = "met") : (cfs a n).lookup m = none := by
  have e1 : (m == ("variables" : Str)) = false := beq_eq_false_iff_ne.mpr h1
  have e2 : (m == ("kinds" : Str)) = false := beq_eq_false_iff_ne.mpr h2
  have e3 : (m == ("met" : Str)) = false := beq_eq_false_iff_ne.mpr h3
  unfold cfs
  simp only [List.lookup, e1, e2, e3]
end BK



set_option Elab.async false
set_option maxRecDepth 100000
set_option maxHeartbeats 1000000
/-! knows. -/
namespace BK
open PySem PySem.Spec PyProof.Rows L2 RZ ET
abbrev cCheck : Stmt := top 30
abbrev sCInit : Stmt := inClass cCheck 0
abbrev sFault : Stmt := inClass cCheck 1
abbrev sTakes : Stmt := inClass cCheck 2
abbrev sKnows : Stmt := inClass cCheck 3
def spKnows (K : PySem.W.Frag) (C : Addr) : Sp := fun vs H Q _ => ∃ a v vars m met x rest ks, vs = [.ref a.p, v] ∧ CkAt K C H a vars m met ∧ m.length ≤ 900 ∧ TrAt K H v (.tup (.str x :: rest)) ∧ kindsOf x = some ks ∧ fitsT rest ks = true ∧
  ∀ H', CkAt K C H' a vars (knowsT vars (rest.zip ks) m).2 met → ButC a H H' → Q (.bl (knowsT vars (rest.zip ks) m).1) H'
theorem scKnows : FnScope ["self", "statement", "part", "kind", "is_variable"] ["self", "statement"] (defScope sKnows) := ⟨rfl, rfl, rfl, by decide +kernel, rfl, by decide +kernel, by decide +kernel⟩
theorem inV_two (a b z : Str) : inV (.str z) [.str a, .str b] = (decide (z = a) || decide (z = b)) := by
  have := in_txts z [a, b]
  rw [show [V.str a, V.str b] = [a, b].map V.str from rfl, this]
  simp
/-- a part of a slot's kind is a name -/
theorem slot_name {t : Tr} {k : Str} (h : partT t k = true) (s : slotK k = true) : ∃ z, t = .str z := by
  unfold slotK at s
  have e : nameT t = true := by
    rcases Bool.or_eq_true_iff.mp s with s | s
    · have e := of_decide_eq_true s
      subst e
      exact h
    · have e := of_decide_eq_true s
      subst e
      exact h
  cases t with
  | str z => exact ⟨z, rfl⟩
  | non => cases e
  | bl b => cases e
  | int i => cases e
  | lst => cases e
  | dct => cases e
  | tup ts => cases e
theorem slot_not_var {k : Str} (s : slotK k = true) : varK k = false := by
  unfold slotK at s
  rcases Bool.or_eq_true_iff.mp s with s | s
  · have e := of_decide_eq_true s
    subst e
    decide
  · have e := of_decide_eq_true s
    subst e
    decide
theorem knows_other {vars : List Str} {t : Tr} {k : Str} {r : List (Tr × Str)} {m : Km} (h : slotK k = false) (h2 : varK k = false ∨ isStr t = false) : knowsT vars ((t, k) :: r) m = knowsT vars r m := by
  cases t with
  | str s =>
    rcases h2 with h2 | h2
    · show (if slotK k = true then _ else (if varK k = true then _ else knowsT vars r m)) = knowsT vars r m
      rw [h, h2, if_neg Bool.false_ne_true, if_neg Bool.false_ne_true]
    · cases h2
  | _ => rfl
section
variable {P : Program} {w : World} {K : PySem.W.Frag} {mg : Str → Option Value} {base : Heap}
theorem ok_knows {C f fQ : Addr} {fd fdQ : FuncData} (F : Fun K "knows" "Check.knows" sKnows f fd) (T : Forms mg) (U : Kinds K mg) (X : TxK K mg C)
    (GQ : FnOk P w K mg base CX0 1 fQ fdQ ["statement"] (spParts K)) (bQ : Binds K fdQ ["statement"] []) (gQ : mg "parts_of" = some (.ref fQ)) (kQ : PySem.W.keepIn K (.ref fQ) = true) : FnOk P w K mg base CX0 2 f fd ["self", "statement"] (spKnows K C) := by
  refine F.ok scKnows (fun vs H Q E h => ?_) (fun cdv A outer s H vs Q E hr h => ?_)
  · obtain ⟨a, v, vars, m, met, x, rest, ks, rfl, _⟩ := h
    rfl
  · obtain ⟨a, v, vars, m, met, x, rest, ks, rfl, cA, ml, ht, ek, ef, k⟩ := h
    obtain ⟨aK, gK, sK⟩ := U.kd
    have hu := hu_of hr
    refine ⟨_, pss_cons (ps_for PassesOwn.never rfl (pi_list (pe_call GQ hr rfl gQ kQ bQ .nil pass0 (pa_cons (pv 1) pa_nil)))
        (pg_tup rfl (pgs_cons (pg_name (i := 2) scKnows.nd rfl (Or.inl rfl)) (pgs_cons (pg_name (i := 3) scKnows.nd rfl (Or.inl rfl)) pgs_nil)))
        (C8.pss_cut (ps_if (PW.pt (pw_and (pt_cmpR op_in_seq (pv 3) (pe_glob (v := .ref aK) rfl gK rfl) rfl)
            (pw_and1 (pt_cmpR op_ne (pe_dsetd (pe_fld (pv 0) rfl) (pv 2) (pv 3) ⟨rfl, rfl, rfl, rfl⟩) (pv 3) (nomark _))))) (pss_one (ps_ret pe_bl)) pss_nil)
        (pss_cons (ps_set (i := 4) scKnows.nd rfl (Or.inl rfl) (pe_and (pe_cmpR op_in_seq (pv 3) (pe_tup (pa_cons pe_str (pa_cons pe_str pa_nil))) rfl)
            (pe_one (pe_callB call_isi (by rfl) T.isi boot_isinstance (pa_cons (pv 2) (pa_cons (pe_bltn (v := .ty "str") (u := .type "str") (by rfl) T.str (by decide +kernel) rfl) pa_nil))))))
        (pss_one (ps_if (PW.pt (pw_and (pt_val (pv 4)) (pw_and1 (pt_cmpR op_notIn_seq (pv 2) (pe_fld (pv 0) rfl) rfl)))) (pss_one (ps_ret pe_bl)) pss_nil)))))
      (pss_one (ps_ret pe_bl)), ?_⟩
    have el : rest.length = ks.length := by
      unfold fitsT at ef
      exact of_decide_eq_true (Bool.and_eq_true_iff.mp ef).1
    have ep : ∀ p ∈ rest.zip ks, partT p.1 p.2 = true := by
      unfold fitsT at ef
      exact List.all_eq_true.mp (Bool.and_eq_true_iff.mp ef).2
    have kl := kinds_few ek
    refine ⟨_, rfl, v, x, rest, ks, rfl, ht, ek, el, fun L ts H1 s1 eL lt at1 => ?_⟩
    have c1 := cA.same s1
    have zl : (rest.zip ks).length = ts.length := by rw [List.length_zip]; omega
    refine ⟨L, rfl, ⟨_, SqL.of eL⟩, for_list (K := K) (a := L) (xs := ts.map V.ref) (fun i σ H2 => ∃ (v2 v3 v4 : Option V) (mi : Km), σ = [some (.ref a.p), some v, v2, v3, v4] ∧ CkAt K C H2 a vars mi met ∧ ButC a H1 H2 ∧ knowsT vars (rest.zip ks) m = knowsT vars ((rest.zip ks).drop i) mi ∧ mi.length ≤ m.length + i)
      ⟨none, none, none, m, rfl, c1, ButC.refl _ _, rfl, Nat.le_refl _⟩ (fun i σ H2 _ ⟨_, _, _, mi, _, c2, b2, _⟩ => b2.lst c1 (SqL.of eL)) ?_ ?_⟩
    · rintro i y σ H2 hi ⟨v2, v3, v4, mi, rfl, c2, b2, e2, l2⟩
      rw [List.getElem?_map] at hi
      cases eT : ts[i]? with
      | none => rw [eT] at hi; cases hi
      | some U =>
      rw [eT] at hi
      obtain rfl : V.ref U = y := Option.some.inj hi
      obtain ⟨y', t', k', q1, q2, q3, q4⟩ := at1 i U eT
      have ez : (rest.zip ks)[i]? = some (t', k') := List.getElem?_zip_eq_some.mpr ⟨q1, q2⟩
      have il : i < (rest.zip ks).length := (List.getElem?_eq_some_iff.mp ez).1
      have ed : (rest.zip ks).drop i = (t', k') :: (rest.zip ks).drop (i + 1) := by
        rw [List.drop_eq_getElem_cons il]
        congr 1
        exact Option.some.inj ((List.getElem?_eq_getElem il).symm.trans ez)
      rw [ed] at e2
      have pt := ep _ (List.mem_of_getElem? ez)
      have ty : TrAt K H2 y' t' := q3.but b2 c1 c2
      refine ⟨U, _, rfl, b2.tup c1 (SqT.of q4), rfl, _, _, rfl, _, _, rfl, rfl, ?_⟩
      obtain ⟨⟨dx, ob⟩, dc, vs⟩ := id c2
      -- the slots' kinds
      refine ⟨fun σ H3 => ∃ mj : Km, σ = [some (.ref a.p), some v, some y', some (.str k'), v4] ∧ CkAt K C H3 a vars mj met ∧ ButC a H1 H3 ∧ mj.length ≤ m.length + (i + 1) ∧ (slotK k' = true → knowsT vars (rest.zip ks) m = knowsT vars ((rest.zip ks).drop (i + 1)) mj) ∧ (slotK k' = false → mj = mi), ?_, ?_⟩
      · refine ⟨_, rfl, aK, _, rfl, .inr (sK _), rfl, rfl, _, rfl, ?_⟩
        rw [show inV (.str k') [.str "context", .str "token"] = slotK k' from inV_two _ _ _]
        refine ite2 (fun hs => ?_) (fun hs => ?_)
        · have hs : slotK k' = true := hs
          obtain ⟨z, rfl⟩ := slot_name pt hs
          cases ty with
          | str _ hz =>
          have eq : knowsT vars (rest.zip ks) m = (match kget mi z with
              | none => knowsT vars ((rest.zip ks).drop (i + 1)) (mi ++ [(z, k')])
              | some k2 => if k2 = k' then knowsT vars ((rest.zip ks).drop (i + 1)) mi else (false, mi)) := by
            rw [e2]
            show (if slotK k' = true then _ else _) = _
            rw [if_pos hs]
            all_goals (cases kget mi z <;> rfl)
          refine ⟨_, rfl, a.p, C, dx, _, _, rfl, ob, X.cl, X.nK, cfs_k a met, a.d, rfl, .inl ⟨_, .inl dc⟩, _, rfl, _, rfl, kk mi, .inr z, dc, rfl, small1000 (by rw [kk_len]; rw [zl, lt] at il; omega), fun w hw => ?_, fun hno => ?_⟩
          · rw [valV_kk] at hw
            cases eg : kget mi z with
            | none => rw [eg] at hw; cases hw
            | some k2 =>
              rw [eg] at hw eq
              obtain rfl : V.str k2 = w := Option.some.inj hw
              refine ⟨_, rfl, rfl, _, rfl, ?_⟩
              rw [show decide (V.str k2 = V.str k') = decide (k2 = k') from eq_txt _ _]
              by_cases h2 : k2 = k'
              · rw [decide_eq_true h2]
                have e4 : knowsT vars (rest.zip ks) m = knowsT vars ((rest.zip ks).drop (i + 1)) mi := by
                  rw [eq]
                  exact if_pos h2
                exact iteF ⟨mi, rfl, c2, b2, by omega, fun _ => e4, fun hn => Bool.noConfusion (hs.symm.trans hn)⟩
              · rw [decide_eq_false h2]
                refine iteT ?_
                have e4 : knowsT vars (rest.zip ks) m = (false, mi) := by
                  rw [eq]
                  exact if_neg h2
                have q := k H2 (by rw [e4]; exact c2) ((ButC.of s1).trans b2)
                rw [e4] at q
                exact q
          · rw [valV_kk] at hno
            cases eg : kget mi z with
            | some k2 => rw [eg] at hno; cases hno
            | none =>
              rw [eg] at eq
              rw [putK_kk eg]
              refine ⟨_, rfl, rfl, _, rfl, ?_⟩
              rw [show decide (V.str k' = V.str k') = true from decide_eq_true rfl]
              have ne := c2.ne
              refine iteF ⟨mi ++ [(z, k')], rfl, ⟨⟨dx, by rw [upd_ne ne]; exact ob⟩, upd_same, ?_⟩, fun b o e h1 h2 => ?_, by rw [List.length_append]; simp; omega, fun _ => eq, fun hn => ?_⟩
              · rcases vs with (h | ⟨o, h⟩) | h
                · exact .inl (.inl (by rw [upd_ne (ne_of h dc (by intro z; cases z))]; exact h))
                · exact .inl (.inr ⟨o, by rw [upd_ne (ne_of h dc (by intro z; cases z))]; exact h⟩)
                · exact .inr h
              · rw [upd_ne h2]
                exact b2 b o e h1 h2
              · rw [hs] at hn; cases hn
        · have hs' : slotK k' = false := by
            have : ¬ (slotK k' = true) := hs
            simpa using this
          exact ⟨mi, rfl, c2, b2, by omega, fun z => Bool.noConfusion (hs'.symm.trans z), fun _ => rfl⟩
      rintro σ H3 ⟨mj, rfl, c3, b3, l3, yes, no⟩
      have ty3 : TrAt K H3 y' t' := q3.but b3 c1 c3
      obtain ⟨⟨dx3, ob3⟩, dc3, vs3⟩ := id c3
      refine ⟨_, rfl, (by show 2 ≤ sizeLine; decide), fun tp ntp => ?_⟩
      have s4 := same_new (o := .tup [.str "variable", .str "source"]) ntp
      refine ⟨tp, _, rfl, .inr (SqT.of upd_same), rfl, rfl, _, rfl, ?_⟩
      rw [show inV (.str k') [.str "variable", .str "source"] = varK k' from inV_two _ _ _]
      have fin : ∀ (v4 : Option V), knowsT vars (rest.zip ks) m = knowsT vars ((rest.zip ks).drop (i + 1)) mj → ∃ (v2 v3 v4' : Option V) (mi : Km), [some (V.ref a.p), some v, some y', some (V.str k'), v4] = [some (.ref a.p), some v, v2, v3, v4'] ∧ CkAt K C (upd H3 tp (.tup [.str "variable", .str "source"])) a vars mi met ∧
          ButC a H1 (upd H3 tp (.tup [.str "variable", .str "source"])) ∧ knowsT vars (rest.zip ks) m = knowsT vars ((rest.zip ks).drop (i + 1)) mi ∧ mi.length ≤ m.length + (i + 1) := fun v4 e => ⟨_, _, _, mj, rfl, c3.same s4, b3.trans (ButC.of s4), e, l3⟩
      cases hs : slotK k' with
      | true =>
        rw [slot_not_var hs]
        exact iteF ⟨_, rfl, _, rfl, iteF (fin _ (yes hs))⟩
      | false =>
        have em := no hs
        subst em
        cases hv : varK k' with
        | false =>
          refine iteF ⟨_, rfl, _, rfl, iteF (fin _ ?_)⟩
          rw [e2]
          exact knows_other hs (.inl hv)
        | true =>
          refine iteT ⟨_, rfl, y', .ty "str", .type (tyT t'), .type "str", isStr t', rfl, .ty "str", (ty3.same s4).ty, k_str K t', ?_⟩
          refine ⟨_, rfl, _, rfl, ?_⟩
          cases ei : isStr t' with
          | false =>
            refine iteF (fin _ ?_)
            rw [e2]
            exact knows_other hs (.inr ei)
          | true =>
            obtain ⟨z, rfl⟩ : ∃ z, t' = .str z := by
              cases t' with
              | str z => exact ⟨z, rfl⟩
              | _ => cases ei
            cases ty3 with
            | str _ hz =>
            have e5 : knowsT vars (rest.zip ks) m = if z ∈ vars then knowsT vars ((rest.zip ks).drop (i + 1)) mj else (false, mj) := by
              rw [e2]
              show (if slotK k' = true then _ else (if varK k' = true then _ else _)) = _
              rw [hs, hv, if_neg Bool.false_ne_true, if_pos rfl]
            refine iteT ⟨_, rfl, _, rfl, a.p, C, dx3, _, _, rfl, s4 _ _ ob3, X.cl, X.nV, cfs_v a met, a.v, _, rfl, .inr (sqt_same s4 vs3), rfl, flat_txts vars, _, rfl, ?_⟩
            rw [in_txts]
            by_cases hm : z ∈ vars
            · rw [decide_eq_true hm]
              refine iteF (fin _ ?_)
              rw [e5, if_pos hm]
            · rw [decide_eq_false hm]
              refine iteT ?_
              rw [if_neg hm] at e5
              have q := k (upd H3 tp (.tup [.str "variable", .str "source"])) (by rw [e5]; exact c3.same s4) (((ButC.of s1).trans b3).trans (ButC.of s4))
              rw [e5] at q
              exact q
    · rintro σ H2 ⟨v2, v3, v4, mi, rfl, c2, b2, e2, _⟩
      have e3 : (rest.zip ks).drop (ts.map V.ref).length = [] := by
        rw [List.length_map, ← zl, List.drop_length]
      rw [e3] at e2
      have e4 : knowsT vars (rest.zip ks) m = (true, mi) := e2
      have q := k H2 (by rw [e4]; exact c2) ((ButC.of s1).trans b2)
      rw [e4] at q
      exact q
end
end BK



set_option Elab.async false
set_option maxRecDepth 100000
set_option maxHeartbeats 1000000
/-! takes; __init__. -/
namespace BK
open PySem PySem.Spec PyProof.Rows L2 RZ ET
def takesT (vars : List Str) (t : Tr) (as : List Str) (m : Km) (n : Nat) : Bool × Km :=
  if 16 < n ∨ 4 < as.length then (false, m) else match t with
    | .tup (.str x :: rest) => match kindsOf x with
      | some ks => if fitsT rest ks = true then ((knowsT vars (rest.zip ks) m).1 && canT x rest as, (knowsT vars (rest.zip ks) m).2) else (false, m)
      | none => (false, m)
    | _ => (false, m)
def spTakes (K : PySem.W.Frag) (C : Addr) : Sp := fun vs H Q _ => ∃ a v ar vars m met t as, vs = [.ref a.p, v, .ref ar] ∧ CkAt K C H a vars m met ∧ m.length ≤ 900 ∧ TrAt K H v t ∧ SqT K H ar (as.map V.str) ∧
  ∀ H', CkAt K C H' a vars (takesT vars t as m (met + 1)).2 (met + 1) → ButC a H H' → Q (.bl (takesT vars t as m (met + 1)).1) H'
theorem scTakes : FnScope ["self", "statement", "around"] ["self", "statement", "around"] (defScope sTakes) := ⟨rfl, rfl, rfl, by decide +kernel, rfl, by decide +kernel, by decide +kernel⟩
theorem loop_kinds : kindsOf ("loop" : Str) = some [("block" : Str)] := by decide +kernel
theorem form_parts {x : Str} {rest : List Tr} (h : formT (.tup (.str x :: rest)) = true) : ∃ ks, kindsOf x = some ks ∧ fitsT rest ks = true := by
  have h : (match kindsOf x with
    | some ks => fitsT rest ks
    | none => false) = true := h
  cases e : kindsOf x with
  | none => rw [e] at h; cases h
  | some ks => rw [e] at h; exact ⟨ks, rfl, h⟩
theorem loop_block {rest : List Tr} {ks : List Str} (e : kindsOf ("loop" : Str) = some ks) (h : fitsT rest ks = true) : ∃ ts r, rest = .tup ts :: r := by
  rw [loop_kinds] at e
  obtain rfl := Option.some.inj e
  unfold fitsT at h
  obtain ⟨h1, h2⟩ := Bool.and_eq_true_iff.mp h
  have h1 := of_decide_eq_true h1
  match rest, h1 with
  | [t], _ =>
    have h2 : (partT t "block" && true) = true := h2
    rw [Bool.and_true] at h2
    have h3 : isTup t = true := h2
    cases t with
    | tup ts => exact ⟨ts, [], rfl⟩
    | _ => cases h3
theorem gt_cast (n : Nat) (k : Nat) : decide ((n : Int) > (k : Int)) = decide (k < n) := by
  by_cases h : k < n
  · rw [decide_eq_true h]
    exact decide_eq_true (by omega)
  · rw [decide_eq_false h]
    exact decide_eq_false (by omega)
structure Most (mg : Str → Option Value) : Prop where
  ms : ∃ t, mg "MOST_STATEMENTS" = some (.int 16 t)
  ma : ∃ t, mg "MOST_AROUND" = some (.int 4 t)
section
variable {P : Program} {w : World} {K : PySem.W.Frag} {mg : Str → Option Value} {base : Heap}
theorem ok_takes {C f fF fK fC : Addr} {fd fdF fdK fdC : FuncData} (F : Fun K "takes" "Check.takes" sTakes f fd) (T : Forms mg) (M : Most mg) (X : TxK K mg C)
    (GF : FnOk P w K mg base CX0 5 fF fdF ["thing"] (spOf formT K)) (bF : Binds K fdF ["thing"] []) (gF : mg "has_form" = some (.ref fF)) (kF : PySem.W.keepIn K (.ref fF) = true)
    (GK : FnOk P w K mg base CX0 2 fK fdK ["self", "statement"] (spKnows K C)) (bK : Binds K fdK ["self", "statement"] []) (mK : Meth K C "knows" fK)
    (GC : FnOk P w K mg base CX0 7 fC fdC ["statement", "around"] (spCan K)) (bC : Binds K fdC ["statement", "around"] []) (gC : mg "can_stand" = some (.ref fC)) (kC : PySem.W.keepIn K (.ref fC) = true) :
    FnOk P w K mg base CX0 8 f fd ["self", "statement", "around"] (spTakes K C) := by
  refine F.ok scTakes (fun vs H Q E h => ?_) (fun cdv A outer s H vs Q E hr h => ?_)
  · obtain ⟨a, v, ar, vars, m, met, t, as, rfl, _⟩ := h
    rfl
  · obtain ⟨a, v, ar, vars, m, met, t, as, rfl, cA, ml, ht, sa, k⟩ := h
    obtain ⟨t1, gS⟩ := M.ms
    obtain ⟨t2, gA⟩ := M.ma
    have hr5 : Room 5 _ := hr.mono (by decide)
    have hr2 : Room 2 _ := hr.mono (by decide)
    refine ⟨_, C8.pss_cut (ps_fldaug (pv 0) pe_int in_add)
      (pss_cons (ps_if (PW.pt (pw_or (pt_cmpR op_gt (pe_fld (pv 0) rfl) (pe_glob (v := .int 16) rfl gS ⟨_, rfl⟩) rfl)
          (pw_or1 (pt_cmpR op_gt (pe_callB call_len_seq (by rfl) T.len boot_len (pa_cons (pv 2) pa_nil)) (pe_glob (v := .int 4) rfl gA ⟨_, rfl⟩) rfl)))) (pss_one (ps_ret pe_bl)) pss_nil)
      (pss_one (ps_ret (pe_and (pe_call GF hr5 rfl gF kF bF .nil pass0 (pa_cons (pv 1) pa_nil)) (pe_and (pe_meth (pv 0) X.cl mK GK hr2 bK .nil pass0 (pa_cons (pv 1) pa_nil))
        (pe_one (pe_call GC hr rfl gC kC bC .nil pass0 (pa_cons (pv 1) (pa_cons (pv 2) pa_nil))))))))), ?_⟩
    obtain ⟨⟨dx, ob⟩, dc, vs⟩ := id cA
    have ne := cA.ne
    refine ⟨fun σ H1 => σ = [some (.ref a.p), some v, some (.ref ar)] ∧ CkAt K C H1 a vars m (met + 1) ∧ ButC a H H1, ?_, ?_⟩
    · refine ⟨_, rfl, a.p, C, dx, _, _, rfl, ob, X.cl, X.nM, cfs_m a met, _, _, rfl, rfl, dx, _, ob, (by decide : 3 < 1000), rfl, ⟨⟨dx, upd_same⟩, ?_, ?_⟩, fun b o e h1 _ => ?_⟩
      · rw [upd_ne ne.symm]; exact dc
      · rcases vs with (h | ⟨o, h⟩) | h
        · exact .inl (.inl (by rw [upd_ne (ne_of h ob (by intro z; cases z))]; exact h))
        · exact .inl (.inr ⟨o, by rw [upd_ne (ne_of h ob (by intro z; cases z))]; exact h⟩)
        · exact .inr h
      · rw [upd_ne h1]; exact e
    rintro σ H1 ⟨rfl, c1, b1⟩
    have ht1 := ht.but b1 cA c1
    have sa1 := b1.tup cA sa
    obtain ⟨⟨dx1, ob1⟩, dc1, vs1⟩ := id c1
    have over : 16 < met + 1 ∨ 4 < as.length → Q (.bl false) H1 := fun z => by
      have e : takesT vars t as m (met + 1) = (false, m) := if_pos z
      have q := k H1 (by rw [e]; exact c1) b1
      rw [e] at q
      exact q
    refine ⟨_, rfl, a.p, C, dx1, _, _, rfl, ob1, X.cl, X.nM, cfs_m a (met + 1), _, _, rfl, rfl, _, rfl, ?_⟩
    rw [show decide (((met + 1 : Nat) : Int) > 16) = decide (16 < met + 1) from gt_cast (met + 1) 16]
    refine ite2 (fun z => ?_) (fun z => ?_)
    · exact over (.inl (of_decide_eq_true z))
    have n1 : ¬ 16 < met + 1 := fun q => z (decide_eq_true q)
    refine ⟨_, rfl, ar, _, rfl, .inr sa1, _, _, rfl, rfl, _, rfl, ?_⟩
    rw [show decide (((as.map V.str).length : Int) > 4) = decide (4 < as.length) by rw [List.length_map]; exact gt_cast as.length 4]
    refine ite2 (fun z => ?_) (fun z => ?_)
    · exact over (.inr (of_decide_eq_true z))
    have n2 : ¬ 4 < as.length := fun q => z (decide_eq_true q)
    have n3 : ¬ (16 < met + 1 ∨ 4 < as.length) := fun q => q.elim n1 n2
    refine ⟨_, rfl, v, t, rfl, ht1, fun H2 s2 => ⟨_, rfl, ?_⟩⟩
    have c2 := c1.same s2
    have b2 := b1.trans (ButC.of s2)
    cases ef : formT t with
    | false =>
      refine iteF ?_
      have e : takesT vars t as m (met + 1) = (false, m) := by
        unfold takesT
        rw [if_neg n3]
        split
        · rename_i x rest
          have ef : (match kindsOf x with
            | some ks => fitsT rest ks
            | none => false) = false := ef
          cases ek : kindsOf x with
          | none => rfl
          | some ks =>
            rw [ek] at ef
            have ef : fitsT rest ks = false := ef
            simp only
            rw [ef, if_neg Bool.false_ne_true]
        · rfl
      have q := k H2 (by rw [e]; exact c2) b2
      rw [e] at q
      exact q
    | true =>
      obtain ⟨x, rest, rfl⟩ := form_shape ef
      obtain ⟨ks, ek, e1⟩ := form_parts ef
      have e : takesT vars (.tup (.str x :: rest)) as m (met + 1) = ((knowsT vars (rest.zip ks) m).1 && canT x rest as, (knowsT vars (rest.zip ks) m).2) := by
        unfold takesT
        rw [if_neg n3]
        simp only
        rw [ek]
        simp only
        rw [if_pos e1]
      rw [e] at k
      refine iteT ⟨_, rfl, a.p, dx1, _, rfl, s2 _ _ ob1, cfs_no a _ (by decide +kernel) (by decide +kernel) (by decide +kernel), _, rfl, a, v, vars, m, met + 1, x, rest, ks, rfl, c2, ml, ht1.same s2, ek, e1, fun H3 c3 b3 => ⟨_, rfl, ?_⟩⟩
      have b4 := b2.trans b3
      cases e5 : (knowsT vars (rest.zip ks) m).1 with
      | false =>
        have q := k H3 c3 b4
        rw [e5, Bool.false_and] at q
        exact iteF q
      | true =>
        refine iteT ⟨_, rfl, _, rfl, v, ar, x, rest, as, rfl, (ht1.same s2).but b3 c2 c3, b3.tup c2 (sqt_same s2 sa1), fun q => ?_, fun H4 s4 => ?_⟩
        · subst q
          exact loop_block ek e1
        · have q := k H4 (c3.same s4) (b4.trans (ButC.of s4))
          rw [e5, Bool.true_and] at q
          exact q
end
end BK



set_option Elab.async false
set_option maxRecDepth 100000
set_option maxHeartbeats 1000000
/-! Check's __init__. -/
namespace BK
open PySem PySem.Spec PyProof.Rows L2 RZ ET
def pairKm : Tr → Option (Str × Str)
  | .tup [.str s, .str k] => some (s, k)
  | _ => none
def kindsP : Tr → Km
  | .tup ts => ts.filterMap pairKm
  | _ => []
theorem kget_none {m : Km} {s : Str} (h : s ∉ m.map (·.1)) : kget m s = none := by
  unfold kget
  have : m.find? (fun e => decide (e.1 = s)) = none := by
    rw [List.find?_eq_none]
    intro e he
    simp only [decide_eq_true_eq]
    intro q
    exact h (List.mem_map.mpr ⟨e, he, q⟩)
  rw [this]
  rfl
theorem kind_str {t : Tr} (h : kindT t = true) : ∃ k, t = .str k := by
  cases t with
  | str k => exact ⟨k, rfl⟩
  | _ => cases h
theorem name_str {t : Tr} (h : nameT t = true) : ∃ k, t = .str k := by
  cases t with
  | str k => exact ⟨k, rfl⟩
  | _ => cases h
theorem param_shape {t : Tr} (h : paramT t = true) (n : nameT (firstT t) = true) : ∃ s k, t = .tup [.str s, .str k] ∧ kindT (.str k) = true := by
  obtain ⟨s, k, rfl⟩ := param_two h
  have h : kindT k = true := h
  have n : nameT s = true := n
  obtain ⟨k', rfl⟩ := kind_str h
  obtain ⟨s', rfl⟩ := name_str n
  exact ⟨s', k', rfl, h⟩
theorem kinds_keys : ∀ {ts : List Tr}, ts.all paramT = true → (ts.map firstT).all nameT = true → (ts.filterMap pairKm).map (·.1) = texts (ts.map firstT)
  | [], _, _ => rfl
  | t :: r, h, n => by
    rw [List.all_cons, Bool.and_eq_true] at h
    rw [List.map_cons, List.all_cons, Bool.and_eq_true] at n
    obtain ⟨s, k, rfl, _⟩ := param_shape h.1 n.1
    have ih := kinds_keys h.2 n.2
    show s :: (r.filterMap pairKm).map (·.1) = s :: texts (r.map firstT)
    rw [ih]
theorem params_split {ts : List Tr} (h : paramsT (.tup ts) = true) : ts.length ≤ 2 ∧ ts.all paramT = true ∧ (ts.map firstT).all nameT = true ∧ (texts (ts.map firstT)).Nodup := by
  rw [params_tup, Bool.and_eq_true, Bool.and_eq_true] at h
  obtain ⟨⟨h1, h2⟩, h3⟩ := h
  unfold diffT at h3
  rw [Bool.and_eq_true] at h3
  exact ⟨of_decide_eq_true h1, h2, h3.1, of_decide_eq_true h3.2⟩
theorem kindsP_len {t : Tr} (h : paramsT t = true) : (kindsP t).length ≤ 2 := by
  cases t with
  | tup ts =>
    have := (params_split h).1
    exact Nat.le_trans (List.length_filterMap_le _ _) this
  | _ => cases h
def spCInit (K : PySem.W.Frag) (C : Addr) : Sp := fun vs H Q _ => ∃ (x dx va : Addr) (pv : V) (vars : List Str) (pt : Tr), vs = [.ref x, .ref va, pv] ∧ H x = some (.ins C dx []) ∧ SqT K H va (vars.map V.str) ∧ TrAt K H pv pt ∧ paramsT pt = true ∧
  ∀ (d : Addr) (H' : Hp), H d = none → CkAt K C H' ⟨x, va, d⟩ vars (kindsP pt) 0 → (∀ b o, H b = some o → b ≠ x → H' b = some o) → Q .non H'
theorem scCInit : FnScope ["self", "variables", "params", "slot", "kind"] ["self", "variables", "params"] (defScope sCInit) := ⟨rfl, rfl, rfl, by decide +kernel, rfl, by decide +kernel, by decide +kernel⟩
section
variable {P : Program} {w : World} {K : PySem.W.Frag} {mg : Str → Option Value} {base : Heap}
theorem ok_cinit {C f : Addr} {fd : FuncData} (F : Fun K "__init__" "Check.__init__" sCInit f fd) (X : TxK K mg C) : FnOk P w K mg base CX0 1 f fd ["self", "variables", "params"] (spCInit K C) := by
  refine F.ok scCInit (fun vs H Q E h => ?_) (fun cdv A outer s H vs Q E hr h => ?_)
  · obtain ⟨x, dx, va, pv, vars, pt, rfl, _⟩ := h
    rfl
  · obtain ⟨x, dx, va, pvv, vars, pt, rfl, ob, sv, tp, hp, k⟩ := h
    have hu := hu_of hr
    refine ⟨_, pss_cons (ps_fld (pv 0) (pv 1) rfl)
      (pss_cons (ps_fld (pv 0) (pe_dc (own := [("slot", 3), ("kind", 4)]) (g := gTup K 2 (gCons (gName 3) (gCons (gName 4) gNil))) (tt := tYes) rfl scCInit.nd (pi_tup (pv 2))
          (blkOk_by (N := ["self", "variables", "params", "slot", "kind"]) (sc := defScope sCInit) (by decide +kernel))
          (fun _ _ _ _ _ => by exact pg_tup rfl (pgs_cons (pg_name (i := 3) scCInit.nd rfl (Or.inl rfl)) (pgs_cons (pg_name (i := 4) scCInit.nd rfl (Or.inl rfl)) pgs_nil))) (fun _ _ _ _ _ => pts_nil)
          (fun _ _ _ _ _ => pv 3) (fun _ _ _ _ _ => pv 4)) rfl)
      (pss_one (ps_fld (pv 0) pe_int rfl))), ?_⟩
    have keepT : ∀ {H1 H2 : Hp} {t : Addr} {xs : List V} {fs : List (Str × V)}, H1 x = some (.ins C dx fs) → (∀ b o, H1 b = some o → b ≠ x → H2 b = some o) → SqT K H1 t xs → SqT K H2 t xs := fun {H1 H2 t xs fs} e1 kp h => by
      rcases h with (h | ⟨o, h⟩) | h
      · exact .inl (.inl (kp _ _ h (ne_of h e1 (by intro z; cases z))))
      · exact .inl (.inr ⟨o, kp _ _ h (ne_of h e1 (by intro z; cases z))⟩)
      · exact .inr h
    cases tp with
    | @tup pa xs ts hT tr =>
    obtain ⟨l2, hall, hnm, hnd⟩ := params_split hp
    refine ⟨_, rfl, _, rfl, x, C, dx, _, rfl, ob, X.cl, X.nV, by decide, ?_⟩
    have kp1 : ∀ o b u, H b = some u → b ≠ x → (upd H x o) b = some u := fun o b u e n => by rw [upd_ne n]; exact e
    have hT1 := keepT ob (kp1 (.ins C dx (putF "variables" (.ref va) []))) hT
    have ob1 : (upd H x (.ins C dx (putF "variables" (.ref va) []))) x = some (.ins C dx [("variables", .ref va)]) := upd_same
    have k1 := kp1 (.ins C dx (putF "variables" (.ref va) []))
    generalize upd H x (.ins C dx (putF "variables" (.ref va) [])) = H1 at hT1 ob1 k1 ⊢
    have tr1 : TrAll K H1 xs ts := by
      have sm : ∀ b o, H b = some o → b ≠ x → H1 b = some o := k1
      have one : ∀ {v : V} {t : Tr}, TrAt K H v t → paramT t = true → nameT (firstT t) = true → TrAt K H1 v t := fun {v t} h p n => by
        obtain ⟨s, kd, rfl, _⟩ := param_shape p n
        cases h with
        | @tup b ys _ hb tb =>
        cases tb with
        | cons h1 r1 =>
        cases r1 with
        | cons h2 r2 =>
        cases r2 with
        | nil =>
        cases h1 with
        | str _ z1 =>
        cases h2 with
        | str _ z2 => exact .tup (keepT ob sm hb) (.cons (.str _ z1) (.cons (.str _ z2) .nil))
      have all : ∀ {vs : List V} {us : List Tr}, TrAll K H vs us → us.all paramT = true → (us.map firstT).all nameT = true → TrAll K H1 vs us := fun {vs us} h => by
        induction vs generalizing us with
        | nil => cases h; exact fun _ _ => .nil
        | cons v r ih =>
          cases h with
          | cons h1 h2 =>
            intro p n
            rw [List.all_cons, Bool.and_eq_true] at p
            rw [List.map_cons, List.all_cons, Bool.and_eq_true] at n
            exact .cons (one h1 p.1 n.1) (ih h2 p.2 n.2)
      exact all tr hall hnm
    refine ⟨_, rfl, pa, rfl, ⟨_, hT1⟩, fun D nD => ?_⟩
    have sD := same_new (o := .dK []) nD
    have nxD : x ≠ D := ne_of_none ob1 nD
    refine dc_tup (K := K) (a := pa) (xs := xs) (fun i H2 => H2 D = some (.dK (kk ((ts.take i).filterMap pairKm))) ∧ ∀ b o, H1 b = some o → H2 b = some o)
      ⟨upd_same, sD⟩ (fun i H2 _ ⟨_, s2⟩ => sqt_same s2 hT1) ?_ ?_
    · rintro i y H2 hi ⟨e2, s2⟩
      obtain ⟨t, ht, ty⟩ := (tr1.same s2).get hi
      have pt : paramT t = true := List.all_eq_true.mp hall t (List.mem_of_getElem? ht)
      have nt : nameT (firstT t) = true := List.all_eq_true.mp hnm _ (List.mem_map.mpr ⟨t, List.mem_of_getElem? ht, rfl⟩)
      obtain ⟨s, kd, rfl, hkd⟩ := param_shape pt nt
      have il : i < ts.length := (List.getElem?_eq_some_iff.mp ht).1
      have et : ts.take (i + 1) = ts.take i ++ [.tup [.str s, .str kd]] := by rw [List.take_add_one, ht]; rfl
      cases ty with
      | @tup b ys _ hb tb =>
      have l2 := tb.len
      cases tb with
      | cons h1 r1 =>
      cases r1 with
      | cons h2 r2 =>
      cases r2 with
      | nil =>
      cases h1 with
      | str _ z1 =>
      cases h2 with
      | str _ z2 =>
      refine ⟨b, _, rfl, hb, rfl, _, _, rfl, _, _, rfl, rfl, rfl, ?_⟩
      refine tyes ?_
      refine ⟨_, rfl, _, rfl, _, .inr s, rfl, e2, small1000 ?_, ?_, fun b o e => ?_⟩
      · rw [kk_len]
        have := List.length_filterMap_le pairKm (ts.take i)
        rw [List.length_take] at this
        omega
      · rw [upd_same, et, List.filterMap_append]
        have hk : (ts.filterMap pairKm).map (·.1) = texts (ts.map firstT) := kinds_keys hall hnm
        have none_ : kget ((ts.take i).filterMap pairKm) s = none := by
          refine kget_none fun hm => ?_
          rw [← hk] at hnd
          have ed : ts = ts.take i ++ (.tup [.str s, .str kd]) :: ts.drop (i + 1) := by
            have e1 := (List.take_append_drop i ts).symm
            rw [List.drop_eq_getElem_cons il] at e1
            rw [(Option.some.inj ((List.getElem?_eq_getElem il).symm.trans ht))] at e1
            exact e1
          rw [ed, List.filterMap_append, List.map_append] at hnd
          have := (List.nodup_append.mp hnd).2.2 _ hm s List.mem_cons_self
          exact this rfl
        rw [putK_kk none_]
        rfl
      · rw [upd_ne (ne_of_none e nD)]
        exact s2 b o e
    · rintro H2 ⟨e2, s2⟩
      have et : ts.take xs.length = ts := by rw [tr.len, List.take_length]
      rw [et] at e2
      refine ⟨_, rfl, x, C, dx, _, rfl, s2 _ _ ob1, X.cl, X.nK, (show 1 < 1000 by decide), ?_⟩
      refine ⟨_, rfl, x, C, dx, _, rfl, upd_same, X.cl, X.nM, (show 2 < 1000 by decide), ?_⟩
      have hD0 : H D = none := by
        cases e : H D with
        | none => rfl
        | some o =>
          by_cases z : D = x
          · exact absurd z.symm nxD
          · rw [k1 _ _ e z] at nD; cases nD
      refine k D _ hD0 ⟨⟨dx, upd_same⟩, ?_, ?_⟩ fun b o e n => ?_
      · rw [upd_ne nxD.symm, upd_ne nxD.symm]
        exact e2
      · refine keepT (H1 := H2) (s2 _ _ ob1) (fun b o e n => ?_) (sqt_same s2 (keepT ob k1 sv))
        rw [upd_ne n, upd_ne n]
        exact e
      · rw [upd_ne n, upd_ne n]
        exact s2 _ _ (k1 _ _ e n)
    | _ => cases hp
end
end BK



set_option Elab.async false
set_option maxRecDepth 100000
set_option maxHeartbeats 2000000
/-! fault_in. -/
namespace BK
open PySem PySem.Spec PyProof.Rows L2 RZ ET
def tupTs : Tr → List Tr
  | .tup ts => ts
  | _ => []
def blocksT (t : Tr) : List (List Tr) := ((tupTs t).filter isTup).map tupTs
def wordS : Tr → Str
  | .tup (.str w :: _) => w
  | _ => Str.empty
abbrev Ck := Km × Nat
abbrev Fl := Option (List Nat) × Ck
def blocksIn (f : List Tr → Ck → Fl) : List (List Tr) → Nat → Ck → Fl
  | [], _, c => (none, c)
  | b :: r, j, c => match f b c with
    | (some w, c') => (some (j :: w), c')
    | (none, c') => blocksIn f r (j + 1) c'
def faultL (vars : List Str) (rec : List Tr → List Str → Ck → Fl) (as : List Str) : List Tr → Nat → Ck → Fl
  | [], _, c => (none, c)
  | t :: r, i, c => match takesT vars t as c.1 (c.2 + 1) with
    | (false, m) => (some [i], (m, c.2 + 1))
    | (true, m) => match blocksIn (fun b c => rec b (as ++ [wordS t]) c) (blocksT t) 0 (m, c.2 + 1) with
      | (some w, c') => (some (i :: w), c')
      | (none, c') => faultL vars rec as r (i + 1) c'
def faultD (vars : List Str) : Nat → List Tr → List Str → Ck → Fl
  | 0, b, as, c => faultL vars (fun _ _ c => (none, c)) as b 0 c
  | d + 1, b, as, c => faultL vars (faultD vars d) as b 0 c
def recF (vars : List Str) : Nat → List Tr → List Str → Ck → Fl
  | 0 => fun _ _ c => (none, c)
  | d + 1 => faultD vars d
theorem faultD_eq (vars : List Str) (d : Nat) (b : List Tr) (as : List Str) (c : Ck) : faultD vars d b as c = faultL vars (recF vars d) as b 0 c := by cases d <;> rfl
def wayV (l : List Nat) : List V := l.map fun n : Nat => V.int (n : Int)
/-- the bounds of what was met -/
def Few (c : Ck) : Prop := c.2 ≤ 16 ∧ c.1.length ≤ 10 + 4 * c.2
def spFault (K : PySem.W.Frag) (C : Addr) (d : Nat) : Sp := fun vs H Q _ => ∃ a v wy ar vars c ts w0 as, vs = [.ref a.p, v, .ref wy, .ref ar] ∧ CkAt K C H a vars c.1 c.2 ∧ Few c ∧ TrAt K H v (.tup ts) ∧ SqT K H wy (wayV w0) ∧ w0.length + 2 * d ≤ 100 ∧ SqT K H ar (as.map V.str) ∧ as.length + d = 5 ∧
  ∀ H', CkAt K C H' a vars (faultD vars d ts as c).2.1 (faultD vars d ts as c).2.2 → ButC a H H' → ((faultD vars d ts as c).1 = none → Few (faultD vars d ts as c).2 → Q .non H') ∧ ∀ w t, (faultD vars d ts as c).1 = some w → SqT K H' t (wayV (w0 ++ w)) → Q (.ref t) H'
def spRec (K : PySem.W.Frag) (C : Addr) : Nat → Sp
  | 0 => fun _ _ _ _ => False
  | d + 1 => spFault K C d
theorem takes_deep {vars : List Str} {t : Tr} {as : List Str} {m : Km} {n : Nat} (h : 4 < as.length) : takesT vars t as m n = (false, m) := if_pos (.inr h)
theorem takes_few {vars : List Str} {t : Tr} {as : List Str} {m m' : Km} {n : Nat} (h : takesT vars t as m n = (true, m')) (hm : m.length + 4 ≤ 10 + 4 * n) : n ≤ 16 ∧ as.length ≤ 4 ∧ m'.length ≤ 10 + 4 * n ∧ ∃ x rest ks, t = .tup (.str x :: rest) ∧ kindsOf x = some ks ∧ fitsT rest ks = true := by
  unfold takesT at h
  by_cases z : 16 < n ∨ 4 < as.length
  · rw [if_pos z] at h
    cases h
  · rw [if_neg z] at h
    have z1 : ¬ 16 < n := fun q => z (.inl q)
    have z2 : ¬ 4 < as.length := fun q => z (.inr q)
    split at h
    · rename_i x rest
      cases ek : kindsOf x with
      | none => rw [ek] at h; cases h
      | some ks =>
        rw [ek] at h
        simp only at h
        by_cases ef : fitsT rest ks = true
        · rw [if_pos ef] at h
          have e2 := congrArg Prod.snd h
          simp only at e2
          have := knows_len (vars := vars) (rest.zip ks) m
          have kf := kinds_few ek
          rw [List.length_zip] at this
          rw [e2] at this
          exact ⟨by omega, by omega, by omega, x, rest, ks, rfl, ek, ef⟩
        · rw [if_neg ef] at h
          cases h
    · cases h
theorem blocks_form {x : Str} {rest : List Tr} : blocksT (.tup (.str x :: rest)) = (rest.filter isTup).map tupTs := rfl
end BK



set_option Elab.async false
set_option maxRecDepth 100000
set_option maxHeartbeats 4000000
/-! fault_in: the step. -/
namespace BK
open PySem PySem.Spec PyProof.Rows L2 RZ ET
theorem way_snoc (w : List Nat) (i : Nat) : wayV (w ++ [i]) = wayV w ++ [.int (i : Nat)] := by unfold wayV; rw [List.map_append]; rfl
theorem way_ne (w : List Nat) (i : Nat) : wayV (w ++ [i]) ≠ [] := by
  rw [way_snoc]
  simp
theorem way_len (w : List Nat) : (wayV w).length = w.length := by unfold wayV; rw [List.length_map]
abbrev nFault : List Str := ["self", "block", "way", "around", "number", "statement", "here", "inside", "at", "inner", "fault"]
theorem scFault : FnScope nFault ["self", "block", "way", "around"] (defScope sFault) := ⟨rfl, rfl, rfl, by decide +kernel, rfl, by decide +kernel, by decide +kernel⟩
section
variable {P : Program} {w : World} {K : PySem.W.Frag} {mg : Str → Option Value} {base : Heap}
/-- t + (x,) -/
theorem cat_one {X : Cx} {H : Hp} {wy : Addr} {xs : List V} {x : V} {Q : VK} (hw : SqT X.K H wy xs) (hl : xs.length ≤ 1000) (k : ∀ (q : Addr) (H' : Hp), Same H H' → SqT X.K H' q (xs ++ [x]) → Q (.ref q) H') :
    (∀ p, H p = none → rCatA X.K (.ref wy) (.ref p) (upd H p (.tup [x])) Q) := fun p np => by
  have s1 := same_new (o := .tup [x]) np
  have big : sizeLine = 16777216 := sizeLine_eq
  refine ⟨wy, p, xs, [x], rfl, rfl, sqt_same s1 hw, SqT.of upd_same, by simp; omega, fun e => ?_, fun _ e => (by cases e), fun _ _ q nq => ?_⟩
  · subst e
    exact k p _ s1 (SqT.of upd_same)
  · exact k q _ (s1.trans (same_new nq)) (SqT.of upd_same)
theorem ok_fault_step {C f fT fB : Addr} {fd fdT fdB : FuncData} (F : Fun K "fault_in" "Check.fault_in" sFault f fd) (X : TxK K mg C) (mE : mg "enumerate" = none)
    (GT : FnOk P w K mg base CX0 8 fT fdT ["self", "statement", "around"] (spTakes K C)) (bT : Binds K fdT ["self", "statement", "around"] []) (mT : Meth K C "takes" fT)
    (GB : FnOk P w K mg base CX0 1 fB fdB ["statement"] (spBlocks K)) (bB : Binds K fdB ["statement"] []) (gB : mg "blocks_of" = some (.ref fB)) (kB : PySem.W.keepIn K (.ref fB) = true)
    (bF : Binds K fd ["self", "block", "way", "around"] []) (mF : Meth K C "fault_in" f) (d : Nat)
    (GR : FnOk P w K mg base CX0 (8 + d) f fd ["self", "block", "way", "around"] (spRec K C d)) : FnOk P w K mg base CX0 (8 + d + 1) f fd ["self", "block", "way", "around"] (spFault K C d) := by
  refine F.ok scFault (fun vs H Q E h => ?_) (fun cdv A outer s H vs Q E hr h => ?_)
  · obtain ⟨a, v, wy, ar, vars, c, ts, w0, as, rfl, _⟩ := h
    rfl
  · obtain ⟨a, v, wy, ar, vars, c, ts, w0, as, rfl, cA, fw, ht, sw, wl, sa, al, k⟩ := h
    have hr8 : Room 8 _ := hr.mono (by omega)
    have hr1 : Room 1 _ := hr.mono (by omega)
    refine ⟨_, pss_cons (ps_for PassesOwn.never rfl (pi_enumT (by rfl) mE (pa_cons (pv 1) pa_nil))
        (pg_tup rfl (pgs_cons (pg_name (i := 4) scFault.nd rfl (Or.inl rfl)) (pgs_cons (pg_name (i := 5) scFault.nd rfl (Or.inl rfl)) pgs_nil)))
        (C8.pss_cut (ps_set (i := 6) scFault.nd rfl (Or.inl rfl) (pe_op op_catA (pv 2) (pe_tup (pa_cons (pv 4) pa_nil))))
        (C8.pss_cut (ps_if (pt_not (pt_val (pe_meth (pv 0) X.cl mT GT hr8 bT .nil pass0 (pa_cons (pv 5) (pa_cons (pv 3) pa_nil))))) (pss_one (ps_ret (pv 6))) pss_nil)
        (C8.pss_cut (ps_set (i := 7) scFault.nd rfl (Or.inl rfl) (pe_op op_catA (pv 3) (pe_tup (pa_cons (pe_ix ix_tup (pv 5) pe_int (fun _ _ => rfl)) pa_nil))))
        (pss_one (ps_for PassesOwn.never rfl (pi_enum (by rfl) mE (pa_cons (pe_call GB hr1 rfl gB kB bB .nil pass0 (pa_cons (pv 5) pa_nil)) pa_nil))
          (pg_tup rfl (pgs_cons (pg_name (i := 8) scFault.nd rfl (Or.inl rfl)) (pgs_cons (pg_name (i := 9) scFault.nd rfl (Or.inl rfl)) pgs_nil)))
          (pss_cons (ps_set (i := 10) scFault.nd rfl (Or.inl rfl) (pe_meth (pv 0) X.cl mF GR hr bF .nil pass0 (pa_cons (pv 9) (pa_cons (pe_op op_catA (pv 6) (pe_tup (pa_cons (pv 8) pa_nil))) (pa_cons (pv 7) pa_nil)))))
          (pss_one (ps_if (pt_cmp (pc_notN (pv 10))) (pss_one (ps_ret (pv 10))) pss_nil)))))))))
      (pss_one (ps_ret pe_non)), ?_⟩
    rw [faultD_eq] at k
    cases ht with
    | @tup b xs _ h tr =>
    have xl := tr.len
    refine ⟨_, rfl, b, xs, rfl, h, for_it (walk_enumT (K := K) (a := b) (xs := xs)) (fun i σ H2 => ∃ (v4 v5 v6 v7 v8 v9 v10 : Option V) (c2 : Ck), σ = [some (.ref a.p), some (.ref b), some (.ref wy), some (.ref ar), v4, v5, v6, v7, v8, v9, v10] ∧ CkAt K C H2 a vars c2.1 c2.2 ∧ ButC a H H2 ∧ Few c2 ∧
        faultL vars (recF vars d) as ts 0 c = faultL vars (recF vars d) as (ts.drop i) i c2)
      ⟨none, none, none, none, none, none, none, c, rfl, cA, ButC.refl _ _, fw, rfl⟩ (fun i σ H2 _ ⟨_, _, _, _, _, _, _, c2, _, _, b2, _⟩ => b2.tup cA h) ?_ ?_⟩
    · rintro i y σ H2 H3 hi ⟨v4, v5, v6, v7, v8, v9, v10, c2, rfl, k2, b2, f2, e2⟩ ⟨T, xi, y', rfl, nT, rfl, q1, q2⟩
      obtain rfl : V.int (i : Nat) = xi := Option.some.inj q1
      have q2 : xs[i]? = some y' := q2
      have sT := same_new (o := .tup [.int (i : Nat), y']) nT
      obtain ⟨t, q3, _⟩ := tr.get q2
      have il : i < ts.length := (List.getElem?_eq_some_iff.mp q3).1
      have ed : ts.drop i = t :: ts.drop (i + 1) := by
        rw [List.drop_eq_getElem_cons il]
        congr 1
        exact Option.some.inj ((List.getElem?_eq_getElem il).symm.trans q3)
      rw [ed] at e2
      have k3 := k2.same sT
      have b3 := b2.trans (ButC.of sT)
      have getY : ∀ {H' : Hp} {c' : Ck}, CkAt K C H' a vars c'.1 c'.2 → ButC a H H' → TrAt K H' y' t := fun {H' c'} kc bc => by
        obtain ⟨t', q4, ty⟩ := TrAll.get (tr.but bc cA kc) q2
        obtain rfl : t = t' := Option.some.inj (q3.symm.trans q4)
        exact ty
      refine ⟨T, _, rfl, SqT.of upd_same, rfl, _, _, rfl, _, _, rfl, rfl, ?_⟩
      generalize upd H2 T (.tup [.int (i : Nat), y']) = H3 at k3 b3 sT ⊢
      -- here
      refine ⟨fun σ H4 => ∃ hw : Addr, σ = [some (.ref a.p), some (.ref b), some (.ref wy), some (.ref ar), some (.int (i : Nat)), some y', some (.ref hw), v7, v8, v9, v10] ∧ SqT K H4 hw (wayV (w0 ++ [i])) ∧ CkAt K C H4 a vars c2.1 c2.2 ∧ ButC a H H4, ?_, ?_⟩
      · refine ⟨_, rfl, _, rfl, (by show 1 ≤ sizeLine; decide), ?_⟩
        refine cat_one (X := (cxOf CX0 P w K mg base nFault "Check.fault_in" (defScope sFault) f cdv A outer s H E).nox) (b3.tup cA sw) (by rw [way_len]; omega) fun q H4 s4 hq => ?_
        rw [← way_snoc] at hq
        exact ⟨q, rfl, hq, k3.same s4, b3.trans (ButC.of s4)⟩
      rintro σ H4 ⟨hw, rfl, hs, k4, b4⟩
      clear k3 b3 sT
      obtain ⟨⟨dx, ob⟩, dc, _⟩ := id k4
      -- takes
      refine ⟨fun σ H5 => ∃ m : Km, σ = [some (.ref a.p), some (.ref b), some (.ref wy), some (.ref ar), some (.int (i : Nat)), some y', some (.ref hw), v7, v8, v9, v10] ∧ takesT vars t as c2.1 (c2.2 + 1) = (true, m) ∧ CkAt K C H5 a vars m (c2.2 + 1) ∧ ButC a H H5 ∧ SqT K H5 hw (wayV (w0 ++ [i])), ?_, ?_⟩
      · refine ⟨_, rfl, a.p, dx, _, rfl, ob, cfs_no a _ (by decide +kernel) (by decide +kernel) (by decide +kernel), _, rfl, _, rfl, a, y', ar, vars, c2.1, c2.2, t, as, rfl, k4, by have := f2.1; have := f2.2; omega, getY k4 b4, b4.tup cA sa, fun H5 k5 b5 => ⟨_, rfl, ?_⟩⟩
        have b45 := b4.trans b5
        have hs5 := b5.tup k4 hs
        cases e5 : takesT vars t as c2.1 (c2.2 + 1) with
        | mk bt m =>
        rw [e5] at k5
        cases bt with
        | true => exact iteF ⟨m, rfl, rfl, k5, b45, hs5⟩
        | false =>
          have e6 : faultL vars (recF vars d) as ts 0 c = (some [i], (m, c2.2 + 1)) := by
            rw [e2]
            show (match takesT vars t as c2.1 (c2.2 + 1) with
              | (false, m) => (some [i], (m, c2.2 + 1))
              | (true, m) => match blocksIn (fun b c => recF vars d b (as ++ [wordS t]) c) (blocksT t) 0 (m, c2.2 + 1) with
                | (some w, c') => (some (i :: w), c')
                | (none, c') => faultL vars (recF vars d) as (ts.drop (i + 1)) (i + 1) c') = _
            rw [e5]
          rw [e6] at k
          exact iteT ⟨_, rfl, (k H5 k5 b45).2 [i] hw rfl hs5⟩
      rintro σ H5 ⟨m, rfl, e5, k5, b5, hs5⟩
      obtain ⟨n16, a4, ml, x, rest, ks, rfl, ek, ef⟩ := takes_few e5 (by have := f2.2; omega)
      have rl : rest.length = ks.length := by
        unfold fitsT at ef
        exact of_decide_eq_true (Bool.and_eq_true_iff.mp ef).1
      have kf := kinds_few ek
      -- inside
      refine ⟨fun σ H6 => ∃ ins : Addr, σ = [some (.ref a.p), some (.ref b), some (.ref wy), some (.ref ar), some (.int (i : Nat)), some y', some (.ref hw), some (.ref ins), v8, v9, v10] ∧ CkAt K C H6 a vars m (c2.2 + 1) ∧ ButC a H H6 ∧ SqT K H6 hw (wayV (w0 ++ [i])) ∧ SqT K H6 ins ((as ++ [x]).map V.str), ?_, ?_⟩
      · have ty5 := getY (c' := (m, c2.2 + 1)) k5 b5
        cases ty5 with
        | @tup yb ys _ hy ty =>
        cases ty with
        | @cons y0 yr _ _ h0 r0 =>
        cases h0 with
        | str _ hx =>
        refine ⟨_, rfl, _, rfl, yb, _, 0, _, rfl, rfl, hy, at_of (j := 0) rfl rfl, (by show 1 ≤ sizeLine; decide), ?_⟩
        refine cat_one (X := (cxOf CX0 P w K mg base nFault "Check.fault_in" (defScope sFault) f cdv A outer s H E).nox) (b5.tup cA sa) (by rw [List.length_map]; omega) fun q H6 s6 hq => ?_
        refine ⟨q, rfl, k5.same s6, b5.trans (ButC.of s6), sqt_same s6 hs5, ?_⟩
        rw [List.map_append]
        exact hq
      rintro σ H6 ⟨ins, rfl, k6, b6, hs6, si6⟩
      -- the blocks
      cases d with
      | zero => omega
      | succ d =>
      have eL : faultL vars (recF vars (d + 1)) as ts 0 c = (match blocksIn (fun b c => faultD vars d b (as ++ [x]) c) ((rest.filter isTup).map tupTs) 0 (m, c2.2 + 1) with
          | (some w, c') => (some (i :: w), c')
          | (none, c') => faultL vars (recF vars (d + 1)) as (ts.drop (i + 1)) (i + 1) c') := by
        rw [e2]
        show (match takesT vars (.tup (.str x :: rest)) as c2.1 (c2.2 + 1) with
          | (false, m) => (some [i], (m, c2.2 + 1))
          | (true, m) => match blocksIn (fun b c => faultD vars d b (as ++ [x]) c) ((rest.filter isTup).map tupTs) 0 (m, c2.2 + 1) with
            | (some w, c') => (some (i :: w), c')
            | (none, c') => faultL vars (recF vars (d + 1)) as (ts.drop (i + 1)) (i + 1) c') = _
        rw [e5]
      refine ⟨_, rfl, y', (.str x :: rest), rfl, getY (c' := (m, c2.2 + 1)) k6 b6, by rw [List.length_cons]; omega, fun D bs H7 s7 nD eD tb => ?_⟩
      have tb : TrAll K H7 bs (rest.filter isTup) := tb
      have k7 := k6.same s7
      have b7 := b6.trans (ButC.of s7)
      have hs7 := sqt_same s7 hs6
      have si7 := sqt_same s7 si6
      refine ⟨D, bs, rfl, SqL.of eD, for_it (walk_enum (K := K) (a := D) (xs := bs)) (fun j σ H8 => ∃ (v8 v9 v10 : Option V) (c3 : Ck), σ = [some (.ref a.p), some (.ref b), some (.ref wy), some (.ref ar), some (.int (i : Nat)), some y', some (.ref hw), some (.ref ins), v8, v9, v10] ∧ CkAt K C H8 a vars c3.1 c3.2 ∧ ButC a H7 H8 ∧ Few c3 ∧
          blocksIn (fun b c => faultD vars d b (as ++ [x]) c) ((rest.filter isTup).map tupTs) 0 (m, c2.2 + 1) = blocksIn (fun b c => faultD vars d b (as ++ [x]) c) (((rest.filter isTup).map tupTs).drop j) j c3)
        ⟨v8, v9, v10, (m, c2.2 + 1), rfl, k7, ButC.refl _ _, ⟨n16, ml⟩, rfl⟩ (fun j σ H8 _ ⟨_, _, _, c3, _, _, b8, _⟩ => b8.lst k7 (SqL.of eD)) ?_ ?_⟩
      · rintro j z σ H8 H9 hj ⟨v8, v9, v10, c3, rfl, k8, b8, f3, e3⟩ ⟨U, xj, z', rfl, nU, rfl, q5, q6⟩
        obtain rfl : V.int (j : Nat) = xj := Option.some.inj q5
        have q6 : bs[j]? = some z' := q6
        have sU := same_new (o := .tup [.int (j : Nat), z']) nU
        have k9 := k8.same sU
        have b9 := b8.trans (ButC.of sU)
        obtain ⟨u, q7, tz⟩ := TrAll.get (tb.but b9 k7 k9) q6
        have iu : isTup u = true := (List.mem_filter.mp (List.mem_of_getElem? q7)).2
        obtain ⟨us, rfl⟩ : ∃ us, u = .tup us := by
          cases u with
          | tup us => exact ⟨us, rfl⟩
          | _ => cases iu
        have q8 : ((rest.filter isTup).map tupTs)[j]? = some us := by rw [List.getElem?_map, q7]; rfl
        have jl : j < ((rest.filter isTup).map tupTs).length := (List.getElem?_eq_some_iff.mp q8).1
        have ed3 : ((rest.filter isTup).map tupTs).drop j = us :: ((rest.filter isTup).map tupTs).drop (j + 1) := by
          rw [List.drop_eq_getElem_cons jl]
          congr 1
          exact Option.some.inj ((List.getElem?_eq_getElem jl).symm.trans q8)
        rw [ed3] at e3
        obtain ⟨⟨dx9, ob9⟩, dc9, _⟩ := id k9
        refine ⟨U, _, rfl, SqT.of upd_same, rfl, _, _, rfl, _, _, rfl, rfl, ?_⟩
        generalize upd H8 U (.tup [.int (j : Nat), z']) = H9 at k9 b9 tz ob9 dc9 ⊢
        refine ⟨_, rfl, a.p, dx9, _, rfl, ob9, cfs_no a _ (by decide +kernel) (by decide +kernel) (by decide +kernel), _, rfl, _, rfl, _, rfl, (by show 1 ≤ sizeLine; decide), ?_⟩
        refine cat_one (X := (cxOf CX0 P w K mg base nFault "Check.fault_in" (defScope sFault) f cdv A outer s H E).nox) (b9.tup k7 hs7) (by rw [way_len, List.length_append]; simp; omega) fun q H10 s10 hq => ?_
        rw [← way_snoc] at hq
        have k10 := k9.same s10
        have b10 := b9.trans (ButC.of s10)
        refine ⟨_, rfl, a, z', q, ins, vars, c3, us, w0 ++ [i] ++ [j], as ++ [x], rfl, k10, f3, tz.same s10, hq, by simp; omega, b10.tup k7 si7, by simp; omega, fun H11 k11 b11 => ?_⟩
        have b711 := b10.trans b11
        cases e11 : faultD vars d us (as ++ [x]) c3 with
        | mk r c4 =>
        rw [e11] at k11
        have e12 : blocksIn (fun b c => faultD vars d b (as ++ [x]) c) ((rest.filter isTup).map tupTs) 0 (m, c2.2 + 1) = (match (r, c4) with
            | (some w, c') => (some (j :: w), c')
            | (none, c') => blocksIn (fun b c => faultD vars d b (as ++ [x]) c) (((rest.filter isTup).map tupTs).drop (j + 1)) (j + 1) c') := by
          rw [e3, ← e11]
          rfl
        refine ⟨fun er fw4 => ?_, fun w4 t4 er ht4 => ?_⟩
        · have er : r = none := er
          subst er
          refine ⟨_, rfl, _, rfl, iteF ⟨_, _, _, c4, rfl, k11, b711, fw4, e12⟩⟩
        · have er : r = some w4 := er
          subst er
          have e12 : blocksIn (fun b c => faultD vars d b (as ++ [x]) c) ((rest.filter isTup).map tupTs) 0 (m, c2.2 + 1) = (some (j :: w4), c4) := e12
          rw [e12] at eL
          have eL : faultL vars (recF vars (d + 1)) as ts 0 c = (some (i :: j :: w4), c4) := eL
          rw [eL] at k
          refine ⟨_, rfl, _, rfl, iteT ⟨_, rfl, (k H11 k11 (b7.trans b711)).2 _ t4 rfl ?_⟩⟩
          have : w0 ++ [i] ++ [j] ++ w4 = w0 ++ (i :: j :: w4) := by simp
          rw [this] at ht4
          exact ht4
      · rintro σ H8 ⟨v8, v9, v10, c3, rfl, k8, b8, f3, e3⟩
        have e0 : ((rest.filter isTup).map tupTs).drop bs.length = [] := by
          rw [tb.len, ← List.length_map (f := tupTs), List.drop_length]
        rw [e0] at e3
        have e3 : blocksIn (fun b c => faultD vars d b (as ++ [x]) c) ((rest.filter isTup).map tupTs) 0 (m, c2.2 + 1) = (none, c3) := e3
        rw [e3] at eL
        exact ⟨_, _, _, _, _, _, _, c3, rfl, k8, b7.trans b8, f3, eL⟩
    · rintro σ H2 ⟨v4, v5, v6, v7, v8, v9, v10, c2, rfl, k2, b2, f2, e2⟩
      have e0 : ts.drop xs.length = [] := by rw [xl, List.drop_length]
      rw [e0] at e2
      have e2 : faultL vars (recF vars d) as ts 0 c = (none, c2) := e2
      rw [e2] at k
      exact (k H2 k2 b2).1 rfl f2
end
end BK



set_option Elab.async false
set_option maxRecDepth 100000
set_option maxHeartbeats 2000000
/-! fault_of_pieces. -/
namespace BK
open PySem PySem.Spec PyProof.Rows L2 RZ ET
inductive Place where
  | empty
  | vars
  | at_ (i : Nat)
  | way (i : Nat) (w : List Nat)
def intsT (w : List Nat) : List Tr := w.map fun n : Nat => Tr.int (n : Int)
def placeT : Place → Tr
  | .empty => .tup []
  | .vars => .tup [.str "vars"]
  | .at_ i => .tup [.int (i : Nat)]
  | .way i w => .tup [.int (i : Nat), .tup (intsT w)]
def resT : Option Place → Tr
  | none => .non
  | some p => placeT p
def paramsOf : Tr → Tr
  | .tup [_, p, _] => p
  | _ => .non
def blockOf : Tr → List Tr
  | .tup [_, _, .tup ts] => ts
  | _ => []
def piecesL (vars : List Str) : List Tr → Nat → List Str → Option Place
  | [], _, _ => none
  | t :: r, i, ns => if tripleT t = true ∧ wordS t ∉ ns then
      match (faultD vars 5 (blockOf t) [] (kindsP (paramsOf t), 0)).1 with
      | some w => some (.way i w)
      | none => piecesL vars r (i + 1) (ns ++ [wordS t])
    else some (.at_ i)
theorem triple_shape {t : Tr} (h : tripleT t = true) : ∃ n p bts, t = .tup [.str n, p, .tup bts] ∧ paramsT p = true := by
  unfold tripleT at h
  split at h
  · rename_i n p b
    rw [Bool.and_eq_true, Bool.and_eq_true] at h
    obtain ⟨⟨h1, h2⟩, h3⟩ := h
    obtain ⟨s, rfl⟩ := name_str h1
    cases b with
    | tup bts => exact ⟨s, p, bts, rfl, h2⟩
    | _ => cases h3
  · cases h
def spPieces (K : PySem.W.Frag) : Sp := fun vs H Q _ => ∃ va pa vars xs ts, vs = [.ref va, .ref pa] ∧ SqT K H va (vars.map V.str) ∧ SqT K H pa xs ∧ TrAll K H xs ts ∧ ts.length ≤ 900 ∧ ∀ v H', Same H H' → TrAt K H' v (resT (piecesL vars ts 0 [])) → Q v H'
abbrev sPieces : Stmt := top 36
theorem scPieces : FnScope ["variables", "pieces", "names", "number", "piece", "way"] ["variables", "pieces"] (defScope sPieces) := ⟨rfl, rfl, rfl, by decide +kernel, rfl, by decide +kernel, by decide +kernel⟩
theorem wayV_tr {K : PySem.W.Frag} {H : Hp} : ∀ w : List Nat, TrAll K H (wayV w) (intsT w)
  | [] => .nil
  | n :: r => .cons (.int _) (wayV_tr r)
section
variable {P : Program} {w : World} {K : PySem.W.Frag} {mg : Str → Option Value} {base : Heap}
theorem fn_false {k : Nat} {f : Addr} {fd : FuncData} {ps : List Str} (bd : ∀ vs : List V, True) : FnOk P w K mg base CX0 k f fd ps (fun _ _ _ _ => False) := by
  constructor
  all_goals intros
  all_goals first | contradiction | (exfalso; assumption)
theorem ok_fault {C f fT fB : Addr} {fd fdT fdB : FuncData} (F : Fun K "fault_in" "Check.fault_in" sFault f fd) (X : TxK K mg C) (mE : mg "enumerate" = none)
    (GT : FnOk P w K mg base CX0 8 fT fdT ["self", "statement", "around"] (spTakes K C)) (bT : Binds K fdT ["self", "statement", "around"] []) (mT : Meth K C "takes" fT)
    (GB : FnOk P w K mg base CX0 1 fB fdB ["statement"] (spBlocks K)) (bB : Binds K fdB ["statement"] []) (gB : mg "blocks_of" = some (.ref fB)) (kB : PySem.W.keepIn K (.ref fB) = true)
    (bF : Binds K fd ["self", "block", "way", "around"] []) (mF : Meth K C "fault_in" f) : ∀ d, FnOk P w K mg base CX0 (8 + d + 1) f fd ["self", "block", "way", "around"] (spFault K C d)
  | 0 => ok_fault_step F X mE GT bT mT GB bB gB kB bF mF 0 (fn_false fun _ => trivial)
  | d + 1 => ok_fault_step F X mE GT bT mT GB bB gB kB bF mF (d + 1) (ok_fault F X mE GT bT mT GB bB gB kB bF mF d)
end
end BK



set_option Elab.async false
set_option maxRecDepth 100000
set_option maxHeartbeats 2000000
namespace BK
open PySem PySem.Spec PyProof.Rows L2 RZ ET
section
variable {P : Program} {w : World} {K : PySem.W.Frag} {mg : Str → Option Value} {base : Heap}
theorem ok_pieces {C f fT fI fF : Addr} {fd fdT fdI fdF : FuncData} (F : Fun K "fault_of_pieces" "fault_of_pieces" sPieces f fd) (X : TxK K mg C) (mE : mg "enumerate" = none)
    (GT : FnOk P w K mg base CX0 4 fT fdT ["thing"] (spOf tripleT K)) (bT : Binds K fdT ["thing"] []) (gT : mg "is_triple" = some (.ref fT)) (kT : PySem.W.keepIn K (.ref fT) = true)
    (M : Mk K C fI) (GI : FnOk P w K mg base CX0 1 fI fdI ["self", "variables", "params"] (spCInit K C)) (bI : Binds K fdI ["self", "variables", "params"] [])
    (GF : FnOk P w K mg base CX0 14 fF fdF ["self", "block", "way", "around"] (spFault K C 5)) (bF : Binds K fdF ["self", "block", "way", "around"] []) (mF : Meth K C "fault_in" fF) :
    FnOk P w K mg base CX0 15 f fd ["variables", "pieces"] (spPieces K) := by
  refine F.ok scPieces (fun vs H Q E h => ?_) (fun cdv A outer s H vs Q E hr h => ?_)
  · obtain ⟨va, pa, vars, xs, ts, rfl, _⟩ := h
    rfl
  · obtain ⟨va, pa, vars, xs, ts, rfl, sv, sp, tr, tl, k⟩ := h
    have hr4 : Room 4 _ := hr.mono (by decide)
    have hr2 : Room 2 _ := hr.mono (by decide)
    refine ⟨_, pss_cons (ps_set (i := 2) scPieces.nd rfl (Or.inl rfl) (pe_lst pa_nil))
      (pss_cons (ps_for PassesOwn.never rfl (pi_enumT (by rfl) mE (pa_cons (pv 1) pa_nil))
        (pg_tup rfl (pgs_cons (pg_name (i := 3) scPieces.nd rfl (Or.inl rfl)) (pgs_cons (pg_name (i := 4) scPieces.nd rfl (Or.inl rfl)) pgs_nil)))
        (C8.pss_cut (ps_if (PW.pt (pw_or (pt_not (pt_val (pe_call GT hr4 rfl gT kT bT .nil pass0 (pa_cons (pv 4) pa_nil))))
            (pw_or1 (pt_cmpR op_in_seq (pe_ix ix_tup (pv 4) pe_int (fun _ _ => rfl)) (pv 2) rfl)))) (pss_one (ps_ret (pe_tup (pa_cons (pv 3) pa_nil)))) pss_nil)
        (C8.pss_cut (ps_expr (pe_bm PySem.F.plainAttrs_list PySem.F.slot_list_append PySem.F.type_list_append mt_append (pv 2) (pa_cons (pe_ix ix_tup (pv 4) pe_int (fun _ _ => rfl)) pa_nil)))
        (pss_cons (ps_set (i := 5) scPieces.nd rfl (Or.inl rfl) (pe_meth (pe_make M GI hr2 rfl X.mgC bI .nil pass0 (pa_cons (pv 0) (pa_cons (pe_ix ix_tup (pv 4) pe_int (fun _ _ => rfl)) pa_nil))) X.cl mF GF hr bF .nil pass0
            (pa_cons (pe_ix ix_tup (pv 4) pe_int (fun _ _ => rfl)) (pa_cons (pe_tup pa_nil) (pa_cons (pe_tup pa_nil) pa_nil)))))
        (pss_one (ps_if (pt_cmp (pc_notN (pv 5))) (pss_one (ps_ret (pe_tup (pa_cons (pv 3) (pa_cons (pv 5) pa_nil))))) pss_nil))))))
      (pss_one (ps_ret pe_non))), ?_⟩
    refine ⟨Nat.zero_le _, fun nl nnl => ?_⟩
    have s0 := same_new (o := .lst []) nnl
    refine ⟨_, rfl, pa, xs, rfl, sqt_same s0 sp, for_it (walk_enumT (K := K) (a := pa) (xs := xs)) (fun i σ H2 => ∃ (v3 v4 v5 : Option V) (ns : List Str), σ = [some (.ref va), some (.ref pa), some (.ref nl), v3, v4, v5] ∧ Same H H2 ∧ H2 nl = some (.lst (ns.map V.str)) ∧ ns.length = i ∧ piecesL vars ts 0 [] = piecesL vars (ts.drop i) i ns)
      ⟨none, none, none, [], rfl, s0, upd_same, rfl, rfl⟩ (fun i σ H2 _ ⟨_, _, _, _, _, s2, _⟩ => sqt_same s2 sp) ?_ ?_⟩
    · rintro i y σ H2 H3 hi ⟨v3, v4, v5, ns, rfl, s2, en, nsl, e2⟩ ⟨T, xi, y', rfl, nT, rfl, q1, q2⟩
      obtain rfl : V.int (i : Nat) = xi := Option.some.inj q1
      have q2 : xs[i]? = some y' := q2
      have sT := same_new (o := .tup [.int (i : Nat), y']) nT
      obtain ⟨t, q3, _⟩ := tr.get q2
      have il : i < ts.length := (List.getElem?_eq_some_iff.mp q3).1
      have ed : ts.drop i = t :: ts.drop (i + 1) := by
        rw [List.drop_eq_getElem_cons il]
        congr 1
        exact Option.some.inj ((List.getElem?_eq_getElem il).symm.trans q3)
      rw [ed] at e2
      have getY : ∀ {H' : Hp}, Same H H' → TrAt K H' y' t := fun {H'} s' => by
        obtain ⟨t', q4, ty⟩ := (tr.same s').get q2
        obtain rfl : t = t' := Option.some.inj (q3.symm.trans q4)
        exact ty
      refine ⟨T, _, rfl, SqT.of upd_same, rfl, _, _, rfl, _, _, rfl, rfl, ?_⟩
      have s3 := s2.trans sT
      have en3 := sT _ _ en
      generalize upd H2 T (.tup [.int (i : Nat), y']) = H3 at s3 en3 ⊢
      clear sT
      have bad : ∀ H4, Same H H4 → ¬ (tripleT t = true ∧ wordS t ∉ ns) → 1 ≤ sizeLine ∧ ∀ p, H4 p = none → Q (.ref p) (upd H4 p (.tup [.int (i : Nat)])) := fun H4 s4 hn => by
        refine ⟨by decide, fun p np => k _ _ (s4.trans (same_new np)) ?_⟩
        have e : piecesL vars ts 0 [] = some (.at_ i) := by
          rw [e2]
          show (if tripleT t = true ∧ wordS t ∉ ns then _ else some (Place.at_ i)) = _
          rw [if_neg hn]
        rw [e]
        exact .tup (SqT.of upd_same) (.cons (.int _) .nil)
      -- is it a triple of a new name?
      refine ⟨fun σ H4 => σ = [some (.ref va), some (.ref pa), some (.ref nl), some (.int (i : Nat)), some y', v5] ∧ Same H H4 ∧ H4 nl = some (.lst (ns.map V.str)) ∧ tripleT t = true ∧ wordS t ∉ ns, ?_, ?_⟩
      · refine ⟨_, rfl, y', t, rfl, getY s3, fun H4 s4 => ⟨_, rfl, ?_⟩⟩
        have s34 := s3.trans s4
        cases et : tripleT t with
        | false => exact iteT ⟨_, rfl, bad H4 s34 fun z => by rw [et] at z; cases z.1⟩
        | true =>
          refine iteF ?_
          obtain ⟨n, p, bts, rfl, hp⟩ := triple_shape et
          have ty := getY s34
          cases ty with
          | @tup b ys _ hb tb =>
          obtain ⟨u0, g0, t0⟩ := tb.get' (i := 0) (t := .str n) rfl
          cases t0 with
          | str _ z0 =>
          refine ⟨_, rfl, b, ys, 0, _, rfl, rfl, hb, at_of (j := 0) rfl g0, _, rfl, nl, _, rfl, .inl (SqL.of (s4 _ _ en3)), rfl, flat_txts ns, _, rfl, ?_⟩
          rw [in_txts]
          by_cases hm : n ∈ ns
          · rw [decide_eq_true hm]
            exact iteT ⟨_, rfl, bad H4 s34 fun z => z.2 hm⟩
          · rw [decide_eq_false hm]
            exact iteF ⟨rfl, s34, s4 _ _ en3, rfl, hm⟩
      rintro σ H4 ⟨rfl, s4, en4, et, hm⟩
      obtain ⟨n, p, bts, rfl, hp⟩ := triple_shape et
      -- names.append
      refine ⟨fun σ H5 => σ = [some (.ref va), some (.ref pa), some (.ref nl), some (.int (i : Nat)), some y', v5] ∧ Same H H5 ∧ H5 nl = some (.lst ((ns ++ [n]).map V.str)), ?_, ?_⟩
      · have ty := getY s4
        cases ty with
        | @tup b ys _ hb tb =>
        obtain ⟨u0, g0, t0⟩ := tb.get' (i := 0) (t := .str n) rfl
        cases t0 with
        | str _ z0 =>
        refine ⟨_, rfl, .inl ⟨rfl, _, SqL.of en4⟩, _, rfl, b, ys, 0, _, rfl, rfl, hb, at_of (j := 0) rfl g0, nl, _, _, rfl, rfl, en4, small1000 (by rw [List.length_map]; omega), rfl, fun b o e => ?_, ?_⟩
        · rw [upd_ne (ne_of_none e nnl)]
          exact s4 b o e
        · rw [upd_same, List.map_append]
          rfl
      rintro σ H5 ⟨rfl, s5, en5⟩
      -- Check(..).fault_in(..)
      have ty := getY s5
      cases ty with
      | @tup b ys _ hb tb =>
      obtain ⟨u1, g1, t1⟩ := tb.get' (i := 1) (t := p) rfl
      obtain ⟨u2, g2, t2⟩ := tb.get' (i := 2) (t := .tup bts) rfl
      refine ⟨_, rfl, _, rfl, b, ys, 1, u1, rfl, rfl, hb, at_of (j := 1) rfl g1, fun x dx nx ndx nxd => ?_⟩
      have s6 : Same H5 (upd (upd H5 dx (.own x)) x (.ins C dx [])) := fun b o e => by
        rw [upd_ne (ne_of_none e nx), upd_ne (ne_of_none e ndx)]
        exact e
      refine ⟨x, dx, va, u1, vars, p, rfl, upd_same, sqt_same (s5.trans s6) sv, t1.same s6, hp, fun d H7 nd c7 kp => ⟨rfl, ?_⟩⟩
      have s57 : Same H5 H7 := fun b o e => kp b o (s6 b o e) (ne_of_none e nx)
      have nd5 : H5 d = none := s6.free nd
      obtain ⟨⟨dx7, ob7⟩, dc7, _⟩ := id c7
      refine ⟨x, dx7, _, rfl, ob7, cfs_no ⟨x, va, d⟩ 0 (by decide +kernel) (by decide +kernel) (by decide +kernel), _, rfl, b, ys, 2, u2, rfl, rfl, sqt_same s57 hb, at_of (j := 2) rfl g2, Nat.zero_le _, fun e1 ne1 => ⟨Nat.zero_le _, fun e2' ne2 => ?_⟩⟩
      have sE := (same_new (o := .tup []) ne1).trans (same_new (o := .tup []) ne2)
      have s59 := s57.trans sE
      refine ⟨⟨x, va, d⟩, u2, e1, e2', vars, (kindsP p, 0), bts, [], [], rfl, c7.same sE, ⟨Nat.zero_le _, by have := kindsP_len hp; show (kindsP p).length ≤ 10 + 4 * 0; omega⟩, t2.same s59, SqT.of (by rw [upd_ne (ne_of_none upd_same ne2), upd_same]; rfl), by decide, SqT.of upd_same, rfl, fun H10 c10 b10 => ?_⟩
      have s510 : Same H5 H10 := fun b o e => b10 b o (s59 b o e) (ne_of_none e nx) (ne_of_none e nd5)
      have sH := s5.trans s510
      have step : piecesL vars ts 0 [] = (match (faultD vars 5 bts [] (kindsP p, 0)).1 with
          | some w => some (.way i w)
          | none => piecesL vars (ts.drop (i + 1)) (i + 1) (ns ++ [n])) := by
        rw [e2]
        show (if tripleT (.tup [.str n, p, .tup bts]) = true ∧ n ∉ ns then _ else _) = _
        rw [if_pos ⟨et, hm⟩]
        rfl
      refine ⟨fun er fw => ?_, fun w4 t4 er ht4 => ?_⟩
      · have er : (faultD vars 5 bts [] (kindsP p, 0)).1 = none := er
        rw [er] at step
        refine ⟨_, rfl, _, rfl, iteF ⟨_, _, _, ns ++ [n], rfl, sH, s510 _ _ en5, by rw [List.length_append, nsl]; rfl, step⟩⟩
      · have er : (faultD vars 5 bts [] (kindsP p, 0)).1 = some w4 := er
        rw [er] at step
        have step : piecesL vars ts 0 [] = some (.way i w4) := step
        refine ⟨_, rfl, _, rfl, iteT ⟨_, rfl, _, rfl, (show 2 ≤ sizeLine by decide), fun q nq => k _ _ (sH.trans (same_new nq)) ?_⟩⟩
        rw [step]
        have ht5 : SqT K H10 t4 (wayV w4) := ht4
        exact .tup (SqT.of upd_same) (.cons (.int _) (.cons (.tup (sqt_same (same_new nq) ht5) (wayV_tr w4)) .nil))
    · rintro σ H2 ⟨v3, v4, v5, ns, rfl, s2, _, _, e2⟩
      have e0 : ts.drop xs.length = [] := by rw [tr.len, List.drop_length]
      rw [e0] at e2
      have q := k .non H2 s2
      rw [e2] at q
      exact q .non
end
end BK



set_option Elab.async false
set_option maxRecDepth 100000
set_option maxHeartbeats 2000000
/-! fault_of, need_book, is_book. -/
namespace BK
open PySem PySem.Spec PyProof.Rows L2 RZ ET
def faultT : Tr → Option Place
  | .tup [.tup vs, .tup ps] => if 6 < ps.length then some .empty else if 1 ≤ vs.length ∧ vs.length ≤ 3 ∧ diffT vs = true then piecesL (texts vs) ps 0 [] else some .vars
  | _ => some .empty
def spFaultOf (K : PySem.W.Frag) : Sp := fun vs H Q _ => ∃ v t, vs = [v] ∧ TrAt K H v t ∧ ∀ u H', Same H H' → TrAt K H' u (resT (faultT t)) → Q u H'
abbrev sFaultOf : Stmt := top 37
abbrev sNeed : Stmt := top 38
abbrev sBadInit : Stmt := inClass (top 21) 0
theorem scFaultOf : FnScope ["thing", "variables", "pieces"] ["thing"] (defScope sFaultOf) := ⟨rfl, rfl, rfl, by decide +kernel, rfl, by decide +kernel, by decide +kernel⟩
theorem scNeed : FnScope ["thing", "place"] ["thing"] (defScope sNeed) := ⟨rfl, rfl, rfl, by decide +kernel, rfl, by decide +kernel, by decide +kernel⟩
theorem scBadInit : FnScope ["self", "place"] ["self", "place"] (defScope sBadInit) := ⟨rfl, rfl, rfl, by decide +kernel, rfl, by decide +kernel, by decide +kernel⟩
structure MostB (mg : Str → Option Value) : Prop where
  mp : ∃ t, mg "MOST_PIECES" = some (.int 6 t)
  mv : ∃ t, mg "MOST_VARS" = some (.int 3 t)
def isBookT (t : Tr) : Bool := (faultT t).isNone
section
variable {P : Program} {w : World} {K : PySem.W.Frag} {mg : Str → Option Value} {base : Heap}
theorem ok_faultOf {f fT fD fP : Addr} {fd fdT fdD fdP : FuncData} (F : Fun K "fault_of" "fault_of" sFaultOf f fd) (T : Forms mg) (M : MostB mg)
    (GT : FnOk P w K mg base CX0 1 fT fdT ["thing", "count"] (spTuple K)) (bT : Binds K fdT ["thing", "count"] []) (gT : mg "is_tuple" = some (.ref fT)) (kT : PySem.W.keepIn K (.ref fT) = true)
    (GD : FnOk P w K mg base CX0 2 fD fdD ["things"] (spDiff K)) (bD : Binds K fdD ["things"] []) (gD : mg "are_different_names" = some (.ref fD)) (kD : PySem.W.keepIn K (.ref fD) = true)
    (GP : FnOk P w K mg base CX0 15 fP fdP ["variables", "pieces"] (spPieces K)) (bP : Binds K fdP ["variables", "pieces"] []) (gP : mg "fault_of_pieces" = some (.ref fP)) (kP : PySem.W.keepIn K (.ref fP) = true) :
    FnOk P w K mg base CX0 16 f fd ["thing"] (spFaultOf K) := by
  refine F.ok scFaultOf (fun vs H Q E h => ?_) (fun cdv A outer s H vs Q E hr h => ?_)
  · obtain ⟨v, t, rfl, _⟩ := h
    rfl
  · obtain ⟨v, t, rfl, ht, k⟩ := h
    obtain ⟨t1, gM⟩ := M.mp
    obtain ⟨t2, gV⟩ := M.mv
    have hr1 : Room 1 _ := hr.mono (by decide)
    have hr2 : Room 2 _ := hr.mono (by decide)
    refine ⟨_, C8.pss_cut (ps_if (PW.pt (pw_or (pt_not (pt_val (pe_call GT hr1 rfl gT kT bT .nil pass0 (pa_cons (pv 0) (pa_cons pe_int pa_nil)))))
        (pw_or (pt_not (pt_val (pe_callB call_isi (by rfl) T.isi boot_isinstance (pa_cons (pe_ix ix_tup (pv 0) pe_int (fun _ _ => rfl)) (pa_cons (pe_bltn (v := .ty "tuple") (u := .type "tuple") (by rfl) T.tuple (by decide +kernel) rfl) pa_nil)))))
        (pw_or1 (pt_not (pt_val (pe_callB call_isi (by rfl) T.isi boot_isinstance (pa_cons (pe_ix ix_tup (pv 0) pe_int (fun _ _ => rfl)) (pa_cons (pe_bltn (v := .ty "tuple") (u := .type "tuple") (by rfl) T.tuple (by decide +kernel) rfl) pa_nil))))))))) (pss_one (ps_ret (pe_tup pa_nil))) pss_nil)
      (pss_cons (ps_asg (pv 0) (pg_tup rfl (pgs_cons (pg_name (i := 1) scFaultOf.nd rfl (Or.inl rfl)) (pgs_cons (pg_name (i := 2) scFaultOf.nd rfl (Or.inl rfl)) pgs_nil))))
      (pss_cons (ps_if (pt_cmpR op_gt (pe_callB call_len_seq (by rfl) T.len boot_len (pa_cons (pv 2) pa_nil)) (pe_glob (v := .int 6) rfl gM ⟨_, rfl⟩) rfl) (pss_one (ps_ret (pe_tup pa_nil))) pss_nil)
      (C8.pss_cut (ps_if (PW.pt (pw_or (pt_not (pt_chain op_le op_le pe_int (pe_callB call_len_seq (by rfl) T.len boot_len (pa_cons (pv 1) pa_nil)) (pe_glob (v := .int 3) rfl gV ⟨_, rfl⟩)))
        (pw_or1 (pt_not (pt_val (pe_call GD hr2 rfl gD kD bD .nil pass0 (pa_cons (pv 1) pa_nil))))))) (pss_one (ps_ret (pe_tup (pa_cons pe_str pa_nil)))) pss_nil)
      (pss_one (ps_ret (pe_call GP hr rfl gP kP bP .nil pass0 (pa_cons (pv 1) (pa_cons (pv 2) pa_nil)))))))), ?_⟩
    have emp : ∀ H1, Same H H1 → faultT t = some .empty → ([] : List V).length ≤ sizeLine ∧ ∀ p, H1 p = none → Q (.ref p) (upd H1 p (.tup [])) := fun H1 s1 e => by
      refine ⟨Nat.zero_le _, fun p np => k _ _ (s1.trans (same_new np)) ?_⟩
      rw [e]
      exact .tup (SqT.of upd_same) .nil
    refine ⟨fun σ H1 => ∃ (a va pa : Addr) (vs ps : List V) (tv tp : List Tr), σ = [some (.ref a), none, none] ∧ H1 = H ∧ t = .tup [.tup tv, .tup tp] ∧ SqT K H a [.ref va, .ref pa] ∧ SqT K H va vs ∧ TrAll K H vs tv ∧ SqT K H pa ps ∧ TrAll K H ps tp, ?_, ?_⟩
    · refine ⟨_, rfl, v, t, 2, rfl, ht, _, rfl, ?_⟩
      cases ht with
      | int i => exact iteT (emp H (fun _ _ e => e) rfl)
      | bl b => exact iteT (emp H (fun _ _ e => e) rfl)
      | str z hz => exact iteT (emp H (fun _ _ e => e) rfl)
      | non => exact iteT (emp H (fun _ _ e => e) rfl)
      | lst h => exact iteT (emp H (fun _ _ e => e) rfl)
      | dct h => exact iteT (emp H (fun _ _ e => e) rfl)
      | @tup a xs ts h tr =>
      by_cases l2 : ts.length = 2
      · obtain ⟨x1, x2, rfl⟩ : ∃ x1 x2, ts = [x1, x2] := by
          match ts, l2 with
          | [x1, x2], _ => exact ⟨x1, x2, rfl⟩
        refine iteF ?_
        cases tr with
        | @cons y1 _ _ _ h1 r1 =>
        cases r1 with
        | @cons y2 _ _ _ h2 r2 =>
        cases r2 with
        | nil =>
        refine ⟨_, rfl, a, _, 0, y1, rfl, rfl, h, at_of (j := 0) rfl rfl, y1, .ty "tuple", .type (tyT x1), .type "tuple", isTup x1, rfl, .ty "tuple", h1.ty, k_tup K x1, _, rfl, ?_⟩
        cases e1 : isTup x1 with
        | false =>
          refine iteT (emp H (fun _ _ e => e) ?_)
          cases x1 with
          | tup _ => cases e1
          | _ => rfl
        | true =>
          refine iteF ⟨_, rfl, a, _, 1, y2, rfl, rfl, h, at_of (j := 1) rfl rfl, y2, .ty "tuple", .type (tyT x2), .type "tuple", isTup x2, rfl, .ty "tuple", h2.ty, k_tup K x2, _, rfl, ?_⟩
          cases e2 : isTup x2 with
          | false =>
            refine iteT (emp H (fun _ _ e => e) ?_)
            cases x2 with
            | tup _ => cases e2
            | _ => cases x1 <;> rfl
          | true =>
            cases h1 with
            | @tup va vs tv hv tv' =>
              cases h2 with
              | @tup pa ps tp hp tp' => exact iteF ⟨a, va, pa, vs, ps, tv, tp, rfl, rfl, rfl, h, hv, tv', hp, tp'⟩
              | _ => cases e2
            | _ => cases e1
      · have e0 : decide ((ts.length : Int) = 2) = false := decide_eq_false (by omega)
        show (if (!decide ((ts.length : Int) = 2)) = true then _ else _)
        rw [e0]
        refine iteT (emp H (fun _ _ e => e) ?_)
        match ts, l2 with
        | [], _ => rfl
        | [x1], _ => cases x1 <;> rfl
        | [_, _], h => exact absurd rfl h
        | x1 :: x2 :: _ :: _, _ => cases x1 <;> cases x2 <;> rfl
    rintro σ H1 ⟨a, va, pa, vs, ps, tv, tp, rfl, rfl, rfl, ha, hv, tv', hp, tp'⟩
    have vl := tv'.len
    have pl := tp'.len
    refine ⟨_, rfl, a, _, rfl, ha, rfl, _, _, rfl, _, _, rfl, rfl, ?_⟩
    refine ⟨_, rfl, pa, _, rfl, .inr hp, _, _, rfl, rfl, _, rfl, ?_⟩
    rw [show decide ((ps.length : Int) > 6) = decide (6 < ps.length) from gt_cast ps.length 6, pl]
    refine ite2 (fun z => ?_) (fun z => ?_)
    · have z := of_decide_eq_true z
      refine emp H1 (fun _ _ e => e) ?_
      show (if 6 < tp.length then some Place.empty else _) = _
      rw [if_pos z]
    have n6 : ¬ 6 < tp.length := fun q => z (decide_eq_true q)
    have eF : faultT (.tup [.tup tv, .tup tp]) = if 1 ≤ tv.length ∧ tv.length ≤ 3 ∧ diffT tv = true then piecesL (texts tv) tp 0 [] else some .vars := by
      show (if 6 < tp.length then some Place.empty else _) = _
      rw [if_neg n6]
    have bad : ∀ H2, Same H1 H2 → ¬ (1 ≤ tv.length ∧ tv.length ≤ 3 ∧ diffT tv = true) → 1 ≤ sizeLine ∧ ∀ p, H2 p = none → Q (.ref p) (upd H2 p (.tup [.str "vars"])) := fun H2 s2 hn => by
      refine ⟨by decide, fun p np => k _ _ (s2.trans (same_new np)) ?_⟩
      rw [eF, if_neg hn]
      exact .tup (SqT.of upd_same) (.cons (.str _ (by decide +kernel)) .nil)
    refine ⟨fun σ H2 => σ = [some (.ref a), some (.ref va), some (.ref pa)] ∧ Same H1 H2 ∧ 1 ≤ tv.length ∧ tv.length ≤ 3 ∧ diffT tv = true, ?_, ?_⟩
    · refine ⟨_, rfl, va, _, rfl, .inr hv, _, _, rfl, rfl, _, rfl, ?_⟩
      refine ite2 (fun z1 => ?_) (fun z1 => ?_)
      · have z1 : (1 : Int) ≤ (vs.length : Int) := of_decide_eq_true z1
        refine ⟨_, _, rfl, rfl, _, rfl, ?_⟩
        refine ite2 (fun z2 => ?_) (fun z2 => ?_)
        · have z2 : ¬ ((vs.length : Int) ≤ 3) := by simpa using z2
          exact bad H1 (fun _ _ e => e) fun q => by omega
        · have z2 : (vs.length : Int) ≤ 3 := by simpa using z2
          refine ⟨_, rfl, va, vs, tv, rfl, .inr hv, tv', by omega, fun H2 s2 => ⟨_, rfl, ?_⟩⟩
          cases ed : diffT tv with
          | false => exact iteT (bad H2 s2 fun q => by rw [ed] at q; cases q.2.2)
          | true => exact iteF ⟨rfl, s2, by omega, by omega, rfl⟩
      · have z1 : ¬ ((1 : Int) ≤ (vs.length : Int)) := fun q => z1 (decide_eq_true q)
        exact ⟨_, rfl, iteT (bad H1 (fun _ _ e => e) fun q => by omega)⟩
    rintro σ H2 ⟨rfl, s2, l1, l3, ed⟩
    have exs : vs = (texts tv).map V.str := by
      unfold diffT at ed
      exact names_texts tv' (Bool.and_eq_true_iff.mp ed).1
    refine ⟨_, rfl, _, rfl, va, pa, texts tv, ps, tp, rfl, ?_, sqt_same s2 hp, tp'.same s2, by omega, fun u H3 s3 tu => k u H3 (s2.trans s3) ?_⟩
    · rw [← exs]; exact sqt_same s2 hv
    · rw [eF, if_pos ⟨l1, l3, ed⟩]
      exact tu
/-! BadBook -/
def spBadI (K : PySem.W.Frag) (C : Addr) : Sp := fun vs H Q _ => ∃ a v, vs = [.ref a, v] ∧ H a = some (exo a C none) ∧ ∀ dx, H dx = none → dx ≠ a → Q .non (upd (upd H dx (exd dx [("place", v)])) a (exo a C (some dx)))
theorem ok_badInit {C f : Addr} {fd : FuncData} (F : Fun K "__init__" "BadBook.__init__" sBadInit f fd) (T : OexC K C) (np : PySem.W.findIn K (.ref C) "place" = some none) : FnOk P w K mg base CX0 1 f fd ["self", "place"] (spBadI K C) := by
  refine F.ok scBadInit (fun vs H Q E h => ?_) (fun cdv A outer s H vs Q E hr h => ?_)
  · obtain ⟨a, v, rfl, _⟩ := h
    rfl
  · obtain ⟨a, v, rfl, ha, k⟩ := h
    refine ⟨_, pss_one (ps_ost (pv 0) (pv 1)), ?_⟩
    exact ⟨_, rfl, _, rfl, a, C, rfl, T, np, .inl ⟨ha, fun dx nd ne => k dx nd ne⟩⟩
def spNeed (K : PySem.W.Frag) (CB : Addr) : Sp := fun vs H Q E => ∃ v t, vs = [v] ∧ TrAt K H v t ∧ (faultT t = none → ∀ H', Same H H' → Q v H') ∧
  ∀ p, faultT t = some p → ∀ pv d H', Same H H' → H d = none → H' d = some (.xd [("place", pv)]) → TrAt K H' pv (placeT p) → E (.ref CB) (some d) H'
theorem ok_need {CB f fO fI : Addr} {fd fdO fdI : FuncData} (F : Fun K "need_book" "need_book" sNeed f fd) (GO : FnOk P w K mg base CX0 16 fO fdO ["thing"] (spFaultOf K)) (bO : Binds K fdO ["thing"] []) (gO : mg "fault_of" = some (.ref fO)) (kO : PySem.W.keepIn K (.ref fO) = true)
    (T : OexC K CB) (gB : mg "BadBook" = some (.ref CB)) (iC : PySem.W.findIn K (.ref CB) "__init__" = some (some (.ref fI))) (tI : PySem.W.typeIn K (.ref fI) = some (.type "function")) (GI : FnOk P w K mg base CX0 1 fI fdI ["self", "place"] (spBadI K CB)) (bI : Binds K fdI ["self", "place"] []) :
    FnOk P w K mg base (L2.CX P w) 17 f fd ["thing"] (spNeed K CB) := by
  refine F.okX scNeed (fun vs H Q E h => ?_) (fun cdv A outer s H vs Q E hr h => ?_)
  · obtain ⟨v, t, rfl, _⟩ := h
    rfl
  · obtain ⟨v, t, rfl, ht, k1, k2⟩ := h
    have hr2 : Room 2 _ := hr.mono (by decide)
    refine ⟨_, pss_cons (ps_set (i := 1) scNeed.nd rfl (Or.inl rfl) (pe_call GO hr rfl gO kO bO .nil pass0 (pa_cons (pv 0) pa_nil)))
      (pss_cons (ps_if (pt_cmp (pc_notN (pv 1))) (pss_one (ps_raise rfl (takes_of rfl rfl rfl rfl) (pmk_oex T iC tI GI hr2 bI .nil pass0 (by rfl) gB (pa_cons (pv 1) pa_nil)))) pss_nil)
      (pss_one (ps_ret (pv 0)))), ?_⟩
    refine ⟨_, rfl, v, t, rfl, ht, fun u H1 s1 tu => ?_⟩
    cases e : faultT t with
    | none =>
      rw [e] at tu
      have tu : TrAt K H1 u .non := tu
      cases tu
      exact ⟨_, rfl, _, rfl, iteF ⟨_, rfl, k1 e H1 s1⟩⟩
    | some p =>
      rw [e] at tu
      have tu : TrAt K H1 u (placeT p) := tu
      have : ∃ a, u = .ref a := by
        cases p <;> (cases tu; exact ⟨_, rfl⟩)
      obtain ⟨a, rfl⟩ := this
      refine ⟨_, rfl, _, rfl, iteT ⟨_, rfl, (show 1 ≤ 1000 by decide), fun b nb => ⟨b, .ref a, rfl, upd_same, fun d nd ne => ⟨rfl, d, _, upd_same, by rw [upd_ne ne, upd_same], ?_, ?_⟩⟩⟩⟩
      · rw [upd_ne ne] at nd; exact nd
      · rw [upd_ne ne] at nd
        have sm : Same H1 (upd (del (upd (upd (upd H1 b (exo b CB none)) d (exd d [("place", .ref a)])) b (exo b CB (some d))) b) d (.xd [("place", .ref a)])) := fun c o ec => by
          have h1 := ne_of_none ec nb
          have h2 := ne_of_none ec nd
          rw [upd_ne h2, del_ne h1, upd_ne h1, upd_ne h2, upd_ne h1]
          exact ec
        exact k2 p e (.ref a) d _ (s1.trans sm) (s1.free nd) upd_same (tu.same sm)
end
end BK



set_option Elab.async false
set_option maxRecDepth 100000
set_option maxHeartbeats 2000000
set_option linter.unusedVariables false
/-! what is right, is of statements; how many they are -/
namespace BK
open PySem PySem.Spec PyProof.Rows L2
def okD : Nat → List Tr → Prop
  | 0, ts => ts = []
  | d + 1, ts => ∀ t ∈ ts, formT t = true ∧ ∀ b ∈ blocksT t, okD d b
def metD : Nat → List Tr → Nat
  | 0, _ => 0
  | d + 1, ts => (ts.map fun t => 1 + ((blocksT t).map (metD d)).sum).sum
theorem blocksIn_none {f : List Tr → Ck → Fl} {m : List Tr → Nat} {p : List Tr → Prop} (hf : ∀ b c c', f b c = (none, c') → p b ∧ c'.2 = c.2 + m b) : ∀ (bs : List (List Tr)) (j : Nat) (c c' : Ck), blocksIn f bs j c = (none, c') → (∀ b ∈ bs, p b) ∧ c'.2 = c.2 + (bs.map m).sum
  | [], _, c, c', h => by
    cases h
    exact ⟨fun b hb => (by cases hb), rfl⟩
  | b :: r, j, c, c', h => by
    have h : (match f b c with
      | (some w, c') => (some (j :: w), c')
      | (none, c') => blocksIn f r (j + 1) c') = (none, c') := h
    cases e : f b c with
    | mk x c1 =>
    rw [e] at h
    cases x with
    | some w => cases h
    | none =>
      obtain ⟨h1, h2⟩ := hf b c c1 e
      obtain ⟨h3, h4⟩ := blocksIn_none hf r (j + 1) c1 c' h
      refine ⟨fun z hz => ?_, ?_⟩
      · rcases List.mem_cons.mp hz with rfl | hz
        · exact h1
        · exact h3 z hz
      · rw [List.map_cons, List.sum_cons]
        omega
theorem takes_form {vars : List Str} {t : Tr} {as : List Str} {m m' : Km} {n : Nat} (h : takesT vars t as m n = (true, m')) : formT t = true ∧ n ≤ 16 ∧ as.length ≤ 4 := by
  unfold takesT at h
  by_cases z : 16 < n ∨ 4 < as.length
  · rw [if_pos z] at h
    cases h
  · rw [if_neg z] at h
    have z1 : ¬ 16 < n := fun q => z (.inl q)
    have z2 : ¬ 4 < as.length := fun q => z (.inr q)
    split at h
    · rename_i x rest
      cases ek : kindsOf x with
      | none => rw [ek] at h; cases h
      | some ks =>
        rw [ek] at h
        simp only at h
        by_cases ef : fitsT rest ks = true
        · refine ⟨?_, by omega, by omega⟩
          show (match kindsOf x with
            | some ks => fitsT rest ks
            | none => false) = true
          rw [ek]
          exact ef
        · rw [if_neg ef] at h
          cases h
    · cases h
theorem faultL_none {vars : List Str} {rec : List Tr → List Str → Ck → Fl} {as : List Str} {m : List Tr → Nat} {p : List Tr → Prop} (hf : ∀ w b c c', as.length ≤ 4 → rec b (as ++ [w]) c = (none, c') → p b ∧ c'.2 = c.2 + m b) : ∀ (ts : List Tr) (i : Nat) (c c' : Ck), faultL vars rec as ts i c = (none, c') →
    (∀ t ∈ ts, formT t = true ∧ as.length ≤ 4 ∧ ∀ b ∈ blocksT t, p b) ∧ c'.2 = c.2 + (ts.map fun t => 1 + ((blocksT t).map m).sum).sum
  | [], _, c, c', h => by
    cases h
    exact ⟨fun b hb => (by cases hb), rfl⟩
  | t :: r, i, c, c', h => by
    have h : (match takesT vars t as c.1 (c.2 + 1) with
      | (false, m) => (some [i], (m, c.2 + 1))
      | (true, m) => match blocksIn (fun b c => rec b (as ++ [wordS t]) c) (blocksT t) 0 (m, c.2 + 1) with
        | (some w, c') => (some (i :: w), c')
        | (none, c') => faultL vars rec as r (i + 1) c') = (none, c') := h
    cases e : takesT vars t as c.1 (c.2 + 1) with
    | mk b k =>
    rw [e] at h
    cases b with
    | false => cases h
    | true =>
      obtain ⟨f1, f2, f3⟩ := takes_form e
      simp only at h
      cases e2 : blocksIn (fun b c => rec b (as ++ [wordS t]) c) (blocksT t) 0 (k, c.2 + 1) with
      | mk x c1 =>
      rw [e2] at h
      cases x with
      | some w => cases h
      | none =>
        obtain ⟨h1, h2⟩ := blocksIn_none (m := m) (p := p) (fun b c c' hb => hf _ b c c' f3 hb) _ _ _ _ e2
        obtain ⟨h3, h4⟩ := faultL_none hf r (i + 1) c1 c' h
        refine ⟨fun z hz => ?_, ?_⟩
        · rcases List.mem_cons.mp hz with rfl | hz
          · exact ⟨f1, f3, h1⟩
          · exact h3 z hz
        · rw [List.map_cons, List.sum_cons]
          have h2 : c1.2 = c.2 + 1 + ((blocksT t).map m).sum := h2
          omega
theorem fault_ok (vars : List Str) : ∀ (d : Nat) (ts : List Tr) (as : List Str) (c c' : Ck), as.length + d = 5 → faultD vars d ts as c = (none, c') → okD d ts ∧ c'.2 = c.2 + metD d ts
  | 0, ts, as, c, c', hl, h => by
    rw [faultD_eq] at h
    obtain ⟨h1, h2⟩ := faultL_none (m := fun _ => 0) (p := fun _ => True) (fun w b c c' q _ => absurd q (by omega)) ts 0 c c' h
    cases ts with
    | nil => cases h; exact ⟨rfl, rfl⟩
    | cons t r => exact absurd (h1 t List.mem_cons_self).2.1 (by omega)
  | d + 1, ts, as, c, c', hl, h => by
    rw [faultD_eq] at h
    obtain ⟨h1, h2⟩ := faultL_none (rec := faultD vars d) (m := metD d) (p := okD d) (fun w b c c' q hb => fault_ok vars d b (as ++ [w]) c c' (by simp; omega) hb) ts 0 c c' h
    exact ⟨fun t ht => ⟨(h1 t ht).1, (h1 t ht).2.2⟩, h2⟩
/-- no more than sixteen are met -/
theorem faultL_few {vars : List Str} {rec : List Tr → List Str → Ck → Fl} {as : List Str} (hf : ∀ b as c, c.2 ≤ 16 → (rec b as c).1 = none → (rec b as c).2.2 ≤ 16) : ∀ (ts : List Tr) (i : Nat) (c : Ck), c.2 ≤ 16 → (faultL vars rec as ts i c).1 = none → (faultL vars rec as ts i c).2.2 ≤ 16
  | [], _, c, hc, _ => hc
  | t :: r, i, c, hc, h => by
    unfold faultL at h ⊢
    cases e : takesT vars t as c.1 (c.2 + 1) with
    | mk b k =>
    rw [e] at h
    cases b with
    | false => cases h
    | true =>
      obtain ⟨_, f2, _⟩ := takes_form e
      simp only at h ⊢
      have bl : ∀ (bs : List (List Tr)) (j : Nat) (c : Ck), c.2 ≤ 16 → (blocksIn (fun b c => rec b (as ++ [wordS t]) c) bs j c).1 = none → (blocksIn (fun b c => rec b (as ++ [wordS t]) c) bs j c).2.2 ≤ 16 := by
        intro bs
        induction bs with
        | nil => exact fun _ c hc _ => hc
        | cons b bs ih =>
          intro j c hc h
          unfold blocksIn at h ⊢
          cases e3 : rec b (as ++ [wordS t]) c with
          | mk x c1 =>
          rw [e3] at h
          cases x with
          | some w => cases h
          | none =>
            have := hf b (as ++ [wordS t]) c hc (by rw [e3])
            rw [e3] at this
            exact ih (j + 1) c1 this h
      cases e2 : blocksIn (fun b c => rec b (as ++ [wordS t]) c) (blocksT t) 0 (k, c.2 + 1) with
      | mk x c1 =>
      rw [e2] at h
      cases x with
      | some w => cases h
      | none =>
        have := bl (blocksT t) 0 (k, c.2 + 1) f2 (by rw [e2])
        rw [e2] at this
        exact faultL_few hf r (i + 1) c1 this h
theorem faultD_few (vars : List Str) : ∀ (d : Nat) (ts : List Tr) (as : List Str) (c : Ck), c.2 ≤ 16 → (faultD vars d ts as c).1 = none → (faultD vars d ts as c).2.2 ≤ 16
  | 0, ts, as, c, hc, h => by
    rw [faultD_eq] at h ⊢
    exact faultL_few (fun _ _ _ hc _ => hc) ts 0 c hc h
  | d + 1, ts, as, c, hc, h => by
    rw [faultD_eq] at h ⊢
    exact faultL_few (fun b as c hc h => faultD_few vars d b as c hc h) ts 0 c hc h
/-- of a right piece: its statements, at most sixteen -/
theorem block_right {vars : List Str} {ts : List Tr} {km : Km} (h : (faultD vars 5 ts [] (km, 0)).1 = none) : okD 5 ts ∧ metD 5 ts ≤ 16 := by
  cases e : faultD vars 5 ts [] (km, 0) with
  | mk x c' =>
  rw [e] at h
  have h : x = none := h
  subst h
  obtain ⟨h1, h2⟩ := fault_ok vars 5 ts [] (km, 0) c' rfl e
  have h3 := faultD_few vars 5 ts [] (km, 0) (Nat.zero_le _) (by rw [e])
  rw [e] at h3
  have h2 : c'.2 = 0 + metD 5 ts := h2
  have h3 : c'.2 ≤ 16 := h3
  exact ⟨h1, by omega⟩
end BK


set_option Elab.async false
set_option maxRecDepth 100000
set_option maxHeartbeats 4000000
set_option linter.unusedVariables false
/-! what a right book is -/
namespace BK
open PySem PySem.Spec PyProof.Rows L2
theorem no_value {w : Str} {ks : List Str} (h : kindsOf w = some ks) : ("value" : Str) ∉ ks := by
  have all : (kindTab.all fun e => decide (("value" : Str) ∉ e.2)) = true := by decide +kernel
  unfold kindsOf at h
  cases e : kindTab.find? fun e => decide (e.1 = w) with
  | none => rw [e] at h; cases h
  | some x =>
    rw [e] at h
    have q : x.2 = ks := Option.some.inj h
    rw [← q]
    exact of_decide_eq_true (List.all_eq_true.mp all x (List.mem_of_find?_eq_some e))
theorem word_few {w : Str} {ks : List Str} (h : kindsOf w = some ks) : w.length ≤ 20 := by
  have all : (kindTab.all fun e => decide (e.1.length ≤ 20)) = true := by decide +kernel
  unfold kindsOf at h
  cases e : kindTab.find? fun e => decide (e.1 = w) with
  | none => rw [e] at h; cases h
  | some x =>
    have q : x.1 = w := of_decide_eq_true (List.find?_some (p := fun e : Str × List Str => decide (e.1 = w)) e)
    rw [← q]
    exact of_decide_eq_true (List.all_eq_true.mp all x (List.mem_of_find?_eq_some e))
theorem name_short {s : Str} (h : nameS s = true) : s.length ≤ 20 := by
  unfold nameS at h
  rw [Bool.and_eq_true, Bool.and_eq_true, decide_eq_true_eq, decide_eq_true_eq] at h
  have := h.1.2
  omega
theorem pieces_right {vars : List Str} : ∀ (ts : List Tr) (i : Nat) (ns : List Str), piecesL vars ts i ns = none → ∀ t ∈ ts, tripleT t = true ∧ okD 5 (blockOf t) ∧ metD 5 (blockOf t) ≤ 16
  | [], _, _, _, t, ht => by cases ht
  | t :: r, i, ns, h, u, hu => by
    have h : (if tripleT t = true ∧ wordS t ∉ ns then
      match (faultD vars 5 (blockOf t) [] (kindsP (paramsOf t), 0)).1 with
      | some w => some (.way i w)
      | none => piecesL vars r (i + 1) (ns ++ [wordS t])
    else some (.at_ i)) = none := h
    by_cases z : tripleT t = true ∧ wordS t ∉ ns
    · rw [if_pos z] at h
      cases e : (faultD vars 5 (blockOf t) [] (kindsP (paramsOf t), 0)).1 with
      | some w => rw [e] at h; cases h
      | none =>
        rw [e] at h
        rcases List.mem_cons.mp hu with rfl | hu
        · exact ⟨z.1, block_right e⟩
        · exact pieces_right r _ _ h u hu
    · rw [if_neg z] at h
      cases h
theorem book_right {t : Tr} (h : faultT t = none) : ∃ vs ps, t = .tup [.tup vs, .tup ps] ∧ ps.length ≤ 6 ∧ vs.length ≤ 3 ∧ vs.all nameT = true ∧ ∀ u ∈ ps, tripleT u = true ∧ okD 5 (blockOf u) ∧ metD 5 (blockOf u) ≤ 16 := by
  unfold faultT at h
  split at h
  · rename_i vs ps
    split at h
    · cases h
    · rename_i n6
      split at h
      · rename_i z
        refine ⟨vs, ps, rfl, by omega, z.2.1, ?_, pieces_right ps 0 [] h⟩
        have := z.2.2
        unfold diffT at this
        exact (Bool.and_eq_true_iff.mp this).1
      · cases h
  · cases h
end BK

set_option Elab.async false
set_option maxRecDepth 100000
set_option maxHeartbeats 2000000
set_option linter.unusedVariables false
/-! dict(d) of a written dict of texts -/
namespace BK
open PySem PySem.Spec PyProof.Rows L2
def keyE (e : DictEntry) : Str := match e.key with
  | .str x _ => x
  | _ => ""
def valE (e : DictEntry) : V := match e.val with
  | .ref t => .ref t
  | _ => .non
def isRef : Value → Bool
  | .ref _ => true
  | _ => false
def refsE (l : List DictEntry) : Bool := l.all fun e => isRef e.val
theorem kd_pairs {P : Program} {w : World} : ∀ {l : List DictEntry}, PySem.W.KeysLit w.params l → Pairs (mixKind P w) l (l.map fun e => ((.inr (keyE e) : Key), e.val))
  | [], _ => .nil
  | e :: r, ⟨⟨x, t, e1, _⟩, hr⟩ => by
    refine .cons ?_ rfl (kd_pairs hr)
    show keyIs (.inr (keyE e)) e.key = true
    unfold keyE
    rw [e1]
    exact keyIs_str x t
theorem kd_kv : ∀ {l : List DictEntry}, refsE l = true → KV (l.map fun e => ((.inr (keyE e) : Key), valE e)) (l.map fun e => ((.inr (keyE e) : Key), e.val))
  | [], _ => .nil
  | e :: r, h => by
    unfold refsE at h
    rw [List.all_cons, Bool.and_eq_true] at h
    refine .cons ⟨rfl, ?_⟩ (kd_kv h.2)
    show RelV (valE e) e.val
    unfold valE
    cases q : e.val with
    | ref t => rfl
    | _ => rw [q] at h; exact absurd (show false = true from h.1) (by decide)
theorem kd_nodup {l : List DictEntry} (h : (l.map keyE).Nodup) : ((l.map fun e => ((.inr (keyE e) : Key), e.val)).map (·.1)).Nodup := by
  rw [List.map_map]
  have : ((fun x : Key × Value => x.1) ∘ fun e => ((.inr (keyE e) : Key), e.val)) = (fun x : Str => (.inr x : Key)) ∘ keyE := rfl
  rw [this, ← List.map_map]
  exact h.map _ fun a b n e => n (Sum.inr.inj e)
theorem kd_dictOf {X : Cx} {d : Addr} {es : Array DictEntry} {n : Nat} {h : Heap} (D : KDict X.K X.w d es n) (hK : X.K.In h) (hn : (es.toList.map keyE).Nodup) :
    h.DictOf (mixKind X.prog X.w) d (es.toList.map fun e => ((.inr (keyE e) : Key), e.val)) :=
  ⟨_, es, n, hK _ _ D.at_, ⟨rfl, rfl, rfl⟩, rfl, fun e he => by
    obtain ⟨x, t, e1, e2⟩ := D.lit.all e (Array.mem_toList_iff.mpr he)
    refine ⟨.inr x, ?_, e2⟩
    rw [e1]
    exact keyIs_str x t, kd_pairs D.lit, kd_nodup hn⟩
def rDictK (X : Cx) : List V → Hp → VK → Prop := fun xs H Q => ∃ (a : Addr) (es : Array DictEntry) (n : Nat), xs = [.ref a] ∧ KDict X.K X.w a es n ∧ refsE es.toList = true ∧ (es.toList.map keyE).Nodup ∧ es.toList.length ≤ 1000 ∧
  ∀ (p : Addr) (kvs : List (Key × V)), H p = none → (∀ x t, PySem.W.nsIn X.K a x = some (some (.ref t)) → valV kvs (.inr x) = some (.ref t)) → Q (.ref p) (upd H p (.dK kvs))
theorem call_dictKD {X : Cx} : CallR X (.type "dict") (rDictK X) := by
  intro pins s σ H xs us Q I r q
  obtain ⟨a, es, n, ex, D, hv, hn, hl, q⟩ := q
  subst ex
  obtain ⟨u, eu, rx⟩ := vals1 r
  subst eu
  cases rx
  have dd := kd_dictOf (X := X) D I.kIn hn
  have big : sizeLine = 16777216 := sizeLine_eq
  have rel := kd_kv hv
  refine kt_call_dict D.low dd (by rw [List.length_map]; omega) fun h' d' hs => ?_
  have hm : (s.heap.objs.size == sysModules) = false := beq_eq_false_iff_ne.mpr (Nat.ne_of_gt I.big)
  refine ⟨.ref s.heap.objs.size, upd H s.heap.objs.size (.dK (es.toList.map fun e => ((.inr (keyE e) : Key), valE e))), I.laid (t' := s.toks) (fun b u e => (hs.2 b (Nat.ne_of_lt (Heap.lt_size e))).trans (Heap.get?_push_of_some _ e)) (Nat.le_refl _)
    (show ObjOk X.prog X.w _ _ _ (.dK _) from ⟨by rw [List.length_map]; omega, hm, _, rel, d'⟩), rfl, q _ _ (I.hok.fresh (Nat.le_refl _)) fun x t e => ?_⟩
  have e1 := PySem.W.find_K D.at_ e
  have e2 : valueAt (es.toList.map fun e => ((.inr (keyE e) : Key), e.val)) (.inr x) = some (.ref t) := by
    rw [← (kd_pairs (P := X.prog) D.lit).find (.inr x), ← e1]
    obtain ⟨l⟩ := es
    simp [findBy]
    rfl
  have e3 := rel.val (.inr x)
  rw [e2] at e3
  cases e4 : valV (es.toList.map fun e => ((.inr (keyE e) : Key), valE e)) (.inr x) with
  | none => rw [e4] at e3; exact e3.elim
  | some v =>
    rw [e4] at e3
    have e3 : RelV v (.ref t) := e3
    rw [RelV.inj e3 (show RelV (.ref t) (.ref t) from rfl)]
end BK

set_option Elab.async false
set_option maxRecDepth 100000
set_option maxHeartbeats 4000000
set_option linter.unusedVariables false
/-! the words of a block, as data -/
namespace BK
open PySem PySem.Spec PyProof.Rows L2 RZ ET
/-- with a ";" between two -/
def semi : List (List Str) → List Str
  | [] => []
  | [x] => x
  | x :: y :: r => x ++ (";" : Str) :: semi (y :: r)
theorem semi_snoc : ∀ (xs : List (List Str)) (x : List Str), semi (xs ++ [x]) = semi xs ++ (if xs = [] then x else (";" : Str) :: x)
  | [], x => rfl
  | [y], x => rfl
  | y :: z :: r, x => by
    have ih := semi_snoc (z :: r) x
    rw [if_neg (by simp)] at ih ⊢
    show y ++ (";" : Str) :: semi (z :: (r ++ [x])) = (y ++ (";" : Str) :: semi (z :: r)) ++ (";" : Str) :: x
    rw [← List.cons_append, ih, List.append_assoc]
    rfl
def partW (f : List Tr → List Str) : Tr → List Str
  | .tup us => [("{" : Str)] ++ f us ++ [("}" : Str)]
  | .str s => [s]
  | .int i => [toString i]
  | _ => []
def stW (f : List Tr → List Str) : Tr → List Str
  | .tup (.str x :: rest) => x :: (rest.map (partW f)).flatten
  | _ => []
def blockW : Nat → List Tr → List Str
  | 0, _ => []
  | d + 1, ts => semi (ts.map (stW (blockW d)))
/-- the words of a piece -/
def paramW : Tr → List Str
  | .tup [.str n, .str k] => [n, k]
  | _ => []
def pieceW : Tr → List Str
  | .tup [.str n, .tup ps, .tup b] => [("piece" : Str), n] ++ (ps.map paramW).flatten ++ [("{" : Str)] ++ blockW 5 b ++ [("}" : Str)]
  | _ => []
def bookW : Tr → List Str
  | .tup [.tup vs, .tup ps] => [("vars" : Str)] ++ texts vs ++ (ps.map fun p => (";" : Str) :: pieceW p).flatten
  | _ => []
end BK

set_option Elab.async false
set_option maxRecDepth 100000
set_option maxHeartbeats 4000000
set_option linter.unusedVariables false
/-! words_of_part, words_of_block -/
namespace BK
open PySem PySem.Spec PyProof.Rows L2 RZ ET
def cntT (d : Nat) : Tr → Nat
  | .tup ts => 10 * metD d ts
  | _ => 0
def FormsAt (K : PySem.W.Frag) (H : Hp) (q : Addr) : Prop := ∃ kvs : List (Key × V), H q = some (.dK kvs) ∧ ∀ x ks, kindsOf x = some ks → ∃ t, valV kvs (.inr x) = some (.ref t) ∧ ∀ H, SqT K H t (ks.map V.str)
theorem FormsAt.same {K : PySem.W.Frag} {H H' : Hp} {q : Addr} (h : FormsAt K H q) (s : Same H H') : FormsAt K H' q := let ⟨kvs, e, r⟩ := h; ⟨kvs, s _ _ e, r⟩
def spBw (K : PySem.W.Frag) (d : Nat) : Sp := fun vs H Q _ => ∃ v q ts, vs = [v, .ref q] ∧ TrAt K H v (.tup ts) ∧ FormsAt K H q ∧ okD d ts ∧ metD d ts ≤ 50 ∧
  ∀ (L : Addr) (ws : List Str) (H' : Hp), Same H H' → H' L = some (.lst (ws.map V.str)) → ws = blockW d ts → ws.length ≤ 10 * metD d ts → (∀ w ∈ ws, w.length ≤ 20) → Q (.ref L) H'
def spPw (K : PySem.W.Frag) (d : Nat) : Sp := fun vs H Q _ => ∃ v k q t, vs = [v, .str k, .ref q] ∧ TrAt K H v t ∧ FormsAt K H q ∧ partT t k = true ∧ k ≠ "args" ∧ k ≠ "value" ∧ (∀ ts, t = .tup ts → okD d ts) ∧ cntT d t ≤ 500 ∧
  ∀ (L : Addr) (ws : List Str) (H' : Hp), Same H H' → H' L = some (.lst (ws.map V.str)) → ws = partW (blockW d) t → ws.length ≤ 2 + cntT d t → (∀ w ∈ ws, w.length ≤ 20) → Q (.ref L) H'
theorem part_shape {t : Tr} {k : Str} (h : partT t k = true) (n1 : k ≠ "args") (n2 : k ≠ "value") (n3 : k ≠ "block") : (∃ i, t = .int i ∧ 0 ≤ i ∧ i ≤ 99) ∨ ∃ s, t = .str s ∧ s.length ≤ 8 := by
  have num : numT 99 t = true → ∃ i, t = .int i ∧ 0 ≤ i ∧ i ≤ 99 := fun h => by
    cases t with
    | int i =>
      have h : (decide (0 ≤ i) && decide (i ≤ 99)) = true := h
      rw [Bool.and_eq_true, decide_eq_true_eq, decide_eq_true_eq] at h
      exact ⟨i, rfl, h.1, h.2⟩
    | _ => exact Bool.noConfusion h
  have nam : nameT t = true → ∃ s, t = .str s ∧ s.length ≤ 8 := fun h => by
    cases t with
    | str s =>
      have h : nameS s = true := h
      unfold nameS at h
      rw [Bool.and_eq_true, Bool.and_eq_true, decide_eq_true_eq, decide_eq_true_eq] at h
      exact ⟨s, rfl, h.1.2⟩
    | _ => exact Bool.noConfusion h
  unfold partT at h
  rw [if_neg n3, if_neg n1] at h
  split at h
  · exact .inl (num h)
  · split at h
    · rename_i z
      exact .inl (num z.2)
    · exact .inr (nam h)
theorem int_short : ∀ {i : Int}, 0 ≤ i → i ≤ 99 → ((toString i : Str)).length ≤ 20 := by
  intro i h0 h1
  have all : ∀ n : Fin 100, ((toString ((n.val : Nat) : Int) : Str)).length ≤ 20 := by decide +kernel
  obtain ⟨n, rfl⟩ := Int.eq_ofNat_of_zero_le h0
  exact all ⟨n, by omega⟩
abbrev sBw : Stmt := top 43
abbrev sPw : Stmt := top 44
abbrev nBw : List Str := ["block", "forms", "words", "number", "row", "part", "kind"]
theorem scPw : FnScope ["part", "kind", "forms"] ["part", "kind", "forms"] (defScope sPw) := ⟨rfl, rfl, rfl, by decide +kernel, rfl, by decide +kernel, by decide +kernel⟩
theorem scBw : FnScope nBw ["block", "forms"] (defScope sBw) := ⟨rfl, rfl, rfl, by decide +kernel, rfl, by decide +kernel, by decide +kernel⟩
section
variable {P : Program} {w : World} {K : PySem.W.Frag} {mg : Str → Option Value} {base : Heap}
theorem ok_pw {f fB : Addr} {fd fdB : FuncData} {m d : Nat} (F : Fun K "words_of_part" "words_of_part" sPw f fd) (mL : mg "list" = none) (mS : mg "str" = none)
    (GB : FnOk P w K mg base CX0 m fB fdB ["block", "forms"] (spBw K d)) (bB : Binds K fdB ["block", "forms"] []) (gB : mg "words_of_block" = some (.ref fB)) (kB : PySem.W.keepIn K (.ref fB) = true) :
    FnOk P w K mg base CX0 (m + 1) f fd ["part", "kind", "forms"] (spPw K d) := by
  refine F.ok scPw (fun vs H Q E h => ?_) (fun cdv A outer s H vs Q E hr h => ?_)
  · obtain ⟨v, k, q, t, rfl, _⟩ := h
    rfl
  · obtain ⟨v, kd, q, t, rfl, tv, fm, hp, n1, n2, ok, cn, k⟩ := h
    refine ⟨_, pss_cons (ps_if (pt_cmpR op_eq (pv 1) pe_str (nomark _)) (pss_one (ps_ret (pe_op op_cat (pe_op op_cat (pe_lst (pa_cons pe_str pa_nil)) (pe_call GB hr rfl gB kB bB .nil pass0 (pa_cons (pv 0) (pa_cons (pv 2) pa_nil)))) (pe_lst (pa_cons pe_str pa_nil))))) pss_nil)
      (pss_cons (ps_if (pt_cmpR op_eq (pv 1) pe_str (nomark _)) (pss_one (ps_ret (pe_callTy call_list_of (by rfl) mL (by decide +kernel) (pa_cons (pv 0) pa_nil)))) pss_nil)
      (pss_one (ps_ret (pe_lst (pa_cons (pe_callTy (call_str_int.or SkE.call_str_str) (by rfl) mS (by decide +kernel) (pa_cons (pv 0) pa_nil)) pa_nil))))), ?_⟩
    refine ⟨_, rfl, rfl, _, rfl, ?_⟩
    rw [eq_txt]
    refine ite2 (fun h => ?_) (fun h => ?_)
    · have h1 : kd = "block" := of_decide_eq_true h
      subst h1
      have ht : isTup t = true := hp
      obtain ⟨ts, rfl⟩ : ∃ ts, t = .tup ts := by
        cases t with
        | tup ts => exact ⟨ts, rfl⟩
        | _ => exact Bool.noConfusion ht
      have cn : 10 * metD d ts ≤ 500 := cn
      refine ⟨by decide, fun p np => ?_⟩
      have s1 := same_new (o := .lst [.str "{"]) np
      refine ⟨_, rfl, _, rfl, v, q, ts, rfl, tv.same s1, fm.same s1, ok ts rfl, by omega, fun L ws H2 s2 eL ew wl w2 => ?_⟩
      refine ⟨p, L, [.str "{"], ws.map V.str, rfl, rfl, s2 _ _ upd_same, eL, (by (have big : sizeLine = 16777216 := sizeLine_eq; simp only [List.length_cons, List.length_nil, List.length_append, List.length_map, List.length_singleton]; omega)), fun r nr => ?_⟩
      have s3 := same_new (o := .lst ([.str "{"] ++ ws.map V.str)) nr
      refine ⟨by decide, fun p3 np3 => ?_⟩
      have s4 := same_new (o := .lst [.str "}"]) np3
      refine ⟨r, p3, [.str "{"] ++ ws.map V.str, [.str "}"], rfl, rfl, s4 _ _ upd_same, upd_same, (by (have big : sizeLine = 16777216 := sizeLine_eq; simp only [List.length_cons, List.length_nil, List.length_append, List.length_map, List.length_singleton]; omega)), fun g ng => ?_⟩
      refine k g (([("{" : Str)] ++ ws) ++ [("}" : Str)]) _ ((s1.trans s2).trans ((s3.trans s4).trans (same_new ng))) ?_ (by rw [ew]; rfl) ?_ ?_
      · rw [upd_same, List.map_append, List.map_append]
        rfl
      · show _ ≤ 2 + 10 * metD d ts
        rw [List.length_append, List.length_append, List.length_cons, List.length_nil, List.length_cons, List.length_nil]
        omega
      · intro z hz
        rcases List.mem_append.mp hz with hz | hz
        · rcases List.mem_append.mp hz with hz | hz
          · rw [List.mem_singleton.mp hz]; decide
          · exact w2 z hz
        · rw [List.mem_singleton.mp hz]; decide
    have h1 : ¬ kd = "block" := fun e => h (decide_eq_true e)
    refine ⟨_, rfl, rfl, _, rfl, ?_⟩
    rw [eq_txt]
    refine ite2 (fun h => absurd (of_decide_eq_true h) n1) (fun h => ?_)
    have fin : ∀ z : Str, partW (blockW d) t = [z] → z.length ≤ 20 → ([.str z] : List V).length ≤ sizeLine ∧ ∀ p, H p = none → Q (.ref p) (upd H p (.lst [.str z])) := fun z ez hz => by
      refine ⟨by show 1 ≤ sizeLine; decide, fun p np => k p [z] _ (same_new np) upd_same ez.symm (by show 1 ≤ 2 + _; omega) fun y hy => ?_⟩
      rw [List.mem_singleton.mp hy]
      exact hz
    rcases part_shape hp n1 n2 h1 with ⟨i, rfl, i0, i1⟩ | ⟨z, rfl, hz⟩
    · cases tv with
      | int _ =>
      refine ⟨_, rfl, .inl ⟨i, rfl, ?_, fin _ rfl (int_short i0 i1)⟩⟩
      have : i.natAbs ≤ 99 := by omega
      have : i.natAbs.log2 ≤ i.natAbs := Nat.log2_le_self _
      omega
    · cases tv with
      | str _ _ =>
      exact ⟨_, rfl, .inr ⟨z, rfl, fin z rfl (by omega)⟩⟩
end
end BK

set_option Elab.async false
set_option maxRecDepth 100000
set_option maxHeartbeats 4000000
set_option linter.unusedVariables false
/-! words_of_block -/
namespace BK
open PySem PySem.Spec PyProof.Rows L2 RZ ET
theorem cnt_sum (d : Nat) : ∀ rest : List Tr, (rest.map (cntT d)).sum = 10 * (((rest.filter isTup).map tupTs).map (metD d)).sum
  | [] => rfl
  | t :: r => by
    have ih := cnt_sum d r
    rw [List.map_cons, List.sum_cons, ih]
    cases t with
    | tup ts =>
      rw [List.filter_cons_of_pos (show isTup (.tup ts) = true from rfl), List.map_cons, List.map_cons, List.sum_cons]
      show 10 * metD d ts + _ = 10 * (metD d ts + _)
      omega
    | _ => rw [List.filter_cons_of_neg (by intro z; exact Bool.noConfusion z)]; exact Nat.zero_add _
theorem sum_take (f : Tr → Nat) : ∀ (l : List Tr) (j : Nat) (t : Tr), l[j]? = some t → ((l.take (j + 1)).map f).sum = ((l.take j).map f).sum + f t := by
  intro l j t h
  rw [List.take_add_one, h, List.map_append, List.sum_append]
  simp
theorem sum_take_le (f : Tr → Nat) : ∀ (l : List Tr) (j : Nat), ((l.take j).map f).sum ≤ (l.map f).sum
  | [], j => by simp
  | t :: r, 0 => by simp
  | t :: r, j + 1 => by
    rw [List.take_succ_cons, List.map_cons, List.sum_cons, List.map_cons, List.sum_cons]
    have := sum_take_le f r j
    omega
theorem mem_sum (f : Tr → Nat) : ∀ {l : List Tr} {t : Tr}, t ∈ l → f t ≤ (l.map f).sum
  | t :: r, _, .head _ => by rw [List.map_cons, List.sum_cons]; omega
  | t :: r, u, .tail _ m => by
    rw [List.map_cons, List.sum_cons]
    have := mem_sum f m
    omega
/-- one statement's words -/
def oneD (d : Nat) (t : Tr) : Nat := 1 + ((blocksT t).map (metD d)).sum
theorem met_one (d : Nat) (ts : List Tr) : metD (d + 1) ts = (ts.map (oneD d)).sum := rfl
def recP (K : PySem.W.Frag) : Nat → Sp
  | 0 => fun _ _ _ _ => False
  | d + 1 => spPw K d
theorem snoc20 {ws : List Str} {z : Str} (h : ∀ w ∈ ws, w.length ≤ 20) (hz : z.length ≤ 20) : ∀ w ∈ ws ++ [z], w.length ≤ 20 := fun w hw => by
  rcases List.mem_append.mp hw with hw | hw
  · exact h w hw
  · rw [List.mem_singleton.mp hw]
    exact hz
section
variable {P : Program} {w : World} {K : PySem.W.Frag} {mg : Str → Option Value} {base : Heap}
theorem ok_bw_step {f fP : Addr} {fd fdP : FuncData} {m d : Nat} (F : Fun K "words_of_block" "words_of_block" sBw f fd) (mE : mg "enumerate" = none) (mZ : mg "zip" = none)
    (GP : FnOk P w K mg base CX0 m fP fdP ["part", "kind", "forms"] (recP K d)) (bP : Binds K fdP ["part", "kind", "forms"] []) (gP : mg "words_of_part" = some (.ref fP)) (kP : PySem.W.keepIn K (.ref fP) = true) :
    FnOk P w K mg base CX0 (m + 1) f fd ["block", "forms"] (spBw K d) := by
  refine F.ok scBw (fun vs H Q E h => ?_) (fun cdv A outer s H vs Q E hr h => ?_)
  · obtain ⟨v, q, ts, rfl, _⟩ := h
    rfl
  · obtain ⟨v, q, ts, rfl, tv, fm, ok, md, k⟩ := h
    have hu : A.units + 3 + 64 < cLine := hr.units
    refine ⟨_, pss_cons (ps_set (i := 2) scBw.nd rfl (Or.inl rfl) (pe_lst pa_nil))
      (pss_cons (ps_for PassesOwn.never rfl (pi_enumT (by rfl) mE (pa_cons (pv 0) pa_nil)) (pg_tup rfl (pgs_cons (pg_name (i := 3) scBw.nd rfl (Or.inl rfl)) (pgs_cons (pg_name (i := 4) scBw.nd rfl (Or.inl rfl)) pgs_nil)))
        (C8.pss_cut (ps_if (pt_cmpR op_gt (pv 3) pe_int (nomark _)) (pss_one (ps_expr (pe_bm PySem.F.plainAttrs_list PySem.F.slot_list_append PySem.F.type_list_append mt_append (pv 2) (pa_cons pe_str pa_nil)))) pss_nil)
        (C8.pss_cut (ps_expr (pe_bm PySem.F.plainAttrs_list PySem.F.slot_list_append PySem.F.type_list_append mt_append (pv 2) (pa_cons (pe_ix ix_tup (pv 4) pe_int (fun _ _ => rfl)) pa_nil)))
        (pss_one (ps_for PassesOwn.never rfl (pi_zipA (by rfl) mZ (pa_cons (pe_slice sl_tup (pv 4) (po_some pe_int) po_none) (pa_cons (pe_dget (by show A.units + 3 + 1 < cLine; omega) (pv 1) (pe_ix ix_tup (pv 4) pe_int (fun _ _ => rfl)) (fun _ _ => rfl)) pa_nil)))
          (pg_tup rfl (pgs_cons (pg_name (i := 5) scBw.nd rfl (Or.inl rfl)) (pgs_cons (pg_name (i := 6) scBw.nd rfl (Or.inl rfl)) pgs_nil)))
          (pss_one (ps_expr (pe_bm PySem.F.plainAttrs_list PySem.F.slot_list_extend PySem.F.type_list_extend mt_extend (pv 2) (pa_cons (pe_call GP hr rfl gP kP bP .nil pass0 (pa_cons (pv 5) (pa_cons (pv 6) (pa_cons (pv 1) pa_nil)))) pa_nil)))))))))
      (pss_one (ps_ret (pv 2)))), ?_⟩
    refine ⟨Nat.zero_le _, fun L nL => ?_⟩
    have s0 := same_new (o := .lst []) nL
    cases tv with
    | @tup b xs _ h tr =>
    have xl := tr.len
    refine ⟨_, rfl, b, xs, rfl, sqt_same s0 h, for_it (walk_enumT (K := K) (a := b) (xs := xs)) (fun i σ H2 => ∃ (v3 v4 v5 v6 : Option V) (ws : List Str), σ = [some (.ref b), some (.ref q), some (.ref L), v3, v4, v5, v6] ∧ Same H H2 ∧ H2 L = some (.lst (ws.map V.str)) ∧ ws = blockW d (ts.take i) ∧ ws.length ≤ 10 * metD d (ts.take i) ∧ ∀ w ∈ ws, w.length ≤ 20)
      ⟨none, none, none, none, [], rfl, s0, upd_same, (by cases d <;> rfl), Nat.zero_le _, fun _ hw => (by cases hw)⟩ (fun i σ H2 _ ⟨_, _, _, _, _, _, s2, _⟩ => sqt_same s2 h) ?_ ?_⟩
    · rintro i y σ H2 H3 hi ⟨v3, v4, v5, v6, ws, rfl, s2, e2, ew, l2, w2⟩ ⟨T, xi, y', rfl, nT, rfl, q1, q2⟩
      obtain rfl : V.int (i : Nat) = xi := Option.some.inj q1
      have q2 : xs[i]? = some y' := q2
      have sT := same_new (o := .tup [.int (i : Nat), y']) nT
      obtain ⟨t, q3, _⟩ := tr.get q2
      have getY : ∀ {H' : Hp}, Same H H' → TrAt K H' y' t := fun {H'} s' => by
        obtain ⟨t', q4, ty⟩ := (tr.same s').get q2
        obtain rfl : t = t' := Option.some.inj (q3.symm.trans q4)
        exact ty
      have tm : t ∈ ts := List.mem_of_getElem? q3
      -- the depth
      cases d with
      | zero =>
        have ok : ts = [] := ok
        rw [ok] at tm
        cases tm
      | succ d =>
      obtain ⟨hf, hb⟩ := ok t tm
      obtain ⟨x, rest, ks, rfl, ek, ef⟩ : ∃ x rest ks, t = .tup (.str x :: rest) ∧ kindsOf x = some ks ∧ fitsT rest ks = true := by
        unfold formT at hf
        split at hf
        · rename_i x rest _
          cases ek : kindsOf x with
          | none => rw [ek] at hf; cases hf
          | some ks => rw [ek] at hf; exact ⟨x, rest, ks, rfl, ek, hf⟩
        · cases hf
      have rl : rest.length = ks.length := by
        unfold fitsT at ef
        exact of_decide_eq_true (Bool.and_eq_true_iff.mp ef).1
      have kf := kinds_few ek
      have one : oneD d (.tup (.str x :: rest)) = 1 + (((rest.filter isTup).map tupTs).map (metD d)).sum := rfl
      have cs := cnt_sum d rest
      have st := sum_take (oneD d) ts i _ q3
      have sl := sum_take_le (oneD d) ts (i + 1)
      rw [met_one] at l2 md
      have ty := getY (fun _ _ e => e)
      cases ty with
      | @tup yb ys _ hy ty =>
      cases ty with
      | @cons y0 yr _ _ h0 r0 =>
      cases h0 with
      | str _ hx =>
      have yl := r0.len
      -- the loop's head
      refine ⟨T, _, rfl, SqT.of upd_same, rfl, _, _, rfl, _, _, rfl, rfl, ?_⟩
      have s3 := s2.trans sT
      have e3 := sT _ _ e2
      generalize upd H2 T (.tup [.int (i : Nat), .ref yb]) = H3 at s3 e3 ⊢
      clear sT
      have app : ∀ {H' : Hp} {us : List V}, Same H H' → Same H (upd H' L (.lst us)) := fun {H' us} s' b o e => by
        rw [upd_ne (ne_of_none e nL)]
        exact s' b o e
      -- the ";"
      refine ⟨fun σ H4 => ∃ ws' : List Str, σ = [some (.ref b), some (.ref q), some (.ref L), some (.int (i : Nat)), some (.ref yb), v5, v6] ∧ Same H H4 ∧ H4 L = some (.lst (ws'.map V.str)) ∧ ws' = ws ++ (if i = 0 then [] else [(";" : Str)]) ∧ ws'.length ≤ ws.length + 1 ∧ ∀ w ∈ ws', w.length ≤ 20, ?_, ?_⟩
      · refine ⟨_, rfl, _, _, rfl, rfl, _, rfl, ?_⟩
        refine ite2 (fun hgt => ?_) (fun hgt => ?_)
        · refine ⟨_, rfl, .inl ⟨rfl, _, SqL.of e3⟩, L, _, _, rfl, rfl, e3, (by (have big : sizeLine = 16777216 := sizeLine_eq; simp only [List.length_cons, List.length_nil, List.length_append, List.length_map, List.length_singleton]; omega)), ws ++ [(";" : Str)], rfl, app s3, ?_, (by rw [if_neg (fun z => by subst z; simp at hgt)]), ?_, snoc20 w2 (by decide)⟩
          · rw [upd_same, List.map_append]
            rfl
          · rw [List.length_append, List.length_cons, List.length_nil]
            exact Nat.le_refl _
        · exact ⟨ws, rfl, s3, e3, (by rw [if_pos (by simp at hgt; omega), List.append_nil]), Nat.le_succ _, w2⟩
      rintro σ H4 ⟨ws', rfl, s4, e4, ew4, l4, w4⟩
      -- the word
      refine ⟨fun σ H5 => ∃ ws' : List Str, σ = [some (.ref b), some (.ref q), some (.ref L), some (.int (i : Nat)), some (.ref yb), v5, v6] ∧ Same H H5 ∧ H5 L = some (.lst (ws'.map V.str)) ∧ ws' = ws ++ (if i = 0 then [] else [(";" : Str)]) ++ [x] ∧ ws'.length ≤ ws.length + 2 ∧ ∀ w ∈ ws', w.length ≤ 20, ?_, ?_⟩
      · refine ⟨_, rfl, .inl ⟨rfl, _, SqL.of e4⟩, _, rfl, yb, _, 0, _, rfl, rfl, sqt_same s4 hy, at_of (j := 0) rfl rfl, L, _, _, rfl, rfl, e4, (by (have big : sizeLine = 16777216 := sizeLine_eq; simp only [List.length_cons, List.length_nil, List.length_append, List.length_map, List.length_singleton]; omega)), ws' ++ [x], rfl, app s4, ?_, (by rw [ew4]), ?_, snoc20 w4 (word_few ek)⟩
        · rw [upd_same, List.map_append]
          rfl
        · rw [List.length_append, List.length_cons, List.length_nil]
          omega
      rintro σ H5 ⟨ws5, rfl, s5, e5, ew5, l5, w5⟩
      clear e3 e4 s3 s4 l4 w4 w2 e2 s2
      -- the parts
      obtain ⟨kvs, ev, at_⟩ := fm
      obtain ⟨kt, vk, sk⟩ := at_ x ks ek
      have fm' : FormsAt K H q := ⟨kvs, ev, at_⟩
      refine ⟨_, rfl, 1, rfl, yb, _, rfl, sqt_same s5 hy, (by rintro ⟨e, _⟩; simp [HT.sIx] at e), fun Z nZ => ?_⟩
      rw [cut1]
      have sZ := same_new (o := .tup yr) nZ
      have zL : Z ≠ L := fun e => by rw [e, e5] at nZ; cases nZ
      refine ⟨_, rfl, _, rfl, yb, _, 0, _, rfl, rfl, sqt_same (s5.trans sZ) hy, at_of (j := 0) rfl rfl, q, .ref kt, rfl, vk ▸ DGet.k (k := .inr x) (sZ _ _ (s5 _ _ ev)), ?_⟩
      refine ⟨Z, kt, yr, ks.map V.str, rfl, .inr ⟨SqT.of upd_same, sk _, ?_⟩⟩
      have e6 := sZ _ _ e5
      have s6 := s5.trans sZ
      have z6 : upd H5 Z (.tup yr) Z = some (.tup yr) := upd_same
      generalize upd H5 Z (.tup yr) = H6 at e6 s6 z6 ⊢
      refine for_it (walk_zipT (K := K) (a := Z) (b := kt) (xs := yr) (ys := ks.map V.str) rfl) (fun j σ H7 => ∃ (v5 v6 : Option V) (us : List Str), σ = [some (.ref b), some (.ref q), some (.ref L), some (.int (i : Nat)), some (.ref yb), v5, v6] ∧ Same H H7 ∧ H7 Z = some (.tup yr) ∧ H7 L = some (.lst (us.map V.str)) ∧ us = ws5 ++ ((rest.take j).map (partW (blockW d))).flatten ∧
          us.length ≤ ws5.length + 2 * j + ((rest.take j).map (cntT d)).sum ∧ ∀ w ∈ us, w.length ≤ 20)
        ⟨v5, v6, ws5, rfl, s6, z6, e6, by simp, by simp, w5⟩ (fun j σ H7 _ ⟨_, _, _, _, _, z7, _⟩ => ⟨SqT.of z7, sk _⟩) ?_ ?_
      · rintro j z σ H7 H8 hj ⟨v5, v6, us, rfl, s7, z7, e7, ew7, l7, w7⟩ ⟨U, p', k', rfl, nU, rfl, p1, p2⟩
        have sU := same_new (o := .tup [p', k']) nU
        have s8 := s7.trans sU
        obtain ⟨t', p3, tp⟩ := (r0.same s8).get p1
        have p2 : (ks.map V.str)[j]? = some k' := p2
        rw [List.getElem?_map] at p2
        cases eK : ks[j]? with
        | none => rw [eK] at p2; cases p2
        | some kk =>
        rw [eK] at p2
        obtain rfl : V.str kk = k' := Option.some.inj p2
        have jl : j < ks.length := (List.getElem?_eq_some_iff.mp eK).1
        have ez : (rest.zip ks)[j]? = some (t', kk) := List.getElem?_zip_eq_some.mpr ⟨p3, eK⟩
        have ep : partT t' kk = true := by
          unfold fitsT at ef
          exact List.all_eq_true.mp (Bool.and_eq_true_iff.mp ef).2 _ (List.mem_of_getElem? ez)
        have tmem : t' ∈ rest := List.mem_of_getElem? p3
        have okt : ∀ ts', t' = .tup ts' → okD d ts' := fun ts' e => by
          subst e
          refine hb ts' ?_
          show ts' ∈ (rest.filter isTup).map tupTs
          exact List.mem_map.mpr ⟨.tup ts', List.mem_filter.mpr ⟨tmem, rfl⟩, rfl⟩
        have cm := mem_sum (cntT d) tmem
        have stj := sum_take (cntT d) rest j _ p3
        have slj := sum_take_le (cntT d) rest (j + 1)
        refine ⟨U, _, rfl, SqT.of upd_same, rfl, _, _, rfl, _, _, rfl, rfl, ?_⟩
        refine ⟨_, rfl, .inl ⟨rfl, _, SqL.of (sU _ _ e7)⟩, _, rfl, _, rfl, _, rfl, p', kk, q, t', rfl, tp, fm'.same s8, ep, fun e => no_args ek (e ▸ List.mem_of_getElem? eK), fun e => no_value ek (e ▸ List.mem_of_getElem? eK), okt, by omega, fun L2 zs H9 s9 eL2 ez9 lz wz => ?_⟩
        refine ⟨L, L2, _, _, rfl, rfl, s9 _ _ (sU _ _ e7), eL2, (by (have big : sizeLine = 16777216 := sizeLine_eq; simp only [List.length_cons, List.length_nil, List.length_append, List.length_map, List.length_singleton]; omega)), _, _, us ++ zs, rfl, app (s8.trans s9), ?_, ?_, (by rw [ew7, ez9, List.take_add_one, p3, List.map_append, List.flatten_append, List.append_assoc]; simp), ?_, ?_⟩
        · rw [upd_ne zL]
          exact s9 _ _ (sU _ _ z7)
        · rw [upd_same, List.map_append]
        · rw [List.length_append]
          omega
        · intro y hy
          rcases List.mem_append.mp hy with hy | hy
          · exact w7 y hy
          · exact wz y hy
      · rintro σ H7 ⟨v5, v6, us, rfl, s7, z7, e7, ew7, l7, w7⟩
        refine ⟨_, _, _, _, us, rfl, s7, e7, ?_, ?_, w7⟩
        · have et : rest.take (min yr.length (ks.map V.str).length) = rest := List.take_of_length_le (by rw [List.length_map]; omega)
          rw [et] at ew7
          have il : i < ts.length := (List.getElem?_eq_some_iff.mp q3).1
          have e : blockW (d + 1) (ts.take (i + 1)) = blockW (d + 1) (ts.take i) ++ (if i = 0 then stW (blockW d) (.tup (.str x :: rest)) else (";" : Str) :: stW (blockW d) (.tup (.str x :: rest))) := by
            show semi ((ts.take (i + 1)).map _) = semi ((ts.take i).map _) ++ _
            rw [List.take_add_one, q3, List.map_append]
            show semi (_ ++ [stW (blockW d) (.tup (.str x :: rest))]) = _
            rw [semi_snoc]
            congr 1
            by_cases hz : i = 0
            · subst hz
              rw [if_pos rfl, if_pos (by simp)]
            · rw [if_neg hz, if_neg]
              intro q
              have ql := congrArg List.length q
              rw [List.length_map, List.length_take, List.length_nil] at ql
              omega
          rw [e, ew7, ew5, ew]
          by_cases hz : i = 0
          · rw [if_pos hz, if_pos hz, List.append_nil, List.append_assoc]
            rfl
          · rw [if_neg hz, if_neg hz, List.append_assoc, List.append_assoc]
            rfl
        have et : rest.take (min yr.length (ks.map V.str).length) = rest := List.take_of_length_le (by rw [List.length_map]; omega)
        rw [et] at l7
        rw [met_one]
        have : min yr.length (ks.map V.str).length ≤ 4 := by rw [List.length_map]; omega
        omega
    · rintro σ H2 ⟨v3, v4, v5, v6, ws, rfl, s2, e2, ew, l2, w2⟩
      rw [xl, List.take_length] at l2 ew
      exact ⟨_, rfl, k L ws H2 s2 e2 ew l2 w2⟩
end
end BK

set_option Elab.async false
set_option maxRecDepth 100000
set_option maxHeartbeats 4000000
set_option linter.unusedVariables false
/-! words_of_piece, book_text -/
namespace BK
open PySem PySem.Spec PyProof.Rows L2 RZ ET
abbrev sPiece : Stmt := top 53
abbrev sText : Stmt := top 54
abbrev nPiece : List Str := ["piece", "name", "params", "block", "words", "slot", "kind"]
abbrev nText : List Str := ["book", "variables", "pieces", "words", "piece"]
theorem scPiece : FnScope nPiece ["piece"] (defScope sPiece) := ⟨rfl, rfl, rfl, by decide +kernel, rfl, by decide +kernel, by decide +kernel⟩
theorem scText : FnScope nText ["book"] (defScope sText) := ⟨rfl, rfl, rfl, by decide +kernel, rfl, by decide +kernel, by decide +kernel⟩
def spPiece (K : PySem.W.Frag) : Sp := fun vs H Q _ => ∃ v t, vs = [v] ∧ TrAt K H v t ∧ tripleT t = true ∧ okD 5 (blockOf t) ∧ metD 5 (blockOf t) ≤ 16 ∧
  ∀ (L : Addr) (ws : List Str) (H' : Hp), Same H H' → H' L = some (.lst (ws.map V.str)) → ws = pieceW t → ws.length ≤ 170 → (∀ w ∈ ws, w.length ≤ 20) → Q (.ref L) H'
def spText (K : PySem.W.Frag) (CB : Addr) : Sp := fun vs H Q E => ∃ v t, vs = [v] ∧ TrAt K H v t ∧ (faultT t = none → ∀ H', Same H H' → Q (.str (Txt.join " " (bookW t))) H') ∧
  ∀ p, faultT t = some p → ∀ pv d H', Same H H' → H d = none → H' d = some (.xd [("place", pv)]) → TrAt K H' pv (placeT p) → E (.ref CB) (some d) H'
theorem param_pair2 {t : Tr} (h : paramT t = true) (hn : nameT (firstT t) = true) : ∃ n k, t = .tup [.str n, .str k] ∧ n.length ≤ 20 ∧ k.length ≤ 20 := by
  unfold paramT at h
  split at h
  · rename_i a k
    have hn : nameT a = true := hn
    obtain ⟨n, rfl⟩ := name_str hn
    cases k with
    | str k =>
      have h : (decide (k = "context") || decide (k = "token")) = true := h
      refine ⟨n, k, rfl, name_short hn, ?_⟩
      rw [Bool.or_eq_true, decide_eq_true_eq, decide_eq_true_eq] at h
      rcases h with rfl | rfl <;> decide
    | _ => exact Bool.noConfusion (show false = true from h)
  · cases h
structure PartsC (es : Array DictEntry) : Prop where
  rf : refsE es.toList = true
  nd : (es.toList.map keyE).Nodup
  ln : es.toList.length ≤ 1000
section
variable {P : Program} {w : World} {K : PySem.W.Frag} {mg : Str → Option Value} {base : Heap}
theorem ok_words {fB fP : Addr} {fdB fdP : FuncData} (FB : Fun K "words_of_block" "words_of_block" sBw fB fdB) (FP : Fun K "words_of_part" "words_of_part" sPw fP fdP) (mE : mg "enumerate" = none) (mZ : mg "zip" = none) (mL : mg "list" = none) (mS : mg "str" = none)
    (bP : Binds K fdP ["part", "kind", "forms"] []) (gP : mg "words_of_part" = some (.ref fP)) (kP : PySem.W.keepIn K (.ref fP) = true)
    (bB : Binds K fdB ["block", "forms"] []) (gB : mg "words_of_block" = some (.ref fB)) (kB : PySem.W.keepIn K (.ref fB) = true) :
    ∀ d, FnOk P w K mg base CX0 (2 * d + 1) fB fdB ["block", "forms"] (spBw K d) ∧ FnOk P w K mg base CX0 (2 * d + 1 + 1) fP fdP ["part", "kind", "forms"] (spPw K d)
  | 0 =>
    have hB := ok_bw_step (d := 0) FB mE mZ (fn_false (k := 0) fun _ => trivial) bP gP kP
    ⟨hB, ok_pw FP mL mS hB bB gB kB⟩
  | d + 1 =>
    have hB := ok_bw_step (d := d + 1) FB mE mZ (ok_words FB FP mE mZ mL mS bP gP kP bB gB kB d).2 bP gP kP
    ⟨hB, ok_pw FP mL mS hB bB gB kB⟩
theorem ok_piece {f fB p : Addr} {fd fdB : FuncData} {es : Array DictEntry} {n : Nat} (F : Fun K "words_of_piece" "words_of_piece" sPiece f fd) (D : PartsD K mg w p es n) (C : PartsC es) (mD : mg "dict" = none)
    (GB : FnOk P w K mg base CX0 11 fB fdB ["block", "forms"] (spBw K 5)) (bB : Binds K fdB ["block", "forms"] []) (gB : mg "words_of_block" = some (.ref fB)) (kB : PySem.W.keepIn K (.ref fB) = true) :
    FnOk P w K mg base CX0 12 f fd ["piece"] (spPiece K) := by
  refine F.ok scPiece (fun vs H Q E h => ?_) (fun cdv A outer s H vs Q E hr h => ?_)
  · obtain ⟨v, t, rfl, _⟩ := h
    rfl
  · obtain ⟨v, t, rfl, tv, tp, ok, md, k⟩ := h
    refine ⟨_, pss_cons (ps_asg (pv 0) (pg_tup rfl (pgs_cons (pg_name (i := 1) scPiece.nd rfl (Or.inl rfl)) (pgs_cons (pg_name (i := 2) scPiece.nd rfl (Or.inl rfl)) (pgs_cons (pg_name (i := 3) scPiece.nd rfl (Or.inl rfl)) pgs_nil)))))
      (pss_cons (ps_set (i := 4) scPiece.nd rfl (Or.inl rfl) (pe_lst (pa_cons pe_str (pa_cons (pv 1) pa_nil))))
      (pss_cons (ps_for PassesOwn.never rfl (pi_tup (pv 2)) (pg_tup rfl (pgs_cons (pg_name (i := 5) scPiece.nd rfl (Or.inl rfl)) (pgs_cons (pg_name (i := 6) scPiece.nd rfl (Or.inl rfl)) pgs_nil)))
        (pss_one (ps_expr (pe_bm PySem.F.plainAttrs_list PySem.F.slot_list_extend PySem.F.type_list_extend mt_extend (pv 4) (pa_cons (pe_lst (pa_cons (pv 5) (pa_cons (pv 6) pa_nil))) pa_nil)))))
      (pss_one (ps_ret (pe_op op_cat (pe_op op_cat (pe_op op_cat (pv 4) (pe_lst (pa_cons pe_str pa_nil))) (pe_call GB hr rfl gB kB bB .nil pass0 (pa_cons (pv 3) (pa_cons (pe_callTy call_dictKD (by rfl) mD (by decide +kernel) (pa_cons (pe_glob (v := .ref p) rfl D.g rfl) pa_nil)) pa_nil)))) (pe_lst (pa_cons pe_str pa_nil))))))), ?_⟩
    obtain ⟨nm, pt, bts, rfl, hp⟩ := triple_shape tp
    have nn : nameS nm = true := by
      have tp : (nameS nm && paramsT pt && true) = true := tp
      rw [Bool.and_eq_true, Bool.and_eq_true] at tp
      exact tp.1.1
    have ok : okD 5 bts := ok
    have md : metD 5 bts ≤ 16 := md
    obtain ⟨ts, rfl⟩ : ∃ ts, pt = .tup ts := by
      cases pt with
      | tup ts => exact ⟨ts, rfl⟩
      | _ => exact Bool.noConfusion (show false = true from hp)
    obtain ⟨l2, hpar, na, _⟩ := params_split hp
    cases tv with
    | @tup b ys _ hb tb =>
    cases tb with
    | @cons y0 _ _ _ h0 tb =>
    cases tb with
    | @cons y1 _ _ _ h1 tb =>
    cases tb with
    | @cons y2 _ _ _ h2 tb =>
    cases tb with
    | nil =>
    cases h0 with
    | str _ hx =>
    cases h1 with
    | @tup pa xs _ hpa tr =>
    have xl := tr.len
    refine ⟨_, rfl, b, _, rfl, hb, rfl, _, _, rfl, _, _, rfl, _, _, rfl, rfl, ?_⟩
    refine ⟨_, rfl, (by show 2 ≤ sizeLine; decide), fun L nL => ?_⟩
    have s0 := same_new (o := .lst [.str "piece", .str nm]) nL
    refine ⟨_, rfl, pa, rfl, ⟨xs, sqt_same s0 hpa⟩, for_it (walk_tup (K := K) (a := pa) (xs := xs)) (fun i σ H2 => ∃ (v5 v6 : Option V) (ws : List Str), σ = [some (.ref b), some (.str nm), some (.ref pa), some y2, some (.ref L), v5, v6] ∧ Same H H2 ∧ H2 L = some (.lst (ws.map V.str)) ∧ ws = [("piece" : Str), nm] ++ ((ts.take i).map paramW).flatten ∧ ws.length ≤ 2 + 2 * i ∧ ∀ w ∈ ws, w.length ≤ 20)
      ⟨none, none, ["piece", nm], rfl, s0, upd_same, rfl, by show 2 ≤ 2 + 0; omega, fun w hw => ?_⟩ (fun i σ H2 _ ⟨_, _, _, _, s2, _⟩ => sqt_same s2 hpa) ?_ ?_⟩
    · rcases List.mem_cons.mp hw with rfl | hw
      · decide
      · rw [List.mem_singleton.mp hw]; exact name_short nn
    · rintro i y σ H2 H3 hi ⟨v5, v6, ws, rfl, s2, e2, ew, wl, w2⟩ ⟨rfl, hy⟩
      obtain ⟨t, q3, ty⟩ := (tr.same s2).get hy
      have tm : t ∈ ts := List.mem_of_getElem? q3
      obtain ⟨n', k', rfl, n20, k20⟩ := param_pair2 (List.all_eq_true.mp hpar t tm) (List.all_eq_true.mp na _ (List.mem_map.mpr ⟨t, tm, rfl⟩))
      have il : i < ts.length := (List.getElem?_eq_some_iff.mp q3).1
      cases ty with
      | @tup c zs _ hc tz =>
      cases tz with
      | @cons z0 _ _ _ g0 tz =>
      cases tz with
      | @cons z1 _ _ _ g1 tz =>
      cases tz with
      | nil =>
      cases g0 with
      | str _ _ =>
      cases g1 with
      | str _ _ =>
      refine ⟨c, _, rfl, hc, rfl, _, _, rfl, _, _, rfl, rfl, ?_⟩
      refine ⟨_, rfl, .inl ⟨rfl, _, SqL.of e2⟩, _, rfl, _, rfl, (by show 2 ≤ sizeLine; decide), fun r nr => ?_⟩
      have sr := same_new (o := .lst [.str n', .str k']) nr
      refine ⟨L, r, _, _, rfl, rfl, sr _ _ e2, upd_same, (by (have big : sizeLine = 16777216 := sizeLine_eq; simp only [List.length_cons, List.length_nil, List.length_append, List.length_map, List.length_singleton]; omega)), _, _, ws ++ [n', k'], rfl, fun b o e => ?_, ?_, (by rw [ew, List.take_add_one, q3, List.map_append, List.flatten_append, List.append_assoc]; rfl), ?_, ?_⟩
      · rw [upd_ne (ne_of_none e nL)]
        exact sr _ _ (s2 b o e)
      · rw [upd_same, List.map_append]
        rfl
      · rw [List.length_append, List.length_cons, List.length_cons, List.length_nil]
        omega
      · intro w hw
        rcases List.mem_append.mp hw with hw | hw
        · exact w2 w hw
        · rcases List.mem_cons.mp hw with rfl | hw
          · exact n20
          · rw [List.mem_singleton.mp hw]; exact k20
    · rintro σ H2 ⟨v5, v6, ws, rfl, s2, e2, ew, wl, w2⟩
      rw [List.take_of_length_le (by omega)] at ew
      refine ⟨_, rfl, (by show 1 ≤ sizeLine; decide), fun p1 n1 => ?_⟩
      have s3 := same_new (o := .lst [.str "{"]) n1
      refine ⟨L, p1, _, _, rfl, rfl, s3 _ _ e2, upd_same, (by (have big : sizeLine = 16777216 := sizeLine_eq; simp only [List.length_cons, List.length_nil, List.length_append, List.length_map, List.length_singleton]; omega)), fun p2 n2 => ?_⟩
      have s4 := same_new (o := .lst (ws.map V.str ++ [.str "{"])) n2
      refine ⟨_, rfl, p, es, n, rfl, D.d, C.rf, C.nd, C.ln, fun q kvs nq at_ => ?_⟩
      have s5 := same_new (o := .dK kvs) nq
      have sm := (s2.trans s3).trans (s4.trans s5)
      refine ⟨y2, q, bts, rfl, h2.same sm, ⟨kvs, upd_same, fun x ks e => ?_⟩, ok, by omega, fun L2 us H3 s6 eL eu ul u2 => ?_⟩
      · obtain ⟨t, nt, st⟩ := D.at_ x ks e
        exact ⟨t, at_ x t nt, st⟩
      refine ⟨p2, L2, _, _, rfl, rfl, s6 _ _ (s5 _ _ upd_same), eL, (by (have big : sizeLine = 16777216 := sizeLine_eq; simp only [List.length_cons, List.length_nil, List.length_append, List.length_map, List.length_singleton]; omega)), fun p3 n3 => ?_⟩
      have s7 := same_new (o := .lst (ws.map V.str ++ [.str "{"] ++ us.map V.str)) n3
      refine ⟨(by show 1 ≤ sizeLine; decide), fun p4 n4 => ?_⟩
      have s8 := same_new (o := .lst [.str "}"]) n4
      refine ⟨p3, p4, _, _, rfl, rfl, s8 _ _ upd_same, upd_same, (by (have big : sizeLine = 16777216 := sizeLine_eq; simp only [List.length_cons, List.length_nil, List.length_append, List.length_map, List.length_singleton]; omega)), fun p5 n5 => ?_⟩
      refine k p5 (((ws ++ [("{" : Str)]) ++ us) ++ [("}" : Str)]) _ ((sm.trans s6).trans ((s7.trans s8).trans (same_new n5))) ?_ (by rw [ew, eu]; rfl) ?_ ?_
      · rw [upd_same, List.map_append, List.map_append, List.map_append]
        rfl
      · rw [List.length_append, List.length_append, List.length_append, List.length_singleton, List.length_singleton]
        omega
      · exact snoc20 (fun w hw => by
          rcases List.mem_append.mp hw with hw | hw
          · exact snoc20 w2 (by decide) w hw
          · exact u2 w hw) (by decide)
theorem sum20 : ∀ {ws : List Str}, (∀ w ∈ ws, w.length ≤ 20) → (ws.map (·.length)).sum ≤ 20 * ws.length
  | [], _ => Nat.le_refl _
  | w :: r, h => by
    rw [List.map_cons, List.sum_cons, List.length_cons]
    have := sum20 (ws := r) fun x hx => h x (List.mem_cons_of_mem _ hx)
    have := h w List.mem_cons_self
    omega
theorem texts_short : ∀ {vs : List Tr}, vs.all nameT = true → ∀ w ∈ texts vs, w.length ≤ 20
  | [], _, w, hw => by cases hw
  | t :: r, h, w, hw => by
    rw [List.all_cons, Bool.and_eq_true] at h
    obtain ⟨s, rfl⟩ := name_str h.1
    have e : texts (.str s :: r) = s :: texts r := rfl
    rw [e] at hw
    rcases List.mem_cons.mp hw with rfl | hw
    · exact name_short h.1
    · exact texts_short h.2 w hw
theorem ok_text {CB f fN fW : Addr} {fd fdN fdW : FuncData} (F : Fun K "book_text" "book_text" sText f fd)
    (GN : FnOk P w K mg base (L2.CX P w) 17 fN fdN ["thing"] (spNeed K CB)) (bN : Binds K fdN ["thing"] []) (gN : mg "need_book" = some (.ref fN)) (kN : PySem.W.keepIn K (.ref fN) = true)
    (GW : FnOk P w K mg base CX0 12 fW fdW ["piece"] (spPiece K)) (bW : Binds K fdW ["piece"] []) (gW : mg "words_of_piece" = some (.ref fW)) (kW : PySem.W.keepIn K (.ref fW) = true) :
    FnOk P w K mg base (L2.CX P w) 18 f fd ["book"] (spText K CB) := by
  refine F.okX scText (fun vs H Q E h => ?_) (fun cdv A outer s H vs Q E hr h => ?_)
  · obtain ⟨v, t, rfl, _⟩ := h
    rfl
  · obtain ⟨v, t, rfl, ht, k1, k2⟩ := h
    have hr12 : Room 12 _ := hr.mono (by decide)
    refine ⟨_, pss_cons (ps_asg (pe_call GN hr rfl gN kN bN .nil (E := E) (passes_call (takes_of rfl rfl rfl rfl) (fun _ _ _ _ h => h)) (pa_cons (pv 0) pa_nil)) (pg_tup rfl (pgs_cons (pg_name (i := 1) scText.nd rfl (Or.inl rfl)) (pgs_cons (pg_name (i := 2) scText.nd rfl (Or.inl rfl)) pgs_nil))))
      (pss_cons (ps_set (i := 3) scText.nd rfl (Or.inl rfl) (pe_lst (pa_cons pe_str (StX.pa_star (pv 1) pa_nil))))
      (pss_cons (ps_for (passes_of rfl) rfl (pi_tup (pv 2)) (pg_name (i := 4) scText.nd rfl (Or.inl rfl))
        (C8.pss_cut (ps_expr (pe_bm PySem.F.plainAttrs_list PySem.F.slot_list_append PySem.F.type_list_append mt_append (pv 3) (pa_cons pe_str pa_nil)))
        (pss_one (ps_expr (pe_bm PySem.F.plainAttrs_list PySem.F.slot_list_extend PySem.F.type_list_extend mt_extend (pv 3) (pa_cons (pe_call GW hr12 rfl gW kW bW .nil pass0 (pa_cons (pv 4) pa_nil)) pa_nil))))))
      (pss_one (ps_ret (pe_join pe_str (pv 3)))))), ?_⟩
    refine ⟨_, rfl, v, t, rfl, ht, fun e H1 s1 => ?_, k2⟩
    obtain ⟨vs, ps, rfl, l6, l3, nv, rp⟩ := book_right e
    have ht1 := ht.same s1
    cases ht1 with
    | @tup b ys _ hb tb =>
    cases tb with
    | @cons y0 _ _ _ h0 tb =>
    cases tb with
    | @cons y1 _ _ _ h1 tb =>
    cases tb with
    | nil =>
    cases h0 with
    | @tup va xs _ hva trv =>
    cases h1 with
    | @tup pa zs _ hpa trp =>
    have zl := trp.len
    have xe : xs = (texts vs).map V.str := names_texts trv nv
    have tl : (texts vs).length ≤ 3 := by
      have h1 := trv.len
      have h2 := congrArg List.length xe
      rw [List.length_map] at h2
      omega
    subst xe
    refine ⟨b, _, rfl, hb, rfl, _, _, rfl, _, _, rfl, rfl, ?_⟩
    refine ⟨_, rfl, va, _, rfl, .inl hva, ?_⟩
    refine ⟨(by (have big : sizeLine = 16777216 := sizeLine_eq; simp only [List.length_cons, List.length_nil, List.length_append, List.length_map, List.length_singleton]; omega)), fun L nL => ?_⟩
    have s0 := same_new (o := .lst (.str "vars" :: ((texts vs).map V.str ++ []))) nL
    refine ⟨_, rfl, pa, rfl, ⟨zs, sqt_same s0 hpa⟩, for_it (walk_tup (K := K) (a := pa) (xs := zs)) (fun i σ H2 => ∃ (v4 : Option V) (ws : List Str), σ = [some (.ref b), some (.ref va), some (.ref pa), some (.ref L), v4] ∧ Same H1 H2 ∧ H2 L = some (.lst (ws.map V.str)) ∧ ws = (("vars" : Str) :: texts vs) ++ ((ps.take i).map fun p => (";" : Str) :: pieceW p).flatten ∧ ws.length ≤ 4 + 171 * i ∧ ∀ w ∈ ws, w.length ≤ 20)
      ⟨none, "vars" :: texts vs, rfl, s0, ?_, (by simp), ?_, fun w hw => ?_⟩ (fun i σ H2 _ ⟨_, _, _, s2, _⟩ => sqt_same s2 hpa) ?_ ?_⟩
    · rw [upd_same, List.append_nil]
      rfl
    · rw [List.length_cons]
      omega
    · rcases List.mem_cons.mp hw with rfl | hw
      · decide
      · exact texts_short nv w hw
    · rintro i y σ H2 H3 hi ⟨v4, ws, rfl, s2, e2, ew, wl, w2⟩ ⟨rfl, hy⟩
      obtain ⟨t, q3, ty⟩ := (trp.same s2).get hy
      have tm : t ∈ ps := List.mem_of_getElem? q3
      obtain ⟨r1, r2, r3⟩ := rp t tm
      have il : i < ps.length := (List.getElem?_eq_some_iff.mp q3).1
      have sA : ∀ us, Same H1 (upd H3 L (.lst us)) := fun us b o e => by
        rw [upd_ne (ne_of_none e nL)]
        exact s2 b o e
      refine ⟨fun σ H4 => σ = [some (.ref b), some (.ref va), some (.ref pa), some (.ref L), some y] ∧ Same H1 H4 ∧ TrAt K H4 y t ∧ H4 L = some (.lst ((ws ++ [(";" : Str)]).map V.str)), ?_, ?_⟩
      · refine ⟨_, rfl, .inl ⟨rfl, _, SqL.of e2⟩, L, _, _, rfl, rfl, e2, (by (have big : sizeLine = 16777216 := sizeLine_eq; simp only [List.length_cons, List.length_nil, List.length_append, List.length_map, List.length_singleton]; omega)), rfl, fun b o e => ?_, ?_, ?_⟩
        · rw [upd_ne (ne_of_none e nL)]
          exact s2 b o e
        · obtain ⟨t', q4, ty'⟩ := (trp.same (sA (ws.map V.str ++ [.str ";"]))).get hy
          obtain rfl : t = t' := Option.some.inj (q3.symm.trans q4)
          exact ty'
        · rw [upd_same, List.map_append]
          rfl
      rintro σ H4 ⟨rfl, s4, ty4, e4⟩
      refine ⟨_, rfl, .inl ⟨rfl, _, SqL.of e4⟩, _, rfl, y, t, rfl, ty4, r1, r2, r3, fun L2 us H5 s5 eL eu ul u2 => ?_⟩
      refine ⟨L, L2, _, _, rfl, rfl, s5 _ _ e4, eL, (by (have big : sizeLine = 16777216 := sizeLine_eq; simp only [List.length_cons, List.length_nil, List.length_append, List.length_map, List.length_singleton]; omega)), _, ws ++ [(";" : Str)] ++ us, rfl, fun b o e => ?_, ?_, (by rw [ew, eu, List.take_add_one, q3, List.map_append, List.flatten_append, List.append_assoc, List.append_assoc]; simp), ?_, ?_⟩
      · rw [upd_ne (ne_of_none e nL)]
        exact s5 _ _ (s4 b o e)
      · rw [upd_same, List.map_append (l₂ := us)]
      · rw [List.length_append, List.length_append, List.length_singleton]
        omega
      · intro w hw
        rcases List.mem_append.mp hw with hw | hw
        · exact snoc20 w2 (by decide) w hw
        · exact u2 w hw
    · rintro σ H2 ⟨v4, ws, rfl, s2, e2, ew, wl, w2⟩
      rw [List.take_of_length_le (by omega)] at ew
      have eB : ws = bookW (.tup [.tup vs, .tup ps]) := by rw [ew]; rfl
      rw [← eB] at k1
      have := sum20 w2
      refine ⟨⟨_, rfl⟩, _, rfl, " ", L, ws, rfl, rfl, .inl (SqL.of e2), ?_, k1 e H2 (s1.trans s2)⟩
      have : (" " : Str).length = 1 := by decide
      rw [this]
      omega
end
end BK

set_option Elab.async false
set_option linter.all false
set_option maxRecDepth 100000
set_option maxHeartbeats 2000000
/-! enumerate(text). -/
namespace ES
open PySem PySem.Spec PyProof.Rows L2
theorem meets_enumS (x : Str) (t : Tok) :
    Meets (Builtin.«enumerate.__new__» ⟨[.type "enumerate", .str x t], []⟩) (fun _ R s =>
      R (.ok (.ret (.ref (s.heap.push { cls := .type (strIterType x), data := .fields #[.str x t, .int 0 0] }).objs.size)))
        { s with heap := (s.heap.push { cls := .type (strIterType x), data := .fields #[.str x t, .int 0 0] }).push { cls := .type "enumerate", data := .fields #[.none, .bool false, .ref s.heap.objs.size, rawInt 0, .none, .none] } }) :=
  .of_wp fun prog w A R s h => by
    obtain ⟨hp, g, d, tk, os⟩ := s
    have hsub := sub_enumerate
    have q1 : ∀ {A' : Around} {E : Value → Shared → Prop} {Q : Value → Shared → Prop}, Q (.ref hp.objs.size) ⟨hp.push { cls := .type (strIterType x), data := .fields #[.str x t, .int 0 0] }, g, d, tk, os⟩ → wpAny (model prog w) A' (pyIter (.str x t)) Q E ⟨hp, g, d, tk, os⟩ :=
      fun q => wpAny_pyIter_strU q
    wp_walk using q1
    refine wpAny_stack_any fun st => wpAny_pure ?_
    split
    · rename_i c _ _ _ _ _
      cases (c == Value.type "enumerate")
      · wp_walk using q1
        exact ⟨_, rfl, h⟩
      · wp_walk using q1
        exact ⟨_, rfl, h⟩
    · wp_walk using q1
      exact ⟨_, rfl, h⟩
section
variable {prog : Program} {w : World} {A : Around} {E : Value → Shared → Prop} {s : Shared}
theorem call_enumS {x : Str} {t : Tok} {Q : Value → Shared → Prop}
    (h : ∀ h', IsEnum h' (s.heap.objs.size + 1) s.heap.objs.size 0 .none → h'.IsStrIter s.heap.objs.size (strIterType x) x t 0 → h'.objs.size = s.heap.objs.size + 2 →
      (∀ b o, s.heap.get? b = some o → h'.get? b = some o) → Q (.ref (s.heap.objs.size + 1)) { s with heap := h' }) :
    wpAny (model prog w) A (call (.type "enumerate") [.str x t]) Q E s := by
  refine callType_new F.called_enumerate (by decide) (F.typeCall_enumerate_1 _) (F.newCall_enumerate_1 _) (fun obj => F.args_object_init_2 obj _) F.entry_enumerate_new
    (meets_enumS x t) ?_
  have hz : (s.heap.push { cls := .type (strIterType x), data := .fields #[.str x t, .int 0 0] }).objs.size = s.heap.objs.size + 1 := Heap.size_push ..
  show _ ∧ _
  rw [hz]
  have he : IsEnum ((s.heap.push { cls := .type (strIterType x), data := .fields #[.str x t, .int 0 0] }).push
      { cls := .type "enumerate", data := .fields #[.none, .bool false, .ref s.heap.objs.size, rawInt 0, .none, .none] }) (s.heap.objs.size + 1) s.heap.objs.size 0 .none := by
    have := Heap.get?_push_size (s.heap.push { cls := .type (strIterType x), data := .fields #[.str x t, .int 0 0] })
      (o := { cls := .type "enumerate", data := .fields #[.none, .bool false, .ref s.heap.objs.size, rawInt 0, .none, .none] }) rfl
    rw [hz] at this; exact this
  refine ⟨⟨_, he, rfl⟩, h _ he ⟨_, Heap.get?_push_of_some _ (Heap.get?_push_size _ rfl), rfl, rfl⟩ (by rw [Heap.size_push, hz]) fun b o x => Heap.get?_push_of_some _ (Heap.get?_push_of_some _ x)⟩
end
/-- the signs of x, each in a new pair -/
def IteS (x : Str) : It :=
  ⟨fun i _ => i < x.cps.size, fun i H v H' => ∃ T c, v = .ref T ∧ H T = none ∧ H' = upd H T (.tup [.int (i : Nat), .str ⟨#[c]⟩]) ∧ x.cps[i]? = some c, fun i _ => i = x.cps.size⟩
theorem turn_enumS {P : Program} {w : World} {K : PySem.W.Frag} {elts : List Expr} {kk : Nat} {tpos : Pos} (x : Str) (t : Tok) (e it : Addr) :
    Turn P w K (.Tuple elts kk tpos) (IteS x) [e, it] e (fun i h => (∃ old, IsEnum h e it ((i : Nat) : Int) old) ∧ h.IsStrIter it (strIterType x) x t i ∧ e ≠ it) where
  mem := by simp
  obj := fun i h st b hb => by
    obtain ⟨⟨old, he⟩, ⟨o, ho, hc, hd⟩, _⟩ := st
    have e' : b = e ∨ b = it := by simpa using hb
    rcases e' with z | z
    · rw [z]; exact ⟨_, he, fun v q => nomatch q⟩
    · rw [z]; exact ⟨o, ho, fun v q => by rw [hd] at q; cases q⟩
  keep := fun i h h' st k => let ⟨⟨old, he⟩, ⟨o, ho, r⟩, hne⟩ := st; ⟨⟨old, k e (by simp) _ he⟩, ⟨o, k it (by simp) o ho, r⟩, hne⟩
  item := by
    intro X hP hw hK hc i pins s σ H E I hf st hg
    subst hP hw hK
    obtain ⟨⟨old, he⟩, hit, hne⟩ := st
    have hel : e < s.heap.objs.size := Heap.lt_size he
    have hil : it < s.heap.objs.size := by obtain ⟨_, q, _⟩ := hit; exact Heap.lt_size q
    refine wpAny_pyNext_enum_itemD (Draws.text (I.ok.hd hc |> fun h => (show X.A.in1.handled = none by simpa using h)) it x t) he hit hg hne (by simp; exact hne) fun y h' tk hy ho hst' hT hsz hk => ?_
    obtain ⟨c, u, hcx, rfl⟩ := hy
    refine ⟨_, rfl, wpAny_letOwnedTupleGo_enum (s := { s with heap := h', toks := tk + 1 }) ho fun h'' he' sb => ?_⟩
    have hT2 : h''.get? s.heap.objs.size = some { cls := .type "tuple", data := .seq #[.int i tk, .str ⟨#[c]⟩ u] } := (sb.2 _ (Nat.ne_of_gt hel)).trans hT
    have new : ObjOk X.prog X.w (upd H s.heap.objs.size (.tup [.int (i : Nat), .str ⟨#[c]⟩])) h'' s.heap.objs.size (.tup [.int (i : Nat), .str ⟨#[c]⟩]) :=
      ⟨by show 2 ≤ sizeLine; decide, [.int i tk, .str ⟨#[c]⟩ u], .cons ⟨_, rfl⟩ (.cons ⟨_, rfl⟩ .nil), ⟨_, hT2, rfl, _, rfl⟩⟩
    have I1 : Inv X pins σ (upd H s.heap.objs.size (.tup [.int (i : Nat), .str ⟨#[c]⟩])) { s with heap := h'', toks := tk + 1 } :=
      I.turnedNew (ch := [e, it]) (fun b ob hb q => (sb.2 b (fun z => hb (by simp [z]))).trans (hk b ob (fun z => hb (by simp [z])) (fun z => hb (by simp [z])) q)) hf (Nat.le_refl _) new
    have hst2 : h''.IsStrIter it (strIterType x) x t (i + 1) := by
      obtain ⟨o, q, r⟩ := hst'
      exact ⟨o, (sb.2 it (Ne.symm hne)).trans q, r⟩
    refine ⟨.ref s.heap.objs.size, _, I1, rfl, ⟨_, c, rfl, I.hok.fresh (Nat.le_refl _), rfl, hcx⟩, ⟨⟨.str ⟨#[c]⟩ u, ?_⟩, hst2, hne⟩, fun b hb => ?_⟩
    · have e1 : ((i + 1 : Nat) : Int) = (i : Int) + 1 := by omega
      rw [e1]; exact he'
    · have hb' : b < s.heap.objs.size := by
        have e' : b = e ∨ b = it := by simpa using hb
        rcases e' with z | z
        · rw [z]; exact hel
        · rw [z]; exact hil
      rw [upd_ne (Nat.ne_of_lt hb')]
      exact (hf b hb).1
  done := by
    intro X hP hw hK hc i pins s σ H E I hf st hg
    subst hP hw hK
    obtain ⟨⟨old, he⟩, hit, hne⟩ := st
    obtain ⟨f0, f1, f2, f3, f4, f5⟩ := hf it (by simp)
    have hi : i = x.cps.size := hg
    subst hi
    have hh : X.A.in1.handled = none := by simpa using I.ok.hd hc
    exact wpAny_pyNext_enum_endD (Draws.text hh it x t) he hit fun h' eb => ⟨rfl, I.turned (t' := s.toks) (fun b o hb q => eb b o hb q) f0 f1 f3 f4 f5⟩
  self := fun A i s Q E st h => let ⟨⟨_, he⟩, _⟩ := st; wpAny_pyIter_enum he h
def iEnumS (ta : TA) : TI := fun σ H R => ta σ H fun vs H1 => ∃ x, vs = [.str x] ∧ R (IteS x) H1
theorem pi_enumS {X : Cx} {e : Expr} {ta : TA} {p pos tpos : Pos} {elts : List Expr} {kk : Nat} (hg : Gl X "enumerate") (hm : X.mg "enumerate" = none) (ha : PA X [e] ta) (hs : starEach [e] X.env = [(false, eval e X.env)] := by rfl) :
    PI X (.Tuple elts kk tpos) (.Call (.Name "enumerate" p) [e] [] pos) (iEnumS ta) := by
  refine ⟨fun pins s σ H R I h => ?_⟩
  refine Call_ (ld_blt I hg hm boot_enumerate (PyProof.Rows.callWith_type1 (thn (ha.run pos pins s σ H _ I h) fun us s1 ⟨vs, H1, I1, r1, q1⟩ => ?_) hs rfl))
  obtain ⟨x, ex, q⟩ := q1
  subst ex
  cases r1 with
  | cons r rr =>
    cases rr
    obtain ⟨t, rfl⟩ := r
    refine call_enumS fun h' he hit hsz hk => wpAny_pyIter_enum he ?_
    have I2 : Inv X pins σ H1 { s1 with heap := h' } := I1.kept (t' := s1.toks) hk
    refine ⟨s1.heap.objs.size + 1, [s1.heap.objs.size + 1, s1.heap.objs.size], _, _, H1, rfl, I2, turn_enumS x t (s1.heap.objs.size + 1) s1.heap.objs.size, ⟨⟨.none, he⟩, hit, Nat.succ_ne_self _⟩, fun b hb => ?_, q⟩
    have e' : b = s1.heap.objs.size + 1 ∨ b = s1.heap.objs.size := by simpa using hb
    have hle : s1.heap.objs.size ≤ b := by
      rcases e' with z | z
      · rw [z]; exact Nat.le_add_right _ _
      · rw [z]; exact Nat.le_refl _
    exact I1.fpOk hle (I1.hok.fresh hle)
theorem walk_enumS {x : Str} : Walk (IteS x) x.cps.size (fun _ => True) (YPair (fun i => some (.int (i : Nat))) (fun i => (x.cps[i]?).map fun c => V.str ⟨#[c]⟩)) := by
  refine ⟨fun i _ hi q => hi, fun _ q => rfl, fun i H v H' _ q y => ?_⟩
  obtain ⟨T, c, h1, h2, h3, h4⟩ := y
  exact ⟨T, .int (i : Nat), .str ⟨#[c]⟩, h1, h2, h3, rfl, by show Option.map _ x.cps[i]? = _; rw [h4]; rfl⟩
end ES

set_option Elab.async false
set_option maxRecDepth 100000
set_option maxHeartbeats 4000000
set_option linter.unusedVariables false
/-! Reader: peek, take, take_word, take_name, sees_number -/
namespace BK
open PySem PySem.Spec PyProof.Rows L2 RZ ET
theorem ps_dead {X : Cx} {st : Stmt} : PS X st (fun _ _ _ => False) := ⟨fun _ _ _ _ _ _ h => h.elim⟩
/-- where a reader keeps its things -/
structure RP where
  p : Addr
  l : Addr
  q : Addr
def rfs (a : RP) (i o : Nat) : List (Str × V) := [("words", .ref a.l), ("at", .int (i : Nat)), ("open_braces", .int (o : Nat)), ("forms", .ref a.q), ("digits", .int 2)]
structure RdAt (K : PySem.W.Frag) (C : Addr) (H : Hp) (a : RP) (ws : List Str) (i o : Nat) : Prop where
  ob : ∃ dx, H a.p = some (.ins C dx (rfs a i o))
  wl : H a.l = some (.lst (ws.map V.str))
  fm : FormsAt K H a.q
  few : ws.length ≤ 100000
/-- all stays but the reader -/
def ButR (a : RP) (H H' : Hp) : Prop := ∀ b o, H b = some o → b ≠ a.p → H' b = some o
theorem ButR.refl (a : RP) (H : Hp) : ButR a H H := fun _ _ e _ => e
theorem ButR.trans {a : RP} {H H1 H2 : Hp} (x : ButR a H H1) (y : ButR a H1 H2) : ButR a H H2 := fun c o e h => y c o (x c o e h) h
theorem ButR.of {a : RP} {H H' : Hp} (e : Same H H') : ButR a H H' := fun c o h _ => e c o h
structure TxR (K : PySem.W.Frag) (C : Addr) : Prop where
  cl : Cls K C
  nW : NoAttr K C "words"
  nA : NoAttr K C "at"
  nO : NoAttr K C "open_braces"
  nF : NoAttr K C "forms"
  nD : NoAttr K C "digits"
section
variable {K : PySem.W.Frag} {C : Addr} {H H' : Hp} {a : RP} {ws : List Str} {i o : Nat}
theorem rfs_w : (rfs a i o).lookup ("words" : Str) = some (.ref a.l) := by rfl
theorem rfs_a : (rfs a i o).lookup ("at" : Str) = some (.int (i : Nat)) := by rfl
theorem rfs_o : (rfs a i o).lookup ("open_braces" : Str) = some (.int (o : Nat)) := by rfl
theorem rfs_f : (rfs a i o).lookup ("forms" : Str) = some (.ref a.q) := by rfl
theorem rfs_d : (rfs a i o).lookup ("digits" : Str) = some (.int 2) := by rfl
theorem put_at : putF "at" (.int ((i : Int) + 1)) (rfs a i o) = rfs a (i + 1) o := by rfl
theorem put_op : putF "open_braces" (.int ((o : Int) + 1)) (rfs a i o) = rfs a i (o + 1) := by rfl
theorem put_cl : putF "open_braces" (.int (((o + 1 : Nat) : Int) - 1)) (rfs a i (o + 1)) = rfs a i o := by
  have : (((o + 1 : Nat) : Int) - 1) = (o : Int) := by omega
  rw [this]
  rfl
theorem RdAt.same (c : RdAt K C H a ws i o) (e : Same H H') : RdAt K C H' a ws i o := by
  obtain ⟨⟨dx, ob⟩, wl, fm, few⟩ := c
  exact ⟨⟨dx, e _ _ ob⟩, e _ _ wl, fm.same e, few⟩
theorem ButR.tup (b : ButR a H H') (c : RdAt K C H a ws i o) {t : Addr} {xs : List V} (h : SqT K H t xs) : SqT K H' t xs := by
  obtain ⟨⟨dx, ob⟩, _, _⟩ := c
  rcases h with (h | ⟨o, h⟩) | h
  · exact .inl (.inl (b _ _ h (ne_of h ob (by intro z; cases z))))
  · exact .inl (.inr ⟨o, b _ _ h (ne_of h ob (by intro z; cases z))⟩)
  · exact .inr h
theorem ButR.lst (b : ButR a H H') (c : RdAt K C H a ws i o) {t : Addr} {xs : List V} (h : H t = some (.lst xs)) : H' t = some (.lst xs) := by
  obtain ⟨⟨dx, ob⟩, _, _⟩ := c
  exact b _ _ h (ne_of h ob (by intro z; cases z))
theorem ButR.seq (b : ButR a H H') (c : RdAt K C H a ws i o) {t : Addr} {xs : List V} (h : SqL K H t xs) : SqL K H' t xs := by
  obtain ⟨⟨dx, ob⟩, _, _⟩ := c
  rcases h with (h | ⟨o, h⟩) | h
  · exact .inl (.inl (b _ _ h (ne_of h ob (by intro z; cases z))))
  · exact .inl (.inr ⟨o, b _ _ h (ne_of h ob (by intro z; cases z))⟩)
  · exact .inr h
mutual
theorem TrAt.butR (b : ButR a H H') (c : RdAt K C H a ws i o) : ∀ {v : V} {t : Tr}, TrAt K H v t → TrAt K H' v t
  | _, _, .non => .non
  | _, _, .bl b => .bl b
  | _, _, .int i => .int i
  | _, _, .str s h => .str s h
  | _, _, .lst h => .lst (b.seq c h)
  | _, _, .dct h => by
    obtain ⟨⟨dx, ob⟩, _, _⟩ := c
    exact .dct (b _ _ h (ne_of h ob (by intro z; cases z)))
  | _, _, .tup h k => .tup (b.tup c h) (TrAll.butR b c k)
theorem TrAll.butR (b : ButR a H H') (c : RdAt K C H a ws i o) : ∀ {vs : List V} {ts : List Tr}, TrAll K H vs ts → TrAll K H' vs ts
  | _, _, .nil => .nil
  | _, _, .cons h k => .cons (TrAt.butR b c h) (TrAll.butR b c k)
end
/-- the reader is written -/
theorem RdAt.put (c : RdAt K C H a ws i o) {dx : Addr} {j o' : Nat} : RdAt K C (upd H a.p (.ins C dx (rfs a j o'))) a ws j o' ∧ ButR a H (upd H a.p (.ins C dx (rfs a j o'))) := by
  obtain ⟨⟨dx0, ob⟩, wl, ⟨kvs, fk, fm⟩, few⟩ := c
  refine ⟨⟨⟨dx, upd_same⟩, ?_, ⟨kvs, ?_, fm⟩, few⟩, fun b o e h => ?_⟩
  · rw [upd_ne (ne_of wl ob (by intro z; cases z))]; exact wl
  · rw [upd_ne (ne_of fk ob (by intro z; cases z))]; exact fk
  · rw [upd_ne h]; exact e
end
def peekW (ws : List Str) (i : Nat) : Str := (ws[i]?).getD Str.empty
abbrev cRd : Stmt := top 50
abbrev sPeek : Stmt := inClass cRd 1
abbrev sTake : Stmt := inClass cRd 2
abbrev sTakeW : Stmt := inClass cRd 3
abbrev sTakeN : Stmt := inClass cRd 5
theorem scPeek : FnScope ["self"] ["self"] (defScope sPeek) := ⟨rfl, rfl, rfl, by decide +kernel, rfl, by decide +kernel, by decide +kernel⟩
theorem scTake : FnScope ["self", "can_stand", "word"] ["self", "can_stand"] (defScope sTake) := ⟨rfl, rfl, rfl, by decide +kernel, rfl, by decide +kernel, by decide +kernel⟩
theorem scTakeW : FnScope ["self", "word"] ["self", "word"] (defScope sTakeW) := ⟨rfl, rfl, rfl, by decide +kernel, rfl, by decide +kernel, by decide +kernel⟩
theorem scTakeN : FnScope ["self"] ["self"] (defScope sTakeN) := ⟨rfl, rfl, rfl, by decide +kernel, rfl, by decide +kernel, by decide +kernel⟩
def spPeek (K : PySem.W.Frag) (C : Addr) : Sp := fun vs H Q _ => ∃ a ws i o, vs = [.ref a.p] ∧ RdAt K C H a ws i o ∧ Q (.str (peekW ws i)) H
/-- a word is taken -/
def Took (K : PySem.W.Frag) (C : Addr) (H : Hp) (a : RP) (ws : List Str) (i o : Nat) (Q : VK) : Prop := ∀ H', RdAt K C H' a ws (i + 1) o → ButR a H H' → Q (.str (peekW ws i)) H'
def spTake (K : PySem.W.Frag) (C : Addr) : Sp := fun vs H Q _ => ∃ a ws i o, vs = [.ref a.p, .bl true] ∧ RdAt K C H a ws i o ∧ Took K C H a ws i o Q
def spTakeW (K : PySem.W.Frag) (C : Addr) : Sp := fun vs H Q _ => ∃ a ws i o w, vs = [.ref a.p, .str w] ∧ RdAt K C H a ws i o ∧ peekW ws i = w ∧ Took K C H a ws i o Q
def spTakeN (K : PySem.W.Frag) (C : Addr) : Sp := fun vs H Q _ => ∃ a ws i o, vs = [.ref a.p] ∧ RdAt K C H a ws i o ∧ nameS (peekW ws i) = true ∧ (peekW ws i).length ≤ sizeLine ∧ Took K C H a ws i o Q
section
variable {P : Program} {w : World} {K : PySem.W.Frag} {mg : Str → Option Value} {base : Heap}
theorem ok_peek {C f : Addr} {fd : FuncData} (F : Fun K "peek" "Reader.peek" sPeek f fd) (X : TxR K C) (mL : mg "len" = none) : FnOk P w K mg base CX0 1 f fd ["self"] (spPeek K C) := by
  refine F.ok scPeek (fun vs H Q E h => ?_) (fun cdv A outer s H vs Q E hr h => ?_)
  · obtain ⟨a, ws, i, o, rfl, _⟩ := h
    rfl
  · obtain ⟨a, ws, i, o, rfl, c, k⟩ := h
    refine ⟨_, pss_one (ps_ret (pe_ifExp (pt_cmpR op_lt (pe_fld (pv 0) rfl) (pe_callB call_len_seq (by rfl) mL boot_len (pa_cons (pe_fld (pv 0) rfl) pa_nil)) rfl) (pe_ix ix_list (pe_fld (pv 0) rfl) (pe_fld (pv 0) rfl) (fun _ _ => rfl)) pe_str)), ?_⟩
    obtain ⟨⟨dx, ob⟩, wl, fm⟩ := id c
    refine ⟨_, rfl, a.p, C, dx, _, _, rfl, ob, X.cl, X.nA, rfs_a, _, rfl, a.p, C, dx, _, _, rfl, ob, X.cl, X.nW, rfs_w, a.l, _, rfl, .inl (SqL.of wl), _, _, rfl, rfl, _, rfl, ?_⟩
    have el : ((ws.map V.str).length : Int) = ((ws.length : Nat) : Int) := by rw [List.length_map]
    rw [el]
    refine ite2 (fun h => ?_) (fun h => ?_)
    · have hi : i < ws.length := by have := of_decide_eq_true h; omega
      have e : peekW ws i = ws[i] := by unfold peekW; rw [List.getElem?_eq_getElem hi]; rfl
      rw [e] at k
      exact ⟨_, rfl, a.p, C, dx, _, _, rfl, ob, X.cl, X.nW, rfs_w, _, rfl, a.p, C, dx, _, _, rfl, ob, X.cl, X.nA, rfs_a, a.l, _, _, _, rfl, rfl, SqL.of wl, at_of (j := i) rfl (by rw [List.getElem?_map, List.getElem?_eq_getElem hi]; rfl), k⟩
    · have hi : ws.length ≤ i := by have := of_decide_eq_false (by simpa using h : decide ((i : Int) < ((ws.length : Nat) : Int)) = false); omega
      have e : peekW ws i = Str.empty := by unfold peekW; rw [List.getElem?_eq_none hi]; rfl
      rw [e] at k
      exact k
theorem ok_take {C f fP : Addr} {fd fdP : FuncData} (F : Fun K "take" "Reader.take" sTake f fd) (X : TxR K C)
    (GP : FnOk P w K mg base CX0 1 fP fdP ["self"] (spPeek K C)) (bP : Binds K fdP ["self"] []) (mP : Meth K C "peek" fP) : FnOk P w K mg base CX0 2 f fd ["self", "can_stand"] (spTake K C) := by
  refine F.ok scTake (fun vs H Q E h => ?_) (fun cdv A outer s H vs Q E hr h => ?_)
  · obtain ⟨a, ws, i, o, rfl, _⟩ := h
    rfl
  · obtain ⟨a, ws, i, o, rfl, c, k⟩ := h
    refine ⟨_, pss_cons (ps_if (pt_not (pt_val (pv 1))) (pss_one ps_dead) pss_nil)
      (pss_cons (ps_set (i := 2) scTake.nd rfl (Or.inl rfl) (pe_meth0 (pv 0) X.cl mP GP hr bP .nil pass0))
      (pss_cons (ps_fldaug (pv 0) pe_int in_add)
      (pss_one (ps_ret (pv 2))))), ?_⟩
    obtain ⟨⟨dx, ob⟩, wl, fm⟩ := id c
    refine ⟨_, rfl, _, rfl, iteF ?_⟩
    refine ⟨_, rfl, a.p, dx, _, rfl, ob, by rfl, a, ws, i, o, rfl, c, ?_⟩
    refine ⟨_, rfl, a.p, C, dx, _, _, rfl, ob, X.cl, X.nA, rfs_a, _, _, rfl, rfl, dx, _, ob, (by decide : 5 < 1000), ?_⟩
    obtain ⟨c2, b2⟩ := c.put (dx := dx) (j := i + 1) (o' := o)
    exact ⟨_, rfl, k _ c2 b2⟩
end
end BK

set_option Elab.async false
set_option maxRecDepth 100000
set_option maxHeartbeats 4000000
set_option linter.unusedVariables false
/-! is_digits; Reader: take_word, take_name, sees_number, take_number -/
namespace BK
open PySem PySem.Spec PyProof.Rows L2 RZ ET
def digits : Str := "0123456789"
def headS (z : Str) : Str := ⟨#[z.cps.toList.headD 0]⟩
/-- digits, at most so many, without a nought ahead -/
def digS (most : Nat) (z : Str) : Bool := decide (1 ≤ z.length) && decide (z.length ≤ most) && !(decide (headS z = "0") && decide (1 < z.length)) && z.cps.toList.all fun c => decide (c ∈ digits.cps.toList)
abbrev sDig : Stmt := top 49
abbrev sSees : Stmt := inClass cRd 7
abbrev sTakeI : Stmt := inClass cRd 8
theorem scDig : FnScope ["word", "most", "sign"] ["word", "most"] (defScope sDig) := ⟨rfl, rfl, rfl, by decide +kernel, rfl, by decide +kernel, by decide +kernel⟩
theorem scSees : FnScope ["self"] ["self"] (defScope sSees) := ⟨rfl, rfl, rfl, by decide +kernel, rfl, by decide +kernel, by decide +kernel⟩
theorem scTakeI : FnScope ["self"] ["self"] (defScope sTakeI) := ⟨rfl, rfl, rfl, by decide +kernel, rfl, by decide +kernel, by decide +kernel⟩
def spDig (K : PySem.W.Frag) : Sp := fun vs H Q _ => ∃ (z : Str) (most : Nat), vs = [.str z, .int (most : Nat)] ∧ z.length ≤ sizeLine ∧ most ≤ 900 ∧ ∀ H', Same H H' → Q (.bl (digS most z)) H'
def spSees (K : PySem.W.Frag) (C : Addr) : Sp := fun vs H Q _ => ∃ a ws i o, vs = [.ref a.p] ∧ RdAt K C H a ws i o ∧ (peekW ws i).length ≤ sizeLine ∧ ∀ H', Same H H' → Q (.bl (digS 2 (peekW ws i))) H'
def spTakeI (K : PySem.W.Frag) (C : Addr) : Sp := fun vs H Q _ => ∃ a ws i o n, vs = [.ref a.p] ∧ RdAt K C H a ws i o ∧ digS 2 (peekW ws i) = true ∧ PySem.intText? (peekW ws i) = some n ∧ ∀ H', RdAt K C H' a ws (i + 1) o → ButR a H H' → Q (.int n) H'
section
variable {P : Program} {w : World} {K : PySem.W.Frag} {mg : Str → Option Value} {base : Heap}
theorem ok_dig {f : Addr} {fd : FuncData} {t0 : Tok} (F : Fun K "is_digits" "is_digits" sDig f fd) (T : Forms mg) (gD : mg "DIGITS" = some (.str digits t0)) : FnOk P w K mg base CX0 1 f fd ["word", "most"] (spDig K) := by
  refine F.ok scDig (fun vs H Q E h => ?_) (fun cdv A outer s H vs Q E hr h => ?_)
  · obtain ⟨z, most, rfl, _⟩ := h
    rfl
  · obtain ⟨z, most, rfl, hz, hm, k⟩ := h
    refine ⟨_, C8.pss_cut (ps_if (PW.pt (pw_or (pt_not (pt_chain op_le op_le pe_int (pe_callB call_len_str (by rfl) T.len boot_len (pa_cons (pv 0) pa_nil)) (pv 1)))
        (pw_or1 (PW.pt (pw_and (pt_cmpR op_eq (pe_ix ix_str (pv 0) pe_int (fun _ _ => rfl)) pe_str (nomark _)) (pw_and1 (pt_cmpR op_gt (pe_callB call_len_str (by rfl) T.len boot_len (pa_cons (pv 0) pa_nil)) pe_int (nomark _)))))))) (pss_one (ps_ret pe_bl)) pss_nil)
      (pss_one (ps_ret (pe_callB (cr_all rfl) (by rfl) T.all (by decide +kernel) (pa_cons (pe_lc (own := [("sign", 2)]) (g := gName 2) (tt := tYes) rfl scDig.nd (pi_str (pv 0))
          (blkOk_by (N := ["word", "most", "sign"]) (sc := defScope sDig) (by decide +kernel)) (fun _ _ _ _ _ => pg_name (i := 2) scDig.nd rfl (Or.inl rfl)) (fun _ _ _ _ _ => pts_nil)
          (fun _ _ _ _ _ => pe_cmpR op_inS (pv 2) (pe_glob (v := .str digits) rfl gD ⟨_, rfl⟩) rfl)) pa_nil)))), ?_⟩
    have fin : ∀ b : Bool, b = digS most z → ∀ H', Same H H' → Q (.bl b) H' := fun b e H' s' => by
      rw [e]
      exact k H' s'
    refine ⟨fun σ H1 => σ = [some (.str z), some (.int (most : Nat)), none] ∧ H1 = H ∧ 1 ≤ z.length ∧ z.length ≤ most ∧ (decide (headS z = "0") && decide (1 < z.length)) = false, ?_, ?_⟩
    rotate_left
    · rintro σ H1 ⟨rfl, rfl, h1, h2, h3⟩
      refine ⟨_, rfl, z, rfl, fun D nD => ?_⟩
      refine lc_it (walk_str (z := z)) (fun i H2 => Same H1 H2 ∧ H2 D = some (.lst (((z.cps.toList.take i).map fun c => decide (c ∈ digits.cps.toList)).map V.bl))) ⟨same_new nD, upd_same⟩ (fun _ _ _ _ => True.intro) ?_ ?_
      · rintro i x H2 H3 hi ⟨s2, e2⟩ ⟨rfl, c, hc, rfl⟩
        refine ⟨rfl, ?_⟩
        refine tyes ?_
        refine ⟨_, rfl, c, digits, rfl, rfl, _, e2, small1000 (by rw [List.length_map, List.length_map, List.length_take, Array.length_toList]; have : z.cps.size ≤ most := h2; omega), (fun b o e => by rw [upd_ne (ne_of_none e nD)]; exact s2 b o e), ?_⟩
        have hc' : z.cps.toList[i]? = some c := by rw [Array.getElem?_toList]; exact hc
        rw [upd_same, List.take_add_one, hc', List.map_append, List.map_append]
        rfl
      · rintro H2 ⟨s2, e2⟩
        refine ⟨D, _, rfl, SqL.of e2, fin _ ?_ H2 s2⟩
        have et : z.cps.toList.take z.cps.size = z.cps.toList := by rw [← Array.length_toList, List.take_length]
        unfold digS
        rw [decide_eq_true h1, decide_eq_true h2, h3, et, List.all_map]
        simp [Function.comp]
    refine ⟨_, rfl, z, rfl, hz, _, _, rfl, rfl, _, rfl, ?_⟩
    refine ite2 (fun h1 => ?_) (fun h1 => ?_)
    · have hl1 : 1 ≤ z.length := by
        have q : (1 : Int) ≤ (z.length : Int) := of_decide_eq_true h1
        omega
      refine ⟨_, rfl, _, _, rfl, rfl, _, rfl, ?_⟩
      refine ite2 (fun h2 => ?_) (fun h2 => ?_)
      · refine fin false ?_ H fun _ _ e => e
        have h : ¬ ((z.length : Int) ≤ (most : Nat)) := by simpa using h2
        have h' : ¬ (z.length ≤ most) := by omega
        unfold digS
        rw [decide_eq_false h', Bool.and_false, Bool.false_and, Bool.false_and]
      · have h : (z.length : Int) ≤ (most : Nat) := by simpa using h2
        have hl : z.length ≤ most := by omega
        have hs : 0 < z.cps.toList.length := by rw [Array.length_toList]; exact hl1
        obtain ⟨c0, r0, ez⟩ : ∃ c r, z.cps.toList = c :: r := by
          cases e : z.cps.toList with
          | nil => rw [e] at hs; cases hs
          | cons c r => exact ⟨c, r, rfl⟩
        have eh : headS z = ⟨#[c0]⟩ := by
          unfold headS
          rw [ez]
          rfl
        have hget : z.cps.toList[0]? = some c0 := by rw [ez]; rfl
        refine ⟨_, rfl, z, _, c0, rfl, rfl, hz, (atI_nat hget : atI z.cps.toList ((0 : Nat) : Int) = some c0), rfl, _, rfl, ?_⟩
        rw [eq_txt, ← eh]
        refine ite2 (fun h3 => ?_) (fun h3 => ?_)
        · refine ⟨_, rfl, z, rfl, hz, _, _, rfl, rfl, _, rfl, ?_⟩
          refine ite2 (fun h4 => ?_) (fun h4 => ?_)
          · refine fin false ?_ H fun _ _ e => e
            have h5 : (1 : Int) < (z.length : Int) := of_decide_eq_true h4
            unfold digS
            rw [h3, decide_eq_true (show 1 < z.length by omega)]
            simp
          · refine ⟨rfl, rfl, hl1, hl, ?_⟩
            have h5 : ¬ (1 : Int) < (z.length : Int) := fun q => h4 (decide_eq_true q)
            rw [decide_eq_false (show ¬ 1 < z.length by omega), Bool.and_false]
        · refine ⟨rfl, rfl, hl1, hl, ?_⟩
          rw [show decide (headS z = "0") = false by simpa using h3, Bool.false_and]
    · refine ⟨_, rfl, iteT (fin false ?_ H fun _ _ e => e)⟩
      have h : ¬ ((1 : Int) ≤ (z.length : Int)) := fun q => h1 (decide_eq_true q)
      have h' : ¬ (1 ≤ z.length) := by omega
      unfold digS
      rw [decide_eq_false h', Bool.false_and, Bool.false_and, Bool.false_and]
theorem ok_takeW {C f fP fT : Addr} {fd fdP fdT : FuncData} (F : Fun K "take_word" "Reader.take_word" sTakeW f fd) (X : TxR K C)
    (GP : FnOk P w K mg base CX0 1 fP fdP ["self"] (spPeek K C)) (bP : Binds K fdP ["self"] []) (mP : Meth K C "peek" fP)
    (GT : FnOk P w K mg base CX0 2 fT fdT ["self", "can_stand"] (spTake K C)) (bT : Binds K fdT ["self", "can_stand"] []) (mT : Meth K C "take" fT) : FnOk P w K mg base CX0 3 f fd ["self", "word"] (spTakeW K C) := by
  refine F.ok scTakeW (fun vs H Q E h => ?_) (fun cdv A outer s H vs Q E hr h => ?_)
  · obtain ⟨a, ws, i, o, z, rfl, _⟩ := h
    rfl
  · obtain ⟨a, ws, i, o, z, rfl, c, e, k⟩ := h
    have hr1 : Room 1 _ := hr.mono (by decide)
    refine ⟨_, pss_one (ps_ret (pe_meth (pv 0) X.cl mT GT hr bT .nil pass0 (pa_cons (pe_cmpR op_eq (pe_meth0 (pv 0) X.cl mP GP hr1 bP .nil pass0) (pv 1) (nomark _)) pa_nil))), ?_⟩
    obtain ⟨⟨dx, ob⟩, wl, fm⟩ := id c
    refine ⟨_, rfl, a.p, dx, _, rfl, ob, by rfl, _, rfl, a.p, dx, _, rfl, ob, by rfl, a, ws, i, o, rfl, c, _, rfl, rfl, ?_⟩
    rw [eq_txt, decide_eq_true e]
    exact ⟨a, ws, i, o, rfl, c, k⟩
theorem ok_takeN {C f fP fT fN : Addr} {fd fdP fdT fdN : FuncData} (F : Fun K "take_name" "Reader.take_name" sTakeN f fd) (X : TxR K C)
    (GP : FnOk P w K mg base CX0 1 fP fdP ["self"] (spPeek K C)) (bP : Binds K fdP ["self"] []) (mP : Meth K C "peek" fP)
    (GT : FnOk P w K mg base CX0 2 fT fdT ["self", "can_stand"] (spTake K C)) (bT : Binds K fdT ["self", "can_stand"] []) (mT : Meth K C "take" fT)
    (GN : FnOk P w K mg base CX0 1 fN fdN ["thing"] (spOf nameT K)) (bN : Binds K fdN ["thing"] []) (gN : mg "is_name" = some (.ref fN)) (kN : PySem.W.keepIn K (.ref fN) = true) : FnOk P w K mg base CX0 3 f fd ["self"] (spTakeN K C) := by
  refine F.ok scTakeN (fun vs H Q E h => ?_) (fun cdv A outer s H vs Q E hr h => ?_)
  · obtain ⟨a, ws, i, o, rfl, _⟩ := h
    rfl
  · obtain ⟨a, ws, i, o, rfl, c, e, hl, k⟩ := h
    have hr1 : Room 1 _ := hr.mono (by decide)
    refine ⟨_, pss_one (ps_ret (pe_meth (pv 0) X.cl mT GT hr bT .nil pass0 (pa_cons (pe_call GN hr1 rfl gN kN bN .nil pass0 (pa_cons (pe_meth0 (pv 0) X.cl mP GP hr1 bP .nil pass0) pa_nil)) pa_nil))), ?_⟩
    obtain ⟨⟨dx, ob⟩, wl, fm⟩ := id c
    refine ⟨_, rfl, a.p, dx, _, rfl, ob, by rfl, _, rfl, a.p, dx, _, rfl, ob, by rfl, a, ws, i, o, rfl, c, ?_⟩
    refine ⟨_, .str (peekW ws i), rfl, .str _ hl, fun H1 s1 => ?_⟩
    have e : nameT (.str (peekW ws i)) = true := e
    rw [e]
    exact ⟨a, ws, i, o, rfl, c.same s1, fun H' c' b' => k H' c' ((ButR.of s1).trans b')⟩
theorem ok_sees {C f fP fD : Addr} {fd fdP fdD : FuncData} (F : Fun K "sees_number" "Reader.sees_number" sSees f fd) (X : TxR K C)
    (GP : FnOk P w K mg base CX0 1 fP fdP ["self"] (spPeek K C)) (bP : Binds K fdP ["self"] []) (mP : Meth K C "peek" fP)
    (GD : FnOk P w K mg base CX0 1 fD fdD ["word", "most"] (spDig K)) (bD : Binds K fdD ["word", "most"] []) (gD : mg "is_digits" = some (.ref fD)) (kD : PySem.W.keepIn K (.ref fD) = true) : FnOk P w K mg base CX0 2 f fd ["self"] (spSees K C) := by
  refine F.ok scSees (fun vs H Q E h => ?_) (fun cdv A outer s H vs Q E hr h => ?_)
  · obtain ⟨a, ws, i, o, rfl, _⟩ := h
    rfl
  · obtain ⟨a, ws, i, o, rfl, c, hl, k⟩ := h
    refine ⟨_, pss_one (ps_ret (pe_call GD hr rfl gD kD bD .nil pass0 (pa_cons (pe_meth0 (pv 0) X.cl mP GP hr bP .nil pass0) (pa_cons (pe_fld (pv 0) rfl) pa_nil)))), ?_⟩
    obtain ⟨⟨dx, ob⟩, wl, fm⟩ := id c
    refine ⟨_, rfl, a.p, dx, _, rfl, ob, by rfl, a, ws, i, o, rfl, c, ?_⟩
    exact ⟨_, rfl, a.p, C, dx, _, _, rfl, ob, X.cl, X.nD, rfs_d, _, 2, rfl, hl, by decide, k⟩
theorem ok_takeI {C f fS fT : Addr} {fd fdS fdT : FuncData} (F : Fun K "take_number" "Reader.take_number" sTakeI f fd) (X : TxR K C) (mI : mg "int" = none)
    (GS : FnOk P w K mg base CX0 2 fS fdS ["self"] (spSees K C)) (bS : Binds K fdS ["self"] []) (mS : Meth K C "sees_number" fS)
    (GT : FnOk P w K mg base CX0 2 fT fdT ["self", "can_stand"] (spTake K C)) (bT : Binds K fdT ["self", "can_stand"] []) (mT : Meth K C "take" fT) : FnOk P w K mg base CX0 3 f fd ["self"] (spTakeI K C) := by
  refine F.ok scTakeI (fun vs H Q E h => ?_) (fun cdv A outer s H vs Q E hr h => ?_)
  · obtain ⟨a, ws, i, o, n, rfl, _⟩ := h
    rfl
  · obtain ⟨a, ws, i, o, n, rfl, c, e, en, k⟩ := h
    refine ⟨_, pss_one (ps_ret (pe_callTy call_int_str (by rfl) mI (by decide +kernel) (pa_cons (pe_meth (pv 0) X.cl mT GT hr bT .nil pass0 (pa_cons (pe_meth0 (pv 0) X.cl mS GS hr bS .nil pass0) pa_nil)) pa_nil))), ?_⟩
    obtain ⟨⟨dx, ob⟩, wl, fm⟩ := id c
    have l2 : (peekW ws i).length ≤ 2 := by
      unfold digS at e
      simp only [Bool.and_eq_true, decide_eq_true_eq] at e
      exact e.1.1.2
    refine ⟨_, rfl, a.p, dx, _, rfl, ob, by rfl, _, rfl, a.p, dx, _, rfl, ob, by rfl, a, ws, i, o, rfl, c, by (rw [sizeLine_eq]; omega), fun H1 s1 => ?_⟩
    rw [e]
    exact ⟨a, ws, i, o, rfl, c.same s1, fun H' c' b' => ⟨_, n, rfl, en, by omega, k H' c' ((ButR.of s1).trans b')⟩⟩
end
end BK

set_option Elab.async false
set_option maxRecDepth 100000
set_option maxHeartbeats 4000000
set_option linter.unusedVariables false
/-! Reader: take_part, take_block -/
namespace BK
open PySem PySem.Spec PyProof.Rows L2 RZ ET
theorem dig_int {i : Int} (h0 : 0 ≤ i) (h1 : i ≤ 99) : digS 2 (toString i : Str) = true ∧ PySem.intText? (toString i : Str) = some i ∧ ((toString i : Str)).length ≤ 20 := by
  obtain ⟨n, rfl⟩ := Int.eq_ofNat_of_zero_le h0
  have a1 : ∀ n : Fin 100, digS 2 (toString ((n.val : Nat) : Int) : Str) = true := by decide +kernel
  have a2 : ∀ n : Fin 100, PySem.intText? (toString ((n.val : Nat) : Int) : Str) = some ((n.val : Nat) : Int) := by decide +kernel
  exact ⟨a1 ⟨n, by omega⟩, a2 ⟨n, by omega⟩, int_short h0 h1⟩
theorem dig_name {s : Str} (h : nameS s = true) : digS 2 s = false := by
  cases e : digS 2 s with
  | false => rfl
  | true =>
    exfalso
    unfold nameS at h
    unfold digS at e
    simp only [Bool.and_eq_true, decide_eq_true_eq] at h e
    obtain ⟨⟨h1, _⟩, h3⟩ := h
    have e3 := e.2
    have hs : 0 < s.cps.toList.length := by rw [Array.length_toList]; exact h1
    have m : s.cps.toList[0] ∈ s.cps.toList := List.getElem_mem hs
    have q1 := of_decide_eq_true (List.all_eq_true.mp h3 _ m)
    have q2 := of_decide_eq_true (List.all_eq_true.mp e3 _ m)
    have no : ∀ c ∈ alpha.cps.toList, c ∉ digits.cps.toList := by decide +kernel
    exact no _ q1 q2
/-- what a part that is no block is -/
theorem part_leaf {t : Tr} {k : Str} (h : partT t k = true) (n1 : k ≠ "args") (n2 : k ≠ "value") (n3 : k ≠ "block") : (∃ i, t = .int i ∧ 0 ≤ i ∧ i ≤ 99 ∧ (k = "integer" ∨ k = "source")) ∨ ∃ s, t = .str s ∧ nameS s = true ∧ k ≠ "integer" := by
  have num : numT 99 t = true → ∃ i, t = .int i ∧ 0 ≤ i ∧ i ≤ 99 := fun h => by
    cases t with
    | int i =>
      have h : (decide (0 ≤ i) && decide (i ≤ 99)) = true := h
      rw [Bool.and_eq_true, decide_eq_true_eq, decide_eq_true_eq] at h
      exact ⟨i, rfl, h.1, h.2⟩
    | _ => exact Bool.noConfusion h
  unfold partT at h
  rw [if_neg n3, if_neg n1] at h
  by_cases n4 : k = "integer"
  · rw [if_pos n4] at h
    obtain ⟨i, e, h0, h1⟩ := num h
    exact .inl ⟨i, e, h0, h1, .inl n4⟩
  · rw [if_neg n4, if_neg n2] at h
    by_cases z : k = "source" ∧ numT 99 t = true
    · obtain ⟨i, e, h0, h1⟩ := num z.2
      exact .inl ⟨i, e, h0, h1, .inr z.1⟩
    · rw [if_neg z] at h
      cases t with
      | str s => exact .inr ⟨s, rfl, h, n4⟩
      | _ => cases h
theorem peek_at {ws : List Str} {i : Nat} {w : Str} {r : List Str} (h : ws.drop i = w :: r) : peekW ws i = w ∧ ws.drop (i + 1) = r := by
  have e : ws[i]? = some w := by
    have := congrArg (·[0]?) h
    simpa using this
  refine ⟨?_, ?_⟩
  · unfold peekW
    rw [e]
    rfl
  · rw [← List.drop_drop, h]
    rfl
abbrev sTkP : Stmt := inClass cRd 12
abbrev sTkB : Stmt := inClass cRd 9
abbrev sTkR : Stmt := inClass cRd 10
abbrev sTkS : Stmt := inClass cRd 11
theorem scTkP : FnScope ["self", "kind"] ["self", "kind"] (defScope sTkP) := ⟨rfl, rfl, rfl, by decide +kernel, rfl, by decide +kernel, by decide +kernel⟩
theorem scTkB : FnScope ["self", "block"] ["self"] (defScope sTkB) := ⟨rfl, rfl, rfl, by decide +kernel, rfl, by decide +kernel, by decide +kernel⟩
/-- a tree is read off the words -/
def Reads (K : PySem.W.Frag) (C : Addr) (H : Hp) (a : RP) (ws : List Str) (i n o : Nat) (t : Tr) (Q : VK) : Prop := ∀ v H', RdAt K C H' a ws (i + n) o → ButR a H H' → TrAt K H' v t → Q v H'
def spTkP (K : PySem.W.Frag) (C : Addr) (d : Nat) : Sp := fun vs H Q _ => ∃ a ws i o k t rest, vs = [.ref a.p, .str k] ∧ RdAt K C H a ws i o ∧ partT t k = true ∧ k ≠ "args" ∧ k ≠ "value" ∧ (∀ ts, t = .tup ts → okD d ts) ∧ o + d < 40 ∧
  ws.drop i = partW (blockW d) t ++ rest ∧ Reads K C H a ws i (partW (blockW d) t).length o t Q
def spTkB (K : PySem.W.Frag) (C : Addr) (d : Nat) : Sp := fun vs H Q _ => ∃ a ws i o ts rest, vs = [.ref a.p] ∧ RdAt K C H a ws i o ∧ okD d ts ∧ o + d < 40 ∧ ws.drop i = partW (blockW d) (.tup ts) ++ rest ∧ Reads K C H a ws i (partW (blockW d) (.tup ts)).length o (.tup ts) Q
def spTkR (K : PySem.W.Frag) (C : Addr) (d : Nat) : Sp := fun vs H Q _ => ∃ a ws i o ts rest, vs = [.ref a.p] ∧ RdAt K C H a ws i o ∧ okD d ts ∧ o + d ≤ 40 ∧ ws.drop i = blockW d ts ++ ("}" : Str) :: rest ∧ Reads K C H a ws i (blockW d ts).length o (.tup ts) Q
section
variable {P : Program} {w : World} {K : PySem.W.Frag} {mg : Str → Option Value} {base : Heap}
theorem ok_tkP {C f fB fS fI fN : Addr} {fd fdB fdS fdI fdN : FuncData} {m d : Nat} (F : Fun K "take_part" "Reader.take_part" sTkP f fd) (X : TxR K C) (hm : 3 ≤ m)
    (GB : FnOk P w K mg base CX0 m fB fdB ["self"] (spTkB K C d)) (bB : Binds K fdB ["self"] []) (mB : Meth K C "take_block" fB)
    (GS : FnOk P w K mg base CX0 2 fS fdS ["self"] (spSees K C)) (bS : Binds K fdS ["self"] []) (mS : Meth K C "sees_number" fS)
    (GI : FnOk P w K mg base CX0 3 fI fdI ["self"] (spTakeI K C)) (bI : Binds K fdI ["self"] []) (mI : Meth K C "take_number" fI)
    (GN : FnOk P w K mg base CX0 3 fN fdN ["self"] (spTakeN K C)) (bN : Binds K fdN ["self"] []) (mN : Meth K C "take_name" fN) : FnOk P w K mg base CX0 (m + 1) f fd ["self", "kind"] (spTkP K C d) := by
  refine F.ok scTkP (fun vs H Q E h => ?_) (fun cdv A outer s H vs Q E hr h => ?_)
  · obtain ⟨a, ws, i, o, k, t, rest, rfl, _⟩ := h
    rfl
  · obtain ⟨a, ws, i, o, kd, t, rest, rfl, c, hp, n1, n2, ok, hd, hw, k⟩ := h
    have hr3 : Room 3 _ := hr.mono hm
    have hr2 : Room 2 _ := hr.mono (by omega)
    refine ⟨_, pss_cons (ps_if (pt_cmpR op_eq (pv 1) pe_str (nomark _)) (pss_one (ps_ret (pe_meth0 (pv 0) X.cl mB GB hr bB .nil pass0))) pss_nil)
      (pss_cons (ps_if (pt_cmpR op_eq (pv 1) pe_str (nomark _)) (pss_one ps_dead) pss_nil)
      (pss_cons (ps_if (PW.pt (pw_or (pt_cmpR op_in_seq (pv 1) (pe_tup (pa_cons pe_str (pa_cons pe_str pa_nil))) rfl) (pw_or1 (PW.pt (pw_and (pt_cmpR op_eq (pv 1) pe_str (nomark _)) (pw_and1 (pt_val (pe_meth0 (pv 0) X.cl mS GS hr2 bS .nil pass0))))))))
        (pss_one (ps_ret (pe_meth0 (pv 0) X.cl mI GI hr3 bI .nil pass0))) pss_nil)
      (pss_one (ps_ret (pe_meth0 (pv 0) X.cl mN GN hr3 bN .nil pass0))))), ?_⟩
    obtain ⟨⟨dx, ob⟩, wl, fm⟩ := id c
    refine ⟨_, rfl, rfl, _, rfl, ?_⟩
    rw [eq_txt]
    refine ite2 (fun h => ?_) (fun h => ?_)
    · have h1 : kd = "block" := of_decide_eq_true h
      subst h1
      have ht : isTup t = true := hp
      obtain ⟨ts, rfl⟩ : ∃ ts, t = .tup ts := by
        cases t with
        | tup ts => exact ⟨ts, rfl⟩
        | _ => exact Bool.noConfusion ht
      exact ⟨_, rfl, a.p, dx, _, rfl, ob, by rfl, a, ws, i, o, ts, rest, rfl, c, ok ts rfl, hd, hw, k⟩
    have n3 : ¬ kd = "block" := fun e => h (decide_eq_true e)
    refine ⟨_, rfl, rfl, _, rfl, ?_⟩
    rw [eq_txt]
    refine ite2 (fun h => absurd (of_decide_eq_true h) n1) (fun h => ?_)
    -- a number, a name
    refine ⟨_, rfl, (by decide : 2 ≤ sizeLine), fun q nq => ?_⟩
    have sq := same_new (o := .tup [.str "integer", .str "value"]) nq
    have c1 := c.same sq
    have ob1 := sq _ _ ob
    have k1 : Reads K C (upd H q (.tup [.str "integer", .str "value"])) a ws i (partW (blockW d) t).length o t Q := fun v H' x y z => k v H' x ((ButR.of sq).trans y) z
    refine ⟨q, (["integer", "value"] : List Str).map V.str, rfl, .inr (SqT.of upd_same), rfl, flat_txts ["integer", "value"], _, rfl, ?_⟩
    rw [in_txts]
    generalize upd H q (.tup [.str "integer", .str "value"]) = H1 at sq c1 ob1 k1 ⊢
    rcases part_leaf hp n1 n2 n3 with ⟨j, rfl, j0, j1, hk⟩ | ⟨z, rfl, hz, hk⟩
    · obtain ⟨e1, e2, e3⟩ := dig_int j0 j1
      obtain ⟨ep, ed⟩ := peek_at (w := toString j) (r := rest) hw
      have nin : kd = "integer" → decide (kd ∈ (["integer", "value"] : List Str)) = true := fun e => by subst e; decide
      rcases hk with hk | hk
      · rw [nin hk]
        exact iteT ⟨_, rfl, a.p, dx, _, rfl, ob1, by rfl, a, ws, i, o, j, rfl, c1, by rw [ep]; exact e1, by rw [ep]; exact e2, fun H' c' b' => k1 _ H' c' b' (.int j)⟩
      · subst hk
        rw [show decide (("source" : Str) ∈ (["integer", "value"] : List Str)) = false by decide]
        refine iteF ⟨_, rfl, rfl, _, rfl, ?_⟩
        rw [eq_txt, decide_eq_true rfl]
        refine iteT ⟨_, rfl, a.p, dx, _, rfl, ob1, by rfl, a, ws, i, o, rfl, c1, by (rw [ep, sizeLine_eq]; omega), fun H2 s2 => ⟨_, rfl, ?_⟩⟩
        rw [ep, e1]
        exact iteT ⟨_, rfl, a.p, dx, _, rfl, s2 _ _ ob1, by rfl, a, ws, i, o, j, rfl, c1.same s2, by rw [ep]; exact e1, by rw [ep]; exact e2, fun H' c' b' => k1 _ H' c' ((ButR.of s2).trans b') (.int j)⟩
    · obtain ⟨ep, ed⟩ := peek_at (w := z) (r := rest) hw
      have zl : z.length ≤ sizeLine := by
        unfold nameS at hz
        simp only [Bool.and_eq_true, decide_eq_true_eq] at hz
        have := hz.1.2
        rw [sizeLine_eq]
        omega
      have name : ∀ {H2 : Hp}, Same H1 H2 → spTakeN K C [.ref a.p] H2 Q E0 := fun {H2} s2 => ⟨a, ws, i, o, rfl, c1.same s2, by rw [ep]; exact hz, by rw [ep]; exact zl, fun H' c' b' => by rw [ep]; exact k1 _ H' c' ((ButR.of s2).trans b') (.str z zl)⟩
      have nin : decide (kd ∈ (["integer", "value"] : List Str)) = false := by
        rw [decide_eq_false_iff_not]
        intro q
        simp only [List.mem_cons, List.not_mem_nil, or_false] at q
        rcases q with q | q
        · exact hk q
        · exact n2 q
      rw [nin]
      refine iteF ⟨_, rfl, rfl, _, rfl, ?_⟩
      rw [eq_txt]
      refine ite2 (fun h => ?_) (fun h => ?_)
      · refine ⟨_, rfl, a.p, dx, _, rfl, ob1, by rfl, a, ws, i, o, rfl, c1, by rw [ep]; exact zl, fun H2 s2 => ⟨_, rfl, ?_⟩⟩
        rw [ep, dig_name hz]
        exact iteF ⟨_, rfl, a.p, dx, _, rfl, s2 _ _ ob1, by rfl, name s2⟩
      · exact iteF ⟨_, rfl, a.p, dx, _, rfl, ob1, by rfl, name (fun _ _ e => e)⟩
end
end BK

set_option Elab.async false
set_option maxRecDepth 100000
set_option maxHeartbeats 4000000
set_option linter.unusedVariables false
/-! Reader: take_block -/
namespace BK
open PySem PySem.Spec PyProof.Rows L2 RZ ET
section
variable {P : Program} {w : World} {K : PySem.W.Frag} {mg : Str → Option Value} {base : Heap}
theorem ok_tkB {C f fP fT fR fW : Addr} {fd fdP fdT fdR fdW : FuncData} {m d : Nat} {t0 : Tok} (F : Fun K "take_block" "Reader.take_block" sTkB f fd) (X : TxR K C) (hm : 3 ≤ m) (gM : mg "MOST_OPEN" = some (.int 40 t0))
    (GP : FnOk P w K mg base CX0 1 fP fdP ["self"] (spPeek K C)) (bP : Binds K fdP ["self"] []) (mP : Meth K C "peek" fP)
    (GT : FnOk P w K mg base CX0 2 fT fdT ["self", "can_stand"] (spTake K C)) (bT : Binds K fdT ["self", "can_stand"] []) (mT : Meth K C "take" fT)
    (GR : FnOk P w K mg base CX0 m fR fdR ["self"] (spTkR K C d)) (bR : Binds K fdR ["self"] []) (mR : Meth K C "take_rows" fR)
    (GW : FnOk P w K mg base CX0 3 fW fdW ["self", "word"] (spTakeW K C)) (bW : Binds K fdW ["self", "word"] []) (mW : Meth K C "take_word" fW) : FnOk P w K mg base CX0 (m + 1) f fd ["self"] (spTkB K C d) := by
  refine F.ok scTkB (fun vs H Q E h => ?_) (fun cdv A outer s H vs Q E hr h => ?_)
  · obtain ⟨a, ws, i, o, ts, rest, rfl, _⟩ := h
    rfl
  · obtain ⟨a, ws, i, o, ts, rest, rfl, c, ok, hd, hw, k⟩ := h
    have hr3 : Room 3 _ := hr.mono hm
    have hr2 : Room 2 _ := hr.mono (by omega)
    have hr1 : Room 1 _ := hr.mono (by omega)
    refine ⟨_, pss_cons (ps_expr (pe_meth (pv 0) X.cl mT GT hr2 bT .nil pass0 (pa_cons (pe_and (pe_cmpR op_eq (pe_meth0 (pv 0) X.cl mP GP hr1 bP .nil pass0) pe_str (nomark _)) (pe_one (pe_cmpR op_lt (pe_fld (pv 0) rfl) (pe_glob (v := .int 40) rfl gM ⟨_, rfl⟩) rfl))) pa_nil)))
      (pss_cons (ps_fldaug (pv 0) pe_int in_add)
      (pss_cons (ps_set (i := 1) scTkB.nd rfl (Or.inl rfl) (pe_meth0 (pv 0) X.cl mR GR hr bR .nil pass0))
      (pss_cons (ps_expr (pe_meth (pv 0) X.cl mW GW hr3 bW .nil pass0 (pa_cons pe_str pa_nil)))
      (pss_cons (ps_fldaug (pv 0) pe_int in_sub)
      (pss_one (ps_ret (pv 1))))))), ?_⟩
    obtain ⟨⟨dx, ob⟩, wl, fm⟩ := id c
    have hw : ws.drop i = ("{" : Str) :: (blockW d ts ++ ("}" : Str) :: rest) := by rw [hw]; simp [partW]
    have ln : (partW (blockW d) (.tup ts)).length = (blockW d ts).length + 2 := by simp [partW]
    obtain ⟨ep, ed⟩ := peek_at hw
    refine ⟨_, rfl, a.p, dx, _, rfl, ob, by rfl, _, rfl, a.p, dx, _, rfl, ob, by rfl, a, ws, i, o, rfl, c, rfl, _, rfl, ?_⟩
    rw [eq_txt, ep, decide_eq_true rfl]
    refine iteT ⟨_, rfl, a.p, C, dx, _, _, rfl, ob, X.cl, X.nO, rfs_o, _, _, rfl, rfl, ?_⟩
    have hlt : decide ((o : Int) < 40) = true := decide_eq_true (by omega)
    refine ⟨a, ws, i, o, (by show [V.ref a.p, V.bl (decide ((o : Int) < 40))] = _; rw [hlt]), c, fun H1 c1 b1 => ?_⟩
    -- open_braces + 1
    obtain ⟨⟨dx1, ob1⟩, wl1, fm1⟩ := id c1
    refine ⟨_, rfl, a.p, C, dx1, _, _, rfl, ob1, X.cl, X.nO, rfs_o, _, _, rfl, rfl, dx1, _, ob1, (by decide : 5 < 1000), ?_⟩
    obtain ⟨c2, b2⟩ := c1.put (dx := dx1) (j := i + 1) (o' := o + 1)
    have b02 := b1.trans b2
    obtain ⟨⟨dx2, ob2⟩, wl2, fm2⟩ := id c2
    -- the rows
    refine ⟨_, rfl, a.p, dx2, _, rfl, ob2, by rfl, a, ws, i + 1, o + 1, ts, rest, rfl, c2, ok, by omega, ed, fun v H3 c3 b3 tv => ?_⟩
    have b03 := b02.trans b3
    have ed2 : ws.drop (i + 1 + (blockW d ts).length) = ("}" : Str) :: rest := by
      rw [← List.drop_drop, ed, List.drop_left]
    obtain ⟨ep3, ed3⟩ := peek_at ed2
    obtain ⟨⟨dx3, ob3⟩, wl3, fm3⟩ := id c3
    refine ⟨_, rfl, a.p, dx3, _, rfl, ob3, by rfl, a, ws, _, o + 1, _, rfl, c3, ep3, fun H4 c4 b4 => ?_⟩
    -- open_braces - 1
    obtain ⟨⟨dx4, ob4⟩, wl4, fm4⟩ := id c4
    refine ⟨_, rfl, a.p, C, dx4, _, _, rfl, ob4, X.cl, X.nO, rfs_o, _, _, rfl, rfl, dx4, _, ob4, (by decide : 5 < 1000), ?_⟩
    rw [put_cl]
    obtain ⟨c5, b5⟩ := c4.put (dx := dx4) (j := i + 1 + (blockW d ts).length + 1) (o' := o)
    have ei : i + 1 + (blockW d ts).length + 1 = i + (partW (blockW d) (.tup ts)).length := by rw [ln]; omega
    refine ⟨_, rfl, ?_⟩
    have k := k v _ (ei ▸ c5) (((b03.trans b4).trans b5)) (TrAt.butR (b4.trans b5) c3 tv)
    exact k
end
end BK

set_option Elab.async false
set_option maxRecDepth 100000
set_option maxHeartbeats 4000000
set_option linter.unusedVariables false
/-! Reader: take_row -/
namespace BK
open PySem PySem.Spec PyProof.Rows L2 RZ ET
theorem form_xs {t : Tr} (hf : formT t = true) : ∃ x rest ks, t = .tup (.str x :: rest) ∧ kindsOf x = some ks ∧ fitsT rest ks = true := by
  unfold formT at hf
  split at hf
  · rename_i x rest
    cases ek : kindsOf x with
    | none => rw [ek] at hf; cases hf
    | some ks => rw [ek] at hf; exact ⟨x, rest, ks, rfl, ek, hf⟩
  · cases hf
abbrev nTkS : List Str := ["self", "word", "row", "kind"]
theorem scTkS : FnScope nTkS ["self"] (defScope sTkS) := ⟨rfl, rfl, rfl, by decide +kernel, rfl, by decide +kernel, by decide +kernel⟩
def spTkS (K : PySem.W.Frag) (C : Addr) (d : Nat) : Sp := fun vs H Q _ => ∃ a ws i o t rest, vs = [.ref a.p] ∧ RdAt K C H a ws i o ∧ formT t = true ∧ (∀ b ∈ blocksT t, okD d b) ∧ o + d < 40 ∧
  ws.drop i = stW (blockW d) t ++ rest ∧ Reads K C H a ws i (stW (blockW d) t).length o t Q
section
variable {P : Program} {w : World} {K : PySem.W.Frag} {mg : Str → Option Value} {base : Heap}
theorem ok_tkS {C f fP fT fQ : Addr} {fd fdP fdT fdQ : FuncData} {m d : Nat} (F : Fun K "take_row" "Reader.take_row" sTkS f fd) (X : TxR K C) (hm : 3 ≤ m) (mTu : mg "tuple" = none)
    (GP : FnOk P w K mg base CX0 1 fP fdP ["self"] (spPeek K C)) (bP : Binds K fdP ["self"] []) (mP : Meth K C "peek" fP)
    (GT : FnOk P w K mg base CX0 2 fT fdT ["self", "can_stand"] (spTake K C)) (bT : Binds K fdT ["self", "can_stand"] []) (mT : Meth K C "take" fT)
    (GQ : FnOk P w K mg base CX0 m fQ fdQ ["self", "kind"] (spTkP K C d)) (bQ : Binds K fdQ ["self", "kind"] []) (mQ : Meth K C "take_part" fQ) : FnOk P w K mg base CX0 (m + 1) f fd ["self"] (spTkS K C d) := by
  refine F.ok scTkS (fun vs H Q E h => ?_) (fun cdv A outer s H vs Q E hr h => ?_)
  · obtain ⟨a, ws, i, o, t, rest, rfl, _⟩ := h
    rfl
  · obtain ⟨a, ws, i, o, t, tail, rfl, c, hf, hb, hd, hw, k⟩ := h
    have hr2 : Room 2 _ := hr.mono (by omega)
    have hr1 : Room 1 _ := hr.mono (by omega)
    have hu := hu_of hr
    refine ⟨_, pss_cons (ps_set (i := 1) scTkS.nd rfl (Or.inl rfl) (pe_meth (pv 0) X.cl mT GT hr2 bT .nil pass0 (pa_cons (pe_cmp (pc_din hu (pe_meth0 (pv 0) X.cl mP GP hr1 bP .nil pass0) (pe_fld (pv 0) rfl))) pa_nil)))
      (pss_cons (ps_set (i := 2) scTkS.nd rfl (Or.inl rfl) (pe_lst (pa_cons (pv 1) pa_nil)))
      (pss_cons (ps_for PassesOwn.never rfl (pi_tup (pe_dget hu (pe_fld (pv 0) rfl) (pv 1) (fun _ _ => rfl))) (pg_name (i := 3) scTkS.nd rfl (Or.inl rfl))
        (pss_one (ps_expr (pe_bm PySem.F.plainAttrs_list PySem.F.slot_list_append PySem.F.type_list_append mt_append (pv 2) (pa_cons (pe_meth (pv 0) X.cl mQ GQ hr bQ .nil pass0 (pa_cons (pv 3) pa_nil)) pa_nil)))))
      (pss_one (ps_ret (pe_tupleOf (by rfl) mTu (pv 2)))))), ?_⟩
    obtain ⟨x, rest, ks, rfl, ek, ef⟩ := form_xs hf
    have rl : rest.length = ks.length := by
      unfold fitsT at ef
      exact of_decide_eq_true (Bool.and_eq_true_iff.mp ef).1
    have kf := kinds_few ek
    have hw : ws.drop i = x :: ((rest.map (partW (blockW d))).flatten ++ tail) := hw
    obtain ⟨ep, ed⟩ := peek_at hw
    obtain ⟨⟨dx, ob⟩, wl, ⟨kvs, ev, at_⟩, few⟩ := id c
    obtain ⟨kt, vk, sk⟩ := at_ x ks ek
    refine ⟨_, rfl, a.p, dx, _, rfl, ob, by rfl, _, rfl, a.p, dx, _, rfl, ob, by rfl, a, ws, i, o, rfl, c, _, rfl, a.p, C, dx, _, _, rfl, ob, X.cl, X.nF, rfs_f, a.q, _, rfl, (by rw [ep]; exact vk ▸ DGet.k (k := .inr x) ev), ?_⟩
    refine ⟨a, ws, i, o, rfl, c, fun H1 c1 b1 => ?_⟩
    rw [ep]
    refine ⟨_, rfl, (by decide : 1 ≤ sizeLine), fun R nR => ?_⟩
    have sR := same_new (o := .lst [.str x]) nR
    have c2 := c1.same sR
    have b02 := b1.trans (ButR.of sR)
    have nR0 : H R = none := by
      cases e : H R with
      | none => rfl
      | some u =>
        by_cases q : R = a.p
        · subst q
          obtain ⟨⟨dx1, ob1⟩, _⟩ := c1
          rw [ob1] at nR; cases nR
        · have := b1 R u e q
          rw [this] at nR; cases nR
    have eR : (upd H1 R (.lst [.str x])) R = some (.lst [.str x]) := upd_same
    generalize upd H1 R (.lst [.str x]) = H2 at c2 b02 eR sR ⊢
    obtain ⟨⟨dx2, ob2⟩, wl2, ⟨kvs2, ev2, at2⟩, _⟩ := id c2
    obtain ⟨kt2, vk2, sk2⟩ := at2 x ks ek
    refine ⟨_, rfl, a.p, C, dx2, _, _, rfl, ob2, X.cl, X.nF, rfs_f, _, rfl, a.q, .ref kt2, rfl, vk2 ▸ DGet.k (k := .inr x) ev2, kt2, rfl, ⟨_, sk2 _⟩, for_tup (K := K) (a := kt2) (xs := ks.map V.str) (fun j σ H3 => ∃ (us : List V) (v3 : Option V), σ = [some (.ref a.p), some (.str x), some (.ref R), v3] ∧ RdAt K C H3 a ws (i + 1 + (((rest.take j).map (partW (blockW d))).flatten).length) o ∧ ButR a H H3 ∧ H3 R = some (.lst (.str x :: us)) ∧ TrAll K H3 us (rest.take j))
      ⟨[], none, rfl, c2, b02, eR, .nil⟩ (fun j σ H3 _ _ => sk2 H3) ?_ ?_⟩
    · rintro j y σ H3 hj ⟨us, v3, rfl, c3, b3, e3, t3⟩
      rw [List.getElem?_map] at hj
      cases eK : ks[j]? with
      | none => rw [eK] at hj; cases hj
      | some kk =>
      rw [eK] at hj
      obtain rfl : V.str kk = y := Option.some.inj hj
      have jl : j < ks.length := (List.getElem?_eq_some_iff.mp eK).1
      have jr : j < rest.length := by omega
      have p3 : rest[j]? = some rest[j] := List.getElem?_eq_getElem jr
      generalize rest[j] = t' at p3
      have ez : (rest.zip ks)[j]? = some (t', kk) := List.getElem?_zip_eq_some.mpr ⟨p3, eK⟩
      have hp : partT t' kk = true := by
        unfold fitsT at ef
        exact List.all_eq_true.mp (Bool.and_eq_true_iff.mp ef).2 _ (List.mem_of_getElem? ez)
      have okt : ∀ ts', t' = .tup ts' → okD d ts' := fun ts' e => by
        subst e
        refine hb ts' ?_
        show ts' ∈ (rest.filter isTup).map tupTs
        exact List.mem_map.mpr ⟨.tup ts', List.mem_filter.mpr ⟨List.mem_of_getElem? p3, rfl⟩, rfl⟩
      have et : rest.take (j + 1) = rest.take j ++ [t'] := by rw [List.take_add_one, p3]; rfl
      have eflat : ((rest.take (j + 1)).map (partW (blockW d))).flatten = ((rest.take j).map (partW (blockW d))).flatten ++ partW (blockW d) t' := by
        rw [et, List.map_append, List.flatten_append]
        simp
      have hdrop : ws.drop (i + 1 + (((rest.take j).map (partW (blockW d))).flatten).length) = partW (blockW d) t' ++ (((rest.drop (j + 1)).map (partW (blockW d))).flatten ++ tail) := by
        have e0 : rest = rest.take (j + 1) ++ rest.drop (j + 1) := (List.take_append_drop _ _).symm
        have e1 : (rest.map (partW (blockW d))).flatten = ((rest.take j).map (partW (blockW d))).flatten ++ (partW (blockW d) t' ++ ((rest.drop (j + 1)).map (partW (blockW d))).flatten) := by
          conv => lhs; rw [e0]
          rw [List.map_append, List.flatten_append, eflat, List.append_assoc]
        rw [← List.drop_drop, ed, e1, List.append_assoc, List.drop_left, List.append_assoc]
      obtain ⟨⟨dx3, ob3⟩, wl3, fm3⟩ := id c3
      have ul := t3.len
      rw [List.length_take] at ul
      refine ⟨.ref R, rfl, .inl ⟨rfl, _, SqL.of e3⟩, _, rfl, a.p, dx3, _, rfl, ob3, by rfl, _, rfl, a, ws, _, o, kk, t', _, rfl, c3, hp, (fun e => no_args ek (e ▸ List.mem_of_getElem? eK)), (fun e => no_value ek (e ▸ List.mem_of_getElem? eK)), okt, hd, hdrop, fun v H4 c4 b4 tv => ?_⟩
      have e4 : H4 R = some (.lst (.str x :: us)) := b4.lst c3 e3
      obtain ⟨⟨dx4, ob4⟩, wl4, ⟨kvs4, fk4, fm4⟩, _⟩ := id c4
      refine ⟨R, _, v, rfl, rfl, e4, small1000 (by rw [List.length_cons]; omega), us ++ [v], _, rfl, ?_, fun b u e h => ?_, upd_same, ?_⟩
      · rw [eflat, List.length_append, ← Nat.add_assoc]
        refine ⟨⟨dx4, by rw [upd_ne (ne_of ob4 e4 (by intro z; cases z))]; exact ob4⟩, by rw [upd_ne (ne_of_none wl nR0)]; exact wl4, ⟨kvs4, by rw [upd_ne (ne_of fk4 e4 (by intro z; cases z))]; exact fk4, fm4⟩, few⟩
      · rw [upd_ne (ne_of_none e nR0)]
        exact b4 _ _ (b3 b u e h) h
      · rw [et]
        exact ((TrAll.butR b4 c3 t3).updL e4).snoc (tv.updL e4)
    · rintro σ H3 ⟨us, v3, rfl, c3, b3, e3, t3⟩
      rw [List.take_of_length_le (by rw [List.length_map]; omega)] at c3 t3
      refine ⟨_, rfl, .inl ⟨R, _, rfl, SqL.of e3, fun T nT => ?_⟩⟩
      have sT := same_new (o := .tup (.str x :: us)) nT
      have ei : i + 1 + ((rest.map (partW (blockW d))).flatten).length = i + (stW (blockW d) (.tup (.str x :: rest))).length := by
        show _ = i + (x :: (rest.map (partW (blockW d))).flatten).length
        rw [List.length_cons]
        omega
      have xl : x.length ≤ sizeLine := Nat.le_trans (word_few ek) (by decide)
      exact k _ _ (ei ▸ (c3.same sT)) (b3.trans (ButR.of sT)) (.tup (SqT.of upd_same) (.cons (.str x xl) (t3.same sT)))
end
end BK

set_option Elab.async false
set_option maxRecDepth 100000
set_option maxHeartbeats 4000000
set_option linter.unusedVariables false
/-! Reader: take_rows, all of them at every depth -/
namespace BK
open PySem PySem.Spec PyProof.Rows L2 RZ ET
theorem semi_eq (x : List Str) : ∀ r : List (List Str), semi (x :: r) = x ++ (r.map fun y => (";" : Str) :: y).flatten
  | [] => by simp [semi]
  | y :: r => by
    show x ++ (";" : Str) :: semi (y :: r) = _
    rw [semi_eq y r, List.map_cons, List.flatten_cons]
    rfl
theorem kind_word {x : Str} {ks : List Str} (h : kindsOf x = some ks) : x ∉ (["", "}"] : List Str) := by
  have all : (kindTab.all fun e => decide (e.1 ∉ (["", "}"] : List Str))) = true := by decide +kernel
  unfold kindsOf at h
  cases e : kindTab.find? fun e => decide (e.1 = x) with
  | none => rw [e] at h; cases h
  | some p =>
    have q : p.1 = x := of_decide_eq_true (List.find?_some (p := fun e : Str × List Str => decide (e.1 = x)) e)
    rw [← q]
    exact of_decide_eq_true (List.all_eq_true.mp all p (List.mem_of_find?_eq_some e))
def recS (K : PySem.W.Frag) (C : Addr) : Nat → Sp
  | 0 => fun _ _ _ _ => False
  | d + 1 => spTkS K C d
abbrev nTkR : List Str := ["self", "rows"]
theorem scTkR : FnScope nTkR ["self"] (defScope sTkR) := ⟨rfl, rfl, rfl, by decide +kernel, rfl, by decide +kernel, by decide +kernel⟩
section
variable {P : Program} {w : World} {K : PySem.W.Frag} {mg : Str → Option Value} {base : Heap}
theorem ok_tkR {C f fP fT fQ : Addr} {fd fdP fdT fdQ : FuncData} {m d : Nat} (F : Fun K "take_rows" "Reader.take_rows" sTkR f fd) (X : TxR K C) (hm : 3 ≤ m) (mTu : mg "tuple" = none)
    (GP : FnOk P w K mg base CX0 1 fP fdP ["self"] (spPeek K C)) (bP : Binds K fdP ["self"] []) (mP : Meth K C "peek" fP)
    (GT : FnOk P w K mg base CX0 2 fT fdT ["self", "can_stand"] (spTake K C)) (bT : Binds K fdT ["self", "can_stand"] []) (mT : Meth K C "take" fT)
    (GQ : FnOk P w K mg base CX0 m fQ fdQ ["self"] (recS K C d)) (bQ : Binds K fdQ ["self"] []) (mQ : Meth K C "take_row" fQ) : FnOk P w K mg base CX0 (m + 1) f fd ["self"] (spTkR K C d) := by
  refine F.ok scTkR (fun vs H Q E h => ?_) (fun cdv A outer s H vs Q E hr h => ?_)
  · obtain ⟨a, ws, i, o, ts, rest, rfl, _⟩ := h
    rfl
  · obtain ⟨a, ws, i, o, ts, tail, rfl, c, ok, hd, hw, k⟩ := h
    have hr2 : Room 2 _ := hr.mono (by omega)
    have hr1 : Room 1 _ := hr.mono (by omega)
    refine ⟨_, pss_cons (ps_if (pt_cmpR op_in_seq (pe_meth0 (pv 0) X.cl mP GP hr1 bP .nil pass0) (pe_tup (pa_cons pe_str (pa_cons pe_str pa_nil))) rfl) (pss_one (ps_ret (pe_tup pa_nil))) pss_nil)
      (pss_cons (ps_set (i := 1) scTkR.nd rfl (Or.inl rfl) (pe_lst (pa_cons (pe_meth0 (pv 0) X.cl mQ GQ hr bQ .nil pass0) pa_nil)))
      (pss_cons (ps_while PassesOwn.never (pt_cmpR op_eq (pe_meth0 (pv 0) X.cl mP GP hr1 bP .nil pass0) pe_str (nomark _))
        (pss_cons (ps_expr (pe_meth (pv 0) X.cl mT GT hr2 bT .nil pass0 (pa_cons pe_bl pa_nil)))
        (pss_one (ps_expr (pe_bm PySem.F.plainAttrs_list PySem.F.slot_list_append PySem.F.type_list_append mt_append (pv 1) (pa_cons (pe_meth0 (pv 0) X.cl mQ GQ hr bQ .nil pass0) pa_nil))))))
      (pss_one (ps_ret (pe_tupleOf (by rfl) mTu (pv 1)))))), ?_⟩
    obtain ⟨⟨dx, ob⟩, wl, fm, few⟩ := id c
    refine ⟨_, rfl, a.p, dx, _, rfl, ob, by rfl, a, ws, i, o, rfl, c, (by decide : 2 ≤ sizeLine), fun q nq => ?_⟩
    have sq := same_new (o := .tup [.str "", .str "}"]) nq
    refine ⟨q, (["", "}"] : List Str).map V.str, rfl, .inr (SqT.of upd_same), rfl, flat_txts ["", "}"], _, rfl, ?_⟩
    rw [in_txts]
    have c1 := c.same sq
    have b1 := ButR.of (a := a) sq
    generalize upd H q (.tup [.str "", .str "}"]) = H1 at sq c1 b1 ⊢
    cases d with
    | zero =>
      have e : ts = [] := ok
      subst e
      obtain ⟨ep, _⟩ := peek_at (w := "}") (r := tail) hw
      rw [ep, show decide (("}" : Str) ∈ (["", "}"] : List Str)) = true by decide]
      exact iteT ⟨Nat.zero_le _, fun T nT => k _ _ (c1.same (same_new nT)) (b1.trans (ButR.of (same_new nT))) (.tup (SqT.of upd_same) .nil)⟩
    | succ d =>
    cases ts with
    | nil =>
      obtain ⟨ep, _⟩ := peek_at (w := "}") (r := tail) hw
      rw [ep, show decide (("}" : Str) ∈ (["", "}"] : List Str)) = true by decide]
      exact iteT ⟨Nat.zero_le _, fun T nT => k _ _ (c1.same (same_new nT)) (b1.trans (ButR.of (same_new nT))) (.tup (SqT.of upd_same) .nil)⟩
    | cons t r =>
    obtain ⟨g, eg⟩ : ∃ g : Tr → List Str, g = fun u => (";" : Str) :: stW (blockW d) u := ⟨_, rfl⟩
    have eB : blockW (d + 1) (t :: r) = stW (blockW d) t ++ (r.map g).flatten := by
      show semi (stW (blockW d) t :: r.map (stW (blockW d))) = _
      rw [semi_eq, List.map_map, eg]
      rfl
    rw [eB] at hw k
    obtain ⟨hf, hb⟩ := ok t List.mem_cons_self
    obtain ⟨x, xr, ks, ex, ek, _⟩ := form_xs hf
    have ep : peekW ws i = x := by
      rw [ex] at hw
      exact (peek_at (w := x) (r := (xr.map (partW (blockW d))).flatten ++ (r.map g).flatten ++ ("}" : Str) :: tail) (by rw [hw]; rfl)).1
    rw [ep, decide_eq_false (kind_word ek)]
    refine iteF ?_
    obtain ⟨⟨dx1, ob1⟩, _⟩ := id c1
    refine ⟨_, rfl, a.p, dx1, _, rfl, ob1, by rfl, a, ws, i, o, t, (r.map g).flatten ++ ("}" : Str) :: tail, rfl, c1, hf, hb, by omega, by rw [hw, List.append_assoc], fun v H2 c2 b2 tv => ⟨(by decide : 1 ≤ sizeLine), fun R nR => ?_⟩⟩
    have b02 := b1.trans b2
    have nR0 : H R = none := by
      cases e : H R with
      | none => rfl
      | some u =>
        by_cases q : R = a.p
        · subst q
          obtain ⟨⟨dx1, ob1⟩, _⟩ := c2
          rw [ob1] at nR; cases nR
        · have := b02 R u e q
          rw [this] at nR; cases nR
    have sR := same_new (o := .lst [v]) nR
    have tl : (t :: r).length ≤ 100000 := by
      have h1 := congrArg List.length hw
      rw [List.length_drop, List.length_append, List.length_append] at h1
      have h2 : r.length ≤ ((r.map g).flatten).length := by
        have : ∀ l : List Tr, l.length ≤ ((l.map g).flatten).length := fun l => by
          induction l with
          | nil => exact Nat.zero_le _
          | cons u l ih =>
            rw [List.map_cons, List.flatten_cons, List.length_append, List.length_cons]
            have : 1 ≤ (g u).length := by rw [eg]; exact Nat.succ_le_succ (Nat.zero_le _)
            omega
        exact this r
      have h3 : 1 ≤ (stW (blockW d) t).length := by rw [ex]; exact Nat.succ_le_succ (Nat.zero_le _)
      rw [List.length_cons] at *
      omega
    refine ⟨fun m σ H3 => ∃ (j : Nat) (us : List V), m = r.length - j ∧ j ≤ r.length ∧ σ = [some (.ref a.p), some (.ref R)] ∧ RdAt K C H3 a ws (i + (stW (blockW d) t).length + (((r.take j).map g).flatten).length) o ∧ ButR a H H3 ∧ H3 R = some (.lst us) ∧ TrAll K H3 us (t :: r.take j), ⟨_, 0, [v], rfl, Nat.zero_le _, rfl, c2.same sR, b02.trans (ButR.of sR), upd_same, .cons (tv.same sR) .nil⟩, ?_⟩
    rintro m σ H3 ⟨j, us, rfl, hj, rfl, c3, b3, e3, t3⟩
    obtain ⟨⟨dx3, ob3⟩, _⟩ := id c3
    have ul := t3.len
    rw [List.length_cons, List.length_take] at ul
    have hdj : ws.drop (i + (stW (blockW d) t).length + (((r.take j).map g).flatten).length) = ((r.drop j).map g).flatten ++ ("}" : Str) :: tail := by
      have e1 : (r.map g).flatten = ((r.take j).map g).flatten ++ ((r.drop j).map g).flatten := by
        conv => lhs; rw [← List.take_append_drop j r]
        rw [List.map_append, List.flatten_append]
      rw [← List.drop_drop, ← List.drop_drop, hw, List.append_assoc, List.drop_left, e1, List.append_assoc, List.drop_left]
    refine ⟨_, rfl, a.p, dx3, _, rfl, ob3, by rfl, a, ws, _, o, rfl, c3, rfl, _, rfl, ?_⟩
    rw [eq_txt]
    by_cases hjr : j = r.length
    · have en : r.drop j = [] := List.drop_of_length_le (by omega)
      rw [en] at hdj
      obtain ⟨ep3, _⟩ := peek_at (w := "}") (r := tail) hdj
      rw [ep3, show decide (("}" : Str) = ";") = false by decide]
      rw [List.take_of_length_le (by omega)] at c3 t3
      refine iteF ⟨_, rfl, .inl ⟨R, us, rfl, SqL.of e3, fun T nT => ?_⟩⟩
      have sT := same_new (o := .tup us) nT
      have ei : i + (stW (blockW d) t).length + ((r.map g).flatten).length = i + (stW (blockW d) t ++ (r.map g).flatten).length := by rw [List.length_append]; omega
      exact k _ _ (ei ▸ (c3.same sT)) (b3.trans (ButR.of sT)) (.tup (SqT.of upd_same) (t3.same sT))
    · have jl : j < r.length := by omega
      have p3 : r[j]? = some r[j] := List.getElem?_eq_getElem jl
      have ed : r.drop j = r[j] :: r.drop (j + 1) := List.drop_eq_getElem_cons jl
      generalize r[j] = u at p3 ed
      have hdj2 : ws.drop (i + (stW (blockW d) t).length + (((r.take j).map g).flatten).length) = (";" : Str) :: (stW (blockW d) u ++ (((r.drop (j + 1)).map g).flatten ++ ("}" : Str) :: tail)) := by
        rw [hdj, ed, List.map_cons, List.flatten_cons, eg]
        simp
      obtain ⟨ep3, ed3⟩ := peek_at hdj2
      rw [ep3, decide_eq_true rfl]
      have um : u ∈ t :: r := List.mem_cons_of_mem _ (List.mem_of_getElem? p3)
      obtain ⟨hfu, hbu⟩ := ok u um
      refine iteT ⟨fun σ' H' => ∃ (j' : Nat) (us : List V), r.length - (j + 1) = r.length - j' ∧ j' ≤ r.length ∧ σ' = [some (.ref a.p), some (.ref R)] ∧ RdAt K C H' a ws (i + (stW (blockW d) t).length + (((r.take j').map g).flatten).length) o ∧ ButR a H H' ∧ H' R = some (.lst us) ∧ TrAll K H' us (t :: r.take j'), fun σ' H' h => ⟨r.length - (j + 1), by omega, h⟩, ?_⟩
      refine ⟨_, rfl, a.p, dx3, _, rfl, ob3, by rfl, a, ws, _, o, rfl, c3, fun H4 c4 b4 => ?_⟩
      obtain ⟨⟨dx4, ob4⟩, _⟩ := id c4
      have e4 := b4.lst c3 e3
      refine ⟨.ref R, rfl, .inl ⟨rfl, _, SqL.of e4⟩, _, rfl, a.p, dx4, _, rfl, ob4, by rfl, a, ws, _, o, u, _, rfl, c4, hfu, hbu, by omega, ed3, fun v5 H5 c5 b5 tv5 => ?_⟩
      have e5 := b5.lst c4 e4
      have et : r.take (j + 1) = r.take j ++ [u] := by rw [List.take_add_one, p3]; rfl
      have eflat : (((r.take (j + 1)).map g).flatten).length = (((r.take j).map g).flatten).length + 1 + (stW (blockW d) u).length := by
        rw [et, List.map_append, List.flatten_append, List.length_append, eg]
        simp
        omega
      obtain ⟨⟨dx5, ob5⟩, wl5, ⟨kvs5, fk5, fm5⟩, few5⟩ := id c5
      refine ⟨R, us, v5, rfl, rfl, e5, (by rw [sizeLine_eq]; rw [List.length_cons] at tl; omega), j + 1, us ++ [v5], rfl, by omega, rfl, ?_, fun b z e h => ?_, upd_same, ?_⟩
      · have ei : i + (stW (blockW d) t).length + (((r.take (j + 1)).map g).flatten).length = i + (stW (blockW d) t).length + (((r.take j).map g).flatten).length + 1 + (stW (blockW d) u).length := by rw [eflat]; omega
        rw [ei]
        exact ⟨⟨dx5, by rw [upd_ne (ne_of ob5 e5 (by intro z; cases z))]; exact ob5⟩, by rw [upd_ne (ne_of_none wl nR0)]; exact wl5, ⟨kvs5, by rw [upd_ne (ne_of fk5 e5 (by intro z; cases z))]; exact fk5, fm5⟩, few5⟩
      · rw [upd_ne (ne_of_none e nR0)]
        exact b5 _ _ (b4 _ _ (b3 b z e h) h) h
      · rw [et]
        exact (((TrAll.butR (b4.trans b5) c3 t3)).updL e5).snoc (tv5.updL e5)
end
end BK

set_option Elab.async false
set_option maxRecDepth 100000
set_option maxHeartbeats 4000000
set_option linter.unusedVariables false
/-! Reader: rows, blocks, parts at every depth; take_names -/
namespace BK
open PySem PySem.Spec PyProof.Rows L2 RZ ET
abbrev sTkN : Stmt := inClass cRd 6
theorem scTkN : FnScope ["self", "names"] ["self"] (defScope sTkN) := ⟨rfl, rfl, rfl, by decide +kernel, rfl, by decide +kernel, by decide +kernel⟩
def spTkN (K : PySem.W.Frag) (C : Addr) : Sp := fun vs H Q _ => ∃ (a : RP) (ws : List Str) (i o : Nat) (zs rest : List Str), vs = [.ref a.p] ∧ RdAt K C H a ws i o ∧ (∀ z ∈ zs, nameS z = true) ∧ ws.drop i = zs ++ rest ∧ nameS (rest.headD Str.empty) = false ∧ (rest.headD Str.empty).length ≤ 100 ∧ Reads K C H a ws i zs.length o (.tup (zs.map Tr.str)) Q
theorem peek_head {ws : List Str} {i : Nat} {r : List Str} (h : ws.drop i = r) : peekW ws i = r.headD Str.empty := by
  cases r with
  | nil =>
    have : ws.length ≤ i := List.drop_eq_nil_iff.mp h
    unfold peekW
    rw [List.getElem?_eq_none this]
    rfl
  | cons w r => exact (peek_at h).1
section
variable {P : Program} {w : World} {K : PySem.W.Frag} {mg : Str → Option Value} {base : Heap}
theorem ok_rd {C fP fT fW fN fS fI fR fB fQ fO : Addr} {fdP fdT fdW fdN fdS fdI fdR fdB fdQ fdO : FuncData} {t0 : Tok} (X : TxR K C) (gM : mg "MOST_OPEN" = some (.int 40 t0)) (mTu : mg "tuple" = none)
    (FR : Fun K "take_rows" "Reader.take_rows" sTkR fR fdR) (FB : Fun K "take_block" "Reader.take_block" sTkB fB fdB) (FQ : Fun K "take_part" "Reader.take_part" sTkP fQ fdQ) (FO : Fun K "take_row" "Reader.take_row" sTkS fO fdO)
    (GP : FnOk P w K mg base CX0 1 fP fdP ["self"] (spPeek K C)) (bP : Binds K fdP ["self"] []) (mP : Meth K C "peek" fP)
    (GT : FnOk P w K mg base CX0 2 fT fdT ["self", "can_stand"] (spTake K C)) (bT : Binds K fdT ["self", "can_stand"] []) (mT : Meth K C "take" fT)
    (GW : FnOk P w K mg base CX0 3 fW fdW ["self", "word"] (spTakeW K C)) (bW : Binds K fdW ["self", "word"] []) (mW : Meth K C "take_word" fW)
    (GN : FnOk P w K mg base CX0 3 fN fdN ["self"] (spTakeN K C)) (bN : Binds K fdN ["self"] []) (mN : Meth K C "take_name" fN)
    (GS : FnOk P w K mg base CX0 2 fS fdS ["self"] (spSees K C)) (bS : Binds K fdS ["self"] []) (mS : Meth K C "sees_number" fS)
    (GI : FnOk P w K mg base CX0 3 fI fdI ["self"] (spTakeI K C)) (bI : Binds K fdI ["self"] []) (mI : Meth K C "take_number" fI)
    (bR : Binds K fdR ["self"] []) (mR : Meth K C "take_rows" fR) (bB : Binds K fdB ["self"] []) (mB : Meth K C "take_block" fB) (bQ : Binds K fdQ ["self", "kind"] []) (mQ : Meth K C "take_part" fQ) (bO : Binds K fdO ["self"] []) (mO : Meth K C "take_row" fO) :
    ∀ d, FnOk P w K mg base CX0 (4 * d + 3 + 1) fR fdR ["self"] (spTkR K C d) ∧ FnOk P w K mg base CX0 (4 * d + 3 + 1 + 1) fB fdB ["self"] (spTkB K C d) ∧ FnOk P w K mg base CX0 (4 * d + 3 + 1 + 1 + 1) fQ fdQ ["self", "kind"] (spTkP K C d) ∧ FnOk P w K mg base CX0 (4 * d + 3 + 1 + 1 + 1 + 1) fO fdO ["self"] (spTkS K C d)
  | 0 =>
    have hR := ok_tkR (d := 0) FR X (by omega) mTu GP bP mP GT bT mT (fn_false (k := 4 * 0 + 3) fun _ => trivial) bO mO
    have hB := ok_tkB FB X (by omega) gM GP bP mP GT bT mT hR bR mR GW bW mW
    have hP := ok_tkP FQ X (by omega) hB bB mB GS bS mS GI bI mI GN bN mN
    ⟨hR, hB, hP, ok_tkS FO X (by omega) mTu GP bP mP GT bT mT hP bQ mQ⟩
  | d + 1 =>
    have hR := ok_tkR (d := d + 1) FR X (by omega) mTu GP bP mP GT bT mT (ok_rd X gM mTu FR FB FQ FO GP bP mP GT bT mT GW bW mW GN bN mN GS bS mS GI bI mI bR mR bB mB bQ mQ bO mO d).2.2.2 bO mO
    have hB := ok_tkB FB X (by omega) gM GP bP mP GT bT mT hR bR mR GW bW mW
    have hP := ok_tkP FQ X (by omega) hB bB mB GS bS mS GI bI mI GN bN mN
    ⟨hR, hB, hP, ok_tkS FO X (by omega) mTu GP bP mP GT bT mT hP bQ mQ⟩
theorem ok_tkN {C f fP fT fN : Addr} {fd fdP fdT fdN : FuncData} (F : Fun K "take_names" "Reader.take_names" sTkN f fd) (X : TxR K C) (mTu : mg "tuple" = none)
    (GP : FnOk P w K mg base CX0 1 fP fdP ["self"] (spPeek K C)) (bP : Binds K fdP ["self"] []) (mP : Meth K C "peek" fP)
    (GT : FnOk P w K mg base CX0 2 fT fdT ["self", "can_stand"] (spTake K C)) (bT : Binds K fdT ["self", "can_stand"] []) (mT : Meth K C "take" fT)
    (GN : FnOk P w K mg base CX0 1 fN fdN ["thing"] (spOf nameT K)) (bN : Binds K fdN ["thing"] []) (gN : mg "is_name" = some (.ref fN)) (kN : PySem.W.keepIn K (.ref fN) = true) : FnOk P w K mg base CX0 3 f fd ["self"] (spTkN K C) := by
  refine F.ok scTkN (fun vs H Q E h => ?_) (fun cdv A outer s H vs Q E hr h => ?_)
  · obtain ⟨a, ws, i, o, zs, rest, rfl, _⟩ := h
    rfl
  · obtain ⟨a, ws, i, o, zs, tail, rfl, c, hz, hw, hn, hl, k⟩ := h
    have hr1 : Room 1 _ := hr.mono (by omega)
    refine ⟨_, pss_cons (ps_set (i := 1) scTkN.nd rfl (Or.inl rfl) (pe_lst pa_nil))
      (pss_cons (ps_while PassesOwn.never (pt_val (pe_call GN hr1 rfl gN kN bN .nil pass0 (pa_cons (pe_meth0 (pv 0) X.cl mP GP hr1 bP .nil pass0) pa_nil)))
        (pss_one (ps_expr (pe_bm PySem.F.plainAttrs_list PySem.F.slot_list_append PySem.F.type_list_append mt_append (pv 1) (pa_cons (pe_meth (pv 0) X.cl mT GT hr bT .nil pass0 (pa_cons pe_bl pa_nil)) pa_nil)))))
      (pss_one (ps_ret (pe_tupleOf (by rfl) mTu (pv 1))))), ?_⟩
    obtain ⟨⟨dx, ob⟩, wl, fm, few⟩ := id c
    refine ⟨Nat.zero_le _, fun R nR => ?_⟩
    have sR := same_new (o := .lst []) nR
    have zl : zs.length ≤ 100000 := by
      have h1 := congrArg List.length hw
      rw [List.length_drop, List.length_append] at h1
      omega
    refine ⟨fun m σ H3 => ∃ (j : Nat), m = zs.length - j ∧ j ≤ zs.length ∧ σ = [some (.ref a.p), some (.ref R)] ∧ RdAt K C H3 a ws (i + j) o ∧ ButR a H H3 ∧ H3 R = some (.lst ((zs.take j).map V.str)), ⟨_, 0, rfl, Nat.zero_le _, rfl, c.same sR, ButR.of sR, upd_same⟩, ?_⟩
    rintro m σ H3 ⟨j, rfl, hj, rfl, c3, b3, e3⟩
    obtain ⟨⟨dx3, ob3⟩, _⟩ := id c3
    have hdj : ws.drop (i + j) = zs.drop j ++ tail := by
      rw [← List.drop_drop, hw, List.drop_append_of_le_length hj]
    have short : ∀ {z : Str}, nameS z = true → z.length ≤ sizeLine := fun {z} h => Nat.le_trans (name_short h) (by decide)
    by_cases hjr : j = zs.length
    · have en : zs.drop j = [] := List.drop_of_length_le (by omega)
      rw [en, List.nil_append] at hdj
      have ep3 := peek_head hdj
      refine ⟨_, rfl, a.p, dx3, _, rfl, ob3, by rfl, a, ws, _, o, rfl, c3, ?_⟩
      refine ⟨_, .str (peekW ws (i + j)), rfl, .str _ (by rw [ep3, sizeLine_eq]; omega), fun H4 s4 => ⟨_, rfl, ?_⟩⟩
      have e0 : nameT (.str (peekW ws (i + j))) = false := by rw [ep3]; exact hn
      rw [e0]
      rw [List.take_of_length_le (by omega)] at e3
      refine iteF ⟨_, rfl, .inl ⟨R, _, rfl, SqL.of (s4 _ _ e3), fun T nT => ?_⟩⟩
      have sT := same_new (o := .tup (zs.map V.str)) nT
      have tr : ∀ (l : List Str), (∀ z ∈ l, nameS z = true) → ∀ {H' : Hp}, TrAll K H' (l.map V.str) (l.map Tr.str) := fun l => by
        induction l with
        | nil => intro _ _; exact .nil
        | cons z l ih => intro h H'; exact .cons (.str z (short (h z List.mem_cons_self))) (ih fun y hy => h y (List.mem_cons_of_mem _ hy))
      exact k _ _ (hjr ▸ (c3.same (s4.trans sT))) (b3.trans (ButR.of (s4.trans sT))) (.tup (SqT.of upd_same) (tr zs hz))
    · have jl : j < zs.length := by omega
      have p3 : zs[j]? = some zs[j] := List.getElem?_eq_getElem jl
      have ed : zs.drop j = zs[j] :: zs.drop (j + 1) := List.drop_eq_getElem_cons jl
      generalize zs[j] = u at p3 ed
      rw [ed] at hdj
      obtain ⟨ep3, ed3⟩ := peek_at (w := u) (r := zs.drop (j + 1) ++ tail) hdj
      have nu := hz u (List.mem_of_getElem? p3)
      refine ⟨_, rfl, a.p, dx3, _, rfl, ob3, by rfl, a, ws, _, o, rfl, c3, ?_⟩
      rw [ep3]
      refine ⟨_, .str u, rfl, .str _ (short nu), fun H4 s4 => ⟨_, rfl, ?_⟩⟩
      rw [show nameT (.str u) = true from nu]
      refine iteT ⟨fun σ' H' => ∃ (j' : Nat), zs.length - (j + 1) = zs.length - j' ∧ j' ≤ zs.length ∧ σ' = [some (.ref a.p), some (.ref R)] ∧ RdAt K C H' a ws (i + j') o ∧ ButR a H H' ∧ H' R = some (.lst ((zs.take j').map V.str)), fun σ' H' h => ⟨zs.length - (j + 1), by omega, h⟩, ?_⟩
      have c4 := c3.same s4
      obtain ⟨⟨dx4, ob4⟩, _⟩ := id c4
      refine ⟨.ref R, rfl, .inl ⟨rfl, _, SqL.of (s4 _ _ e3)⟩, _, rfl, a.p, dx4, _, rfl, ob4, by rfl, a, ws, _, o, rfl, c4, fun H5 c5 b5 => ?_⟩
      have e5 := b5.lst c4 (s4 _ _ e3)
      rw [ep3]
      have et : zs.take (j + 1) = zs.take j ++ [u] := by rw [List.take_add_one, p3]; rfl
      obtain ⟨⟨dx5, ob5⟩, wl5, ⟨kvs5, fk5, fm5⟩, few5⟩ := id c5
      have nR0 : H R = none := nR
      refine ⟨R, _, .str u, rfl, rfl, e5, (by rw [sizeLine_eq, List.length_map, List.length_take]; omega), j + 1, rfl, by omega, rfl, ⟨⟨dx5, by rw [upd_ne (ne_of ob5 e5 (by intro z; cases z))]; exact ob5⟩, by rw [upd_ne (ne_of_none wl nR0)]; exact wl5, ⟨kvs5, by rw [upd_ne (ne_of fk5 e5 (by intro z; cases z))]; exact fk5, fm5⟩, few5⟩, fun b z e h => ?_, ?_⟩
      · rw [upd_ne (ne_of_none e nR0)]
        exact b5 _ _ (s4 _ _ (b3 b z e h)) h
      · rw [upd_same, et, List.map_append]
        rfl
end
end BK

set_option Elab.async false
set_option maxRecDepth 100000
set_option maxHeartbeats 4000000
set_option linter.unusedVariables false
/-! take_params, take_piece -/
namespace BK
open PySem PySem.Spec PyProof.Rows L2 RZ ET
abbrev sTPar : Stmt := top 55
abbrev sTPie : Stmt := top 56
abbrev nTPar : List Str := ["reader", "params", "slot", "kind"]
theorem scTPar : FnScope nTPar ["reader"] (defScope sTPar) := ⟨rfl, rfl, rfl, by decide +kernel, rfl, by decide +kernel, by decide +kernel⟩
theorem scTPie : FnScope ["reader", "name", "params"] ["reader"] (defScope sTPie) := ⟨rfl, rfl, rfl, by decide +kernel, rfl, by decide +kernel, by decide +kernel⟩
def PrmP (p : Tr) : Prop := ∃ n k, p = .tup [.str n, .str k] ∧ nameS n = true ∧ (k = "context" ∨ k = "token")
def spTPar (K : PySem.W.Frag) (C : Addr) : Sp := fun vs H Q _ => ∃ (a : RP) (ws : List Str) (i o : Nat) (ps : List Tr) (rest : List Str), vs = [.ref a.p] ∧ RdAt K C H a ws i o ∧ (∀ p ∈ ps, PrmP p) ∧ ws.drop i = (ps.map paramW).flatten ++ ("{" : Str) :: rest ∧ Reads K C H a ws i ((ps.map paramW).flatten).length o (.tup ps) Q
section
variable {P : Program} {w : World} {K : PySem.W.Frag} {mg : Str → Option Value} {base : Heap}
theorem ok_tPar {C f fP fT fN : Addr} {fd fdP fdT fdN : FuncData} (F : Fun K "take_params" "take_params" sTPar f fd) (X : TxR K C) (U : Kinds K mg) (mTu : mg "tuple" = none)
    (GP : FnOk P w K mg base CX0 1 fP fdP ["self"] (spPeek K C)) (bP : Binds K fdP ["self"] []) (mP : Meth K C "peek" fP)
    (GT : FnOk P w K mg base CX0 2 fT fdT ["self", "can_stand"] (spTake K C)) (bT : Binds K fdT ["self", "can_stand"] []) (mT : Meth K C "take" fT)
    (GN : FnOk P w K mg base CX0 3 fN fdN ["self"] (spTakeN K C)) (bN : Binds K fdN ["self"] []) (mN : Meth K C "take_name" fN) : FnOk P w K mg base CX0 4 f fd ["reader"] (spTPar K C) := by
  refine F.ok scTPar (fun vs H Q E h => ?_) (fun cdv A outer s H vs Q E hr h => ?_)
  · obtain ⟨a, ws, i, o, ps, rest, rfl, _⟩ := h
    rfl
  · obtain ⟨a, ws, i, o, ps, tail, rfl, c, hp, hw, k⟩ := h
    obtain ⟨aK, gK, sK⟩ := U.kd
    have hr1 : Room 1 _ := hr.mono (by omega)
    have hr2 : Room 2 _ := hr.mono (by omega)
    refine ⟨_, pss_cons (ps_set (i := 1) scTPar.nd rfl (Or.inl rfl) (pe_lst pa_nil))
      (pss_cons (ps_while PassesOwn.never (pt_cmpR op_ne (pe_meth0 (pv 0) X.cl mP GP hr1 bP .nil pass0) pe_str (nomark _))
        (pss_cons (ps_set (i := 2) scTPar.nd rfl (Or.inl rfl) (pe_meth0 (pv 0) X.cl mN GN hr bN .nil pass0))
        (pss_cons (ps_set (i := 3) scTPar.nd rfl (Or.inl rfl) (pe_meth (pv 0) X.cl mT GT hr2 bT .nil pass0 (pa_cons (pe_cmpR op_in_seq (pe_meth0 (pv 0) X.cl mP GP hr1 bP .nil pass0) (pe_glob (v := .ref aK) rfl gK rfl) rfl) pa_nil)))
        (pss_one (ps_expr (pe_bm PySem.F.plainAttrs_list PySem.F.slot_list_append PySem.F.type_list_append mt_append (pv 1) (pa_cons (pe_tup (pa_cons (pv 2) (pa_cons (pv 3) pa_nil))) pa_nil)))))))
      (pss_one (ps_ret (pe_tupleOf (by rfl) mTu (pv 1))))), ?_⟩
    obtain ⟨⟨dx, ob⟩, wl, fm, few⟩ := id c
    refine ⟨Nat.zero_le _, fun R nR => ?_⟩
    have sR := same_new (o := .lst []) nR
    have fl : ∀ l : List Tr, (∀ p ∈ l, PrmP p) → ((l.map paramW).flatten).length = 2 * l.length := fun l => by
      induction l with
      | nil => intro _; rfl
      | cons p l ih =>
        intro h
        obtain ⟨n, kk, rfl, _⟩ := h p List.mem_cons_self
        rw [List.map_cons, List.flatten_cons, List.length_append, ih fun q hq => h q (List.mem_cons_of_mem _ hq), List.length_cons]
        show 2 + _ = _
        omega
    have zl : ps.length ≤ 100000 := by
      have h1 := congrArg List.length hw
      rw [List.length_drop, List.length_append, fl ps hp] at h1
      omega
    rw [fl ps hp] at k
    refine ⟨fun m σ H3 => ∃ (j : Nat) (us : List V) (v2 v3 : Option V), m = ps.length - j ∧ j ≤ ps.length ∧ σ = [some (.ref a.p), some (.ref R), v2, v3] ∧ RdAt K C H3 a ws (i + 2 * j) o ∧ ButR a H H3 ∧ H3 R = some (.lst us) ∧ TrAll K H3 us (ps.take j), ⟨_, 0, [], none, none, rfl, Nat.zero_le _, rfl, c.same sR, ButR.of sR, upd_same, .nil⟩, ?_⟩
    rintro m σ H3 ⟨j, us, v2, v3, rfl, hj, rfl, c3, b3, e3, t3⟩
    obtain ⟨⟨dx3, ob3⟩, _⟩ := id c3
    have ul := t3.len
    rw [List.length_take] at ul
    have hdj : ws.drop (i + 2 * j) = ((ps.drop j).map paramW).flatten ++ ("{" : Str) :: tail := by
      have e1 : (ps.map paramW).flatten = ((ps.take j).map paramW).flatten ++ ((ps.drop j).map paramW).flatten := by
        conv => lhs; rw [← List.take_append_drop j ps]
        rw [List.map_append, List.flatten_append]
      have e2 := fl (ps.take j) fun p hq => hp p (List.mem_of_mem_take hq)
      rw [List.length_take, Nat.min_eq_left hj] at e2
      rw [← List.drop_drop, hw, e1, List.append_assoc, ← e2, List.drop_left]
    refine ⟨_, rfl, a.p, dx3, _, rfl, ob3, by rfl, a, ws, _, o, rfl, c3, rfl, _, rfl, ?_⟩
    rw [eq_txt]
    by_cases hjr : j = ps.length
    · have en : ps.drop j = [] := List.drop_of_length_le (by omega)
      rw [en] at hdj
      obtain ⟨ep3, _⟩ := peek_at (w := "{") (r := tail) hdj
      rw [ep3, decide_eq_true rfl]
      rw [List.take_of_length_le (by omega)] at t3
      refine iteF ⟨_, rfl, .inl ⟨R, us, rfl, SqL.of e3, fun T nT => ?_⟩⟩
      have sT := same_new (o := .tup us) nT
      exact k _ _ (hjr ▸ (c3.same sT)) (b3.trans (ButR.of sT)) (.tup (SqT.of upd_same) (t3.same sT))
    · have jl : j < ps.length := by omega
      have p3 : ps[j]? = some ps[j] := List.getElem?_eq_getElem jl
      have ed : ps.drop j = ps[j] :: ps.drop (j + 1) := List.drop_eq_getElem_cons jl
      generalize ps[j] = u at p3 ed
      obtain ⟨n, kk, rfl, nn, hk⟩ := hp u (List.mem_of_getElem? p3)
      rw [ed] at hdj
      have hdj : ws.drop (i + 2 * j) = n :: (kk :: (((ps.drop (j + 1)).map paramW).flatten ++ ("{" : Str) :: tail)) := hdj
      obtain ⟨ep3, ed3⟩ := peek_at hdj
      obtain ⟨ep4, ed4⟩ := peek_at ed3
      have nb : decide (n = "{") = false := by
        rw [decide_eq_false_iff_not]
        intro e
        rw [e] at nn
        exact absurd nn (by decide +kernel)
      rw [ep3, nb]
      have nl : n.length ≤ sizeLine := Nat.le_trans (name_short nn) (by decide)
      have kl : kk.length ≤ sizeLine := by rcases hk with rfl | rfl <;> decide
      refine iteT ⟨fun σ' H' => ∃ (j' : Nat) (us : List V) (v2 v3 : Option V), ps.length - (j + 1) = ps.length - j' ∧ j' ≤ ps.length ∧ σ' = [some (.ref a.p), some (.ref R), v2, v3] ∧ RdAt K C H' a ws (i + 2 * j') o ∧ ButR a H H' ∧ H' R = some (.lst us) ∧ TrAll K H' us (ps.take j'), fun σ' H' h => ⟨ps.length - (j + 1), by omega, h⟩, ?_⟩
      refine ⟨_, rfl, a.p, dx3, _, rfl, ob3, by rfl, a, ws, _, o, rfl, c3, by rw [ep3]; exact nn, by rw [ep3]; exact nl, fun H4 c4 b4 => ?_⟩
      rw [ep3]
      obtain ⟨⟨dx4, ob4⟩, _⟩ := id c4
      refine ⟨_, rfl, a.p, dx4, _, rfl, ob4, by rfl, _, rfl, a.p, dx4, _, rfl, ob4, by rfl, a, ws, _, o, rfl, c4, aK, (["context", "token"] : List Str).map V.str, rfl, .inr (sK _), rfl, flat_txts ["context", "token"], ?_⟩
      have hin : inV (.str (peekW ws (i + 2 * j + 1))) ((["context", "token"] : List Str).map V.str) = true := by
        rw [in_txts, ep4]
        rcases hk with rfl | rfl <;> decide
      refine ⟨a, ws, _, o, (by show [V.ref a.p, V.bl (inV (.str (peekW ws (i + 2 * j + 1))) ((["context", "token"] : List Str).map V.str))] = _; rw [hin]), c4, fun H5 c5 b5 => ?_⟩
      rw [ep4]
      have b45 := b4.trans b5
      have e5 := b45.lst c3 e3
      refine ⟨.ref R, rfl, .inl ⟨rfl, _, SqL.of e5⟩, _, rfl, _, rfl, (by decide : 2 ≤ sizeLine), fun T nT => ?_⟩
      have sT := same_new (o := .tup [.str n, .str kk]) nT
      have c6 := c5.same sT
      have e6 := sT _ _ e5
      have et : ps.take (j + 1) = ps.take j ++ [.tup [.str n, .str kk]] := by rw [List.take_add_one, p3]; rfl
      obtain ⟨⟨dx5, ob5⟩, wl5, ⟨kvs5, fk5, fm5⟩, few5⟩ := id c6
      have nR0 : H R = none := nR
      refine ⟨R, us, .ref T, rfl, rfl, e6, (by rw [sizeLine_eq]; omega), j + 1, us ++ [.ref T], _, _, rfl, by omega, rfl, ?_, fun b z e h => ?_, upd_same, ?_⟩
      · have ei : i + 2 * (j + 1) = i + 2 * j + 1 + 1 := by omega
        rw [ei]
        exact ⟨⟨dx5, by rw [upd_ne (ne_of ob5 e6 (by intro z; cases z))]; exact ob5⟩, by rw [upd_ne (ne_of_none wl nR0)]; exact wl5, ⟨kvs5, by rw [upd_ne (ne_of fk5 e6 (by intro z; cases z))]; exact fk5, fm5⟩, few5⟩
      · rw [upd_ne (ne_of_none e nR0)]
        exact sT _ _ (b45 _ _ (b3 b z e h) h)
      · rw [et]
        have tn : TrAt K (upd H5 T (.tup [.str n, .str kk])) (.ref T) (.tup [.str n, .str kk]) := .tup (SqT.of upd_same) (.cons (.str n nl) (.cons (.str kk kl) .nil))
        exact (((TrAll.butR b45 c3 t3).same sT).updL e6).snoc (tn.updL e6)
end
end BK

set_option Elab.async false
set_option maxRecDepth 100000
set_option maxHeartbeats 4000000
set_option linter.unusedVariables false
/-! take_piece, take_book -/
namespace BK
open PySem PySem.Spec PyProof.Rows L2 RZ ET
abbrev sTBk : Stmt := top 57
abbrev nTBk : List Str := ["reader", "variables", "pieces"]
theorem scTBk : FnScope nTBk ["reader"] (defScope sTBk) := ⟨rfl, rfl, rfl, by decide +kernel, rfl, by decide +kernel, by decide +kernel⟩
theorem param_P {t : Tr} (h : paramT t = true) (hn : nameT (firstT t) = true) : PrmP t := by
  unfold paramT at h
  split at h
  · rename_i a k
    have hn : nameT a = true := hn
    obtain ⟨n, rfl⟩ := name_str hn
    cases k with
    | str k =>
      have h : (decide (k = "context") || decide (k = "token")) = true := h
      rw [Bool.or_eq_true, decide_eq_true_eq, decide_eq_true_eq] at h
      exact ⟨n, k, rfl, hn, h⟩
    | _ => exact Bool.noConfusion (show false = true from h)
  · cases h
theorem texts_back : ∀ zs : List Str, texts (zs.map Tr.str) = zs
  | [] => rfl
  | z :: r => by
    show z :: texts (r.map Tr.str) = z :: r
    rw [texts_back r]
def spTPie (K : PySem.W.Frag) (C : Addr) : Sp := fun vs H Q _ => ∃ (a : RP) (ws : List Str) (i o : Nat) (t : Tr) (rest : List Str), vs = [.ref a.p] ∧ RdAt K C H a ws i o ∧ tripleT t = true ∧ okD 5 (blockOf t) ∧ o + 5 < 40 ∧ ws.drop i = pieceW t ++ rest ∧ Reads K C H a ws i (pieceW t).length o t Q
def spTBk (K : PySem.W.Frag) (C : Addr) : Sp := fun vs H Q _ => ∃ (a : RP) (zs : List Str) (ps : List Tr), vs = [.ref a.p] ∧ RdAt K C H a (bookW (.tup [.tup (zs.map Tr.str), .tup ps])) 0 0 ∧ (∀ z ∈ zs, nameS z = true) ∧ (∀ p ∈ ps, tripleT p = true ∧ okD 5 (blockOf p)) ∧
  ∀ v H', ButR a H H' → TrAt K H' v (.tup [.tup (zs.map Tr.str), .tup ps]) → Q v H'
section
variable {P : Program} {w : World} {K : PySem.W.Frag} {mg : Str → Option Value} {base : Heap}
theorem ok_tPie {C f fW fN fR fB : Addr} {fd fdW fdN fdR fdB : FuncData} (F : Fun K "take_piece" "take_piece" sTPie f fd) (X : TxR K C)
    (GW : FnOk P w K mg base CX0 3 fW fdW ["self", "word"] (spTakeW K C)) (bW : Binds K fdW ["self", "word"] []) (mW : Meth K C "take_word" fW)
    (GN : FnOk P w K mg base CX0 3 fN fdN ["self"] (spTakeN K C)) (bN : Binds K fdN ["self"] []) (mN : Meth K C "take_name" fN)
    (GR : FnOk P w K mg base CX0 4 fR fdR ["reader"] (spTPar K C)) (bR : Binds K fdR ["reader"] []) (gR : mg "take_params" = some (.ref fR)) (kR : PySem.W.keepIn K (.ref fR) = true)
    (GB : FnOk P w K mg base CX0 25 fB fdB ["self"] (spTkB K C 5)) (bB : Binds K fdB ["self"] []) (mB : Meth K C "take_block" fB) : FnOk P w K mg base CX0 26 f fd ["reader"] (spTPie K C) := by
  refine F.ok scTPie (fun vs H Q E h => ?_) (fun cdv A outer s H vs Q E hr h => ?_)
  · obtain ⟨a, ws, i, o, t, rest, rfl, _⟩ := h
    rfl
  · obtain ⟨a, ws, i, o, t, tail, rfl, c, ht, ok, hd, hw, k⟩ := h
    have hr3 : Room 3 _ := hr.mono (by omega)
    have hr4 : Room 4 _ := hr.mono (by omega)
    refine ⟨_, pss_cons (ps_expr (pe_meth (pv 0) X.cl mW GW hr3 bW .nil pass0 (pa_cons pe_str pa_nil)))
      (pss_cons (ps_set (i := 1) scTPie.nd rfl (Or.inl rfl) (pe_meth0 (pv 0) X.cl mN GN hr3 bN .nil pass0))
      (pss_cons (ps_set (i := 2) scTPie.nd rfl (Or.inl rfl) (pe_call GR hr4 rfl gR kR bR .nil pass0 (pa_cons (pv 0) pa_nil)))
      (pss_one (ps_ret (pe_tup (pa_cons (pv 1) (pa_cons (pv 2) (pa_cons (pe_meth0 (pv 0) X.cl mB GB hr bB .nil pass0) pa_nil)))))))), ?_⟩
    obtain ⟨n, pt, b, rfl, hp⟩ := triple_shape ht
    have nn : nameS n = true := by
      have tp : (nameS n && paramsT pt && true) = true := ht
      rw [Bool.and_eq_true, Bool.and_eq_true] at tp
      exact tp.1.1
    have ok : okD 5 b := ok
    obtain ⟨ps, rfl⟩ : ∃ ts, pt = .tup ts := by
      cases pt with
      | tup ts => exact ⟨ts, rfl⟩
      | _ => exact Bool.noConfusion (show false = true from hp)
    obtain ⟨l2, hpar, na, _⟩ := params_split hp
    have hps : ∀ p ∈ ps, PrmP p := fun p hp => param_P (List.all_eq_true.mp hpar p hp) (List.all_eq_true.mp na _ (List.mem_map.mpr ⟨p, hp, rfl⟩))
    have nl : n.length ≤ sizeLine := Nat.le_trans (name_short nn) (by decide)
    have hw : ws.drop i = ("piece" : Str) :: (n :: ((ps.map paramW).flatten ++ ("{" : Str) :: (blockW 5 b ++ ("}" : Str) :: tail))) := by
      rw [hw]
      simp [pieceW]
    have ln : (pieceW (.tup [.str n, .tup ps, .tup b])).length = 2 + ((ps.map paramW).flatten).length + (partW (blockW 5) (.tup b)).length := by
      simp only [pieceW, partW, List.length_append, List.length_cons, List.length_nil]
      omega
    rw [ln] at k
    obtain ⟨ep1, ed1⟩ := peek_at hw
    obtain ⟨ep2, ed2⟩ := peek_at ed1
    obtain ⟨⟨dx, ob⟩, _⟩ := id c
    refine ⟨_, rfl, a.p, dx, _, rfl, ob, by rfl, a, ws, i, o, _, rfl, c, ep1, fun H1 c1 b1 => ?_⟩
    obtain ⟨⟨dx1, ob1⟩, _⟩ := id c1
    refine ⟨_, rfl, a.p, dx1, _, rfl, ob1, by rfl, a, ws, _, o, rfl, c1, by rw [ep2]; exact nn, by rw [ep2]; exact nl, fun H2 c2 b2 => ?_⟩
    rw [ep2]
    refine ⟨_, rfl, a, ws, _, o, ps, _, rfl, c2, hps, ed2, fun v H3 c3 b3 tv => ?_⟩
    obtain ⟨⟨dx3, ob3⟩, _⟩ := id c3
    have ed3 : ws.drop (i + 1 + 1 + ((ps.map paramW).flatten).length) = partW (blockW 5) (.tup b) ++ tail := by
      rw [← List.drop_drop, ed2, List.drop_left]
      simp [partW]
    refine ⟨_, rfl, _, rfl, _, rfl, a.p, dx3, _, rfl, ob3, by rfl, a, ws, _, o, b, tail, rfl, c3, ok, hd, ed3, fun v2 H4 c4 b4 tv2 => ⟨(by decide : 3 ≤ sizeLine), fun T nT => ?_⟩⟩
    have sT := same_new (o := .tup [.str n, v, v2]) nT
    have ei : i + 1 + 1 + ((ps.map paramW).flatten).length + (partW (blockW 5) (.tup b)).length = i + (2 + ((ps.map paramW).flatten).length + (partW (blockW 5) (.tup b)).length) := by omega
    exact k _ _ (ei ▸ (c4.same sT)) ((((b1.trans b2).trans b3).trans b4).trans (ButR.of sT)) (.tup (SqT.of upd_same) (.cons (.str n nl) (.cons ((TrAt.butR b4 c3 tv).same sT) (.cons (tv2.same sT) .nil))))
theorem ok_tBk {C f fP fW fN fR : Addr} {fd fdP fdW fdN fdR : FuncData} (F : Fun K "take_book" "take_book" sTBk f fd) (X : TxR K C) (mTu : mg "tuple" = none)
    (GP : FnOk P w K mg base CX0 1 fP fdP ["self"] (spPeek K C)) (bP : Binds K fdP ["self"] []) (mP : Meth K C "peek" fP)
    (GW : FnOk P w K mg base CX0 3 fW fdW ["self", "word"] (spTakeW K C)) (bW : Binds K fdW ["self", "word"] []) (mW : Meth K C "take_word" fW)
    (GN : FnOk P w K mg base CX0 3 fN fdN ["self"] (spTkN K C)) (bN : Binds K fdN ["self"] []) (mN : Meth K C "take_names" fN)
    (GR : FnOk P w K mg base CX0 26 fR fdR ["reader"] (spTPie K C)) (bR : Binds K fdR ["reader"] []) (gR : mg "take_piece" = some (.ref fR)) (kR : PySem.W.keepIn K (.ref fR) = true) : FnOk P w K mg base CX0 27 f fd ["reader"] (spTBk K C) := by
  refine F.ok scTBk (fun vs H Q E h => ?_) (fun cdv A outer s H vs Q E hr h => ?_)
  · obtain ⟨a, zs, ps, rfl, _⟩ := h
    rfl
  · obtain ⟨a, zs, ps, rfl, c, hz, hp, k⟩ := h
    have hr1 : Room 1 _ := hr.mono (by omega)
    have hr3 : Room 3 _ := hr.mono (by omega)
    refine ⟨_, pss_cons (ps_expr (pe_meth (pv 0) X.cl mW GW hr3 bW .nil pass0 (pa_cons pe_str pa_nil)))
      (pss_cons (ps_set (i := 1) scTBk.nd rfl (Or.inl rfl) (pe_meth0 (pv 0) X.cl mN GN hr3 bN .nil pass0))
      (pss_cons (ps_set (i := 2) scTBk.nd rfl (Or.inl rfl) (pe_lst pa_nil))
      (pss_cons (ps_while PassesOwn.never (pt_cmpR op_ne (pe_meth0 (pv 0) X.cl mP GP hr1 bP .nil pass0) pe_str (nomark _))
        (pss_cons (ps_expr (pe_meth (pv 0) X.cl mW GW hr3 bW .nil pass0 (pa_cons pe_str pa_nil)))
        (pss_one (ps_expr (pe_bm PySem.F.plainAttrs_list PySem.F.slot_list_append PySem.F.type_list_append mt_append (pv 2) (pa_cons (pe_call GR hr rfl gR kR bR .nil pass0 (pa_cons (pv 0) pa_nil)) pa_nil))))))
      (pss_one (ps_ret (pe_tup (pa_cons (pv 1) (pa_cons (pe_tupleOf (by rfl) mTu (pv 2)) pa_nil)))))))), ?_⟩
    obtain ⟨g, eg⟩ : ∃ g : Tr → List Str, g = fun p => (";" : Str) :: pieceW p := ⟨_, rfl⟩
    have tx : texts (zs.map Tr.str) = zs := texts_back zs
    obtain ⟨ws, ews⟩ : ∃ ws, ws = bookW (.tup [.tup (zs.map Tr.str), .tup ps]) := ⟨_, rfl⟩
    have hw : ws = ("vars" : Str) :: (zs ++ (ps.map g).flatten) := by
      rw [ews, eg]
      show [("vars" : Str)] ++ texts (zs.map Tr.str) ++ _ = _
      rw [tx]
      rfl
    rw [← ews] at c
    obtain ⟨⟨dx, ob⟩, wl, fm, few⟩ := id c
    have hw0 : ws.drop 0 = ("vars" : Str) :: (zs ++ (ps.map g).flatten) := hw
    obtain ⟨ep1, ed1⟩ := peek_at hw0
    refine ⟨_, rfl, a.p, dx, _, rfl, ob, by rfl, a, ws, 0, 0, _, rfl, c, ep1, fun H1 c1 b1 => ?_⟩
    obtain ⟨⟨dx1, ob1⟩, _⟩ := id c1
    have hd : ∀ l : List Tr, nameS (((l.map g).flatten).headD Str.empty) = false ∧ (((l.map g).flatten).headD Str.empty).length ≤ 100 := fun l => by
      cases l with
      | nil => exact ⟨by show nameS Str.empty = false; decide +kernel, by show Str.empty.length ≤ 100; decide⟩
      | cons p l => rw [eg]; exact ⟨by show nameS ";" = false; decide +kernel, by show (";" : Str).length ≤ 100; decide⟩
    refine ⟨_, rfl, a.p, dx1, _, rfl, ob1, by rfl, a, ws, _, 0, zs, (ps.map g).flatten, rfl, c1, hz, ed1, (hd ps).1, (hd ps).2, fun v H2 c2 b2 tv => ?_⟩
    have ed2 : ws.drop (0 + 1 + zs.length) = (ps.map g).flatten := by rw [← List.drop_drop, ed1, List.drop_left]
    refine ⟨Nat.zero_le _, fun R nR => ?_⟩
    have b02 := b1.trans b2
    have nR0 : H R = none := by
      cases e : H R with
      | none => rfl
      | some u =>
        by_cases q : R = a.p
        · subst q
          obtain ⟨⟨dx1, ob1⟩, _⟩ := c2
          rw [ob1] at nR; cases nR
        · have := b02 R u e q
          rw [this] at nR; cases nR
    have sR := same_new (o := .lst []) nR
    have pl : ps.length ≤ 100000 := by
      have h1 := congrArg List.length hw
      rw [List.length_cons, List.length_append] at h1
      have h2 : ∀ l : List Tr, l.length ≤ ((l.map g).flatten).length := fun l => by
        induction l with
        | nil => exact Nat.zero_le _
        | cons u l ih =>
          rw [List.map_cons, List.flatten_cons, List.length_append, List.length_cons]
          have : 1 ≤ (g u).length := by rw [eg]; exact Nat.succ_le_succ (Nat.zero_le _)
          omega
      have := h2 ps
      omega
    refine ⟨fun m σ H3 => ∃ (j : Nat) (us : List V), m = ps.length - j ∧ j ≤ ps.length ∧ σ = [some (.ref a.p), some v, some (.ref R)] ∧ RdAt K C H3 a ws (0 + 1 + zs.length + (((ps.take j).map g).flatten).length) 0 ∧ ButR a H H3 ∧ H3 R = some (.lst us) ∧ TrAll K H3 us (ps.take j) ∧ TrAt K H3 v (.tup (zs.map Tr.str)), ⟨_, 0, [], rfl, Nat.zero_le _, rfl, c2.same sR, b02.trans (ButR.of sR), upd_same, .nil, tv.same sR⟩, ?_⟩
    rintro m σ H3 ⟨j, us, rfl, hj, rfl, c3, b3, e3, t3, tv3⟩
    obtain ⟨⟨dx3, ob3⟩, _⟩ := id c3
    have ul := t3.len
    rw [List.length_take] at ul
    have hdj : ws.drop (0 + 1 + zs.length + (((ps.take j).map g).flatten).length) = ((ps.drop j).map g).flatten := by
      have e1 : (ps.map g).flatten = ((ps.take j).map g).flatten ++ ((ps.drop j).map g).flatten := by
        conv => lhs; rw [← List.take_append_drop j ps]
        rw [List.map_append, List.flatten_append]
      rw [← List.drop_drop, ed2, e1, List.drop_left]
    refine ⟨_, rfl, a.p, dx3, _, rfl, ob3, by rfl, a, ws, _, 0, rfl, c3, rfl, _, rfl, ?_⟩
    rw [eq_txt]
    by_cases hjr : j = ps.length
    · have en : ps.drop j = [] := List.drop_of_length_le (by omega)
      rw [en] at hdj
      have ep3 := peek_head hdj
      rw [ep3, show decide (((([] : List Tr).map g).flatten).headD Str.empty = ("" : Str)) = true from (by show decide (Str.empty = ("" : Str)) = true; decide +kernel)]
      rw [List.take_of_length_le (by omega)] at t3
      refine iteF ⟨_, rfl, _, rfl, .inl ⟨R, us, rfl, SqL.of e3, fun T nT => ⟨(by decide : 2 ≤ sizeLine), fun T2 nT2 => ?_⟩⟩⟩
      have sT := same_new (o := .tup us) nT
      have sT2 := same_new (o := .tup [v, .ref T]) nT2
      exact k _ _ (b3.trans (ButR.of (sT.trans sT2))) (.tup (SqT.of upd_same) (.cons (tv3.same (sT.trans sT2)) (.cons ((TrAt.tup (SqT.of upd_same) (t3.same sT)).same sT2) .nil)))
    · have jl : j < ps.length := by omega
      have p3 : ps[j]? = some ps[j] := List.getElem?_eq_getElem jl
      have ed : ps.drop j = ps[j] :: ps.drop (j + 1) := List.drop_eq_getElem_cons jl
      generalize ps[j] = u at p3 ed
      obtain ⟨hu1, hu2⟩ := hp u (List.mem_of_getElem? p3)
      have hdj : ws.drop (0 + 1 + zs.length + (((ps.take j).map g).flatten).length) = (";" : Str) :: (pieceW u ++ ((ps.drop (j + 1)).map g).flatten) := by
        rw [hdj, ed, List.map_cons, List.flatten_cons, eg]
        rfl
      obtain ⟨ep3, ed3⟩ := peek_at hdj
      rw [ep3, show decide ((";" : Str) = "") = false by decide]
      refine iteT ⟨fun σ' H' => ∃ (j' : Nat) (us : List V), ps.length - (j + 1) = ps.length - j' ∧ j' ≤ ps.length ∧ σ' = [some (.ref a.p), some v, some (.ref R)] ∧ RdAt K C H' a ws (0 + 1 + zs.length + (((ps.take j').map g).flatten).length) 0 ∧ ButR a H H' ∧ H' R = some (.lst us) ∧ TrAll K H' us (ps.take j') ∧ TrAt K H' v (.tup (zs.map Tr.str)), fun σ' H' h => ⟨ps.length - (j + 1), by omega, h⟩, ?_⟩
      refine ⟨_, rfl, a.p, dx3, _, rfl, ob3, by rfl, a, ws, _, 0, _, rfl, c3, ep3, fun H4 c4 b4 => ?_⟩
      have e4 := b4.lst c3 e3
      refine ⟨.ref R, rfl, .inl ⟨rfl, _, SqL.of e4⟩, _, rfl, a, ws, _, 0, u, _, rfl, c4, hu1, hu2, by decide, ed3, fun v5 H5 c5 b5 tv5 => ?_⟩
      have e5 := b5.lst c4 e4
      have b45 := b4.trans b5
      have et : ps.take (j + 1) = ps.take j ++ [u] := by rw [List.take_add_one, p3]; rfl
      have eflat : (((ps.take (j + 1)).map g).flatten).length = (((ps.take j).map g).flatten).length + 1 + (pieceW u).length := by
        rw [et, List.map_append, List.flatten_append, List.length_append, eg]
        simp
        omega
      obtain ⟨⟨dx5, ob5⟩, wl5, ⟨kvs5, fk5, fm5⟩, few5⟩ := id c5
      refine ⟨R, us, v5, rfl, rfl, e5, (by rw [sizeLine_eq]; omega), j + 1, us ++ [v5], rfl, by omega, rfl, ?_, fun b z e h => ?_, upd_same, ?_, (TrAt.butR b45 c3 tv3).updL e5⟩
      · have ei : 0 + 1 + zs.length + (((ps.take (j + 1)).map g).flatten).length = 0 + 1 + zs.length + (((ps.take j).map g).flatten).length + 1 + (pieceW u).length := by rw [eflat]; omega
        rw [ei]
        exact ⟨⟨dx5, by rw [upd_ne (ne_of ob5 e5 (by intro z; cases z))]; exact ob5⟩, by rw [upd_ne (ne_of_none wl nR0)]; exact wl5, ⟨kvs5, by rw [upd_ne (ne_of fk5 e5 (by intro z; cases z))]; exact fk5, fm5⟩, few5⟩
      · rw [upd_ne (ne_of_none e nR0)]
        exact b45 _ _ (b3 b z e h) h
      · rw [et]
        exact ((TrAll.butR b45 c3 t3).updL e5).snoc (tv5.updL e5)
end
end BK

set_option Elab.async false
set_option maxRecDepth 100000
set_option maxHeartbeats 4000000
set_option linter.unusedVariables false
/-! words_of -/
namespace BK
open PySem PySem.Spec PyProof.Rows L2 RZ ET
def runSigns : Str := "abcdefghijklmnopqrstuvwxyz0123456789"
def blankS : Str := " \n"
def isRun (c : Nat) : Bool := decide (c ∈ runSigns.cps.toList)
def isBlank (c : Nat) : Bool := decide (c ∈ blankS.cps.toList)
/-- the words of signs, behind a run -/
def wk : List Nat → List Nat → List Str
  | [], _ => []
  | c :: r, run => if isRun c = true then wk r (run ++ [c]) else (if run = [] then [] else [⟨run.toArray⟩]) ++ ((if isBlank c = true then [] else [⟨#[c]⟩]) ++ wk r [])
theorem wk_yes {c : Nat} {r run : List Nat} (h : isRun c = true) : wk (c :: r) run = wk r (run ++ [c]) := by
  show (if isRun c = true then _ else _) = _
  exact if_pos h
theorem wk_no {c : Nat} {r run : List Nat} (h : isRun c = false) : wk (c :: r) run = (if run = [] then [] else [⟨run.toArray⟩]) ++ ((if isBlank c = true then [] else [⟨#[c]⟩]) ++ wk r []) := by
  show (if isRun c = true then _ else _) = _
  exact if_neg (by rw [h]; exact Bool.false_ne_true)
theorem cut_run {z : Str} {b i : Nat} (h1 : b ≤ i) (h2 : i ≤ z.length) : cutS z (some (b : Int)) (some (i : Int)) = ⟨((z.cps.toList.drop b).take (i - b)).toArray⟩ := by
  have e1 : HT.sIx z.length 0 (some (b : Int)) = b := by
    rw [HT.sIx_nat]
    omega
  have e2 : HT.sIx z.length z.length (some (i : Int)) = i := by
    rw [HT.sIx_nat]
    omega
  unfold cutS
  rw [e1, e2]
abbrev sWo : Stmt := top 42
abbrev nWo : List Str := ["text", "words", "begin", "at", "sign"]
theorem scWo : FnScope nWo ["text"] (defScope sWo) := ⟨rfl, rfl, rfl, by decide +kernel, rfl, by decide +kernel, by decide +kernel⟩
def spWo (K : PySem.W.Frag) : Sp := fun vs H Q _ => ∃ (z : Str), vs = [.str z] ∧ z.length ≤ 1000000 ∧ ∀ (R : Addr) H', Same H H' → H R = none → H' R = some (.lst ((wk (z.cps.toList ++ [32]) []).map V.str)) → Q (.ref R) H'
section
variable {P : Program} {w : World} {K : PySem.W.Frag} {mg : Str → Option Value} {base : Heap}
theorem ok_wo {f : Addr} {fd : FuncData} {t1 t2 : Tok} (F : Fun K "words_of" "words_of" sWo f fd) (mE : mg "enumerate" = none) (gR : mg "RUN_SIGNS" = some (.str runSigns t1)) (gB : mg "BLANKS" = some (.str blankS t2)) : FnOk P w K mg base CX0 1 f fd ["text"] (spWo K) := by
  refine F.ok scWo (fun vs H Q E h => ?_) (fun cdv A outer s H vs Q E hr h => ?_)
  · obtain ⟨z, rfl, _⟩ := h
    rfl
  · obtain ⟨z, rfl, hz, k⟩ := h
    refine ⟨_, pss_cons (ps_set (i := 1) scWo.nd rfl (Or.inl rfl) (pe_lst pa_nil))
      (pss_cons (ps_set (i := 2) scWo.nd rfl (Or.inl rfl) pe_int)
      (pss_cons (ps_for PassesOwn.never rfl (ES.pi_enumS (by rfl) mE (pa_cons (pe_op op_add_str (pv 0) pe_str) pa_nil)) (pg_tup rfl (pgs_cons (pg_name (i := 3) scWo.nd rfl (Or.inl rfl)) (pgs_cons (pg_name (i := 4) scWo.nd rfl (Or.inl rfl)) pgs_nil)))
        (pss_one (ps_if (pt_cmpR op_notInS (pv 4) (pe_glob (v := .str runSigns) rfl gR ⟨_, rfl⟩) rfl)
          (C8.pss_cut (ps_if (pt_cmpR op_lt (pv 2) (pv 3) (nomark _)) (pss_one (ps_expr (pe_bm PySem.F.plainAttrs_list PySem.F.slot_list_append PySem.F.type_list_append mt_append (pv 1) (pa_cons (pe_slice sl_str (pv 0) (po_some (pv 2)) (po_some (pv 3))) pa_nil)))) pss_nil)
          (C8.pss_cut (ps_if (pt_cmpR op_notInS (pv 4) (pe_glob (v := .str blankS) rfl gB ⟨_, rfl⟩) rfl) (pss_one (ps_expr (pe_bm PySem.F.plainAttrs_list PySem.F.slot_list_append PySem.F.type_list_append mt_append (pv 1) (pa_cons (pv 4) pa_nil)))) pss_nil)
          (pss_one (ps_set (i := 2) scWo.nd rfl (Or.inl rfl) (pe_op op_add (pv 3) pe_int))))) pss_nil)))
      (pss_one (ps_ret (pv 1))))), ?_⟩
    refine ⟨Nat.zero_le _, fun R nR => ?_⟩
    have sR := same_new (o := .lst []) nR
    obtain ⟨L, eL⟩ : ∃ L, L = z.cps.toList ++ [32] := ⟨_, rfl⟩
    rw [← eL] at k
    have eX : (z ++ " " : Str).cps.toList = L := by
      rw [eL]
      show (z.cps ++ (" " : Str).cps).toList = _
      rw [Array.toList_append]
      rfl
    have lX : (z ++ " " : Str).cps.size = L.length := by rw [← Array.length_toList, eX]
    have lL : L.length = z.length + 1 := by rw [eL, List.length_append]; rfl
    refine ⟨_, rfl, z, " ", rfl, rfl, by (show z.length + 1 ≤ sizeLine; rw [sizeLine_eq]; omega), _, rfl, ?_⟩
    refine for_it (ES.walk_enumS (x := z ++ " ")) (fun i σ H2 => ∃ (done : List Str) (b : Nat) (v3 v4 : Option V), σ = [some (.str z), some (.ref R), some (.int (b : Nat)), v3, v4] ∧ Same H H2 ∧ H2 R = some (.lst (done.map V.str)) ∧ b ≤ i ∧ done.length ≤ 2 * i ∧ done ++ wk (L.drop i) ((L.take i).drop b) = wk L [])
      ⟨[], 0, none, none, rfl, sR, upd_same, Nat.le_refl _, Nat.zero_le _, by simp⟩ (fun _ _ _ _ _ => True.intro) ?_ ?_
    · rintro i y σ H2 H3 hi ⟨done, b, v3, v4, rfl, s2, e2, hb, dl, ew⟩ ⟨T, xi, y', rfl, nT, rfl, q1, q2⟩
      obtain rfl : V.int (i : Nat) = xi := Option.some.inj q1
      have iL : i < L.length := by rw [← lX]; exact hi
      have hc : L[i]? = some L[i] := List.getElem?_eq_getElem iL
      have ed : L.drop i = L[i] :: L.drop (i + 1) := List.drop_eq_getElem_cons iL
      have et : L.take (i + 1) = L.take i ++ [L[i]] := by rw [List.take_add_one, hc]; rfl
      have q2 : ((z ++ " " : Str).cps[i]?).map (fun c => V.str ⟨#[c]⟩) = some y' := q2
      have hc2 : (z ++ " " : Str).cps[i]? = some L[i] := by rw [← Array.getElem?_toList, eX]; exact hc
      rw [hc2] at q2
      obtain rfl : V.str ⟨#[L[i]]⟩ = y' := Option.some.inj q2
      generalize L[i] = c at hc ed et hc2
      have lt : (L.take i).length = i := by rw [List.length_take]; omega
      have ed2 : (L.take (i + 1)).drop b = (L.take i).drop b ++ [c] := by rw [et, List.drop_append_of_le_length (by omega)]
      have sT := same_new (o := .tup [.int (i : Nat), .str ⟨#[c]⟩]) nT
      have s3 := s2.trans sT
      have e3 := sT _ _ e2
      refine ⟨T, _, rfl, SqT.of upd_same, rfl, _, _, rfl, _, _, rfl, rfl, ?_⟩
      generalize upd H2 T (.tup [.int (i : Nat), .str ⟨#[c]⟩]) = H3 at sT s3 e3 ⊢
      obtain ⟨run, erun⟩ : ∃ run, run = (L.take i).drop b := ⟨_, rfl⟩
      rw [ed, ← erun] at ew
      rw [← erun] at ed2
      refine ⟨_, rfl, c, runSigns, rfl, rfl, _, rfl, ?_⟩
      cases hrun : isRun c with
      | true =>
        rw [show decide (c ∈ runSigns.cps.toList) = true from hrun]
        rw [wk_yes hrun] at ew
        exact iteF ⟨done, b, _, _, rfl, s3, e3, by omega, by omega, by rw [ed2]; exact ew⟩
      | false =>
        rw [show decide (c ∈ runSigns.cps.toList) = false from hrun]
        rw [wk_no hrun] at ew
        refine iteT ?_
        have app : ∀ {H' : Hp} {us : List V}, Same H H' → Same H (upd H' R (.lst us)) := fun {H' us} s' b o e => by
          rw [upd_ne (ne_of_none e nR)]
          exact s' b o e
        have iz : i ≤ z.length := by omega
        have er2 : run = (z.cps.toList.drop b).take (i - b) := by
          rw [erun, eL, List.take_append_of_le_length (by rw [Array.length_toList]; exact iz), List.drop_take]
        have lr : run.length = i - b := by rw [erun, List.length_drop, lt]
        -- the run
        refine ⟨fun σ H4 => ∃ done' : List Str, σ = [some (.str z), some (.ref R), some (.int (b : Nat)), some (.int (i : Nat)), some (.str ⟨#[c]⟩)] ∧ Same H H4 ∧ H4 R = some (.lst (done'.map V.str)) ∧ done' = done ++ (if run = [] then [] else [⟨run.toArray⟩]) ∧ done'.length ≤ done.length + 1, ?_, ?_⟩
        · refine ⟨_, rfl, _, rfl, _, _, rfl, rfl, _, rfl, ?_⟩
          by_cases hbi : b = i
          · rw [decide_eq_false (show ¬ ((b : Int) < (i : Int)) by omega)]
            have en : run = [] := List.length_eq_zero_iff.mp (by omega)
            exact iteF ⟨done, rfl, s3, e3, by rw [if_pos en, List.append_nil], by omega⟩
          · rw [decide_eq_true (show ((b : Int) < (i : Int)) by omega)]
            have en : ¬ run = [] := fun q => by rw [q] at lr; simp at lr; omega
            refine iteT ⟨_, rfl, .inl ⟨rfl, _, SqL.of e3⟩, _, rfl, _, rfl, (b : Int), rfl, _, rfl, (i : Int), rfl, z, rfl, (by rw [sizeLine_eq]; omega), R, _, _, rfl, rfl, e3, (by rw [sizeLine_eq, List.length_map]; omega), done ++ [⟨run.toArray⟩], rfl, app s3, ?_, by rw [if_neg en], by rw [List.length_append]; exact Nat.le_refl _⟩
            rw [upd_same, cut_run hb iz, ← er2, List.map_append]
            rfl
        rintro σ H4 ⟨done', rfl, s4, e4, ed', dl'⟩
        -- the sign
        refine ⟨fun σ H5 => ∃ done2 : List Str, σ = [some (.str z), some (.ref R), some (.int (b : Nat)), some (.int (i : Nat)), some (.str ⟨#[c]⟩)] ∧ Same H H5 ∧ H5 R = some (.lst (done2.map V.str)) ∧ done2 = done' ++ (if isBlank c = true then [] else [⟨#[c]⟩]) ∧ done2.length ≤ done.length + 2, ?_, ?_⟩
        · refine ⟨_, rfl, c, blankS, rfl, rfl, _, rfl, ?_⟩
          cases hbl : isBlank c with
          | true =>
            rw [show decide (c ∈ blankS.cps.toList) = true from hbl]
            exact iteF ⟨done', rfl, s4, e4, by rw [if_pos rfl, List.append_nil], by omega⟩
          | false =>
            rw [show decide (c ∈ blankS.cps.toList) = false from hbl]
            refine iteT ⟨_, rfl, .inl ⟨rfl, _, SqL.of e4⟩, _, rfl, R, _, _, rfl, rfl, e4, (by rw [sizeLine_eq, List.length_map]; omega), done' ++ [⟨#[c]⟩], rfl, app s4, ?_, by rw [if_neg Bool.false_ne_true], by rw [List.length_append]; exact Nat.succ_le_succ dl'⟩
            rw [upd_same, List.map_append]
            rfl
        rintro σ H5 ⟨done2, rfl, s5, e5, ed5, dl5⟩
        have ei : ((i : Int) + 1) = ((i + 1 : Nat) : Int) := by omega
        refine ⟨_, rfl, _, _, rfl, rfl, done2, i + 1, some (.int (i : Nat)), some (.str ⟨#[c]⟩), (by rw [← ei]; rfl), s5, e5, Nat.le_refl _, by omega, ?_⟩
        have en : (L.take (i + 1)).drop (i + 1) = [] := List.drop_of_length_le (by rw [List.length_take]; omega)
        rw [en, ed5, ed', ← ew, List.append_assoc, List.append_assoc]
    · rintro σ H2 ⟨done, b, v3, v4, rfl, s2, e2, hb, dl, ew⟩
      rw [lX, List.drop_length] at ew
      have e0 : ∀ run, wk [] run = [] := fun _ => rfl
      rw [e0, List.append_nil] at ew
      rw [ew] at e2
      exact ⟨_, rfl, k R H2 s2 nR e2⟩
end
end BK

set_option Elab.async false
set_option maxRecDepth 100000
set_option maxHeartbeats 4000000
set_option linter.unusedVariables false
/-! Reader.__init__, read_book -/
namespace BK
open PySem PySem.Spec PyProof.Rows L2 RZ ET
abbrev sRIni : Stmt := inClass cRd 0
abbrev sRb : Stmt := top 58
theorem scRIni : FnScope ["self", "text", "forms", "digits"] ["self", "text", "forms", "digits"] (defScope sRIni) := ⟨rfl, rfl, rfl, by decide +kernel, rfl, by decide +kernel, by decide +kernel⟩
theorem scRb : FnScope ["text"] ["text"] (defScope sRb) := ⟨rfl, rfl, rfl, by decide +kernel, rfl, by decide +kernel, by decide +kernel⟩
def spRIni (K : PySem.W.Frag) (C : Addr) : Sp := fun vs H Q _ => ∃ (x dx q : Addr) (z : Str) (ws : List Str), vs = [.ref x, .str z, .ref q, .int 2] ∧ H x = some (.ins C dx []) ∧ z.length ≤ 300000 ∧ FormsAt K H q ∧ wk (z.cps.toList ++ [32]) [] = ws ∧ ws.length ≤ 100000 ∧
  ∀ R H', H R = none → RdAt K C H' ⟨x, R, q⟩ ws 0 0 → (∀ b o, H b = some o → b ≠ x → H' b = some o) → Q .non H'
section
variable {P : Program} {w : World} {K : PySem.W.Frag} {mg : Str → Option Value} {base : Heap}
theorem ok_rIni {C f fW : Addr} {fd fdW : FuncData} {t0 : Tok} (F : Fun K "__init__" "Reader.__init__" sRIni f fd) (X : TxR K C) (T : Forms mg) (gM : mg "MOST_SIGNS" = some (.int 300000 t0))
    (GW : FnOk P w K mg base CX0 1 fW fdW ["text"] (spWo K)) (bW : Binds K fdW ["text"] []) (gW : mg "words_of" = some (.ref fW)) (kW : PySem.W.keepIn K (.ref fW) = true) : FnOk P w K mg base CX0 2 f fd ["self", "text", "forms", "digits"] (spRIni K C) := by
  refine F.ok scRIni (fun vs H Q E h => ?_) (fun cdv A outer s H vs Q E hr h => ?_)
  · obtain ⟨x, dx, q, z, ws, rfl, _⟩ := h
    rfl
  · obtain ⟨x, dx, q, z, ws, rfl, ob, hz, fm, ew, wl, k⟩ := h
    have zl : z.length ≤ sizeLine := by rw [sizeLine_eq]; omega
    refine ⟨_, pss_cons (ps_if (PW.pt (pw_or (pt_not (pt_val (pe_callB call_isi (by rfl) T.isi boot_isinstance (pa_cons (pv 1) (pa_cons (pe_bltn (v := .ty "str") (u := .type "str") (by rfl) T.str (by decide +kernel) rfl) pa_nil)))))
        (pw_or1 (pt_cmpR op_gt (pe_callB call_len_str (by rfl) T.len boot_len (pa_cons (pv 1) pa_nil)) (pe_glob (v := .int 300000) rfl gM ⟨_, rfl⟩) rfl)))) (pss_one ps_dead) pss_nil)
      (pss_cons (ps_fld (pv 0) (pe_call GW hr rfl gW kW bW .nil pass0 (pa_cons (pv 1) pa_nil)) rfl)
      (pss_cons (ps_fld (pv 0) pe_int rfl)
      (pss_cons (ps_fld (pv 0) pe_int rfl)
      (pss_cons (ps_fld (pv 0) (pv 2) rfl)
      (pss_one (ps_fld (pv 0) (pv 3) rfl)))))), ?_⟩
    refine ⟨_, rfl, .str z, .ty "str", .type (tyT (.str z)), .type "str", isStr (.str z), rfl, .ty "str", (TrAt.str z zl : TrAt K H (.str z) (.str z)).ty, k_str K (.str z), _, rfl, iteF ?_⟩
    refine ⟨_, rfl, z, rfl, zl, _, _, rfl, rfl, _, rfl, ?_⟩
    rw [decide_eq_false (show ¬ ((300000 : Int) < (z.length : Int)) by omega)]
    refine iteF ⟨_, rfl, z, rfl, by omega, fun R H1 s1 nR eR => ?_⟩
    rw [ew] at eR
    have fm1 := fm.same s1
    refine ⟨_, rfl, x, C, dx, _, rfl, s1 _ _ ob, X.cl, X.nW, by decide, ?_⟩
    refine ⟨_, rfl, x, C, dx, _, rfl, upd_same, X.cl, X.nA, (by show 1 < 1000; decide), ?_⟩
    refine ⟨_, rfl, x, C, dx, _, rfl, upd_same, X.cl, X.nO, (by show 2 < 1000; decide), ?_⟩
    refine ⟨_, rfl, _, rfl, x, C, dx, _, rfl, upd_same, X.cl, X.nF, (by show 3 < 1000; decide), ?_⟩
    refine ⟨_, rfl, _, rfl, x, C, dx, _, rfl, upd_same, X.cl, X.nD, (by show 4 < 1000; decide), ?_⟩
    obtain ⟨kvs, fk, fmk⟩ := fm1
    have obx : H1 x = some (.ins C dx []) := s1 _ _ ob
    refine k R _ nR ⟨⟨dx, upd_same⟩, ?_, ⟨kvs, ?_, fmk⟩, wl⟩ fun b o e n => ?_
    · have xR : R ≠ x := (ne_of_none ob nR).symm
      show upd _ x _ R = _
      rw [upd_ne xR, upd_ne xR, upd_ne xR, upd_ne xR, upd_ne xR]
      exact eR
    · have xq : q ≠ x := ne_of fk obx (by intro z; cases z)
      show upd _ x _ q = _
      rw [upd_ne xq, upd_ne xq, upd_ne xq, upd_ne xq, upd_ne xq]
      exact fk
    · rw [upd_ne n, upd_ne n, upd_ne n, upd_ne n, upd_ne n]
      exact s1 _ _ e
/-- what read_book is asked: the words of a right book -/
def spRb (K : PySem.W.Frag) : Sp := fun vs H Q _ => ∃ (z : Str) (zs : List Str) (ps : List Tr), vs = [.str z] ∧ z.length ≤ 300000 ∧ wk (z.cps.toList ++ [32]) [] = bookW (.tup [.tup (zs.map Tr.str), .tup ps]) ∧ (bookW (.tup [.tup (zs.map Tr.str), .tup ps])).length ≤ 100000 ∧ (∀ y ∈ zs, nameS y = true) ∧ (∀ p ∈ ps, tripleT p = true ∧ okD 5 (blockOf p)) ∧
  faultT (.tup [.tup (zs.map Tr.str), .tup ps]) = none ∧ ∀ v H', Same H H' → TrAt K H' v (.tup [.tup (zs.map Tr.str), .tup ps]) → Q v H'
theorem ok_rb {C CB f fN fB fI p : Addr} {fd fdN fdB fdI : FuncData} {t0 : Tok} {es : Array DictEntry} {n : Nat} (F : Fun K "read_book" "read_book" sRb f fd) (X : TxR K C) (mC : mg "Reader" = some (.ref C)) (D : PartsD K mg w p es n) (Pc : PartsC es) (mD : mg "dict" = none) (gM : mg "MOST_DIGITS" = some (.int 2 t0))
    (GN : FnOk P w K mg base (L2.CX P w) 17 fN fdN ["thing"] (spNeed K CB)) (bN : Binds K fdN ["thing"] []) (gN : mg "need_book" = some (.ref fN)) (kN : PySem.W.keepIn K (.ref fN) = true)
    (GB : FnOk P w K mg base CX0 27 fB fdB ["reader"] (spTBk K C)) (bB : Binds K fdB ["reader"] []) (gB : mg "take_book" = some (.ref fB)) (kB : PySem.W.keepIn K (.ref fB) = true)
    (M : Mk K C fI) (GI : FnOk P w K mg base CX0 2 fI fdI ["self", "text", "forms", "digits"] (spRIni K C)) (bI : Binds K fdI ["self", "text", "forms", "digits"] []) : FnOk P w K mg base (L2.CX P w) 28 f fd ["text"] (spRb K) := by
  refine F.okX scRb (fun vs H Q E h => ?_) (fun cdv A outer s H vs Q E hr h => ?_)
  · obtain ⟨z, zs, ps, rfl, _⟩ := h
    rfl
  · obtain ⟨z, zs, ps, rfl, hz, ew, wl, hn, hp, hf, k⟩ := h
    have hr17 : Room 17 _ := hr.mono (by omega)
    have hr3 : Room 3 _ := hr.mono (by omega)
    refine ⟨_, pss_one (ps_ret (pe_call GN hr17 rfl gN kN bN .nil (E := E) (passes_call (takes_of rfl rfl rfl rfl) (fun _ _ _ _ h => h)) (pa_cons (pe_call GB hr rfl gB kB bB .nil pass0 (pa_cons (pe_make M GI hr3 rfl mC bI .nil pass0
      (pa_cons (pv 0) (pa_cons (pe_callTy call_dictKD (by rfl) mD (by decide +kernel) (pa_cons (pe_glob (v := .ref p) rfl D.g rfl) pa_nil)) (pa_cons (pe_glob (v := .int 2) rfl gM ⟨_, rfl⟩) pa_nil)))) pa_nil)) pa_nil))), ?_⟩
    refine ⟨_, rfl, p, es, n, rfl, D.d, Pc.rf, Pc.nd, Pc.ln, fun q kvs nq at_ => fun x dx nx ndx nxd => ?_⟩
    have s5 := same_new (o := .dK kvs) nq
    have s6 : Same (upd H q (.dK kvs)) (upd (upd (upd H q (.dK kvs)) dx (.own x)) x (.ins C dx [])) := fun b o e => by
      rw [upd_ne (ne_of_none e nx), upd_ne (ne_of_none e ndx)]
      exact e
    have fm : FormsAt K (upd H q (.dK kvs)) q := ⟨kvs, upd_same, fun x ks e => by
      obtain ⟨t, nt, st⟩ := D.at_ x ks e
      exact ⟨t, at_ x t nt, st⟩⟩
    refine ⟨x, dx, q, z, _, rfl, upd_same, hz, fm.same s6, ew, wl, fun R H7 nR c7 kp => ⟨rfl, ?_⟩⟩
    refine ⟨⟨x, R, q⟩, zs, ps, rfl, c7, hn, hp, fun v H8 b8 tv => ?_⟩
    have s78 : Same H H8 := fun b o e => by
      have e5 := s5 _ _ e
      have nbx : b ≠ x := ne_of_none e5 nx
      exact b8 b o (kp b o (s6 _ _ e5) nbx) nbx
    exact ⟨v, _, rfl, tv, fun _ H9 s9 => k v H9 (s78.trans s9) (tv.same s9), fun p2 ep => (by rw [hf] at ep; cases ep)⟩
end
end BK

set_option Elab.async false
set_option linter.all false
set_option maxRecDepth 100000
set_option maxHeartbeats 2000000
/-! try: .. except (four classes) as e: c = e, the error held behind the suite; what is asked of it. -/
namespace BK
open PySem PySem.Spec PyProof.Rows L2
theorem flying_keeps {B h h' : Heap} {l : List Env} {e : Addr} {Z : Obj → Prop} (R : HandSPX.FlyingZ B l e Z h) (k : ∀ b o, h.get? b = some o → h'.get? b = some o) : HandSPX.FlyingZ B l e Z h' := by
  obtain ⟨f1, f2, f3, oe, ws, T, oT, ts, he, hc, hd, h1, hn, hne, hT, hdT, h3⟩ := R
  exact ⟨fun b o q => k b o (f1 b o q), f2, f3.of_keeps fun b o q _ => ⟨o, k b o q, rfl⟩, oe, ws, T, oT, ts, k _ _ he, hc, hd, h1, hn, hne, k _ _ hT, hdT, h3⟩
/-- an error of the class cls with its own dict d stands at a -/
def EO (a : Addr) (cls : Value) (d : Option Addr) : HO := .ext fun h => ∃ (oe : Obj) (vs : Array Value), h.get? a = some oe ∧ oe.cls = cls ∧ oe.dict = d ∧ oe.data = .fields vs
theorem eo_ok {P : Program} {w : World} {H : Hp} {h : Heap} {a : Addr} {cls : Value} {d : Option Addr} {oe : Obj} {vs : Array Value} (he : h.get? a = some oe) (hc : oe.cls = cls) (hd : oe.dict = d) (hv : oe.data = .fields vs) : ObjOk P w H h a (EO a cls d) :=
  ⟨⟨oe, vs, he, hc, hd, hv⟩, ⟨_, he⟩, fun h1 h2 z k => by
    obtain ⟨oe, vs, q, r⟩ := z
    exact ⟨oe, vs, k _ q, r⟩⟩
theorem eo_at {P : Program} {w : World} {H : Hp} {h : Heap} {a : Addr} {cls : Value} {d : Option Addr} (hok : HOk P w H h) (he : H a = some (EO a cls d)) : ∃ (oe : Obj) (vs : Array Value), h.get? a = some oe ∧ oe.cls = cls ∧ oe.dict = d ∧ oe.data = .fields vs := by
  have z : ObjOk P w H h a (.ext fun h => ∃ (oe : Obj) (vs : Array Value), h.get? a = some oe ∧ oe.cls = cls ∧ oe.dict = d ∧ oe.data = .fields vs) := hok a _ he
  exact z.1
section
variable {X : Cx} {pins : List (Addr × Obj)} {σ : L2.St} {H : Hp} {s : Shared}
/-- an object that no entry knew is told of from now on -/
theorem inv_track {a : Addr} {o : HO} (I : Inv X pins σ H s) (na : H a = none) (n0 : ∀ u, X.s_0.heap.get? a = some u → a ∈ X.ex ∨ X.H_0 a ≠ none) (nL : a ≠ X.env.locals) (nC : ∀ x c, X.env.cells.lookup x = some c → c ≠ a) (nP : ∀ p ∈ X.pn ++ pins, p.1 ≠ a)
    (ok : ObjOk X.prog X.w (upd H a o) s.heap a o) : Inv X pins σ (upd H a o) s := by
  have at_ : ∀ b u, H b = some u → upd H a o b = some u := fun b u e => by
    rw [upd_ne (ne_of_none e na)]
    exact e
  refine ⟨I.ok, I.os, I.bare, ⟨I.base.keep, I.base.slot, fun b u e n hx => ?_, I.base.there, fun b xs e => at_ _ _ (I.base.tups b xs e), fun b u v e => at_ _ _ (I.base.frzs b u v e), fun b ps e => ?_⟩, I.loc, I.cell, ?_, fun x c e => ?_, fun p hp => ?_, fun b u e => ?_, I.len⟩
  · by_cases hb : b = a
    · rw [hb] at e n hx
      rcases n0 u e with z | z
      · exact absurd z hx
      · exact absurd n z
    · rw [upd_ne hb]
      exact I.base.free b u e n hx
  · obtain ⟨more, e'⟩ := I.base.tbls b ps e
    exact ⟨more, at_ _ _ e'⟩
  · rw [upd_ne nL.symm]
    exact I.free
  · rw [upd_ne (nC x c e)]
    exact I.freeC x c e
  · obtain ⟨h1, h2, h3⟩ := I.pin p hp
    exact ⟨h1, by rw [upd_ne (nP p hp)]; exact h2, h3⟩
  · by_cases hb : b = a
    · rw [hb, upd_same] at e
      cases e
      rw [hb]
      exact ok
    · rw [upd_ne hb] at e
      exact (I.hok b u e).stay (fun _ _ _ q => q) (fun b q => at_ _ _ q) fun b xs q => at_ _ _ q
/-- out of a suite, its error still pinned -/
theorem inv_unsuite {a : Addr} {q : Addr × Obj} {pn' : List (Addr × Obj)} (I : Inv (X.suite a (q :: (X.pn ++ pins))) pn' σ H s) (ok : X.Ok) : Inv X (q :: pins) σ H s :=
  ⟨ok, I.os, I.bare, I.base, I.loc, I.cell, I.free, I.freeC, fun p hp => by
    refine I.pin p (List.mem_append_left _ ?_)
    rcases List.mem_append.mp hp with z | z
    · exact List.mem_cons_of_mem _ (List.mem_append_left _ z)
    · rcases List.mem_cons.mp z with z | z
      · rw [z]
        exact List.mem_cons_self
      · exact List.mem_cons_of_mem _ (List.mem_append_right _ z), I.hok, I.len⟩
end
/-- what 'except x as n: m = n' wishes of an exception of the body: n in slot i, m in slot j -/
def wKeep (K : PySem.W.Frag) (cs : List Value) (len i j : Nat) (Wout : WX) (D : Ends) : WX := fun cls d σ H =>
  ∃ b, PySem.W.exmAny K cls cs = some b ∧ (b = true → σ.length = len → ∀ a, H a = none → D.nx (((σ.set i (some (.ref a))).set j (some (.ref a))).set i none) (upd H a (EO a cls d))) ∧ (b = false → Wout cls d σ H)
section
variable {X : Cx} {x1 x2 x3 x4 n m : Str} {c1 c2 c3 c4 : Value} {i j kk : Nat} {body : List Stmt} {np1 np2 np3 np4 tpos p1 p2 p3 pos pos' : Pos} {tb : WX → TS} {Wout : WX}
theorem ps_try_keep (hs : X.stack = X.env :: X.outer) (hf : X.env.frame = some X.env.locals) (hex : X.ex = []) (hN : X.N.Nodup) (hi : X.N[i]? = some n) (hln : X.env.kindOf n = some .local) (hj : X.N[j]? = some m) (hlm : X.env.scope.names.lookup m = some .local)
    (hlt : i < X.N.length) (hij : i ≠ j) (hc1 : Names X x1 c1) (hc2 : Names X x2 c2) (hc3 : Names X x3 c3) (hc4 : Names X x4 c4) (tk : Takes X Wout)
    (hb : ∀ (W : WX) (pn : List (Addr × Obj)) (xe : Value → Shared → Prop), Takes (X.tr pn xe) W → PassesOwn (model X.prog X.w) X.A X.env xe → PSs (X.tr pn xe) body (tb W))
    (hd1 : (n == ("__debug__" : Str)) = false := by decide) (hd2 : (n == ("__classdict__" : Str)) = false := by decide) :
    PS X (.Try body [.ExceptHandler (some (.Tuple [.Name x1 np1, .Name x2 np2, .Name x3 np3, .Name x4 np4] kk tpos)) (some n) [.Assign [.Name m p1] (.Name n p2) p3] pos'] [] [] pos) (fun D σ H => tb (wKeep X.K [c1, c2, c3, c4] X.N.length i j Wout D) D σ H) := by
  refine ⟨fun pins s σ H D I h => ?_⟩
  have ok := I.ok
  have frm : X.A.frames = some (X.env :: X.outer) := ok.frames.trans (congrArg some hs)
  refine wpAny_Try_except (wpAny_mono ((hb (wKeep X.K [c1, c2, c3, c4] X.N.length i j Wout D) (X.pn ++ pins) (fun e s₁ => wpAny (model X.prog X.w) X.A (noteFrame e X.env) (fun _ s₂ => wpAny (model X.prog X.w) X.A (setFlight e none)
    (fun _ s₃ => wpAny (model X.prog X.w) X.A (handleBy e X.env [.ExceptHandler (some (.Tuple [.Name x1 np1, .Name x2 np2, .Name x3 np3, .Name x4 np4] kk tpos)) (some n) [.Assign [.Name m p1] (.Name n p2) p3] pos']) (SP X pins D) X.xe s₃) X.xe s₂) X.xe s₁)
    (fun u s' air => ?_) PassesOwn.looking).run [] s σ H D (I.toTry _) h) (fun f s1 hsp => ?_) (fun _ _ z => z))
  · -- an error comes out of the body
    obtain ⟨a, B, sI, pins', σ', H', cls, d, rfl, JT, nb, up, sky, na, os, ag, b, hb1, hyes, hno⟩ := air
    have J : Inv X pins σ' H' sI := JT.ofTry ok
    have sky1 : Sky B (X.env :: X.outer) a (Zc cls d) X.env.locals s'.heap := hs ▸ sky
    show wpAny (model X.prog X.w) X.A (noteFrame (.ref a) X.env) _ _ _
    refine Sky.land Zc.steady frm hf sky1 fun hA flA upA => ?_
    have JA : Inv X pins σ' H' { s' with heap := hA } := J.landed nb flA.1 (up.trans upA) os ag
    obtain ⟨oA, vA, getA, zA, dA⟩ := flA.there
    have out : a ∉ frs (X.env :: X.outer) := fun hm => by
      obtain ⟨_, o', e', bad⟩ := flA.2.2.1.mem hm
      rw [getA] at e'
      cases e'
      exact bad _ dA
    have nL : a ≠ X.env.locals := fun z => out (List.mem_filterMap.mpr ⟨X.env, List.mem_cons_self, by rw [hf, z]⟩)
    have nF : a ∉ X.fs := fun hm => by
      obtain ⟨e, he, q⟩ := List.mem_filterMap.mp hm
      exact out (List.mem_filterMap.mpr ⟨e, List.mem_cons_of_mem _ he, q⟩)
    have noB : ∀ o, sI.heap.get? a = some o → False := fun o e => by
      have z := nb a o e (by rw [hs]; exact out)
      rw [flA.2.1] at z
      cases z
    have SA := JA.suite getA dA na nL nF
    refine wpAny_handleBy_cons (codeAny_handlers_test ?_) (by intro q; cases q)
    have name : ∀ {x : Str} {c : Value} {np : Pos} {Q : Value → Shared → Prop} {E : Value → Shared → Prop}, Names X x c → Q c { s' with heap := hA } → wpAny (model X.prog X.w) (X.A.mark (some (.ref a))) (eval (.Name x np) X.env) Q E { s' with heap := hA } := fun {x c np Q E} hc q => by
      obtain ⟨hg, hdbg, hm | ⟨hm, hv, hnn⟩⟩ := hc
      · exact ld_glob (X := X.suite a ((a, oA) :: (X.pn ++ pins))) SA hg hm q hdbg
      · exact ld_blt (X := X.suite a ((a, oA) :: (X.pn ++ pins))) SA hg hm hv q hnn hdbg
    refine wpAny_Tuple ?_
    refine wpAny_items_cons (name hc1 ?_)
    refine wpAny_items_cons (name hc2 ?_)
    refine wpAny_items_cons (name hc3 ?_)
    refine wpAny_items_cons (name hc4 ?_)
    refine wpAny_items_nil ⟨by size_fits, ?_⟩
    have kp : ∀ q o, hA.get? q = some o → (hA.push { cls := .type "tuple", data := .seq [c1, c2, c3, c4].toArray }).get? q = some o := fun _ _ z => Heap.get?_push_of_some _ z
    have LT : PySem.W.Looks (model X.prog X.w) hA (typeOf (.ref a)) cls := fun A Q E s k q => wpAny_typeOf_ref (k _ _ getA) (by rw [zA.1]; exact q)
    refine (PySem.W.exm_tup4 (fun c o e => kp c o (JA.kIn c o e)) (LT.keeps kp) (Heap.get?_push_size hA rfl) hb1).here ?_
    have flA := flying_keeps flA kp
    have upA : s'.heap.UpToSlots (hA.push { cls := .type "tuple", data := .seq [c1, c2, c3, c4].toArray }) := upA.trans fun c o e _ => ⟨o.slots, kp c o e⟩
    clear SA JA LT name
    dsimp only
    generalize hA.push { cls := .type "tuple", data := .seq [c1, c2, c3, c4].toArray } = hT at flA upA ⊢
    cases b with
    | false =>
      show wpAny _ X.A (handleBy (.ref a) X.env []) _ _ _
      refine wpAny_handleBy_nil ?_
      obtain ⟨_, _, _, oe, vs, T, oT, _, he, _, hd, h1, _⟩ := id flA
      have fin : wpAny (model X.prog X.w) X.A (setFlight (.ref a) X.env.frame) (fun _ s4 => wpAny (model X.prog X.w) X.A (throw (.ref a) : Sem Flow) (SP X pins D) X.xe s4) X.xe { s' with heap := hT } := by
        rw [hf]
        exact HandSPX.setFlight_upZ flA fun hB fB upB => wpAny_throw (tk _ _ ⟨a, B, sI, pins, σ', H', cls, d, rfl, J, nb, (up.trans upA).trans upB, .inr (.inr (by rw [hs]; exact fB)), na, os, ag, hno rfl⟩)
      unfold PySem.passOn
      refine wpAny_bind (wpAny_field he hd h1 ?_)
      rw [if_neg (show ¬ ((Value.ref T == Value.none) = true) from by simp)]
      first
        | exact wpAny_bind (wpAny_pure (wpAny_bind fin))
        | exact wpAny_bind fin
    | true =>
      refine codeAny_handlers_suite_as (HandSPX.lands_againZ flA fun hB flB upB => ?_)
      have JB : Inv X pins σ' H' { s' with heap := hB } := J.landed nb flB.1 ((up.trans upA).trans upB) os ag
      obtain ⟨oB, vB, getB, zB, dB⟩ := flB.there
      refine store_ok (X := X.suite a ((a, oB) :: (X.pn ++ pins))) (v := .ref a) (JB.suite getB dB na nL nF) hN hi (.inl hln) rfl (fun s5 S5 => ?_) (.inr hln)
      have li : i < σ'.length := by rw [J.len]; exact hlt
      have put : PSs (X.suite a ((a, oB) :: (X.pn ++ pins))) [.Assign [.Name m p1] (.Name n p2) p3] (tAsg (tVar i) (gName j)) := pss_one (ps_set (hf := .inr hlm) hN hj (.inl hlm) (pe_var hi (.inl hln) hd1 hd2))
      refine wpAny_mono (put.run [] s5 _ H' { nx := fun σ6 H6 => σ6 = (σ'.set i (some (.ref a))).set j (some (.ref a)) ∧ H6 = H', rt := fun _ _ => False, bk := fun _ _ => False, ct := fun _ _ => False } S5 ⟨_, List.getElem?_set_self li, rfl, rfl⟩) (fun f s6 hsp => ?_) (fun _ _ z => False.elim z)
      cases f with
      | next =>
        obtain ⟨σ6, H6, S6, rfl, rfl⟩ := hsp
        refine gone_ok (inv_unsuite S6 ok) hN hi hln fun s7 J7 => ?_
        obtain ⟨get7, _⟩ := J7.pin (a, oB) (List.mem_append_right _ List.mem_cons_self)
        have J8 : Inv X pins _ H6 s7 := J7.pins_of fun p hp => J7.pin p (List.mem_append_right _ (List.mem_cons_of_mem _ hp))
        refine ⟨_, _, inv_track J8 na (fun u e => ?_) nL (fun y cc e z => ?_) (fun p hp z => ?_) (eo_ok (cls := cls) (d := d) get7 zB.1 zB.2 dB), hyes rfl J.len a na⟩
        · refine .inr fun hz => ?_
          exact noB _ (J.base.keep a u e hz nF (by rw [hex]; simp))
        · obtain ⟨v, o, ho, hdd⟩ := J7.cell y cc e
          rw [z, get7] at ho
          cases ho
          rw [show oB.data = _ from hdd] at dB
          cases dB
        · obtain ⟨e, _⟩ := J.pin p hp
          rw [z] at e
          exact noB _ e
      | brk =>
        obtain ⟨_, _, _, z⟩ := hsp
        exact z.elim
      | cont =>
        obtain ⟨_, _, _, z⟩ := hsp
        exact z.elim
      | ret u =>
        obtain ⟨_, _, _, _, _, z⟩ := hsp
        exact z.elim
  · cases f with
    | next =>
      obtain ⟨σ', H', J', q⟩ := hsp
      exact wpAny_execs_nil ⟨σ', H', J'.ofTry ok, q⟩
    | brk =>
      obtain ⟨σ', H', J', q⟩ := hsp
      exact ⟨σ', H', J'.ofTry ok, q⟩
    | cont =>
      obtain ⟨σ', H', J', q⟩ := hsp
      exact ⟨σ', H', J'.ofTry ok, q⟩
    | ret u =>
      obtain ⟨v, σ', H', J', r, q⟩ := hsp
      exact ⟨v, σ', H', J'.ofTry ok, r, q⟩
end

structure ErrF (K : PySem.W.Frag) (C : Addr) : Prop where
  ga : PySem.W.findIn K (.ref C) "__getattribute__" = some (some (.builtin "BaseException.__getattribute__"))
  gg : PySem.W.findIn K (.ref C) "__getattr__" = some none
  exC : PySem.W.subIn K (.ref C) (.type "BaseException") = some true
  hdC : PySem.W.hasDictIn K C = true
  noN : PySem.W.findIn K (.ref C) "place" = some none
/-- what isinstance asks of the class at C -/
structure IsFacts (K : PySem.W.Frag) (C : Addr) : Prop where
  cl : (PySem.W.clsIn K C).isSome = true
  ha : PySem.W.findIn K (.ref C) "__class__" = some (some (.builtin "object.__class__"))
  hn : PySem.W.specialIn K (.builtin "object.__class__") "__get__" = some (some (.builtin "getset_descriptor.__get__"))
  tk : PySem.W.takesIn K (.builtin "object.__class__") = some true
  hm : PySem.W.mroIn K C (.type "object") = some true
section
variable {X : Cx} {pins : List (Addr × Obj)} {σ : L2.St} {H : Hp} {s : Shared} {CF : Addr}
theorem eo_inst {a d : Addr} {fs : List (Str × V)} (I : Inv X pins σ H s) (e : H a = some (EO a (.ref CF) (some d))) (ed : H d = some (.xd fs)) : ∃ oe od, PySem.W.InstAt s.heap a oe CF (some od) ∧ ∃ mA : Str → Option Value, (∀ name, PySem.W.lookIn name od = some (mA name)) ∧ ∀ f, RelO (fs.lookup f) (mA f) := by
  obtain ⟨oe, vs, h1, h2, h3, h4⟩ := eo_at I.hok e
  obtain ⟨mA, hns, hr⟩ := (show ObjOk X.prog X.w H s.heap d (.xd fs) from I.hok d _ ed)
  obtain ⟨od, ho, hl⟩ := lookIn_ns hns
  exact ⟨oe, od, ⟨h1, h2, by unfold PySem.W.notCls; rw [h4], by rw [h3]; exact ho⟩, mA, hl, hr⟩
/-- isinstance(e, c), isinstance(e, (c1, c2)) -/
theorem call_isiEO (R : ErrF X.K CF) (T : IsFacts X.K CF) : CallR X (.builtin "isinstance") (fun xs H Q => ∃ (a d : Addr) (fs : List (Str × V)) (c : V) (u : Value) (b : Bool), xs = [.ref a, c] ∧ ClsV c u ∧ H a = some (EO a (.ref CF) (some d)) ∧ H d = some (.xd fs) ∧
    PySem.W.kitOne X.K (.ref CF) u = some b ∧ Q (.bl b) H) := by
  intro pins s σ H xs us Q I r h
  obtain ⟨a, d, fs, c, u, b, rfl, k, ea, ed, e, q⟩ := h
  obtain ⟨u1, u2, rfl, r1, r2⟩ := vals2 r
  obtain rfl : u1 = Value.ref a := r1
  have e2 := k.eq r2
  subst e2
  obtain ⟨oe, od, J, _⟩ := eo_inst I ea ed
  exact PySem.W.kia_one (PySem.W.kitx_exc T.cl R.ga R.gg R.exC T.ha T.hn T.tk T.hm) I.kIn J e (fun z => nomatch z) fun tk => ⟨.bl b, H, I.tok tk, rfl, q⟩
theorem call_isiEOT (R : ErrF X.K CF) (T : IsFacts X.K CF) : CallR X (.builtin "isinstance") (fun xs H Q => ∃ (a d tp : Addr) (fs : List (Str × V)) (cs : List V) (us : List Value) (b : Bool), xs = [.ref a, .ref tp] ∧ H tp = some (.tup cs) ∧ Paired ClsV cs us ∧
    H a = some (EO a (.ref CF) (some d)) ∧ H d = some (.xd fs) ∧ PySem.W.kitAny X.K (.ref CF) us = some b ∧ Q (.bl b) H) := by
  intro pins s σ H xs us Q I r h
  obtain ⟨a, d, tp, fs, cs, ws, b, rfl, hT, k, ea, ed, e, q⟩ := h
  obtain ⟨u1, u2, rfl, r1, r2⟩ := vals2 r
  obtain rfl : u1 = Value.ref a := r1
  obtain rfl : u2 = Value.ref tp := r2
  obtain ⟨_, its, rv, o, h1, h2, n, h3⟩ := (show ObjOk X.prog X.w H s.heap tp (.tup cs) from I.hok tp _ hT)
  have e3 := ClsV.all k rv
  subst e3
  obtain ⟨oc, oc2, dt, sl⟩ := o
  simp only at h2 h3
  subst h2 h3
  obtain ⟨oe, od, J, _⟩ := eo_inst I ea ed
  exact PySem.W.kia_tup (PySem.W.kitx_exc T.cl R.ga R.gg R.exC T.ha T.hn T.tk T.hm) I.kIn J h1 e (fun z => nomatch z) fun tk => ⟨.bl b, H, I.tok tk, rfl, q⟩
/-- e.place -/
def tPlace (CF : Addr) (te : TE) : TE := fun σ H Q => te σ H fun x H1 => ∃ (a d : Addr) (v : V), x = .ref a ∧ H1 a = some (EO a (.ref CF) (some d)) ∧ H1 d = some (.xd [("place", v)]) ∧ Q v H1
theorem pe_place {e : Expr} {te : TE} {pos : Pos} (R : ErrF X.K CF) (he : PE X e te) (hb : attributeBase e "place" X.env (eval e X.env) = eval e X.env := by rfl) : PE X (.Attribute e "place" pos) (tPlace CF te) := by
  refine ⟨fun pins s σ H Q I h => ?_⟩
  refine attr_of hb (thn (he.run pins s σ H _ I h) fun u s1 hh => ?_)
  obtain ⟨x, H1, I1, rx, a, d, v, rfl, ea, ed, q⟩ := hh
  obtain rfl : u = Value.ref a := rx
  obtain ⟨oe, od, J, mA, hl, hr⟩ := eo_inst I1 ea ed
  have l : List.lookup ("place" : Str) [(("place" : Str), v)] = some v := by simp [List.lookup]
  obtain ⟨u, hu, ru⟩ := RelO.some_of (v := v) (o := mA "place") (by rw [← l]; exact hr "place")
  exact HandSPX.exc_get I1.kIn J R.ga R.gg R.exC (PySem.W.findObj_own R.hdC R.noN rfl (by rw [hl, hu])) (handed_of ru) ⟨v, H1, I1.tok _, ru, q⟩
end
end BK



set_option Elab.async false
set_option maxRecDepth 100000
set_option maxHeartbeats 1000000
/-! repr of data: where no repr runs around; trees that are shown. -/
namespace BK
open PySem PySem.Spec PyProof.Rows L2
/-- a def's promise, called where no guarded call runs around -/
structure FnG (P : Program) (w : World) (K : PySem.W.Frag) (mg : Str → Option Value) (base : Heap) (k : Nat) (f : Addr) (fd : FuncData) (ps : List Str) (sp : Sp) : Prop where
  len : ∀ vs H Q E, sp vs H Q E → vs.length = ps.length
  run : ∀ (A : Around) (outer : List Env) (s : Shared) (H : Hp) (us : List Value) (vs : List V) (Q : VK) (E : XK), A.guards = some [] → Room k A → Env0 P w K mg base A outer s H → BindsTo s fd ⟨us, []⟩ (ps.zip us) → Vals vs us → sp vs H Q E →
    codeAny (model P w) A (.call (.ref f) ⟨us, []⟩) (CR CX0 outer P w H s Q E) s
section
variable {P : Program} {w : World} {K : PySem.W.Frag} {mg : Str → Option Value} {base : Heap}
theorem fng_of {k : Nat} {f : Addr} {name qual : Str} {params : Arguments} {body : List Stmt} {scope : Scope} {dV kV doc pm cdv ct oc : Value} {an od : Option Addr} {osl : Array (Option Value)} {N ps : List Str} {sp : Sp}
    (lk : K.lookup f = some ⟨oc, od, .func (PySem.W.fnOf name qual params body scope dV kV doc pm an cdv ct), osl⟩) (hcd : PySem.W.codeIn K cdv qual = true) (S : FnScope N ps scope) (len : ∀ vs H Q E, sp vs H Q E → vs.length = ps.length)
    (hbody : ∀ (A : Around) (outer : List Env) (s : Shared) (H : Hp) (vs : List V) (Q : VK) (E : XK), A.guards = some [] → Room k (A.deeper (envOfC qual scope s.heap.objs.size f cdv)) → sp vs H Q E →
      ∃ t, PSs (cxOf CX0 P w K mg base N qual scope f cdv A outer s H E).nox body t ∧ t { nx := fun _ H' => Q .non H', rt := Q } (L2.start N vs) H) :
    FnG P w K mg base (k + 1) f (PySem.W.fnOf name qual params body scope dV kV doc pm an cdv ct) ps sp :=
  ⟨len, fun A outer s H us vs Q E gd hr e0 hb r hsp => LamX.run_ofS lk hcd S hr e0 hb r (len _ _ _ _ hsp) fun hr' => by
    obtain ⟨t, ht, q⟩ := hbody A outer s H vs Q E gd hr' hsp
    exact ⟨t, ht.nox, q⟩⟩
end
section
variable {X : Cx} {k : Nat} {f : Addr} {fd : FuncData} {ps : List Str} {sp : Sp} {x : Str} {p pos : Pos} {e : Expr} {es : List Expr} {t : TA}
theorem pe_callG (F : FnG X.prog X.w X.K X.mg X.base k f fd ps sp) (gd : X.A.guards = some []) (hr : Room k X.A) (hg : Gl X x) (hm : X.mg x = some (.ref f)) (hk : PySem.W.keepIn X.K (.ref f) = true) (hb : L2.Binds X.K fd ps []) (ha : PA X (e :: es) t)
    (hdb : (x == ("__debug__" : Str)) = false := by decide) (he : starEach (e :: es) X.env = (false, eval e X.env) :: starEach es X.env := by rfl) (hpl : (backTo pos (starEach es X.env)).any (·.1) = false := by rfl) :
    PE X (.Call (.Name x p) (e :: es) [] pos) (tCall sp [] E0 t) := by
  refine ⟨fun pins s σ H Q I h => wpAny_Call_Name_kw (ld_glob I hg hm (PySem.W.callWith_K (h₀ := X.base) I.ok.mod.kin hk (thn (ha.run pos pins s σ H _ I h) fun us s1 hh => ?_) he hpl) hdb)⟩
  obtain ⟨vs, H1, I1, r, q⟩ := hh
  rw [List.append_nil] at q
  have hl : (us ++ []).length = ps.length := by
    rw [List.append_nil, ← r.length]
    exact F.len _ _ _ _ q
  have bd := hb s1 us I1.kIn hl
  rw [List.append_nil] at bd
  refine ⟨I1.kIn, wpAny_call (codeAny_mono (F.run X.A X.stack s1 H1 us vs Q E0 gd hr I1.env0 bd r q) fun r s' hq => ?_)⟩
  match r, hq with
  | .ok (.ret u), hq => exact I1.after hq
/-- repr of lists and tuples of data -/
theorem call_reprD (gd : X.A.guards = some []) (hr : Room 0 X.A) : CallR X (.builtin "repr") (fun xs H Q => ∃ (a : Addr) (d : PyData), xs = [.ref a] ∧ Dp X.K H (.ref a) d ∧ d.showable = true ∧ d.hasDict = false ∧ d.depth ≤ 60 ∧ d.shown.length ≤ sizeLine ∧ Q (.str d.shown) H) := by
  intro pins s σ H xs us Q I r h
  obtain ⟨a, d, rfl, hd, hs, hn, hp, hz, q⟩ := h
  obtain ⟨u, rfl, rx⟩ := vals1 r
  obtain rfl : u = Value.ref a := rx
  obtain ⟨as, rd⟩ := Dp.reads I d (.ref a) _ hd rfl
  have hu := hr.units
  exact repr_of_reads' rd hs (PyData.noDict_hsm hn) gd (by omega) (fun _ _ e => e) (fun h' u tk hk => ⟨.str d.shown, H, I.kept hk, ⟨u, rfl⟩, q⟩) hz
end

/-! trees as data -/
mutual
def pdT : Tr → PyData
  | .non => .none
  | .bl b => .bool b
  | .int i => .int i
  | .str s => .str s
  | .lst => .none
  | .dct => .none
  | .tup ts => .tuple (pdTs ts)
def pdTs : List Tr → List PyData
  | [] => []
  | t :: r => pdT t :: pdTs r
end
mutual
/-- no list, no dict; short ints, short texts -/
def dataT : Tr → Bool
  | .non => true
  | .bl _ => true
  | .int i => decide (i.natAbs < 10 ^ 60)
  | .str s => s.cps.toList.all (fun c => decide (c ≤ 122)) && decide (s.length ≤ 100)
  | .lst => false
  | .dct => false
  | .tup ts => dataTs ts
def dataTs : List Tr → Bool
  | [] => true
  | t :: r => dataT t && dataTs r
end
mutual
def depT : Tr → Nat
  | .tup ts => depTs ts + 1
  | _ => 0
def depTs : List Tr → Nat
  | [] => 0
  | t :: r => max (depT t) (depTs r)
end
mutual
def sizT : Tr → Nat
  | .tup ts => sizTs ts
  | _ => 0
def sizTs : List Tr → Nat
  | [] => 0
  | t :: r => sizT t + 1 + sizTs r
end
structure ReprOk (t : Tr) : Prop where
  da : dataT t = true
  de : depT t ≤ 50
  si : (pdT t).weight ≤ 150000
section
variable {K : PySem.W.Frag} {H : Hp}
mutual
theorem TrAt.dp : ∀ {v : V} {t : Tr}, TrAt K H v t → dataT t = true → Dp K H v (pdT t)
  | _, _, .non, _ => by simp only [pdT]; exact .non
  | _, _, .bl b, _ => by simp only [pdT]; exact .bl b
  | _, _, .int i, _ => by simp only [pdT]; exact .int i
  | _, _, .str s _, _ => by simp only [pdT]; exact .str s
  | _, _, .lst _, e => by simp [dataT] at e
  | _, _, .dct _, e => by simp [dataT] at e
  | _, _, .tup h k, e => by
    simp only [dataT] at e
    simp only [pdT]
    exact .tup h (TrAll.dp k e)
theorem TrAll.dp : ∀ {vs : List V} {ts : List Tr}, TrAll K H vs ts → dataTs ts = true → DpAll K H vs (pdTs ts)
  | _, _, .nil, _ => by simp only [pdTs]; exact .nil
  | _, _, .cons h k, e => by
    simp only [dataTs, Bool.and_eq_true] at e
    simp only [pdTs]
    exact .cons (h.dp e.1) (k.dp e.2)
end
end
theorem ten_log {v : Int} (h : v.natAbs < 10 ^ 60) : v.natAbs.log2 < 200 := by
  by_cases z : v.natAbs = 0
  · rw [z]; decide
  · rw [Nat.log2_lt z]
    exact Nat.lt_trans h (by decide +kernel)
mutual
theorem pd_show : ∀ t : Tr, dataT t = true → (pdT t).showable = true
  | .non, _ => by simp [pdT, PyData.showable]
  | .bl _, _ => by simp [pdT, PyData.showable]
  | .int i, e => by
    simp only [dataT, decide_eq_true_eq] at e
    simp only [pdT, PyData.showable, decide_eq_true_eq]
    exact Nat.lt_trans (ten_log e) (by decide)
  | .str _, _ => by simp [pdT, PyData.showable]
  | .lst, _ => by simp [pdT, PyData.showable]
  | .dct, _ => by simp [pdT, PyData.showable]
  | .tup ts, e => by
    simp only [dataT] at e
    simp only [pdT, PyData.showable]
    exact pds_show ts e
theorem pds_show : ∀ ts : List Tr, dataTs ts = true → PyData.showableAll (pdTs ts) = true
  | [], _ => by simp [pdTs, PyData.showableAll]
  | t :: r, e => by
    simp only [dataTs, Bool.and_eq_true] at e
    simp only [pdTs, PyData.showableAll, pd_show t e.1, pds_show r e.2, Bool.and_self]
end
mutual
theorem pd_noDict : ∀ t : Tr, (pdT t).hasDict = false
  | .non => by simp [pdT, PyData.hasDict]
  | .bl _ => by simp [pdT, PyData.hasDict]
  | .int _ => by simp [pdT, PyData.hasDict]
  | .str _ => by simp [pdT, PyData.hasDict]
  | .lst => by simp [pdT, PyData.hasDict]
  | .dct => by simp [pdT, PyData.hasDict]
  | .tup ts => by
    simp only [pdT, PyData.hasDict]
    exact pds_noDict ts
theorem pds_noDict : ∀ ts : List Tr, PyData.hasDictAll (pdTs ts) = false
  | [] => by simp [pdTs, PyData.hasDictAll]
  | t :: r => by simp only [pdTs, PyData.hasDictAll, pd_noDict t, pds_noDict r, Bool.or_self]
end
mutual
theorem pd_depth : ∀ t : Tr, (pdT t).depth = depT t
  | .non => by simp [pdT, PyData.depth, depT]
  | .bl _ => by simp [pdT, PyData.depth, depT]
  | .int _ => by simp [pdT, PyData.depth, depT]
  | .str _ => by simp [pdT, PyData.depth, depT]
  | .lst => by simp [pdT, PyData.depth, depT]
  | .dct => by simp [pdT, PyData.depth, depT]
  | .tup ts => by simp only [pdT, PyData.depth, depT, pds_depth ts]
theorem pds_depth : ∀ ts : List Tr, PyData.depthAll (pdTs ts) = depTs ts
  | [] => by simp [pdTs, PyData.depthAll, depTs]
  | t :: r => by simp only [pdTs, PyData.depthAll, depTs, pd_depth t, pds_depth r]
end
mutual
theorem pd_leaves : ∀ t : Tr, dataT t = true → PyData.leavesShort 100 (pdT t) = true
  | .non, _ => by simp [pdT, PyData.leavesShort]
  | .bl _, _ => by simp [pdT, PyData.leavesShort]
  | .int i, e => by
    simp only [dataT, decide_eq_true_eq] at e
    simp only [pdT, PyData.leavesShort, decide_eq_true_eq]
    have : (toString i).length ≤ 60 + 1 := int_text_length_le10 (by decide) e
    have q := PyProof.Rows.int_text_len_1921 (Nat.lt_trans (ten_log e) (by decide : 200 < 1920))
    show (Str.ofString (toString i)).length ≤ 100
    rw [PySem.ofString_length]
    omega
  | .str s, e => by
    simp only [dataT, Bool.and_eq_true] at e
    simp only [pdT, PyData.leavesShort]
    rw [List.all_eq_true]
    intro c hc
    have := of_decide_eq_true (List.all_eq_true.mp e.1 c hc)
    exact decide_eq_true (by omega)
  | .lst, _ => by simp [pdT, PyData.leavesShort]
  | .dct, _ => by simp [pdT, PyData.leavesShort]
  | .tup ts, e => by
    simp only [dataT] at e
    simp only [pdT, PyData.leavesShort]
    exact pds_leaves ts e
theorem pds_leaves : ∀ ts : List Tr, dataTs ts = true → PyData.leavesShortAll 100 (pdTs ts) = true
  | [], _ => by simp [pdTs, PyData.leavesShortAll]
  | t :: r, e => by
    simp only [dataTs, Bool.and_eq_true] at e
    simp only [pdTs, PyData.leavesShortAll, pd_leaves t e.1, pds_leaves r e.2, Bool.and_self]
end
mutual
theorem pd_weight : ∀ t : Tr, dataT t = true → (pdT t).weight ≤ 300 * sizT t + 250
  | .non, _ => by simp [pdT, PyData.weight]
  | .bl _, _ => by simp [pdT, PyData.weight]
  | .int i, e => by
    simp only [dataT, decide_eq_true_eq] at e
    simp only [pdT, PyData.weight]
    have := ten_log e
    split <;> omega
  | .str s, e => by
    simp only [dataT, Bool.and_eq_true] at e
    simp only [pdT, PyData.weight]
    have : s.cps.size ≤ 100 := of_decide_eq_true e.2
    omega
  | .lst, _ => by simp [pdT, PyData.weight]
  | .dct, _ => by simp [pdT, PyData.weight]
  | .tup ts, e => by
    simp only [dataT] at e
    simp only [pdT, PyData.weight, sizT]
    have := pds_weight ts e
    omega
theorem pds_weight : ∀ ts : List Tr, dataTs ts = true → PyData.weightAll (pdTs ts) ≤ 300 * sizTs ts
  | [], _ => by simp [pdTs, PyData.weightAll]
  | t :: r, e => by
    simp only [dataTs, Bool.and_eq_true] at e
    have h1 := pd_weight t e.1
    have h2 := pds_weight r e.2
    simp only [pdTs, PyData.weightAll, sizTs]
    omega
end
/-- what repr asks of [t, b] -/
theorem repr_pair {t : Tr} (h : ReprOk t) (b : Bool) : (PyData.list [pdT t, .bool b]).showable = true ∧ (PyData.list [pdT t, .bool b]).hasDict = false ∧ (PyData.list [pdT t, .bool b]).depth ≤ 60 ∧ (PyData.list [pdT t, .bool b]).shown.length ≤ sizeLine := by
  refine ⟨by simp only [PyData.showable, PyData.showableAll, pd_show t h.da, Bool.and_self], by simp only [PyData.hasDict, PyData.hasDictAll, pd_noDict t, Bool.or_self], ?_, ?_⟩
  · simp only [PyData.depth, PyData.depthAll, pd_depth]
    have := h.de
    omega
  · have l : PyData.leavesShort 100 (.list [pdT t, .bool b]) = true := by simp only [PyData.leavesShort, PyData.leavesShortAll, pd_leaves t h.da, Bool.and_self]
    have := PyData.shown_le 100 (by decide) _ l
    have w := pd_weight t h.da
    have s := h.si
    simp only [PyData.weight, PyData.weightAll] at this
    rw [sizeLine_eq]
    omega
/-- what repr asks of [[t], b] -/
theorem repr_found {t : Tr} (h : ReprOk t) (b : Bool) : (PyData.list [.list [pdT t], .bool b]).showable = true ∧ (PyData.list [.list [pdT t], .bool b]).hasDict = false ∧ (PyData.list [.list [pdT t], .bool b]).depth ≤ 60 ∧ (PyData.list [.list [pdT t], .bool b]).shown.length ≤ sizeLine := by
  refine ⟨by simp only [PyData.showable, PyData.showableAll, pd_show t h.da, Bool.and_self], by simp only [PyData.hasDict, PyData.hasDictAll, pd_noDict t, Bool.or_self], ?_, ?_⟩
  · simp only [PyData.depth, PyData.depthAll, pd_depth]
    have := h.de
    omega
  · have l : PyData.leavesShort 100 (.list [.list [pdT t], .bool b]) = true := by simp only [PyData.leavesShort, PyData.leavesShortAll, pd_leaves t h.da, Bool.and_self]
    have := PyData.shown_le 100 (by decide) _ l
    have w := pd_weight t h.da
    have s := h.si
    simp only [PyData.weight, PyData.weightAll] at this
    rw [sizeLine_eq]
    omega
end BK



set_option Elab.async false
set_option maxRecDepth 100000
set_option maxHeartbeats 1000000
/-! expressions that make trees. -/
namespace BK
open PySem PySem.Spec PyProof.Rows L2
/-- the slots that hold trees -/
def Gt (K : PySem.W.Frag) (L : List (Nat × Tr)) (σ : L2.St) (H : Hp) : Prop := ∀ p ∈ L, ∃ v, σ[p.1]? = some (some v) ∧ TrAt K H v p.2
theorem Gt.same {K : PySem.W.Frag} {L : List (Nat × Tr)} {σ : L2.St} {H H' : Hp} (g : Gt K L σ H) (e : Same H H') : Gt K L σ H' := fun p hp => by
  obtain ⟨v, h1, h2⟩ := g p hp
  exact ⟨v, h1, h2.same e⟩
def ETr (X : Cx) (L : List (Nat × Tr)) (e : Expr) (t : Tr) : Prop := ∃ te : TE, PE X e te ∧ ∀ σ H Q, Gt X.K L σ H → (∀ v H', Same H H' → TrAt X.K H' v t → Q v H') → te σ H Q
def EAr (X : Cx) (L : List (Nat × Tr)) (es : List Expr) (ts : List Tr) : Prop := ∃ ta : TA, PA X es ta ∧ ∀ σ H Q, Gt X.K L σ H → (∀ vs H', Same H H' → TrAll X.K H' vs ts → Q vs H') → ta σ H Q
/-- a new list of trees -/
def ELi (X : Cx) (L : List (Nat × Tr)) (e : Expr) (ts : List Tr) : Prop := ∃ te : TE, PE X e te ∧ ∀ σ H Q, Gt X.K L σ H → (∀ a vs H', Same H H' → H a = none → H' a = some (.lst vs) → TrAll X.K H' vs ts → Q (.ref a) H') → te σ H Q
section
variable {X : Cx} {L : List (Nat × Tr)}
theorem et_var {i : Nat} {x : Str} {pos : Pos} {t : Tr} (h : PE X (.Name x pos) (tVar i)) (m : (i, t) ∈ L) : ETr X L (.Name x pos) t := ⟨_, h, fun σ H Q g k => by
  obtain ⟨v, h1, h2⟩ := g _ m
  exact ⟨v, h1, k v H (fun _ _ e => e) h2⟩⟩
theorem et_str {s : Str} {j : Nat} {pos : Pos} (h : s.length ≤ sizeLine := by decide +kernel) : ETr X L (.Constant (.str s) j pos) (.str s) := ⟨_, pe_str, fun _ H _ _ k => k _ H (fun _ _ e => e) (.str s h)⟩
theorem et_int {i : Int} {j : Nat} {pos : Pos} : ETr X L (.Constant (.int i) j pos) (.int i) := ⟨_, pe_int, fun _ H _ _ k => k _ H (fun _ _ e => e) (.int i)⟩
theorem et_neg {i : Int} {j : Nat} {pos pos' : Pos} : ETr X L (.UnaryOp .USub (.Constant (.int i) j pos) pos') (.int (-i)) := ⟨_, pe_un un_neg pe_int, fun _ H _ _ k => ⟨i, rfl, k _ H (fun _ _ e => e) (.int (-i))⟩⟩
theorem et_bl {b : Bool} {j : Nat} {pos : Pos} : ETr X L (.Constant (.bool b) j pos) (.bl b) := ⟨_, pe_bl, fun _ H _ _ k => k _ H (fun _ _ e => e) (.bl b)⟩
theorem et_non {j : Nat} {pos : Pos} : ETr X L (.Constant .none j pos) .non := ⟨_, pe_non, fun _ H _ _ k => k _ H (fun _ _ e => e) .non⟩
theorem ea_nil : EAr X L [] [] := ⟨_, pa_nil, fun _ H _ _ k => k _ H (fun _ _ e => e) .nil⟩
theorem ea_cons {e : Expr} {es : List Expr} {t : Tr} {ts : List Tr} (h : ETr X L e t) (r : EAr X L es ts) (hs : starEach (e :: es) X.env = (false, eval e X.env) :: starEach es X.env := by rfl) : EAr X L (e :: es) (t :: ts) := by
  obtain ⟨te, p, q⟩ := h
  obtain ⟨ta, p2, q2⟩ := r
  exact ⟨_, pa_cons p p2 hs, fun σ H Q g k => q σ H _ g fun v H1 s1 h1 => q2 σ H1 _ (g.same s1) fun vs H2 s2 h2 => k _ H2 (s1.trans s2) (.cons (h1.same s2) h2)⟩
theorem et_tup {es : List Expr} {k : Nat} {pos : Pos} {ts : List Tr} (h : EAr X L es ts) (hl : es.length ≤ 1000 := by exact Nat.le_of_ble_eq_true rfl) (hl2 : ts.length = es.length := by rfl) : ETr X L (.Tuple es k pos) (.tup ts) := by
  obtain ⟨ta, p, q⟩ := h
  refine ⟨_, pe_tup p, fun σ H Q g k => q σ H _ g fun vs H1 s1 h1 => ⟨?_, fun p np => k _ _ (s1.trans (same_new np)) (.tup (SqT.of upd_same) (h1.same (same_new np)))⟩⟩
  rw [h1.len, hl2, sizeLine_eq]
  omega
theorem et_lst {es : List Expr} {pos : Pos} {ts : List Tr} (h : EAr X L es ts) (hl : es.length ≤ 1000 := by exact Nat.le_of_ble_eq_true rfl) (hl2 : ts.length = es.length := by rfl) : ETr X L (.List es pos) .lst := by
  obtain ⟨ta, p, q⟩ := h
  refine ⟨_, pe_lst p, fun σ H Q g k => q σ H _ g fun vs H1 s1 h1 => ⟨?_, fun p np => k _ _ (s1.trans (same_new np)) (.lst (SqL.of upd_same))⟩⟩
  rw [h1.len, hl2, sizeLine_eq]
  omega
theorem et_dct {pos : Pos} : ETr X L (.Dict [] [] pos) .dct := ⟨_, pe_dnewK, fun _ _ _ _ k => fun p np => k _ _ (same_new np) (.dct upd_same)⟩
theorem et_cat {a b : Expr} {pos : Pos} {xs ys : List Tr} (h1 : ETr X L a (.tup xs)) (h2 : ETr X L b (.tup ys)) (l1 : xs.length ≤ 1000 := by exact Nat.le_of_ble_eq_true rfl) (l2 : ys.length ≤ 1000 := by exact Nat.le_of_ble_eq_true rfl) : ETr X L (.BinOp a .Add b pos) (.tup (xs ++ ys)) := by
  obtain ⟨ta, p1, q1⟩ := h1
  obtain ⟨tb, p2, q2⟩ := h2
  refine ⟨_, pe_op op_catA p1 p2, fun σ H Q g k => q1 σ H _ g fun v H1 s1 t1 => q2 σ H1 _ (g.same s1) fun u H2 s2 t2 => ?_⟩
  have t1 := t1.same s2
  have s12 := s1.trans s2
  cases t1 with
  | @tup aa vs _ ha ta' =>
  cases t2 with
  | @tup bb us _ hb tb' =>
  have e1 := ta'.len
  have e2 := tb'.len
  refine ⟨aa, bb, vs, us, rfl, rfl, ha, hb, by rw [sizeLine_eq]; omega, fun e => ?_, fun _ e => ?_, fun _ _ p np => ?_⟩
  · subst e
    cases ta'
    exact k _ _ s12 (.tup hb tb')
  · subst e
    cases tb'
    rw [List.append_nil] at k
    exact k _ _ s12 (.tup ha ta')
  · have app : ∀ {vs us : List V} {xs ys : List Tr} {H : Hp}, TrAll X.K H vs xs → TrAll X.K H us ys → TrAll X.K H (vs ++ us) (xs ++ ys) := fun {vs us xs ys H} h1 h2 => by
      induction vs generalizing xs with
      | nil => cases h1; exact h2
      | cons v r ih => cases h1 with | cons a b => exact .cons a (ih b)
    exact k _ _ (s12.trans (same_new np)) (.tup (SqT.of upd_same) ((app ta' tb').same (same_new np)))
theorem el_disp {es : List Expr} {pos : Pos} {ts : List Tr} (h : EAr X L es ts) (hl : es.length ≤ 1000 := by exact Nat.le_of_ble_eq_true rfl) (hl2 : ts.length = es.length := by rfl) : ELi X L (.List es pos) ts := by
  obtain ⟨ta, p, q⟩ := h
  refine ⟨_, pe_lst p, fun σ H Q g k => q σ H _ g fun vs H1 s1 h1 => ⟨?_, fun p np => k p vs _ (s1.trans (same_new np)) (s1.free np) upd_same (h1.same (same_new np))⟩⟩
  rw [h1.len, hl2, sizeLine_eq]
  omega
end
theorem TrAll.app {K : PySem.W.Frag} {H : Hp} : ∀ {vs us : List V} {xs ys : List Tr}, TrAll K H vs xs → TrAll K H us ys → TrAll K H (vs ++ us) (xs ++ ys)
  | _, _, _, _, .nil, h => h
  | _, _, _, _, .cons a b, h => .cons a (TrAll.app b h)
/-- some = some + [..] -/
theorem some_cat {X : Cx} {L : List (Nat × Tr)} {i : Nat} {te : TE} {us ts : List Tr} {σ : L2.St} {H0 H : Hp} {a : Addr} {vs : List V} {Q : VK} (r : ∀ σ H Q, Gt X.K L σ H → (∀ a vs H', Same H H' → H a = none → H' a = some (.lst vs) → TrAll X.K H' vs us → Q (.ref a) H') → te σ H Q)
    (g : Gt X.K L σ H) (hσ : σ[i]? = some (some (.ref a))) (s : Same H0 H) (e : H a = some (.lst vs)) (tr : TrAll X.K H vs ts) (lt : ts.length ≤ 500) (lu : us.length ≤ 500)
    (k : ∀ p ws H', Same H0 H' → Same H H' → H0 p = none → H' p = some (.lst ws) → TrAll X.K H' ws (ts ++ us) → Q (.ref p) H') : tOp rCat (tVar i) te σ H Q := by
  refine ⟨.ref a, hσ, r σ H _ g fun b ws H1 s1 nb eb tb => ?_⟩
  have e1 := s1 _ _ e
  have l1 := tr.len
  have l2 := tb.len
  refine ⟨a, b, vs, ws, rfl, rfl, e1, eb, by rw [sizeLine_eq]; omega, fun p np => ?_⟩
  have s2 := same_new (o := .lst (vs ++ ws)) np
  exact k p _ _ ((s.trans s1).trans s2) (s1.trans s2) ((s.trans s1).free np) upd_same (((tr.same s1).app tb).same s2)
/-- some.append(..) -/
theorem some_app {X : Cx} {L : List (Nat × Tr)} {i : Nat} {te : TE} {u : Tr} {ts : List Tr} {σ : L2.St} {H0 H : Hp} {a : Addr} {vs : List V} {Q : VK} (r : ∀ σ H Q, Gt X.K L σ H → (∀ v H', Same H H' → TrAt X.K H' v u → Q v H') → te σ H Q)
    (g : Gt X.K L σ H) (hσ : σ[i]? = some (some (.ref a))) (s : Same H0 H) (na : H0 a = none) (e : H a = some (.lst vs)) (tr : TrAll X.K H vs ts) (lt : ts.length ≤ 500)
    (k : ∀ ws H', Same H0 H' → H' a = some (.lst ws) → TrAll X.K H' ws (ts ++ [u]) → (∀ v t, TrAt X.K H v t → TrAt X.K H' v t) → Q .non H') : tBM X.K "list" rAppend (tVar i) (tCons te tNil) σ H Q := by
  refine ⟨.ref a, hσ, .inl ⟨rfl, _, SqL.of e⟩, r σ H _ g fun v H1 s1 t1 => ?_⟩
  have e1 := s1 _ _ e
  have l1 := tr.len
  refine ⟨a, vs, v, rfl, rfl, e1, by rw [sizeLine_eq]; omega, ?_⟩
  refine k (vs ++ [v]) _ (fun b o eb => ?_) upd_same (((tr.same s1).updL e1).app (.cons (t1.updL e1) .nil)) fun v t h => (h.same s1).updL e1
  rw [upd_ne (ne_of_none eb na)]
  exact s1 _ _ (s _ _ eb)
/-! the parts of a text -/
def stAt (s : Stmt) (j : Nat) : Stmt := (defBody s).getD j (.Pass ⟨0, 0, 0, 0⟩)
def noE : Expr := .Constant .none 0 ⟨0, 0, 0, 0⟩
def valueOf : Stmt → Expr
  | .Assign _ v _ => v
  | .Return (some v) _ => v
  | .Expr v _ => v
  | _ => noE
def rightOf : Expr → Expr
  | .BinOp _ _ b _ => b
  | _ => noE
def argOf : Expr → Expr
  | .Call _ (a :: _) _ _ => a
  | _ => noE
def eltsOf : Expr → List Expr
  | .Tuple es _ _ => es
  | _ => []
end BK



set_option Elab.async false
set_option maxRecDepth 100000
set_option maxHeartbeats 4000000
set_option linter.unusedVariables false
/-! how many words a block has -/
namespace BK
open PySem PySem.Spec PyProof.Rows L2 RZ ET
theorem part_len {f : List Tr → List Str} {d : Nat} {t : Tr} (h : ∀ us, t = .tup us → (f us).length ≤ 10 * metD d us) : (partW f t).length ≤ 2 + cntT d t := by
  cases t with
  | tup us =>
    have := h us rfl
    show ([("{" : Str)] ++ f us ++ [("}" : Str)]).length ≤ 2 + 10 * metD d us
    rw [List.length_append, List.length_append, List.length_singleton, List.length_singleton]
    omega
  | str s => show 1 ≤ 2 + _; omega
  | int i => show 1 ≤ 2 + _; omega
  | non => exact Nat.zero_le _
  | bl b => exact Nat.zero_le _
  | lst => exact Nat.zero_le _
  | dct => exact Nat.zero_le _
theorem parts_len {f : List Tr → List Str} {d : Nat} : ∀ {rest : List Tr}, (∀ t ∈ rest, ∀ us, t = .tup us → (f us).length ≤ 10 * metD d us) → ((rest.map (partW f)).flatten).length ≤ 2 * rest.length + (rest.map (cntT d)).sum
  | [], _ => Nat.le_refl _
  | t :: r, h => by
    have h1 := part_len (f := f) (d := d) (t := t) (h t List.mem_cons_self)
    have h2 := parts_len (f := f) (d := d) (rest := r) fun u hu => h u (List.mem_cons_of_mem _ hu)
    rw [List.map_cons, List.flatten_cons, List.length_append, List.map_cons, List.sum_cons, List.length_cons]
    omega
theorem block_len : ∀ (d : Nat) (ts : List Tr), okD d ts → (blockW d ts).length ≤ 10 * metD d ts ∧ ∀ r : List Tr, (∀ t ∈ r, t ∈ ts) → d ≠ 0 → ((r.map fun u => (";" : Str) :: stW (blockW (d - 1)) u).flatten).length ≤ 10 * (r.map (oneD (d - 1))).sum
  | 0, ts, ok => ⟨Nat.zero_le _, fun r _ h => absurd rfl h⟩
  | d + 1, ts, ok => by
    have all : ∀ r : List Tr, (∀ t ∈ r, t ∈ ts) → ((r.map fun u => (";" : Str) :: stW (blockW d) u).flatten).length ≤ 10 * (r.map (oneD d)).sum := fun r => by
      induction r with
      | nil => intro _; exact Nat.le_refl _
      | cons t r ih =>
        intro h
        have h2 := ih fun u hu => h u (List.mem_cons_of_mem _ hu)
        obtain ⟨hf, hb⟩ := ok t (h t List.mem_cons_self)
        obtain ⟨x, rest, ks, rfl, ek, ef⟩ := form_xs hf
        have rl : rest.length = ks.length := by
          unfold fitsT at ef
          exact of_decide_eq_true (Bool.and_eq_true_iff.mp ef).1
        have kf := kinds_few ek
        have pl := parts_len (f := blockW d) (d := d) (rest := rest) fun u hu us e => by
          subst e
          exact (block_len d us (hb us (by show us ∈ (rest.filter isTup).map tupTs; exact List.mem_map.mpr ⟨.tup us, List.mem_filter.mpr ⟨hu, rfl⟩, rfl⟩))).1
        rw [cnt_sum] at pl
        have one : oneD d (.tup (.str x :: rest)) = 1 + (((rest.filter isTup).map tupTs).map (metD d)).sum := rfl
        rw [List.map_cons, List.flatten_cons, List.length_append, List.map_cons, List.sum_cons, one]
        show ((";" : Str) :: x :: (rest.map (partW (blockW d))).flatten).length + _ ≤ _
        rw [List.length_cons, List.length_cons]
        omega
    refine ⟨?_, fun r h _ => all r h⟩
    rw [met_one]
    cases ts with
    | nil => exact Nat.zero_le _
    | cons t r =>
      have h := all (t :: r) fun _ h => h
      have e : blockW (d + 1) (t :: r) = stW (blockW d) t ++ ((r.map (stW (blockW d))).map fun y => (";" : Str) :: y).flatten := semi_eq _ _
      rw [e, List.map_map]
      rw [List.map_cons, List.flatten_cons, List.length_append, List.length_cons] at h
      rw [List.length_append]
      have e2 : (List.map ((fun y => (";" : Str) :: y) ∘ stW (blockW d)) r).flatten.length = (List.map (fun u => (";" : Str) :: stW (blockW d) u) r).flatten.length := rfl
      omega
end BK

set_option Elab.async false
set_option maxRecDepth 100000
set_option maxHeartbeats 4000000
set_option linter.unusedVariables false
/-! _law_block_words -/
namespace BK
open PySem PySem.Spec PyProof.Rows L2 RZ ET
abbrev sLBW : Stmt := top 72
abbrev nLBW : List Str := ["block", "found", "one", "part"]
theorem scLBW : FnScope nLBW ["block"] (defScope sLBW) := ⟨rfl, rfl, rfl, by decide +kernel, rfl, by decide +kernel, by decide +kernel⟩
def spLBW (K : PySem.W.Frag) (d : Nat) : Sp := fun vs H Q _ => ∃ v ts, vs = [v] ∧ TrAt K H v (.tup ts) ∧ okD d ts ∧ metD d ts ≤ 50 ∧ ∀ (L : Addr) H', Same H H' → H L = none → H' L = some (.lst ((blockW d ts).map V.str)) → Q (.ref L) H'
theorem le_sumN : ∀ {l : List Nat} {n : Nat}, n ∈ l → n ≤ l.sum
  | m :: r, n, h => by
    rw [List.sum_cons]
    rcases List.mem_cons.mp h with rfl | h
    · omega
    · have := le_sumN h
      omega
def recW (K : PySem.W.Frag) : Nat → Sp
  | 0 => fun _ _ _ _ => False
  | d + 1 => spLBW K d
section
variable {P : Program} {w : World} {K : PySem.W.Frag} {mg : Str → Option Value} {base : Heap}
theorem lbw_step {f : Addr} {fd : FuncData} (F : Fun K "_law_block_words" "_law_block_words" sLBW f fd) (T : Forms mg)
    (bR : Binds K fd ["block"] []) (gR : mg "_law_block_words" = some (.ref f)) (kR : PySem.W.keepIn K (.ref f) = true) (d : Nat) (GR : FnOk P w K mg base CX0 d f fd ["block"] (recW K d)) : FnOk P w K mg base CX0 (d + 1) f fd ["block"] (spLBW K d) := by
  refine F.ok scLBW (fun vs H Q E h => ?_) (fun cdv A outer s H vs Q E hr h => ?_)
  · obtain ⟨v, ts, rfl, _⟩ := h
    rfl
  · obtain ⟨v, ts, rfl, tv, ok, md, k⟩ := h
    refine ⟨_, pss_cons (ps_set (i := 1) scLBW.nd rfl (Or.inl rfl) (pe_lst pa_nil))
      (pss_cons (ps_for PassesOwn.never rfl (pi_tup (pv 0)) (pg_name (i := 2) scLBW.nd rfl (Or.inl rfl))
        (C8.pss_cut (ps_expr (pe_bm PySem.F.plainAttrs_list PySem.F.slot_list_append PySem.F.type_list_append mt_append (pv 1) (pa_cons pe_str pa_nil)))
        (pss_one (ps_for PassesOwn.never rfl (pi_tup (pv 2)) (pg_name (i := 3) scLBW.nd rfl (Or.inl rfl))
          (pss_one (ps_if (pt_val (pe_callB call_isi (by rfl) T.isi boot_isinstance (pa_cons (pv 3) (pa_cons (pe_bltn (v := .ty "tuple") (u := .type "tuple") (by rfl) T.tuple (by decide +kernel) rfl) pa_nil))))
            (pss_one (ps_set (i := 1) scLBW.nd rfl (Or.inl rfl) (pe_op op_cat (pe_op op_cat (pe_op op_cat (pv 1) (pe_lst (pa_cons pe_str pa_nil))) (pe_call GR hr rfl gR kR bR .nil pass0 (pa_cons (pv 3) pa_nil))) (pe_lst (pa_cons pe_str pa_nil)))))
            (pss_one (ps_expr (pe_bm PySem.F.plainAttrs_list PySem.F.slot_list_append PySem.F.type_list_append mt_append (pv 1) (pa_cons (pe_callTy (call_str_int.or SkE.call_str_str) (by rfl) T.str (by decide +kernel) (pa_cons (pv 3) pa_nil)) pa_nil))))))))))
      (pss_one (ps_ret (pe_slice sl_list (pv 1) (po_some pe_int) po_none)))), ?_⟩
    cases tv with
    | @tup b xs _ h tr =>
    have xl := tr.len
    refine ⟨Nat.zero_le _, fun F0 nF => ?_⟩
    have s0 := same_new (o := .lst []) nF
    obtain ⟨g, eg⟩ : ∃ g : Tr → List Str, g = fun u => (";" : Str) :: stW (blockW (d - 1)) u := ⟨_, rfl⟩
    refine ⟨_, rfl, b, rfl, ⟨xs, sqt_same s0 h⟩, for_tup (K := K) (a := b) (xs := xs) (fun i σ H2 => ∃ (Fd : Addr) (v2 v3 : Option V), σ = [some (.ref b), some (.ref Fd), v2, v3] ∧ Same H H2 ∧ H Fd = none ∧ H2 Fd = some (.lst ((((ts.take i).map g).flatten).map V.str)))
      ⟨F0, none, none, rfl, s0, nF, upd_same⟩ (fun i σ H2 _ ⟨_, _, _, _, s2, _⟩ => sqt_same s2 h) ?_ ?_⟩
    · rintro i y σ H2 hi ⟨Fd, v2, v3, rfl, s2, nFd, e2⟩
      obtain ⟨t, ht, ty⟩ := tr.get hi
      have tm : t ∈ ts := List.mem_of_getElem? ht
      cases d with
      | zero =>
        have ok : ts = [] := ok
        rw [ok] at tm
        cases tm
      | succ d =>
      have eg : g = fun u => (";" : Str) :: stW (blockW d) u := eg
      obtain ⟨hf, hb⟩ := ok t tm
      obtain ⟨x, rest, ks, rfl, ek, ef⟩ := form_xs hf
      have rl : rest.length = ks.length := by
        unfold fitsT at ef
        exact of_decide_eq_true (Bool.and_eq_true_iff.mp ef).1
      have kf := kinds_few ek
      have et : ts.take (i + 1) = ts.take i ++ [.tup (.str x :: rest)] := by rw [List.take_add_one, ht]; rfl
      have md2 := md
      rw [met_one] at md2
      have one : oneD d (.tup (.str x :: rest)) = 1 + (((rest.filter isTup).map tupTs).map (metD d)).sum := rfl
      have om := mem_sum (oneD d) tm
      have okr : ∀ u ∈ rest, ∀ us, u = .tup us → okD d us ∧ metD d us ≤ 50 := fun u hu us e => by
        subst e
        have m : us ∈ (rest.filter isTup).map tupTs := List.mem_map.mpr ⟨.tup us, List.mem_filter.mpr ⟨hu, rfl⟩, rfl⟩
        refine ⟨hb us m, ?_⟩
        have : metD d us ≤ (((rest.filter isTup).map tupTs).map (metD d)).sum := le_sumN (List.mem_map.mpr ⟨us, m, rfl⟩)
        omega
      have wl := (block_len (d + 1) ts ok).2 (ts.take i) (fun u hu => List.mem_of_mem_take hu) (by omega)
      have sl := sum_take_le (oneD d) ts i
      have pl := parts_len (f := blockW d) (d := d) (rest := rest) fun u hu us e => (block_len d us (okr u hu us e).1).1
      rw [cnt_sum] at pl
      obtain ⟨ws, ews⟩ : ∃ ws, ws = ((ts.take i).map g).flatten := ⟨_, rfl⟩
      have wl : ws.length ≤ 500 := by
        rw [ews, eg]
        have wl : ((List.map (fun u => (";" : Str) :: stW (blockW d) u) (List.take i ts)).flatten).length ≤ 10 * ((List.take i ts).map (oneD d)).sum := wl
        omega
      rw [← ews] at e2
      have fl : ∀ j, ((((Tr.str x :: rest).take j).map (partW (blockW d))).flatten).length ≤ 520 := fun j => by
        have h1 : (((Tr.str x :: rest).map (partW (blockW d))).flatten).length ≤ 520 := by
          rw [List.map_cons, List.flatten_cons, List.length_append]
          show 1 + _ ≤ _
          omega
        have h2 : ((Tr.str x :: rest).map (partW (blockW d))).flatten = (((Tr.str x :: rest).take j).map (partW (blockW d))).flatten ++ (((Tr.str x :: rest).drop j).map (partW (blockW d))).flatten := by
          conv => lhs; rw [← List.take_append_drop j (Tr.str x :: rest)]
          rw [List.map_append, List.flatten_append]
        rw [h2, List.length_append] at h1
        omega
      cases ty with
      | @tup yb ys _ hy tys =>
      have yl := tys.len
      have app : ∀ {H' : Hp} {F' : Addr} {us : List V}, H F' = none → Same H H' → Same H (upd H' F' (.lst us)) := fun {H' F' us} n s' b o e => by
        rw [upd_ne (ne_of_none e n)]
        exact s' b o e
      refine ⟨fun σ H3 => σ = [some (.ref b), some (.ref Fd), some (.ref yb), v3] ∧ Same H H3 ∧ H3 Fd = some (.lst ((ws ++ [(";" : Str)]).map V.str)), ?_, ?_⟩
      · refine ⟨.ref Fd, rfl, .inl ⟨rfl, _, SqL.of e2⟩, Fd, _, _, rfl, rfl, e2, (by rw [sizeLine_eq, List.length_map]; omega), rfl, app nFd s2, ?_⟩
        rw [upd_same, List.map_append]
        rfl
      rintro σ H3 ⟨rfl, s3, e3⟩
      refine ⟨_, rfl, yb, rfl, ⟨ys, sqt_same s3 hy⟩, for_tup (K := K) (a := yb) (xs := ys) (fun j σ H4 => ∃ (Fe : Addr) (v3 : Option V), σ = [some (.ref b), some (.ref Fe), some (.ref yb), v3] ∧ Same H H4 ∧ H Fe = none ∧ H4 Fe = some (.lst ((ws ++ (";" : Str) :: (((Tr.str x :: rest).take j).map (partW (blockW d))).flatten).map V.str)))
        ⟨Fd, v3, rfl, s3, nFd, e3⟩ (fun j σ H4 _ ⟨_, _, _, s4, _⟩ => sqt_same s4 hy) ?_ ?_⟩
      · rintro j y' σ H4 hj ⟨Fe, v3, rfl, s4, nFe, e4⟩
        obtain ⟨u, hu, tu⟩ := (tys.same s4).get hj
        have ej : ((Tr.str x :: rest).take (j + 1)).map (partW (blockW d)) = ((Tr.str x :: rest).take j).map (partW (blockW d)) ++ [partW (blockW d) u] := by rw [List.take_add_one, hu, List.map_append]; rfl
        have ef2 : ws ++ (";" : Str) :: (((Tr.str x :: rest).take (j + 1)).map (partW (blockW d))).flatten = (ws ++ (";" : Str) :: (((Tr.str x :: rest).take j).map (partW (blockW d))).flatten) ++ partW (blockW d) u := by
          rw [ej, List.flatten_append]
          simp
        have fj := fl j
        obtain ⟨cs, ecs⟩ : ∃ cs, cs = ws ++ (";" : Str) :: (((Tr.str x :: rest).take j).map (partW (blockW d))).flatten := ⟨_, rfl⟩
        have cl : cs.length ≤ 1100 := by rw [ecs, List.length_append, List.length_cons]; omega
        rw [ef2, ← ecs]
        rw [← ecs] at e4
        have one' : 1 ≤ sizeLine := by decide
        refine ⟨_, rfl, y', .ty "tuple", .type (tyT u), .type "tuple", isTup u, rfl, .ty "tuple", tu.ty, k_tup K u, _, rfl, ?_⟩
        have leaf : ∀ z : Str, partW (blockW d) u = [z] → ∃ (Fe' : Addr) (v3' : Option V), [some (.ref b), some (.ref Fe), some (.ref yb), some y'] = [some (.ref b), some (.ref Fe'), some (.ref yb), v3'] ∧ Same H (upd H4 Fe (.lst (cs.map V.str ++ [.str z]))) ∧ H Fe' = none ∧ (upd H4 Fe (.lst (cs.map V.str ++ [.str z]))) Fe' = some (.lst ((cs ++ partW (blockW d) u).map V.str)) := fun z ez => ⟨Fe, some y', rfl, app nFe s4, nFe, by rw [upd_same, ez, List.map_append]; rfl⟩
        have um : u ∈ Tr.str x :: rest := List.mem_of_getElem? hu
        cases htu : isTup u with
        | true =>
          obtain ⟨us, rfl⟩ : ∃ us, u = .tup us := by
            cases u with
            | tup us => exact ⟨us, rfl⟩
            | _ => cases htu
          have ur : Tr.tup us ∈ rest := by
            rcases List.mem_cons.mp um with e | e
            · cases e
            · exact e
          obtain ⟨oku, mdu⟩ := okr _ ur us rfl
          have bl := (block_len d us oku).1
          refine iteT ⟨_, rfl, one', fun p1 n1 => ?_⟩
          have s1 := same_new (o := .lst [.str "{"]) n1
          refine ⟨Fe, p1, cs.map V.str, [.str "{"], rfl, rfl, s1 _ _ e4, upd_same, (by rw [sizeLine_eq, List.length_map, List.length_singleton]; omega), fun q1 nq1 => ?_⟩
          have s5 := same_new (o := .lst (cs.map V.str ++ [.str "{"])) nq1
          have s15 := s1.trans s5
          refine ⟨_, rfl, y', us, rfl, tu.same s15, oku, mdu, fun L H6 s6 nL eL => ?_⟩
          refine ⟨q1, L, cs.map V.str ++ [.str "{"], (blockW d us).map V.str, rfl, rfl, s6 _ _ upd_same, eL, (by rw [sizeLine_eq, List.length_append, List.length_map, List.length_map, List.length_singleton]; omega), fun q2 nq2 => ⟨one', fun p3 n3 => ?_⟩⟩
          have s7 := same_new (o := .lst (cs.map V.str ++ [.str "{"] ++ (blockW d us).map V.str)) nq2
          have s8 := same_new (o := .lst [.str "}"]) n3
          refine ⟨q2, p3, cs.map V.str ++ [.str "{"] ++ (blockW d us).map V.str, [.str "}"], rfl, rfl, s8 _ _ upd_same, upd_same, (by rw [sizeLine_eq, List.length_append, List.length_append, List.length_map, List.length_map, List.length_singleton, List.length_singleton]; omega), fun q3 nq3 => ?_⟩
          have s9 := same_new (o := .lst (cs.map V.str ++ [.str "{"] ++ (blockW d us).map V.str ++ [.str "}"])) nq3
          have sA := s4.trans (s15.trans (s6.trans (s7.trans s8)))
          refine ⟨q3, some y', rfl, sA.trans s9, sA.free nq3, ?_⟩
          rw [upd_same]
          simp [partW]
        | false =>
          refine iteF ⟨.ref Fe, rfl, .inl ⟨rfl, _, SqL.of e4⟩, _, rfl, ?_⟩
          have lf : (∃ z, u = .str z) ∨ ∃ i, u = .int i ∧ 0 ≤ i ∧ i ≤ 99 := by
            rcases List.mem_cons.mp um with rfl | ur
            · exact .inl ⟨x, rfl⟩
            · obtain ⟨n, hn, en⟩ := List.getElem_of_mem ur
              have hz : (rest.zip ks)[n]? = some (u, ks[n]) := List.getElem?_zip_eq_some.mpr ⟨by rw [List.getElem?_eq_getElem hn, en], List.getElem?_eq_getElem (by omega)⟩
              have hp : partT u ks[n] = true := by
                unfold fitsT at ef
                exact List.all_eq_true.mp (Bool.and_eq_true_iff.mp ef).2 _ (List.mem_of_getElem? hz)
              have kn : ks[n] ∈ ks := List.getElem_mem (by omega)
              have nb : ks[n] ≠ "block" := fun e => by
                rw [e] at hp
                have hp : isTup u = true := hp
                rw [htu] at hp
                cases hp
              rcases part_leaf hp (fun e => no_args ek (e ▸ kn)) (fun e => no_value ek (e ▸ kn)) nb with ⟨j, e, j0, j1, _⟩ | ⟨z, e, _⟩
              · exact .inr ⟨j, e, j0, j1⟩
              · exact .inl ⟨z, e⟩
          rcases lf with ⟨z, rfl⟩ | ⟨j, rfl, j0, j1⟩
          · cases tu with
            | str _ _ => exact .inr ⟨z, rfl, Fe, _, _, rfl, rfl, e4, (by rw [sizeLine_eq, List.length_map]; omega), leaf z rfl⟩
          · cases tu with
            | int _ => exact .inl ⟨j, rfl, (by have h1 : j.natAbs ≤ 99 := (by omega); have h2 : j.natAbs.log2 ≤ j.natAbs := Nat.log2_le_self _; omega), Fe, _, _, rfl, rfl, e4, (by rw [sizeLine_eq, List.length_map]; omega), leaf (toString j) rfl⟩
      · rintro σ H4 ⟨Fe, v3, rfl, s4, nFe, e4⟩
        rw [List.take_of_length_le (by omega)] at e4
        refine ⟨Fe, _, _, rfl, s4, nFe, ?_⟩
        have e9 : ((ts.take (i + 1)).map g).flatten = ws ++ (";" : Str) :: ((Tr.str x :: rest).map (partW (blockW d))).flatten := by
          rw [et, List.map_append, List.flatten_append, ← ews, eg]
          simp [stW, partW]
        rw [e9]
        exact e4
    · rintro σ H2 ⟨Fd, v2, v3, rfl, s2, nFd, e2⟩
      rw [xl, List.take_length] at e2
      refine ⟨_, rfl, 1, rfl, Fd, _, rfl, SqL.of e2, fun L nL => ?_⟩
      refine k L _ (s2.trans (same_new nL)) (s2.free nL) ?_
      rw [upd_same]
      cases ts with
      | nil =>
        have e : blockW d [] = [] := by cases d <;> rfl
        rw [e]
        rfl
      | cons t r =>
        cases d with
        | zero => cases (show t :: r = [] from ok)
        | succ d =>
        have e : blockW (d + 1) (t :: r) = stW (blockW d) t ++ ((r.map (stW (blockW d))).map fun y => (";" : Str) :: y).flatten := semi_eq _ _
        rw [e, List.map_map]
        have eg : g = fun u => (";" : Str) :: stW (blockW d) u := eg
        rw [eg, List.map_cons, List.flatten_cons]
        show some (HO.lst (cutV (V.str ";" :: ((stW (blockW d) t ++ (r.map fun u => (";" : Str) :: stW (blockW d) u).flatten).map V.str)) (some 1) none)) = _
        rw [cut1]
        rfl
end
end BK

set_option Elab.async false
set_option maxRecDepth 100000
set_option maxHeartbeats 4000000
set_option linter.unusedVariables false
/-! _law_block_words at every depth, _law_book_words -/
namespace BK
open PySem PySem.Spec PyProof.Rows L2 RZ ET
abbrev sLKW : Stmt := top 73
abbrev nLKW : List Str := ["book", "found", "name", "params", "block", "slot", "kind"]
theorem scLKW : FnScope nLKW ["book"] (defScope sLKW) := ⟨rfl, rfl, rfl, by decide +kernel, rfl, by decide +kernel, by decide +kernel⟩
def spLKW (K : PySem.W.Frag) : Sp := fun vs H Q _ => ∃ (v : V) (zs : List Str) (ps : List Tr), vs = [v] ∧ TrAt K H v (.tup [.tup (zs.map Tr.str), .tup ps]) ∧ zs.length ≤ 3 ∧ ps.length ≤ 6 ∧ (∀ p ∈ ps, tripleT p = true ∧ okD 5 (blockOf p) ∧ metD 5 (blockOf p) ≤ 16) ∧
  ∀ (L : Addr) H', Same H H' → H L = none → H' L = some (.lst ((bookW (.tup [.tup (zs.map Tr.str), .tup ps])).map V.str)) → Q (.ref L) H'
theorem trs_strs {K : PySem.W.Frag} {H : Hp} : ∀ {xs : List V} {ys : List Str}, TrAll K H xs (ys.map Tr.str) → xs = ys.map V.str
  | _, [], .nil => rfl
  | _, y :: r, .cons h k => by
    cases h with
    | str _ _ => rw [trs_strs k]; rfl
section
variable {P : Program} {w : World} {K : PySem.W.Frag} {mg : Str → Option Value} {base : Heap}
theorem ok_lbw {f : Addr} {fd : FuncData} (F : Fun K "_law_block_words" "_law_block_words" sLBW f fd) (T : Forms mg)
    (bR : Binds K fd ["block"] []) (gR : mg "_law_block_words" = some (.ref f)) (kR : PySem.W.keepIn K (.ref f) = true) : ∀ d, FnOk P w K mg base CX0 (d + 1) f fd ["block"] (spLBW K d)
  | 0 => lbw_step F T bR gR kR 0 (fn_false fun _ => trivial)
  | d + 1 => lbw_step F T bR gR kR (d + 1) (ok_lbw F T bR gR kR d)
theorem ok_lkw {f fB : Addr} {fd fdB : FuncData} (F : Fun K "_law_book_words" "_law_book_words" sLKW f fd) (mL : mg "list" = none)
    (GB : FnOk P w K mg base CX0 6 fB fdB ["block"] (spLBW K 5)) (bB : Binds K fdB ["block"] []) (gB : mg "_law_block_words" = some (.ref fB)) (kB : PySem.W.keepIn K (.ref fB) = true) : FnOk P w K mg base CX0 7 f fd ["book"] (spLKW K) := by
  refine F.ok scLKW (fun vs H Q E h => ?_) (fun cdv A outer s H vs Q E hr h => ?_)
  · obtain ⟨v, zs, ps, rfl, _⟩ := h
    rfl
  · obtain ⟨v, zs, ps, rfl, tv, zl, pl, hp, k⟩ := h
    have one' : 1 ≤ sizeLine := by decide
    have two' : 2 ≤ sizeLine := by decide
    have three' : 3 ≤ sizeLine := by decide
    refine ⟨_, pss_cons (ps_set (i := 1) scLKW.nd rfl (Or.inl rfl) (pe_op op_cat (pe_lst (pa_cons pe_str pa_nil)) (pe_callTy call_list_of (by rfl) mL (by decide +kernel) (pa_cons (pe_ix ix_tup (pv 0) pe_int (fun _ _ => rfl)) pa_nil))))
      (pss_cons (ps_for PassesOwn.never rfl (pi_tup (pe_ix ix_tup (pv 0) pe_int (fun _ _ => rfl))) (pg_tup rfl (pgs_cons (pg_name (i := 2) scLKW.nd rfl (Or.inl rfl)) (pgs_cons (pg_name (i := 3) scLKW.nd rfl (Or.inl rfl)) (pgs_cons (pg_name (i := 4) scLKW.nd rfl (Or.inl rfl)) pgs_nil))))
        (C8.pss_cut (ps_set (i := 1) scLKW.nd rfl (Or.inl rfl) (pe_op op_cat (pv 1) (pe_lst (pa_cons pe_str (pa_cons pe_str (pa_cons (pv 2) pa_nil))))))
        (C8.pss_cut (ps_for PassesOwn.never rfl (pi_tup (pv 3)) (pg_tup rfl (pgs_cons (pg_name (i := 5) scLKW.nd rfl (Or.inl rfl)) (pgs_cons (pg_name (i := 6) scLKW.nd rfl (Or.inl rfl)) pgs_nil)))
          (pss_one (ps_set (i := 1) scLKW.nd rfl (Or.inl rfl) (pe_op op_cat (pv 1) (pe_lst (pa_cons (pv 5) (pa_cons (pv 6) pa_nil)))))))
        (pss_one (ps_set (i := 1) scLKW.nd rfl (Or.inl rfl) (pe_op op_cat (pe_op op_cat (pe_op op_cat (pv 1) (pe_lst (pa_cons pe_str pa_nil))) (pe_call GB hr rfl gB kB bB .nil pass0 (pa_cons (pv 4) pa_nil))) (pe_lst (pa_cons pe_str pa_nil))))))))
      (pss_one (ps_ret (pv 1)))), ?_⟩
    cases tv with
    | @tup b xs _ hb tb =>
    cases tb with
    | @cons v0 _ _ _ h0 tb =>
    cases tb with
    | @cons v1 _ _ _ h1 tb =>
    cases tb with
    | nil =>
    cases h0 with
    | @tup va vs0 _ hva tva =>
    obtain rfl := trs_strs tva
    cases h1 with
    | @tup pa xs _ hpa tps =>
    have xl := tps.len
    obtain ⟨g, eg⟩ : ∃ g : Tr → List Str, g = fun p => (";" : Str) :: pieceW p := ⟨_, rfl⟩
    have tx : texts (zs.map Tr.str) = zs := texts_back zs
    have eB : bookW (.tup [.tup (zs.map Tr.str), .tup ps]) = ("vars" : Str) :: zs ++ (ps.map g).flatten := by
      show [("vars" : Str)] ++ texts (zs.map Tr.str) ++ _ = _
      rw [tx, eg]
      rfl
    rw [eB] at k
    have pw : ∀ p ∈ ps, (g p).length ≤ 200 := fun p hm => by
      obtain ⟨h1, h2, h3⟩ := hp p hm
      obtain ⟨n, pt, bts, rfl, hq⟩ := triple_shape h1
      obtain ⟨prs, rfl⟩ : ∃ ts, pt = .tup ts := by
        cases pt with
        | tup ts => exact ⟨ts, rfl⟩
        | _ => exact Bool.noConfusion (show false = true from hq)
      obtain ⟨l2, hpar, na, _⟩ := params_split hq
      have bl := (block_len 5 bts h2).1
      have h3 : metD 5 bts ≤ 16 := h3
      have pl2 : ((prs.map paramW).flatten).length ≤ 2 * prs.length := by
        have : ∀ l : List Tr, ((l.map paramW).flatten).length ≤ 2 * l.length := fun l => by
          induction l with
          | nil => exact Nat.le_refl _
          | cons q l ih =>
            rw [List.map_cons, List.flatten_cons, List.length_append, List.length_cons]
            have : (paramW q).length ≤ 2 := by
              unfold paramW
              split
              · exact Nat.le_refl _
              · exact Nat.zero_le _
            omega
        exact this prs
      rw [eg]
      simp only [pieceW, List.length_cons, List.length_append, List.length_nil]
      omega
    have fl : ∀ i, (("vars" : Str) :: zs ++ ((ps.take i).map g).flatten).length ≤ 2000 := fun i => by
      have : ∀ l : List Tr, (∀ p ∈ l, p ∈ ps) → ((l.map g).flatten).length ≤ 200 * l.length := fun l => by
        induction l with
        | nil => intro _; exact Nat.le_refl _
        | cons q l ih =>
          intro h
          have h1 := ih fun p hp => h p (List.mem_cons_of_mem _ hp)
          have h2 := pw q (h q List.mem_cons_self)
          rw [List.map_cons, List.flatten_cons, List.length_append, List.length_cons]
          omega
      have h1 := this (ps.take i) fun p hp => List.mem_of_mem_take hp
      rw [List.length_take] at h1
      rw [List.length_append, List.length_cons]
      omega
    refine ⟨one', fun p1 n1 => ?_⟩
    have s1 := same_new (o := .lst [.str "vars"]) n1
    refine ⟨_, rfl, b, _, 0, _, rfl, rfl, sqt_same s1 hb, at_of (j := 0) rfl rfl, va, _, rfl, .inr (sqt_same s1 hva), fun l nl => ?_⟩
    have s2 := same_new (o := .lst (zs.map V.str)) nl
    refine ⟨p1, l, [.str "vars"], zs.map V.str, rfl, rfl, s2 _ _ upd_same, upd_same, (by rw [sizeLine_eq, List.length_map, List.length_singleton]; omega), fun q nq => ?_⟩
    have s3 := same_new (o := .lst ([.str "vars"] ++ zs.map V.str)) nq
    have s13 := (s1.trans s2).trans s3
    refine ⟨_, rfl, b, _, 1, _, rfl, rfl, sqt_same s13 hb, at_of (j := 1) rfl rfl, pa, rfl, ⟨xs, sqt_same s13 hpa⟩, for_tup (K := K) (a := pa) (xs := xs) (fun i σ H2 => ∃ (Fd : Addr) (v2 v3 v4 v5 v6 : Option V), σ = [some (.ref b), some (.ref Fd), v2, v3, v4, v5, v6] ∧ Same H H2 ∧ H Fd = none ∧ H2 Fd = some (.lst ((("vars" : Str) :: zs ++ ((ps.take i).map g).flatten).map V.str)))
      ⟨q, none, none, none, none, none, rfl, s13, (s1.trans s2).free nq, by rw [upd_same]; simp⟩ (fun i σ H2 _ ⟨_, _, _, _, _, _, _, s2, _⟩ => sqt_same s2 hpa) ?_ ?_⟩
    · rintro i y σ H2 hi ⟨Fd, v2, v3, v4, v5, v6, rfl, s2, nFd, e2⟩
      obtain ⟨t, ht, ty⟩ := tps.get hi
      have tm : t ∈ ps := List.mem_of_getElem? ht
      have pwt := pw t tm
      obtain ⟨ht1, ht2, ht3⟩ := hp t tm
      have et : ps.take (i + 1) = ps.take i ++ [t] := by rw [List.take_add_one, ht]; rfl
      obtain ⟨n, pt, bts, rfl, hq⟩ := triple_shape ht1
      obtain ⟨prs, rfl⟩ : ∃ ts, pt = .tup ts := by
        cases pt with
        | tup ts => exact ⟨ts, rfl⟩
        | _ => exact Bool.noConfusion (show false = true from hq)
      obtain ⟨l2, hpar, na, _⟩ := params_split hq
      have hps : ∀ p ∈ prs, PrmP p := fun p hp => param_P (List.all_eq_true.mp hpar p hp) (List.all_eq_true.mp na _ (List.mem_map.mpr ⟨p, hp, rfl⟩))
      have ht2 : okD 5 bts := ht2
      have ht3 : metD 5 bts ≤ 16 := ht3
      have bl := (block_len 5 bts ht2).1
      cases ty with
      | @tup c3 zz _ hc tz =>
      cases tz with
      | @cons z0 _ _ _ g0 tz =>
      cases tz with
      | @cons z1 _ _ _ g1 tz =>
      cases tz with
      | @cons z2 _ _ _ g2 tz =>
      cases tz with
      | nil =>
      cases g0 with
      | str _ _ =>
      cases g1 with
      | @tup pA us _ hpA tpr =>
      have ul := tpr.len
      have fi := fl i
      obtain ⟨cs, ecs⟩ : ∃ cs, cs = ("vars" : Str) :: zs ++ ((ps.take i).map g).flatten := ⟨_, rfl⟩
      rw [← ecs] at e2 fi
      have ef : ("vars" : Str) :: zs ++ ((ps.take (i + 1)).map g).flatten = cs ++ ((";" : Str) :: pieceW (.tup [.str n, .tup prs, .tup bts])) := by
        rw [et, List.map_append, List.flatten_append, ← List.append_assoc, ← ecs, eg]
        simp
      rw [ef]
      refine ⟨c3, _, rfl, sqt_same s2 hc, rfl, _, _, rfl, _, _, rfl, _, _, rfl, rfl, ?_⟩
      -- ; piece name
      refine ⟨fun σ H3 => ∃ (Fe : Addr), σ = [some (.ref b), some (.ref Fe), some (.str n), some (.ref pA), some z2, v5, v6] ∧ Same H H3 ∧ H3 Fe = some (.lst ((cs ++ [(";" : Str), "piece", n]).map V.str)), ?_, ?_⟩
      · refine ⟨_, rfl, _, rfl, three', fun p1 n1 => ?_⟩
        have s1 := same_new (o := .lst [.str ";", .str "piece", .str n]) n1
        refine ⟨Fd, p1, cs.map V.str, [.str ";", .str "piece", .str n], rfl, rfl, s1 _ _ e2, upd_same, (by rw [sizeLine_eq, List.length_map]; simp; omega), fun q1 nq1 => ?_⟩
        have s5 := same_new (o := .lst (cs.map V.str ++ [.str ";", .str "piece", .str n])) nq1
        refine ⟨q1, rfl, s2.trans (s1.trans s5), ?_⟩
        rw [upd_same, List.map_append]
        rfl
      rintro σ H3 ⟨Fe, rfl, s3, e3⟩
      -- the params
      refine ⟨fun σ H4 => ∃ (Ff : Addr) (v5 v6 : Option V), σ = [some (.ref b), some (.ref Ff), some (.str n), some (.ref pA), some z2, v5, v6] ∧ Same H H4 ∧ H4 Ff = some (.lst ((cs ++ [(";" : Str), "piece", n] ++ (prs.map paramW).flatten).map V.str)), ?_, ?_⟩
      · refine ⟨_, rfl, pA, rfl, ⟨us, sqt_same s3 hpA⟩, for_tup (K := K) (a := pA) (xs := us) (fun j σ H4 => ∃ (Ff : Addr) (v5 v6 : Option V), σ = [some (.ref b), some (.ref Ff), some (.str n), some (.ref pA), some z2, v5, v6] ∧ Same H H4 ∧ H4 Ff = some (.lst ((cs ++ [(";" : Str), "piece", n] ++ ((prs.take j).map paramW).flatten).map V.str)))
          ⟨Fe, v5, v6, rfl, s3, by rw [e3]; simp⟩ (fun j σ H4 _ ⟨_, _, _, _, s4, _⟩ => sqt_same s4 hpA) ?_ ?_⟩
        · rintro j y' σ H4 hj ⟨Ff, v5, v6, rfl, s4, e4⟩
          obtain ⟨u, hu, tu⟩ := tpr.get hj
          obtain ⟨n', k', rfl, _⟩ := hps u (List.mem_of_getElem? hu)
          have jl : j < prs.length := (List.getElem?_eq_some_iff.mp hu).1
          have ej : ((prs.take (j + 1)).map paramW).flatten = ((prs.take j).map paramW).flatten ++ [n', k'] := by
            rw [List.take_add_one, hu, List.map_append, List.flatten_append]
            rfl
          have lj : (((prs.take j).map paramW).flatten).length ≤ 10 := by
            have : ∀ l : List Tr, ((l.map paramW).flatten).length ≤ 2 * l.length := fun l => by
              induction l with
              | nil => exact Nat.le_refl _
              | cons q l ih =>
                rw [List.map_cons, List.flatten_cons, List.length_append, List.length_cons]
                have : (paramW q).length ≤ 2 := by
                  unfold paramW
                  split
                  · exact Nat.le_refl _
                  · exact Nat.zero_le _
                omega
            have h1 := this (prs.take j)
            rw [List.length_take] at h1
            omega
          have le : ((cs ++ [(";" : Str), "piece", n] ++ ((prs.take j).map paramW).flatten).map V.str).length = cs.length + 3 + (((prs.take j).map paramW).flatten).length := by
            rw [List.length_map, List.length_append, List.length_append]
            rfl
          cases tu with
          | @tup cc ww _ hcc tw =>
          cases tw with
          | @cons w0 _ _ _ k0 tw =>
          cases tw with
          | @cons w1 _ _ _ k1 tw =>
          cases tw with
          | nil =>
          cases k0 with
          | str _ _ =>
          cases k1 with
          | str _ _ =>
          refine ⟨cc, _, rfl, sqt_same s4 hcc, rfl, _, _, rfl, _, _, rfl, rfl, ?_⟩
          refine ⟨_, rfl, _, rfl, _, rfl, two', fun p1 n1 => ?_⟩
          have s1 := same_new (o := .lst [.str n', .str k']) n1
          refine ⟨Ff, p1, _, [.str n', .str k'], rfl, rfl, s1 _ _ e4, upd_same, (by rw [le, sizeLine_eq]; show _ + 2 ≤ _; omega), fun q1 nq1 => ?_⟩
          refine ⟨q1, _, _, rfl, s4.trans (s1.trans (same_new nq1)), ?_⟩
          rw [upd_same, ej, ← List.append_assoc, List.map_append (l₂ := [n', k'])]
          rfl
        · rintro σ H4 ⟨Ff, v5, v6, rfl, s4, e4⟩
          rw [List.take_of_length_le (by omega)] at e4
          exact ⟨Ff, v5, v6, rfl, s4, e4⟩
      rintro σ H4 ⟨Ff, v5, v6, rfl, s4, e4⟩
      obtain ⟨ds, eds⟩ : ∃ ds, ds = cs ++ [(";" : Str), "piece", n] ++ (prs.map paramW).flatten := ⟨_, rfl⟩
      have dl : ds.length ≤ 3000 := by
        have h1 : (g (.tup [.str n, .tup prs, .tup bts])).length ≤ 200 := pwt
        rw [eg] at h1
        simp only [pieceW, List.length_cons, List.length_append, List.length_nil] at h1
        rw [eds, List.length_append, List.length_append]
        simp only [List.length_cons, List.length_nil]
        omega
      rw [← eds] at e4
      refine ⟨_, rfl, one', fun p1 n1 => ?_⟩
      have s1 := same_new (o := .lst [.str "{"]) n1
      refine ⟨Ff, p1, ds.map V.str, [.str "{"], rfl, rfl, s1 _ _ e4, upd_same, (by rw [sizeLine_eq, List.length_map, List.length_singleton]; omega), fun q1 nq1 => ?_⟩
      have s5 := same_new (o := .lst (ds.map V.str ++ [.str "{"])) nq1
      have s15 := s1.trans s5
      refine ⟨_, rfl, z2, bts, rfl, g2.same (s4.trans s15), ht2, by omega, fun L H6 s6 nL eL => ?_⟩
      refine ⟨q1, L, ds.map V.str ++ [.str "{"], (blockW 5 bts).map V.str, rfl, rfl, s6 _ _ upd_same, eL, (by rw [sizeLine_eq, List.length_append, List.length_map, List.length_map, List.length_singleton]; omega), fun q2 nq2 => ⟨one', fun p3 n3 => ?_⟩⟩
      have s7 := same_new (o := .lst (ds.map V.str ++ [.str "{"] ++ (blockW 5 bts).map V.str)) nq2
      have s8 := same_new (o := .lst [.str "}"]) n3
      refine ⟨q2, p3, ds.map V.str ++ [.str "{"] ++ (blockW 5 bts).map V.str, [.str "}"], rfl, rfl, s8 _ _ upd_same, upd_same, (by rw [sizeLine_eq, List.length_append, List.length_append, List.length_map, List.length_map, List.length_singleton, List.length_singleton]; omega), fun q3 nq3 => ?_⟩
      have s9 := same_new (o := .lst (ds.map V.str ++ [.str "{"] ++ (blockW 5 bts).map V.str ++ [.str "}"])) nq3
      have sA := s4.trans (s15.trans (s6.trans (s7.trans s8)))
      refine ⟨q3, _, _, _, _, _, rfl, sA.trans s9, sA.free nq3, ?_⟩
      rw [upd_same, eds]
      simp [pieceW]
    · rintro σ H2 ⟨Fd, v2, v3, v4, v5, v6, rfl, s2, nFd, e2⟩
      rw [List.take_of_length_le (by omega)] at e2
      exact ⟨_, rfl, k Fd H2 s2 nFd e2⟩
end
end BK

set_option Elab.async false
set_option maxRecDepth 100000
set_option maxHeartbeats 4000000
set_option linter.unusedVariables false
/-! _law_is_sign; words and gaps read back -/
namespace BK
open PySem PySem.Spec PyProof.Rows L2 RZ ET
abbrev sLSi : Stmt := top 74
theorem scLSi : FnScope ["word"] ["word"] (defScope sLSi) := ⟨rfl, rfl, rfl, by decide +kernel, rfl, by decide +kernel, by decide +kernel⟩
def signW : List Str := ["{", "}", ";"]
def spLSi (K : PySem.W.Frag) : Sp := fun vs H Q _ => ∃ (z : Str), vs = [.str z] ∧ ∀ H', Same H H' → Q (.bl (decide (z ∈ signW))) H'
section
variable {P : Program} {w : World} {K : PySem.W.Frag} {mg : Str → Option Value} {base : Heap}
theorem ok_lsi {f : Addr} {fd : FuncData} (F : Fun K "_law_is_sign" "_law_is_sign" sLSi f fd) : FnOk P w K mg base CX0 1 f fd ["word"] (spLSi K) := by
  refine F.ok scLSi (fun vs H Q E h => ?_) (fun cdv A outer s H vs Q E hr h => ?_)
  · obtain ⟨z, rfl, _⟩ := h
    rfl
  · obtain ⟨z, rfl, k⟩ := h
    refine ⟨_, pss_one (ps_ret (pe_cmpR op_in_seq (pv 0) (pe_tup (pa_cons pe_str (pa_cons pe_str (pa_cons pe_str pa_nil)))) rfl)), ?_⟩
    refine ⟨_, rfl, (by decide : 3 ≤ sizeLine), fun q nq => ?_⟩
    have sq := same_new (o := .tup [.str "{", .str "}", .str ";"]) nq
    have k := k _ sq
    refine ⟨q, signW.map V.str, rfl, .inr (SqT.of upd_same), rfl, flat_txts signW, ?_⟩
    show Q (.bl (inV (.str z) (signW.map V.str))) _
    rw [in_txts]
    exact k
end
/-! words and gaps -/
/-- a word of run signs alone -/
def RunW (z : Str) : Prop := z.cps.toList ≠ [] ∧ ∀ c ∈ z.cps.toList, isRun c = true
/-- a gap: blanks alone -/
def GapS (z : Str) : Prop := ∀ c ∈ z.cps.toList, isRun c = false ∧ isBlank c = true
theorem wk_gap {r : List Nat} : ∀ {l : List Nat}, (∀ c ∈ l, isRun c = false ∧ isBlank c = true) → wk (l ++ r) [] = wk r []
  | [], _ => rfl
  | c :: l, h => by
    obtain ⟨h1, h2⟩ := h c List.mem_cons_self
    rw [List.cons_append, wk_no h1, if_pos rfl, if_pos h2, List.nil_append, List.nil_append]
    exact wk_gap fun d hd => h d (List.mem_cons_of_mem _ hd)
theorem wk_run {r : List Nat} : ∀ {l run : List Nat}, (∀ c ∈ l, isRun c = true) → wk (l ++ r) run = wk r (run ++ l)
  | [], run, _ => by rw [List.nil_append, List.append_nil]
  | c :: l, run, h => by
    rw [List.cons_append, wk_yes (h c List.mem_cons_self), wk_run fun d hd => h d (List.mem_cons_of_mem _ hd), List.append_assoc]
    rfl
/-- behind a run, something that is none of it -/
theorem wk_word {z : Str} {c : Nat} {r : List Nat} (h : RunW z) (hc : isRun c = false) : wk (z.cps.toList ++ c :: r) [] = z :: wk (c :: r) [] := by
  rw [wk_run h.2, List.nil_append, wk_no hc, wk_no hc, if_neg h.1, if_pos rfl]
  have e : (⟨z.cps.toList.toArray⟩ : Str) = z := by cases z; rfl
  rw [e]
  rfl
/-- a sign stands for itself -/
theorem wk_sign {z : Str} {c : Nat} {r : List Nat} (hz : z = ⟨#[c]⟩) (h1 : isRun c = false) (h2 : isBlank c = false) : wk (z.cps.toList ++ r) [] = z :: wk r [] := by
  subst hz
  show wk (c :: r) [] = _
  rw [wk_no h1, if_pos rfl, if_neg (by rw [h2]; exact Bool.false_ne_true)]
  rfl
end BK

set_option Elab.async false
set_option maxRecDepth 100000
set_option maxHeartbeats 4000000
set_option linter.unusedVariables false
/-! words laid with gaps read back as these words -/
namespace BK
open PySem PySem.Spec PyProof.Rows L2 RZ ET
/-- a sign that is a word of its own -/
def SigW (z : Str) : Prop := ∃ c, z = ⟨#[c]⟩ ∧ isRun c = false ∧ isBlank c = false
def laid : List (Str × Str) → Str → List Nat
  | [], e => e.cps.toList
  | (g, z) :: r, e => g.cps.toList ++ (z.cps.toList ++ laid r e)
/-- gaps of blanks, words; between two runs a gap that is none of nothing -/
def OkL : List (Str × Str) → Prop
  | [] => True
  | (g, z) :: r => GapS g ∧ (RunW z ∨ SigW z) ∧ OkL r ∧ (RunW z → match r with | [] => True | (g', z') :: _ => g'.cps.toList ≠ [] ∨ SigW z')
theorem laid_head {e : Str} (he : GapS e) : ∀ {r : List (Str × Str)}, OkL r → (match r with | [] => True | (g', z') :: _ => g'.cps.toList ≠ [] ∨ SigW z') → ∃ c l, laid r e ++ [32] = c :: l ∧ isRun c = false
  | [], _, _ => by
    show ∃ c l, e.cps.toList ++ [32] = c :: l ∧ isRun c = false
    cases h : e.cps.toList with
    | nil => exact ⟨32, [], rfl, by decide +kernel⟩
    | cons c l => exact ⟨c, l ++ [32], rfl, (he c (by rw [h]; exact List.mem_cons_self)).1⟩
  | (g, z) :: r, ok, hd => by
    obtain ⟨hg, hz, hr, _⟩ := ok
    show ∃ c l, g.cps.toList ++ (z.cps.toList ++ laid r e) ++ [32] = c :: l ∧ isRun c = false
    cases h : g.cps.toList with
    | cons c l => exact ⟨c, _, rfl, (hg c (by rw [h]; exact List.mem_cons_self)).1⟩
    | nil =>
      rcases hd with hd | ⟨c, rfl, h1, h2⟩
      · exact absurd h hd
      · exact ⟨c, _, rfl, h1⟩
theorem wk_laid {e : Str} (he : GapS e) : ∀ {r : List (Str × Str)}, OkL r → wk (laid r e ++ [32]) [] = r.map (·.2)
  | [], _ => by
    show wk (e.cps.toList ++ [32]) [] = []
    rw [wk_gap he, wk_no (by decide +kernel : isRun 32 = false), if_pos rfl, if_pos (by decide +kernel : isBlank 32 = true)]
    rfl
  | (g, z) :: r, ok => by
    obtain ⟨hg, hz, hr, hn⟩ := ok
    show wk (g.cps.toList ++ (z.cps.toList ++ laid r e) ++ [32]) [] = z :: r.map (·.2)
    rw [List.append_assoc, wk_gap hg, List.append_assoc]
    rcases hz with hz | ⟨c, ez, h1, h2⟩
    · obtain ⟨c, l, el, hc⟩ := laid_head he hr (hn hz)
      have ih := wk_laid he hr
      rw [el] at ih ⊢
      rw [wk_word hz hc, ih]
    · rw [wk_sign ez h1 h2, wk_laid he hr]
end BK

set_option Elab.async false
set_option maxRecDepth 100000
set_option maxHeartbeats 4000000
set_option linter.unusedVariables false
/-! the words of a right book are runs or signs -/
namespace BK
open PySem PySem.Spec PyProof.Rows L2 RZ ET
def WdW (z : Str) : Prop := (RunW z ∨ SigW z) ∧ z.length ≤ 20 ∧ z.cps.toList.all (fun c => decide (c < 128)) = true
theorem wd_run {z : Str} (h : RunW z) (hl : z.length ≤ 20) : WdW z := by
  refine ⟨.inl h, hl, ?_⟩
  have al : ∀ c ∈ runSigns.cps.toList, c < 128 := by decide +kernel
  rw [List.all_eq_true]
  exact fun c hc => decide_eq_true (al c (of_decide_eq_true (h.2 c hc)))
def runB (z : Str) : Bool := !z.cps.toList.isEmpty && z.cps.toList.all isRun
theorem run_of {z : Str} (h : runB z = true) : RunW z := by
  unfold runB at h
  rw [Bool.and_eq_true] at h
  refine ⟨fun q => ?_, fun c hc => List.all_eq_true.mp h.2 c hc⟩
  rw [q] at h
  exact absurd h.1 (by decide)
theorem wd_name0 {z : Str} (h : nameS z = true) : RunW z := by
  unfold nameS at h
  simp only [Bool.and_eq_true, decide_eq_true_eq] at h
  obtain ⟨⟨h1, _⟩, h3⟩ := h
  have al : ∀ c ∈ alpha.cps.toList, isRun c = true := by decide +kernel
  refine ⟨fun q => ?_, fun c hc => al c (of_decide_eq_true (List.all_eq_true.mp h3 c hc))⟩
  have : z.cps.toList.length = z.length := Array.length_toList
  rw [q, List.length_nil] at this
  omega
theorem run_name {z : Str} (h : nameS z = true) : WdW z := wd_run (wd_name0 h) (name_short h)
theorem run_int {i : Int} (h0 : 0 ≤ i) (h1 : i ≤ 99) : WdW (toString i : Str) := by
  refine wd_run ?_ (int_short h0 h1)
  obtain ⟨n, rfl⟩ := Int.eq_ofNat_of_zero_le h0
  have all : ∀ n : Fin 100, runB (toString ((n.val : Nat) : Int) : Str) = true := by decide +kernel
  exact run_of (all ⟨n, by omega⟩)
theorem run_word {x : Str} {ks : List Str} (h : kindsOf x = some ks) : WdW x := by
  refine wd_run ?_ (word_few h)
  have all : (kindTab.all fun e => runB e.1) = true := by decide +kernel
  unfold kindsOf at h
  cases e : kindTab.find? fun e => decide (e.1 = x) with
  | none => rw [e] at h; cases h
  | some p =>
    have q : p.1 = x := of_decide_eq_true (List.find?_some (p := fun e : Str × List Str => decide (e.1 = x)) e)
    rw [← q]
    exact run_of (List.all_eq_true.mp all p (List.mem_of_find?_eq_some e))
theorem sig_o : WdW "{" := ⟨.inr ⟨123, rfl, by decide +kernel, by decide +kernel⟩, by decide, by decide +kernel⟩
theorem sig_c : WdW "}" := ⟨.inr ⟨125, rfl, by decide +kernel, by decide +kernel⟩, by decide, by decide +kernel⟩
theorem sig_s : WdW ";" := ⟨.inr ⟨59, rfl, by decide +kernel, by decide +kernel⟩, by decide, by decide +kernel⟩
theorem semi_all {P : Str → Prop} (hs : P ";") : ∀ {xs : List (List Str)}, (∀ x ∈ xs, ∀ w ∈ x, P w) → ∀ w ∈ semi xs, P w
  | [], _, w, hw => nomatch hw
  | x :: r, h, w, hw => by
    rw [semi_eq] at hw
    rcases List.mem_append.mp hw with hw | hw
    · exact h x List.mem_cons_self w hw
    · obtain ⟨l, hl, hwl⟩ := List.mem_flatten.mp hw
      obtain ⟨y, hy, rfl⟩ := List.mem_map.mp hl
      rcases List.mem_cons.mp hwl with rfl | hwl
      · exact hs
      · exact h y (List.mem_cons_of_mem _ hy) w hwl
theorem block_words : ∀ (d : Nat) (ts : List Tr), okD d ts → ∀ w ∈ blockW d ts, WdW w
  | 0, ts, _, w, hw => nomatch hw
  | d + 1, ts, ok, w, hw => by
    refine semi_all (P := WdW) sig_s (fun y hy v hv => ?_) w hw
    obtain ⟨t, ht, rfl⟩ := List.mem_map.mp hy
    obtain ⟨hf, hb⟩ := ok t ht
    obtain ⟨x, rest, ks, rfl, ek, ef⟩ := form_xs hf
    have rl : rest.length = ks.length := by
      unfold fitsT at ef
      exact of_decide_eq_true (Bool.and_eq_true_iff.mp ef).1
    have hv : v ∈ x :: (rest.map (partW (blockW d))).flatten := hv
    rcases List.mem_cons.mp hv with rfl | hv
    · exact run_word ek
    · obtain ⟨l, hl, hvl⟩ := List.mem_flatten.mp hv
      obtain ⟨u, hu, rfl⟩ := List.mem_map.mp hl
      by_cases htu : isTup u = true
      · obtain ⟨us, rfl⟩ : ∃ us, u = .tup us := by
          cases u with
          | tup us => exact ⟨us, rfl⟩
          | _ => cases htu
        have hvl : v ∈ [("{" : Str)] ++ blockW d us ++ [("}" : Str)] := hvl
        have oku : okD d us := hb us (by show us ∈ (rest.filter isTup).map tupTs; exact List.mem_map.mpr ⟨.tup us, List.mem_filter.mpr ⟨hu, rfl⟩, rfl⟩)
        rcases List.mem_append.mp hvl with hvl | hvl
        · rcases List.mem_append.mp hvl with hvl | hvl
          · rw [List.mem_singleton.mp hvl]; exact sig_o
          · exact block_words d us oku v hvl
        · rw [List.mem_singleton.mp hvl]; exact sig_c
      · obtain ⟨n, hn, en⟩ := List.getElem_of_mem hu
        have hz : (rest.zip ks)[n]? = some (u, ks[n]) := List.getElem?_zip_eq_some.mpr ⟨by rw [List.getElem?_eq_getElem hn, en], List.getElem?_eq_getElem (by omega)⟩
        have hp : partT u ks[n] = true := by
          unfold fitsT at ef
          exact List.all_eq_true.mp (Bool.and_eq_true_iff.mp ef).2 _ (List.mem_of_getElem? hz)
        have kn : ks[n] ∈ ks := List.getElem_mem (by omega)
        have nb : ks[n] ≠ "block" := fun e => by
          rw [e] at hp
          have hp : isTup u = true := hp
          exact htu hp
        rcases part_leaf hp (fun e => no_args ek (e ▸ kn)) (fun e => no_value ek (e ▸ kn)) nb with ⟨j, rfl, j0, j1, _⟩ | ⟨z, rfl, nz, _⟩
        · rw [List.mem_singleton.mp (show v ∈ [(toString j : Str)] from hvl)]
          exact run_int j0 j1
        · rw [List.mem_singleton.mp (show v ∈ [z] from hvl)]
          exact run_name nz
end BK

set_option Elab.async false
set_option maxRecDepth 100000
set_option maxHeartbeats 4000000
set_option linter.unusedVariables false
/-! the words of a right book are runs or signs: pieces, books -/
namespace BK
open PySem PySem.Spec PyProof.Rows L2 RZ ET
theorem piece_words {t : Tr} (ht : tripleT t = true) (ok : okD 5 (blockOf t)) : ∀ w ∈ pieceW t, WdW w := by
  obtain ⟨n, pt, bts, rfl, hq⟩ := triple_shape ht
  have nn : nameS n = true := by
    have tp : (nameS n && paramsT pt && true) = true := ht
    rw [Bool.and_eq_true, Bool.and_eq_true] at tp
    exact tp.1.1
  obtain ⟨prs, rfl⟩ : ∃ ts, pt = .tup ts := by
    cases pt with
    | tup ts => exact ⟨ts, rfl⟩
    | _ => exact Bool.noConfusion (show false = true from hq)
  obtain ⟨l2, hpar, na, _⟩ := params_split hq
  intro w hw
  have hw : w ∈ [("piece" : Str), n] ++ (prs.map paramW).flatten ++ [("{" : Str)] ++ blockW 5 bts ++ [("}" : Str)] := hw
  rcases List.mem_append.mp hw with hw | hw
  · rcases List.mem_append.mp hw with hw | hw
    · rcases List.mem_append.mp hw with hw | hw
      · rcases List.mem_append.mp hw with hw | hw
        · rcases List.mem_cons.mp hw with rfl | hw
          · exact wd_run (run_of (by decide +kernel)) (by decide)
          · rw [List.mem_singleton.mp hw]; exact run_name nn
        · obtain ⟨l, hl, hwl⟩ := List.mem_flatten.mp hw
          obtain ⟨p, hp, rfl⟩ := List.mem_map.mp hl
          obtain ⟨n', k', rfl, nn', hk⟩ := param_P (List.all_eq_true.mp hpar p hp) (List.all_eq_true.mp na _ (List.mem_map.mpr ⟨p, hp, rfl⟩))
          have hwl : w ∈ [n', k'] := hwl
          rcases List.mem_cons.mp hwl with rfl | hwl
          · exact run_name nn'
          · rw [List.mem_singleton.mp hwl]
            rcases hk with rfl | rfl <;> exact wd_run (run_of (by decide +kernel)) (by decide)
      · rw [List.mem_singleton.mp hw]; exact sig_o
    · exact block_words 5 bts ok w hw
  · rw [List.mem_singleton.mp hw]; exact sig_c
theorem book_words {zs : List Str} {ps : List Tr} (hz : ∀ z ∈ zs, nameS z = true) (hp : ∀ p ∈ ps, tripleT p = true ∧ okD 5 (blockOf p)) : ∀ w ∈ bookW (.tup [.tup (zs.map Tr.str), .tup ps]), WdW w := by
  intro w hw
  have hw : w ∈ [("vars" : Str)] ++ texts (zs.map Tr.str) ++ (ps.map fun p => (";" : Str) :: pieceW p).flatten := hw
  rw [texts_back] at hw
  rcases List.mem_append.mp hw with hw | hw
  · rcases List.mem_append.mp hw with hw | hw
    · rw [List.mem_singleton.mp hw]; exact wd_run (run_of (by decide +kernel)) (by decide)
    · exact run_name (hz w hw)
  · obtain ⟨l, hl, hwl⟩ := List.mem_flatten.mp hw
    obtain ⟨p, hpm, rfl⟩ := List.mem_map.mp hl
    rcases List.mem_cons.mp hwl with rfl | hwl
    · exact sig_s
    · exact piece_words (hp p hpm).1 (hp p hpm).2 w hwl
end BK

set_option Elab.async false
set_option maxRecDepth 100000
set_option maxHeartbeats 4000000
set_option linter.unusedVariables false
/-! " ".join(words) is these words laid -/
namespace BK
open PySem PySem.Spec PyProof.Rows L2 RZ ET
/-- a blank ahead of each -/
def blanked (ws : List Str) : List (Str × Str) := ws.map fun w => ((" " : Str), w)
def joinP : List Str → List (Str × Str)
  | [] => []
  | w :: r => ((Str.empty : Str), w) :: blanked r
theorem gap_blank : GapS " " := fun c hc => by
  have : c = 32 := by
    have h : c ∈ ([32] : List Nat) := hc
    exact List.mem_singleton.mp h
  subst this
  exact ⟨by decide +kernel, by decide +kernel⟩
theorem blanked_ok : ∀ {ws : List Str}, (∀ w ∈ ws, WdW w) → OkL (blanked ws)
  | [], _ => trivial
  | w :: r, h => by
    refine ⟨gap_blank, (h w List.mem_cons_self).1, blanked_ok fun x hx => h x (List.mem_cons_of_mem _ hx), fun _ => ?_⟩
    cases r with
    | nil => trivial
    | cons y r => exact .inl (by decide)
theorem joinP_ok {ws : List Str} (h : ∀ w ∈ ws, WdW w) : OkL (joinP ws) := by
  cases ws with
  | nil => trivial
  | cons w r =>
    refine ⟨(fun c hc => nomatch hc), (h w List.mem_cons_self).1, blanked_ok fun x hx => h x (List.mem_cons_of_mem _ hx), fun _ => ?_⟩
    cases r with
    | nil => trivial
    | cons y r => exact .inl (by decide)
theorem joinP_words : ∀ ws : List Str, (joinP ws).map (·.2) = ws
  | [] => rfl
  | w :: r => by
    show w :: (blanked r).map (·.2) = w :: r
    unfold blanked
    rw [List.map_map]
    show w :: r.map id = _
    rw [List.map_id]
theorem join_tail : ∀ (r : List Str) (w : Str), (Str.join " " (w :: r)).cps.toList = w.cps.toList ++ laid (blanked r) Str.empty
  | [], w => by
    show w.cps.toList = w.cps.toList ++ []
    rw [List.append_nil]
  | y :: r, w => by
    have e : Str.join " " (w :: y :: r) = w ++ " " ++ Str.join " " (y :: r) := rfl
    have h := join_tail r y
    rw [e]
    show ((w.cps ++ (" " : Str).cps) ++ (Str.join " " (y :: r)).cps).toList = _
    rw [Array.toList_append, Array.toList_append, h, List.append_assoc]
    rfl
/-- what is joined by blanks -/
theorem join_laid : ∀ ws : List Str, (Txt.join " " ws).cps.toList = laid (joinP ws) Str.empty
  | [] => by rw [TL.join_eq]; rfl
  | w :: r => by
    rw [TL.join_eq, join_tail r w]
    rfl
theorem wk_join {ws : List Str} (h : ∀ w ∈ ws, WdW w) : wk ((Txt.join " " ws).cps.toList ++ [32]) [] = ws := by
  rw [join_laid, wk_laid (e := Str.empty) (fun c hc => by cases hc) (joinP_ok h), joinP_words]
end BK

set_option Elab.async false
set_option maxRecDepth 100000
set_option maxHeartbeats 4000000
set_option linter.unusedVariables false
/-! texts that are laid word by word -/
namespace BK
open PySem PySem.Spec PyProof.Rows L2 RZ ET
theorem okL_of : ∀ {r : List (Str × Str)}, (∀ e ∈ r, GapS e.1 ∧ (RunW e.2 ∨ SigW e.2)) → (∀ i e e', r[i]? = some e → r[i + 1]? = some e' → RunW e.2 → e'.1.cps.toList ≠ [] ∨ SigW e'.2) → OkL r
  | [], _, _ => trivial
  | (g, z) :: r, h, k => by
    refine ⟨(h _ List.mem_cons_self).1, (h _ List.mem_cons_self).2, okL_of (fun e he => h e (List.mem_cons_of_mem _ he)) (fun i e e' h1 h2 => k (i + 1) e e' h1 h2), fun hz => ?_⟩
    cases r with
    | nil => trivial
    | cons p r =>
      obtain ⟨g', z'⟩ := p
      exact k 0 (g, z) (g', z') rfl rfl hz
theorem laid_app : ∀ (r : List (Str × Str)) (g z : Str), laid (r ++ [(g, z)]) Str.empty = laid r Str.empty ++ (g.cps.toList ++ z.cps.toList)
  | [], g, z => by
    show g.cps.toList ++ (z.cps.toList ++ []) = [] ++ _
    rw [List.append_nil, List.nil_append]
  | (g', z') :: r, g, z => by
    show g'.cps.toList ++ (z'.cps.toList ++ laid (r ++ [(g, z)]) Str.empty) = (g'.cps.toList ++ (z'.cps.toList ++ laid r Str.empty)) ++ _
    rw [laid_app r g z]
    simp only [List.append_assoc]
theorem laid_end (e : Str) : ∀ r : List (Str × Str), laid r Str.empty ++ e.cps.toList = laid r e
  | [] => rfl
  | (g, z) :: r => by
    show (g.cps.toList ++ (z.cps.toList ++ laid r Str.empty)) ++ e.cps.toList = g.cps.toList ++ (z.cps.toList ++ laid r e)
    rw [← laid_end e r]
    simp only [List.append_assoc]
theorem sig_of {z : Str} (h : z ∈ signW) : SigW z := by
  simp only [signW, List.mem_cons, List.not_mem_nil, or_false] at h
  rcases h with rfl | rfl | rfl
  · exact ⟨123, rfl, by decide +kernel, by decide +kernel⟩
  · exact ⟨125, rfl, by decide +kernel, by decide +kernel⟩
  · exact ⟨59, rfl, by decide +kernel, by decide +kernel⟩
theorem run_nosig {z : Str} (h : RunW z) : z ∉ signW := fun q => by
  obtain ⟨c, rfl, hc, _⟩ := sig_of q
  have := h.2 c (by show c ∈ [c]; exact List.mem_singleton.mpr rfl)
  rw [hc] at this
  cases this
/-- what is found so far: i of the words, with gaps -/
structure Lf (f g0 : Str) (r : List (Str × Str)) (ws : List Str) (i : Nat) : Prop where
  tx : f.cps.toList = g0.cps.toList ++ laid r Str.empty
  wd : r.map (·.2) = ws.take i
  gp : ∀ e ∈ r, GapS e.1
  nx : ∀ j e e', r[j]? = some e → r[j + 1]? = some e' → RunW e.2 → e'.1.cps.toList ≠ [] ∨ SigW e'.2
  ln : f.length ≤ 10 + 30 * i
theorem str_len (z : Str) : z.cps.toList.length = z.length := Array.length_toList
theorem Lf.start {g0 : Str} {ws : List Str} (h : g0.length ≤ 10) : Lf g0 g0 [] ws 0 := ⟨by rw [show laid [] Str.empty = [] from rfl, List.append_nil], rfl, (fun e he => by cases he), (fun j e e' h => by cases h), by omega⟩
theorem Lf.step {f g0 g w : Str} {r : List (Str × Str)} {ws : List Str} {i : Nat} (h : Lf f g0 r ws i) (hw : ws[i]? = some w) (hg : GapS g) (lg : g.length ≤ 10) (lw : w.length ≤ 20)
    (hn : ∀ p, 0 < i → ws[i - 1]? = some p → RunW p → g.cps.toList ≠ [] ∨ SigW w) : Lf (f ++ g ++ w) g0 (r ++ [(g, w)]) ws (i + 1) := by
  have il : i < ws.length := (List.getElem?_eq_some_iff.mp hw).1
  have rl : r.length = i := by
    have := congrArg List.length h.wd
    rw [List.length_map, List.length_take] at this
    omega
  refine ⟨?_, ?_, fun e he => ?_, fun j e e' h1 h2 hr => ?_, ?_⟩
  · show ((f.cps ++ g.cps) ++ w.cps).toList = _
    rw [Array.toList_append, Array.toList_append, h.tx, laid_app]
    simp only [List.append_assoc]
  · rw [List.map_append, h.wd, List.take_add_one, hw]
    rfl
  · rcases List.mem_append.mp he with he | he
    · exact h.gp e he
    · rw [List.mem_singleton.mp he]
      exact hg
  · by_cases hj : j + 1 < r.length
    · rw [List.getElem?_append_left hj] at h2
      rw [List.getElem?_append_left (by omega)] at h1
      exact h.nx j e e' h1 h2 hr
    · have j1 : j + 1 < (r ++ [(g, w)]).length := (List.getElem?_eq_some_iff.mp h2).1
      rw [List.length_append, List.length_singleton] at j1
      have ej : j + 1 = r.length := by omega
      rw [List.getElem?_append_left (by omega)] at h1
      rw [ej, List.getElem?_append_right (Nat.le_refl _), Nat.sub_self] at h2
      obtain rfl : (g, w) = e' := Option.some.inj h2
      have e1 : (r.map (·.2))[j]? = some e.2 := by rw [List.getElem?_map, h1]; rfl
      rw [h.wd, List.getElem?_take_of_lt (by omega)] at e1
      refine hn e.2 (by omega) ?_ hr
      rw [← e1]
      congr 1
      omega
  · have lf := h.ln
    show ((f.cps ++ g.cps) ++ w.cps).size ≤ _
    rw [Array.size_append, Array.size_append]
    have a1 : f.cps.size = f.length := rfl
    have a2 : g.cps.size = g.length := rfl
    have a3 : w.cps.size = w.length := rfl
    omega
theorem Lf.done {f g0 e t : Str} {r : List (Str × Str)} {ws : List Str} {n : Nat} (h : Lf f g0 r ws n) (hn : ws.length ≤ n) (hw : ∀ w ∈ ws, WdW w) (hg : GapS g0) (he : GapS e) (ht : t.cps.toList = f.cps.toList ++ e.cps.toList) : wk (t.cps.toList ++ [32]) [] = ws := by
  have wd := h.wd
  rw [List.take_of_length_le hn] at wd
  have ok : OkL r := okL_of (fun e he => ⟨h.gp e he, (hw e.2 (by rw [← wd]; exact List.mem_map.mpr ⟨e, he, rfl⟩)).1⟩) h.nx
  have e1 : f.cps.toList ++ e.cps.toList = g0.cps.toList ++ laid r e := by rw [h.tx, List.append_assoc, laid_end]
  rw [ht, e1, List.append_assoc, wk_gap hg, wk_laid he ok, wd]
def gapsW : List Str := ["", " ", "\n", "  ", " \n", "", "\n\n\n", "          "]
def gapB (z : Str) : Bool := z.cps.toList.all (fun c => !isRun c && isBlank c) && decide (z.length ≤ 10)
theorem gap_of {z : Str} (h : gapB z = true) : GapS z ∧ z.length ≤ 10 := by
  unfold gapB at h
  rw [Bool.and_eq_true, decide_eq_true_eq] at h
  refine ⟨fun c hc => ?_, h.2⟩
  have q := List.all_eq_true.mp h.1 c hc
  rw [Bool.and_eq_true] at q
  exact ⟨by simpa using q.1, q.2⟩
theorem gaps_all {g : Str} (h : g ∈ gapsW) : GapS g ∧ g.length ≤ 10 := by
  have all : (gapsW.all gapB) = true := by decide +kernel
  exact gap_of (List.all_eq_true.mp all g h)
theorem gap_none : GapS Str.empty := fun c hc => by cases hc
/-! the length of what is joined, and its signs -/
theorem laid_chars {e : Str} {p : Nat → Prop} (he : ∀ c ∈ e.cps.toList, p c) : ∀ {r : List (Str × Str)}, (∀ x ∈ r, (∀ c ∈ x.1.cps.toList, p c) ∧ ∀ c ∈ x.2.cps.toList, p c) → ∀ c ∈ laid r e, p c
  | [], _, c, hc => he c hc
  | (g, z) :: r, h, c, hc => by
    have hc : c ∈ g.cps.toList ++ (z.cps.toList ++ laid r e) := hc
    rcases List.mem_append.mp hc with hc | hc
    · exact (h _ List.mem_cons_self).1 c hc
    · rcases List.mem_append.mp hc with hc | hc
      · exact (h _ List.mem_cons_self).2 c hc
      · exact laid_chars he (fun x hx => h x (List.mem_cons_of_mem _ hx)) c hc
theorem laid_len {r : List (Str × Str)} : (∀ x ∈ r, x.1.length ≤ 10 ∧ x.2.length ≤ 20) → (laid r Str.empty).length ≤ 30 * r.length := by
  induction r with
  | nil => intro _; exact Nat.le_refl _
  | cons p r ih =>
    intro h
    obtain ⟨g, z⟩ := p
    have h1 := ih fun x hx => h x (List.mem_cons_of_mem _ hx)
    have h2 := h _ List.mem_cons_self
    show (g.cps.toList ++ (z.cps.toList ++ laid r Str.empty)).length ≤ _
    rw [List.length_append, List.length_append, str_len, str_len, List.length_cons]
    have h3 : g.length ≤ 10 := h2.1
    have h4 : z.length ≤ 20 := h2.2
    omega
theorem joinP_mem {ws : List Str} {x : Str × Str} (h : x ∈ joinP ws) : (x.1 = Str.empty ∨ x.1 = " ") ∧ x.2 ∈ ws := by
  cases ws with
  | nil => cases h
  | cons w r =>
    rcases List.mem_cons.mp h with rfl | h
    · exact ⟨.inl rfl, List.mem_cons_self⟩
    · obtain ⟨y, hy, rfl⟩ := List.mem_map.mp h
      exact ⟨.inr rfl, List.mem_cons_of_mem _ hy⟩
theorem join_len {ws : List Str} (h : ∀ w ∈ ws, WdW w) : (Txt.join " " ws).length ≤ 30 * ws.length := by
  rw [← str_len, join_laid]
  have := laid_len (r := joinP ws) fun x hx => by
    obtain ⟨h1, h2⟩ := joinP_mem hx
    refine ⟨?_, (h _ h2).2.1⟩
    rcases h1 with e | e <;> rw [e] <;> decide
  have e : (joinP ws).length = ws.length := by
    have := congrArg List.length (joinP_words ws)
    rw [List.length_map] at this
    exact this
  omega
theorem join_chars {ws : List Str} (h : ∀ w ∈ ws, WdW w) : ∀ c ∈ (Txt.join " " ws).cps.toList, c < 16 ^ 8 := by
  rw [join_laid]
  refine laid_chars (fun c hc => by cases hc) fun x hx => ?_
  obtain ⟨h1, h2⟩ := joinP_mem hx
  refine ⟨fun c hc => ?_, fun c hc => ?_⟩
  · rcases h1 with e | e
    · rw [e] at hc
      cases hc
    · rw [e] at hc
      have : c = 32 := List.mem_singleton.mp (show c ∈ ([32] : List Nat) from hc)
      rw [this]
      decide
  · have := of_decide_eq_true (List.all_eq_true.mp (h _ h2).2.2 c hc)
    exact Nat.lt_of_lt_of_le this (by decide)
theorem join_repr {ws : List Str} (h : ∀ w ∈ ws, WdW w) (hl : ws.length ≤ 2000) : (reprText (Txt.join " " ws)).length ≤ sizeLine := by
  have h1 := StrLaws.reprText_len _ (join_chars h)
  have h2 := join_len h
  rw [sizeLine_eq]
  omega
section
variable {X : Cx}
theorem call_reprS : CallR X (.builtin "repr") (fun xs H Q => ∃ a, xs = [.str a] ∧ (reprText a).length ≤ sizeLine ∧ Q (.str (reprText a)) H) := by
  intro pins s σ H xs us Q I r h
  obtain ⟨a, rfl, hz, q⟩ := h
  obtain ⟨u, rfl, t, rfl⟩ := vals1 r
  exact PySem.P.repr_of_str ⟨.str (reprText a), H, I.tok _, ⟨_, rfl⟩, q⟩ hz
end
end BK

set_option Elab.async false
set_option maxRecDepth 100000
set_option maxHeartbeats 4000000
set_option linter.unusedVariables false
/-! _law_tight -/
namespace BK
open PySem PySem.Spec PyProof.Rows L2 RZ ET
abbrev sLTi : Stmt := top 75
abbrev nLTi : List Str := ["words", "found", "at", "word", "is_apart"]
theorem scLTi : FnScope nLTi ["words"] (defScope sLTi) := ⟨rfl, rfl, rfl, by decide +kernel, rfl, by decide +kernel, by decide +kernel⟩
def spLTi (K : PySem.W.Frag) : Sp := fun vs H Q _ => ∃ (L : Addr) (ws : List Str), vs = [.ref L] ∧ H L = some (.lst (ws.map V.str)) ∧ (∀ w ∈ ws, WdW w) ∧ ws.length ≤ 2000 ∧ ∀ (z : Str) H', Same H H' → z.length ≤ 300000 → wk (z.cps.toList ++ [32]) [] = ws → Q (.str z) H'
theorem str_at {ws : List Str} {i : Nat} {v : V} (h : (ws.map V.str)[i]? = some v) : ∃ x, ws[i]? = some x ∧ v = .str x := by
  rw [List.getElem?_map] at h
  cases e : ws[i]? with
  | none => rw [e] at h; cases h
  | some x => rw [e] at h; exact ⟨x, rfl, (Option.some.inj h).symm⟩
section
variable {P : Program} {w : World} {K : PySem.W.Frag} {mg : Str → Option Value} {base : Heap}
theorem ok_lti {f fS : Addr} {fd fdS : FuncData} (F : Fun K "_law_tight" "_law_tight" sLTi f fd) (mE : mg "enumerate" = none)
    (GS : FnOk P w K mg base CX0 1 fS fdS ["word"] (spLSi K)) (bS : Binds K fdS ["word"] []) (gS : mg "_law_is_sign" = some (.ref fS)) (kS : PySem.W.keepIn K (.ref fS) = true) : FnOk P w K mg base CX0 2 f fd ["words"] (spLTi K) := by
  refine F.ok scLTi (fun vs H Q E h => ?_) (fun cdv A outer s H vs Q E hr h => ?_)
  · obtain ⟨L, ws, rfl, _⟩ := h
    rfl
  · obtain ⟨L, ws, rfl, eL, hw, wl, k⟩ := h
    refine ⟨_, pss_cons (ps_set (i := 1) scLTi.nd rfl (Or.inl rfl) pe_str)
      (pss_cons (ps_for PassesOwn.never rfl (pi_enum (by rfl) mE (pa_cons (pv 0) pa_nil)) (pg_tup rfl (pgs_cons (pg_name (i := 2) scLTi.nd rfl (Or.inl rfl)) (pgs_cons (pg_name (i := 3) scLTi.nd rfl (Or.inl rfl)) pgs_nil)))
        (C8.pss_cut (ps_set (i := 4) scLTi.nd rfl (Or.inl rfl) (pe_and (pe_cmpR op_gt (pv 2) pe_int (nomark _)) (pe_and (pe_not (pe_call GS hr rfl gS kS bS .nil pass0 (pa_cons (pv 3) pa_nil)))
            (pe_one (pe_not (pe_call GS hr rfl gS kS bS .nil pass0 (pa_cons (pe_ix ix_list (pv 0) (pe_op op_sub (pv 2) pe_int) (fun _ _ => rfl)) pa_nil)))))))
        (pss_one (ps_set (i := 1) scLTi.nd rfl (Or.inl rfl) (pe_op op_add_str (pe_op op_add_str (pv 1) (pe_ifExp (pt_val (pv 4)) pe_str pe_str)) (pv 3))))))
      (pss_one (ps_ret (pv 1)))), ?_⟩
    refine ⟨_, rfl, L, _, rfl, SqL.of eL, for_it (walk_enum (K := K) (a := L) (xs := ws.map V.str)) (fun i σ H2 => ∃ (f : Str) (v2 v3 v4 : Option V) (r : List (Str × Str)), σ = [some (.ref L), some (.str f), v2, v3, v4] ∧ Same H H2 ∧ Lf f "" r ws i)
      ⟨_, none, none, none, [], rfl, fun _ _ e => e, Lf.start (by decide)⟩ (fun i σ H2 _ ⟨_, _, _, _, _, _, s2, _⟩ => SqL.of (s2 _ _ eL)) ?_ ?_⟩
    · rintro i y σ H2 H3 hi ⟨f, v2, v3, v4, r, rfl, s2, hf⟩ ⟨U, xj, z', rfl, nU, rfl, q5, q6⟩
      obtain rfl : V.int (i : Nat) = xj := Option.some.inj q5
      obtain ⟨x, hx, rfl⟩ := str_at q6
      have wx := hw x (List.mem_of_getElem? hx)
      have il : i < ws.length := (List.getElem?_eq_some_iff.mp hx).1
      have sU := same_new (o := .tup [.int (i : Nat), .str x]) nU
      have s3 := s2.trans sU
      refine ⟨U, _, rfl, SqT.of upd_same, rfl, _, _, rfl, _, _, rfl, rfl, ?_⟩
      generalize upd H2 U (.tup [.int (i : Nat), .str x]) = H3 at s3 ⊢
      -- is_apart
      refine ⟨fun σ Hx => ∃ (b : Bool), σ = [some (.ref L), some (.str f), some (.int (i : Nat)), some (.str x), some (.bl b)] ∧ Same H Hx ∧ (b = false → ∀ p, 0 < i → ws[i - 1]? = some p → RunW p → SigW x), ?_, ?_⟩
      · refine ⟨_, rfl, _, _, rfl, rfl, _, rfl, ?_⟩
        by_cases h0 : 0 < i
        · rw [decide_eq_true (show (0 : Int) < ((i : Nat) : Int) by omega)]
          refine iteT ⟨_, rfl, x, rfl, fun H4 s4 => ⟨_, rfl, _, rfl, ?_⟩⟩
          by_cases hs : x ∈ signW
          · rw [decide_eq_true hs]
            exact iteF ⟨false, rfl, s3.trans s4, fun _ _ _ _ _ => sig_of hs⟩
          · rw [decide_eq_false hs]
            obtain ⟨p, hp⟩ : ∃ p, ws[i - 1]? = some p := ⟨_, List.getElem?_eq_getElem (by omega)⟩
            have s34 := s3.trans s4
            refine iteT ⟨_, rfl, _, rfl, _, _, rfl, rfl, L, _, _, _, rfl, rfl, SqL.of (s34 _ _ eL), at_of (j := i - 1) (by omega) (by rw [List.getElem?_map, hp]; rfl), p, rfl, fun H5 s5 => ⟨_, rfl, ?_⟩⟩
            refine ⟨_, rfl, s34.trans s5, fun hb p2 _ e2 hr => ?_⟩
            obtain rfl : p = p2 := Option.some.inj (hp.symm.trans e2)
            exact absurd (by simpa using hb) (run_nosig hr)
        · rw [decide_eq_false (show ¬ (0 : Int) < ((i : Nat) : Int) by omega)]
          exact iteF ⟨false, rfl, s3, fun _ p h => absurd h h0⟩
      rintro σ H4 ⟨b, rfl, s4, hb⟩
      have ln := hf.ln
      have lx := wx.2.1
      have big : sizeLine = 16777216 := sizeLine_eq
      cases b with
      | true =>
        refine ⟨_, rfl, _, rfl, _, rfl, iteT ⟨_, _, rfl, rfl, ?_, _, rfl, _, _, rfl, rfl, ?_, ?_⟩⟩
        · show f.length + 1 ≤ _
          omega
        · show (f ++ " ").length + x.length ≤ _
          have : (f ++ " " : Str).length = f.length + 1 := Array.size_append
          omega
        exact ⟨_, _, _, _, r ++ [((" " : Str), x)], rfl, s4, hf.step hx gap_blank (by decide) lx fun _ _ _ _ => .inl (by decide)⟩
      | false =>
        refine ⟨_, rfl, _, rfl, _, rfl, iteF ⟨_, _, rfl, rfl, ?_, _, rfl, _, _, rfl, rfl, ?_, ?_⟩⟩
        · show f.length + 0 ≤ _
          omega
        · show (f ++ "").length + x.length ≤ _
          have : (f ++ "" : Str).length = f.length + 0 := Array.size_append
          omega
        exact ⟨_, _, _, _, r ++ [(("" : Str), x)], rfl, s4, hf.step hx (gaps_all List.mem_cons_self).1 (by decide) lx fun p h0 hp hr => .inr (hb rfl p h0 hp hr)⟩
    · rintro σ H2 ⟨f, v2, v3, v4, r, rfl, s2, hf⟩
      have ln := hf.ln
      rw [List.length_map] at ln
      exact ⟨_, rfl, k f H2 s2 (by omega) (hf.done (e := Str.empty) (by rw [List.length_map]; exact Nat.le_refl _) hw (gaps_all List.mem_cons_self).1 gap_none (List.append_nil _).symm)⟩
end
end BK

set_option Elab.async false
set_option maxRecDepth 100000
set_option maxHeartbeats 1000000
set_option linter.unusedSimpArgs false
/-! evaluation of single statements -/
namespace BK
open PySem PySem.Spec PyProof.Rows L2
theorem ko_set : kindsOf ("set" : Str) = some [("variable" : Str), ("source" : Str)] := by decide +kernel
theorem ko_hold : kindsOf ("hold" : Str) = some [("token" : Str), ("variable" : Str), ("source" : Str)] := by decide +kernel
theorem ko_reset : kindsOf ("reset" : Str) = some [("token" : Str)] := by decide +kernel
theorem ko_drop : kindsOf ("drop" : Str) = some [("variable" : Str)] := by decide +kernel
theorem ko_show : kindsOf ("show" : Str) = some [("variable" : Str)] := by decide +kernel
theorem ko_copy : kindsOf ("copy" : Str) = some [("context" : Str)] := by decide +kernel
theorem ko_within : kindsOf ("within" : Str) = some [("context" : Str), ("block" : Str)] := by decide +kernel
theorem ko_if : kindsOf ("if" : Str) = some [("variable" : Str), ("integer" : Str), ("block" : Str), ("block" : Str)] := by decide +kernel
theorem ko_with : kindsOf ("with" : Str) = some [("variable" : Str), ("source" : Str), ("block" : Str)] := by decide +kernel
theorem ko_guard : kindsOf ("guard" : Str) = some [("block" : Str), ("block" : Str)] := by decide +kernel
theorem ko_loop : kindsOf ("loop" : Str) = some [("block" : Str)] := by decide +kernel
theorem ko_leave : kindsOf ("leave" : Str) = some [] := by decide +kernel
theorem ko_yield : kindsOf ("yield" : Str) = some [] := by decide +kernel
theorem ko_fail : kindsOf ("fail" : Str) = some [] := by decide +kernel
theorem ko_Set : kindsOf ("Set" : Str) = none := by decide +kernel
theorem ko_jump : kindsOf ("jump" : Str) = none := by decide +kernel
theorem ko_empty : kindsOf ("" : Str) = none := by decide +kernel
theorem ko_make : kindsOf ("make" : Str) = none := by decide +kernel
theorem ko_step : kindsOf ("step" : Str) = none := by decide +kernel
theorem ko_close : kindsOf ("close" : Str) = none := by decide +kernel
theorem pt_variable (t : Tr) : partT t "variable" = nameT t := rfl
theorem pt_token (t : Tr) : partT t "token" = nameT t := rfl
theorem pt_context (t : Tr) : partT t "context" = nameT t := rfl
theorem pt_block (t : Tr) : partT t "block" = isTup t := rfl
theorem pt_integer (t : Tr) : partT t "integer" = numT 99 t := rfl
theorem pt_source (t : Tr) : partT t "source" = (numT 99 t || nameT t) := by
  unfold partT
  rw [if_neg (by decide), if_neg (by decide), if_neg (by decide), if_neg (by decide)]
  cases numT 99 t <;> simp
theorem sl_context : slotK "context" = true := by decide
theorem sl_token : slotK "token" = true := by decide
theorem sl_variable : slotK "variable" = false := by decide
theorem sl_source : slotK "source" = false := by decide
theorem sl_block : slotK "block" = false := by decide
theorem sl_integer : slotK "integer" = false := by decide
theorem va_variable : varK "variable" = true := by decide
theorem va_source : varK "source" = true := by decide
theorem va_block : varK "block" = false := by decide
theorem va_integer : varK "integer" = false := by decide
theorem ct1 : (("context" : Str) = "token") = False := by simp only [eq_iff_iff, iff_false]; decide
theorem ct2 : (("token" : Str) = "context") = False := by simp only [eq_iff_iff, iff_false]; decide
def one1 (vars : List Str) (km : Km) (n : Nat) (t : Tr) : Fl := match takesT vars t [] km (n + 1) with
  | (false, m) => (some [], (m, n + 1))
  | (true, m) => blocksIn (fun b c => faultD vars 4 b [wordS t] c) (blocksT t) 0 (m, n + 1)
theorem ca_set (r : List Tr) (as : List Str) : canT "set" r as = true := by unfold canT; rw [if_neg (by decide), if_neg (by decide), if_neg (by decide)]
theorem ca_hold (r : List Tr) (as : List Str) : canT "hold" r as = true := by unfold canT; rw [if_neg (by decide), if_neg (by decide), if_neg (by decide)]
theorem ca_reset (r : List Tr) (as : List Str) : canT "reset" r as = true := by unfold canT; rw [if_neg (by decide), if_neg (by decide), if_neg (by decide)]
theorem ca_drop (r : List Tr) (as : List Str) : canT "drop" r as = true := by unfold canT; rw [if_neg (by decide), if_neg (by decide), if_neg (by decide)]
theorem ca_show (r : List Tr) (as : List Str) : canT "show" r as = true := by unfold canT; rw [if_neg (by decide), if_neg (by decide), if_neg (by decide)]
theorem ca_copy (r : List Tr) (as : List Str) : canT "copy" r as = true := by unfold canT; rw [if_neg (by decide), if_neg (by decide), if_neg (by decide)]
theorem ca_within (r : List Tr) (as : List Str) : canT "within" r as = true := by unfold canT; rw [if_neg (by decide), if_neg (by decide), if_neg (by decide)]
theorem ca_if (r : List Tr) (as : List Str) : canT "if" r as = true := by unfold canT; rw [if_neg (by decide), if_neg (by decide), if_neg (by decide)]
theorem ca_with (r : List Tr) (as : List Str) : canT "with" r as = true := by unfold canT; rw [if_neg (by decide), if_neg (by decide), if_neg (by decide)]
theorem ca_guard (r : List Tr) (as : List Str) : canT "guard" r as = true := by unfold canT; rw [if_neg (by decide), if_neg (by decide), if_neg (by decide)]
theorem ca_fail (r : List Tr) (as : List Str) : canT "fail" r as = true := by unfold canT; rw [if_neg (by decide), if_neg (by decide), if_neg (by decide)]
theorem ca_yield (r : List Tr) (as : List Str) : canT "yield" r as = !decide (("within" : Str) ∈ as) := by unfold canT; rw [if_pos rfl]
theorem ca_leave (r : List Tr) (as : List Str) : canT "leave" r as = (decide (("loop" : Str) ∈ as) && !decide (("within" : Str) ∈ as)) := by unfold canT; rw [if_neg (by decide), if_pos rfl]
theorem ca_loop (ts : List Tr) (r : List Tr) (as : List Str) : canT "loop" (.tup ts :: r) as = yieldT ts := by unfold canT; rw [if_neg (by decide), if_neg (by decide), if_pos rfl]
theorem isy (w : Str) (r : List Tr) : isYield (.tup (.str w :: r)) = (formT (.tup (.str w :: r)) && decide (w = "yield")) := rfl
theorem isy_l : isYield .lst = false := rfl
theorem isy_s (s : Str) : isYield (.str s) = false := rfl
theorem formW (w : Str) (r : List Tr) : formT (.tup (.str w :: r)) = (match kindsOf w with
    | some ks => fitsT r ks
    | none => false) := rfl
theorem na_Ab : nameS "Ab" = false := by decide +kernel
theorem na_empty : nameS "" = false := by decide +kernel
theorem na_nine : nameS "abcdefghi" = false := by decide +kernel
theorem na_ab : nameS "a b" = false := by decide +kernel
theorem na_x1 : nameS "x1" = false := by decide +kernel
theorem na_A : nameS "A" = false := by decide +kernel
theorem na_X : nameS "X" = false := by decide +kernel
def goodT (x y c t : Str) : List Tr := [(.tup [(.str "set"), (.str x), (.int 0)]),
  (.tup [(.str "set"), (.str x), (.int 99)]),
  (.tup [(.str "set"), (.str x), (.str y)]),
  (.tup [(.str "set"), (.str y), (.str y)]),
  (.tup [(.str "hold"), (.str t), (.str x), (.int 5)]),
  (.tup [(.str "hold"), (.str t), (.str y), (.str x)]),
  (.tup [(.str "reset"), (.str t)]),
  (.tup [(.str "drop"), (.str x)]),
  (.tup [(.str "show"), (.str y)]),
  (.tup [(.str "copy"), (.str c)]),
  (.tup [(.str "fail")]),
  (.tup [(.str "yield")]),
  (.tup [(.str "guard"), (.tup []), (.tup [])]),
  (.tup [(.str "within"), (.str c), (.tup [])]),
  (.tup [(.str "within"), (.str c), (.tup [(.tup [(.str "show"), (.str y)])])]),
  (.tup [(.str "if"), (.str x), (.int 0), (.tup []), (.tup [])]),
  (.tup [(.str "if"), (.str y), (.int 99), (.tup [(.tup [(.str "show"), (.str y)])]), (.tup [(.tup [(.str "yield")])])]),
  (.tup [(.str "with"), (.str x), (.str y), (.tup [])]),
  (.tup [(.str "with"), (.str y), (.int 7), (.tup [(.tup [(.str "yield")])])]),
  (.tup [(.str "guard"), (.tup [(.tup [(.str "fail")])]), (.tup ([(.tup [(.str "show"), (.str y)])] ++ [(.tup [(.str "yield")])]))]),
  (.tup [(.str "loop"), (.tup [(.tup [(.str "yield")])])]),
  (.tup [(.str "loop"), (.tup ([(.tup [(.str "show"), (.str y)])] ++ [(.tup [(.str "yield")])]))]),
  (.tup [(.str "loop"), (.tup ([(.tup [(.str "leave")])] ++ [(.tup [(.str "yield")])]))]),
  (.tup [(.str "loop"), (.tup ([(.tup [(.str "loop"), (.tup [(.tup [(.str "yield")])])])] ++ [(.tup [(.str "yield")])]))]),
  (.tup [(.str "loop"), (.tup ([(.tup [(.str "yield")])] ++ [(.tup [(.str "guard"), (.tup [(.tup [(.str "leave")])]), (.tup [(.tup [(.str "if"), (.str x), (.int 1), (.tup [(.tup [(.str "leave")])]), (.tup [])])])])]))]),
  (.tup [(.str "loop"), (.tup ([(.tup [(.str "yield")])] ++ [(.tup [(.str "with"), (.str x), (.int 0), (.tup ([(.tup [(.str "leave")])] ++ [(.tup [(.str "yield")])]))])]))])]
def plainT (x y c t none : Str) : List Tr := [.non,
  (.int 5),
  (.str "set"),
  (.tup []),
  .lst,
  .dct,
  (.tup [(.str "")]),
  (.tup [(.str "Set"), (.str x), (.int 0)]),
  (.tup [(.str "jump")]),
  .lst,
  (.tup [(.tup [(.str "yield")])]),
  (.tup [.non]),
  (.tup [(.str "set")]),
  (.tup [(.str "set"), (.str x)]),
  (.tup [(.str "set"), (.str x), (.int 0), (.int 0)]),
  (.tup [(.str "set"), (.str x), (.int 100)]),
  (.tup [(.str "set"), (.str x), (.int (-1))]),
  (.tup [(.str "set"), (.str x), (.bl true)]),
  (.tup [(.str "set"), (.str x), .non]),
  (.tup [(.str "set"), (.str x), (.str none)]),
  (.tup [(.str "set"), (.str none), (.int 0)]),
  (.tup [(.str "set"), (.int 5), (.int 0)]),
  (.tup [(.str "set"), (.str x), (.tup [(.str x)])]),
  (.tup [(.str "set"), (.str x), (.str "")]),
  .lst,
  (.tup [(.str "hold"), (.str t), (.str x)]),
  (.tup [(.str "hold"), (.str c), (.str x), (.int 5)]),
  (.tup [(.str "hold"), (.str t), (.str none), (.int 5)]),
  (.tup [(.str "hold"), (.str t), (.str x), (.str none)]),
  (.tup [(.str "hold"), (.str t), (.str x), (.int 100)]),
  (.tup [(.str "hold"), (.str "Ab"), (.str x), (.int 5)]),
  (.tup [(.str "hold"), (.str ""), (.str x), (.int 5)]),
  (.tup [(.str "hold"), (.str "abcdefghi"), (.str x), (.int 5)]),
  (.tup [(.str "hold"), .non, (.str x), (.int 5)]),
  (.tup [(.str "hold"), (.str x), (.int 5)]),
  (.tup [(.str "reset")]),
  (.tup [(.str "reset"), (.str c)]),
  (.tup [(.str "reset"), (.int 5)]),
  (.tup [(.str "reset"), (.str "a b")]),
  (.tup [(.str "reset"), (.str t), (.str t)]),
  (.tup [(.str "drop"), (.str none)]),
  (.tup [(.str "drop")]),
  (.tup [(.str "drop"), (.int 0)]),
  (.tup [(.str "show"), (.str none)]),
  (.tup [(.str "show"), (.str x), (.str y)]),
  (.tup [(.str "show"), .non]),
  (.tup [(.str "show"), (.int 7)]),
  (.tup [(.str "copy"), (.str t)]),
  (.tup [(.str "copy")]),
  (.tup [(.str "copy"), (.tup [(.str c)])]),
  (.tup [(.str "copy"), (.str "x1")]),
  (.tup [(.str "leave")]),
  (.tup [(.str "leave"), (.int 0)]),
  (.tup [(.str "yield"), (.int 0)]),
  (.tup [(.str "fail"), (.str "own")]),
  (.tup [(.str "yield"), (.tup [])]),
  (.tup [(.str "make"), (.str c), (.str x), (.tup [])]),
  (.tup [(.str "step"), (.str c)]),
  (.tup [(.str "close"), (.str c)]),
  (.tup [(.str "reset"), .lst])]
def blocksW (x y c t none : Str) : List Tr := [(.tup [(.str "within"), (.str t), (.tup [])]),
  (.tup [(.str "within"), (.str c)]),
  (.tup [(.str "within"), (.str c), .lst]),
  (.tup [(.str "within"), (.str c), .non]),
  (.tup [(.str "within"), (.str c), (.str "yield")]),
  (.tup [(.str "within"), (.tup []), (.str c)]),
  (.tup [(.str "within"), (.str c), (.tup []), (.tup [])]),
  (.tup [(.str "if"), (.str x), (.int 100), (.tup []), (.tup [])]),
  (.tup [(.str "if"), (.str x), (.int (-1)), (.tup []), (.tup [])]),
  (.tup [(.str "if"), (.str x), (.bl false), (.tup []), (.tup [])]),
  (.tup [(.str "if"), (.str x), (.str y), (.tup []), (.tup [])]),
  (.tup [(.str "if"), (.str none), (.int 0), (.tup []), (.tup [])]),
  (.tup [(.str "if"), (.str x), (.int 0), (.tup [])]),
  (.tup [(.str "if"), (.str x), (.int 0), (.tup []), .lst]),
  (.tup [(.str "if"), (.str x), (.int 0), .non, (.tup [])]),
  (.tup [(.str "if"), (.int 0), (.str x), (.tup []), (.tup [])]),
  (.tup [(.str "with"), (.str x), (.tup [])]),
  (.tup [(.str "with"), (.str x), (.int 0), .lst]),
  (.tup [(.str "with"), (.str none), (.int 0), (.tup [])]),
  (.tup [(.str "with"), (.str x), (.str none), (.tup [])]),
  (.tup [(.str "with"), (.str x), (.int 100), (.tup [])]),
  (.tup [(.str "with"), (.int 0), (.str x), (.tup [])]),
  (.tup [(.str "guard"), (.tup [])]),
  (.tup [(.str "guard"), (.tup []), (.tup []), (.tup [])]),
  (.tup [(.str "guard"), .lst, (.tup [])]),
  (.tup [(.str "guard"), (.tup []), (.int 0)]),
  (.tup [(.str "loop")]),
  (.tup [(.str "loop"), (.tup [])]),
  (.tup [(.str "loop"), .lst]),
  (.tup [(.str "loop"), (.tup [(.tup [(.str "show"), (.str x)])])]),
  (.tup [(.str "loop"), (.tup [.lst])]),
  (.tup [(.str "loop"), (.tup [(.tup [(.str "if"), (.str x), (.int 0), (.tup [(.tup [(.str "yield")])]), (.tup [(.tup [(.str "yield")])])])])]),
  (.tup [(.str "loop"), (.tup [(.str "yield")])]),
  (.tup [(.str "loop"), (.tup [(.tup [(.str "loop"), (.tup [(.tup [(.str "yield")])])])])]),
  (.tup [(.str "loop"), (.tup [(.tup [(.str "yield")])]), (.tup [(.tup [(.str "yield")])])]),
  (.tup [(.str "loop"), (.tup [(.tup [(.str "yield"), (.int 0)])])])]
def withinP (x c none : Str) : List (Tr × List Nat) := [((.tup [(.str "within"), (.str c), (.tup ([(.tup [(.str "show"), (.str x)])] ++ [(.tup [(.str "yield")])]))]), [0, 1]),
  ((.tup [(.str "within"), (.str c), (.tup [(.tup [(.str "loop"), (.tup [(.tup [(.str "yield")])])])])]), [0, 0, 0, 0]),
  ((.tup [(.str "within"), (.str c), (.tup [(.tup [(.str "guard"), (.tup []), (.tup [(.tup [(.str "if"), (.str x), (.int 0), (.tup []), (.tup [(.tup [(.str "yield")])])])])])])]), [0, 0, 1, 0, 1, 0]),
  ((.tup [(.str "guard"), (.tup [(.tup [(.str "show"), (.str x)])]), (.tup [(.tup [(.str "show"), (.str none)])])]), [1, 0]),
  ((.tup [(.str "if"), (.str x), (.int 0), (.tup [(.tup [(.str "fail")])]), (.tup [(.tup [(.str "fail")]), (.tup [(.str "leave")])])]), [1, 1]),
  ((.tup [(.str "with"), (.str x), (.int 0), (.tup [(.tup [(.str "loop"), (.tup [(.tup [(.str "fail")])])])])]), [0, 0]),
  ((.tup [(.str "loop"), (.tup ([(.tup [(.str "yield")])] ++ [(.tup [(.str "within"), (.str c), (.tup [(.tup [(.str "leave")])])])]))]), [0, 1, 0, 0]),
  ((.tup [(.str "within"), (.str c), (.tup [(.tup [(.str "loop"), (.tup ([(.tup [(.str "leave")])] ++ [(.tup [(.str "yield")])]))])])]), [0, 0, 0, 0]),
  ((.tup [(.str "within"), (.str c), (.tup [(.tup [(.str "show"), (.str x)]), (.tup [(.str "loop"), (.tup ([(.tup [(.str "yield")])] ++ [(.tup [(.str "leave")])]))])])]), [0, 1, 0, 0]),
  ((.tup [(.str "loop"), (.tup ([(.tup [(.str "show"), (.str none)])] ++ [(.tup [(.str "yield")])]))]), [0, 0]),
  ((.tup [(.str "loop"), (.tup ([(.tup [(.str "yield")])] ++ [.non]))]), [0, 1]),
  ((.tup [(.str "guard"), (.tup [(.tup [(.str "guard"), (.tup []), (.tup [(.tup [(.str "reset"), (.str c)])])])]), (.tup [])]), [0, 0, 1, 0])]
def withinT (x c none : Str) : List Tr := [(.tup [(.tup [(.str "within"), (.str c), (.tup ([(.tup [(.str "show"), (.str x)])] ++ [(.tup [(.str "yield")])]))]), (.tup [(.int 0), (.int 1)])]),
  (.tup [(.tup [(.str "within"), (.str c), (.tup [(.tup [(.str "loop"), (.tup [(.tup [(.str "yield")])])])])]), (.tup [(.int 0), (.int 0), (.int 0), (.int 0)])]),
  (.tup [(.tup [(.str "within"), (.str c), (.tup [(.tup [(.str "guard"), (.tup []), (.tup [(.tup [(.str "if"), (.str x), (.int 0), (.tup []), (.tup [(.tup [(.str "yield")])])])])])])]), (.tup [(.int 0), (.int 0), (.int 1), (.int 0), (.int 1), (.int 0)])]),
  (.tup [(.tup [(.str "guard"), (.tup [(.tup [(.str "show"), (.str x)])]), (.tup [(.tup [(.str "show"), (.str none)])])]), (.tup [(.int 1), (.int 0)])]),
  (.tup [(.tup [(.str "if"), (.str x), (.int 0), (.tup [(.tup [(.str "fail")])]), (.tup [(.tup [(.str "fail")]), (.tup [(.str "leave")])])]), (.tup [(.int 1), (.int 1)])]),
  (.tup [(.tup [(.str "with"), (.str x), (.int 0), (.tup [(.tup [(.str "loop"), (.tup [(.tup [(.str "fail")])])])])]), (.tup [(.int 0), (.int 0)])]),
  (.tup [(.tup [(.str "loop"), (.tup ([(.tup [(.str "yield")])] ++ [(.tup [(.str "within"), (.str c), (.tup [(.tup [(.str "leave")])])])]))]), (.tup [(.int 0), (.int 1), (.int 0), (.int 0)])]),
  (.tup [(.tup [(.str "within"), (.str c), (.tup [(.tup [(.str "loop"), (.tup ([(.tup [(.str "leave")])] ++ [(.tup [(.str "yield")])]))])])]), (.tup [(.int 0), (.int 0), (.int 0), (.int 0)])]),
  (.tup [(.tup [(.str "within"), (.str c), (.tup [(.tup [(.str "show"), (.str x)]), (.tup [(.str "loop"), (.tup ([(.tup [(.str "yield")])] ++ [(.tup [(.str "leave")])]))])])]), (.tup [(.int 0), (.int 1), (.int 0), (.int 0)])]),
  (.tup [(.tup [(.str "loop"), (.tup ([(.tup [(.str "show"), (.str none)])] ++ [(.tup [(.str "yield")])]))]), (.tup [(.int 0), (.int 0)])]),
  (.tup [(.tup [(.str "loop"), (.tup ([(.tup [(.str "yield")])] ++ [.non]))]), (.tup [(.int 0), (.int 1)])]),
  (.tup [(.tup [(.str "guard"), (.tup [(.tup [(.str "guard"), (.tup []), (.tup [(.tup [(.str "reset"), (.str c)])])])]), (.tup [])]), (.tup [(.int 0), (.int 0), (.int 1), (.int 0)])])]
def piecesW (name c : Str) : List Tr := [.non,
  (.int 5),
  (.str name),
  (.tup []),
  (.tup [(.str name)]),
  (.tup [(.str name), (.tup [])]),
  (.tup [(.str name), (.tup []), (.tup []), (.tup [])]),
  .lst,
  (.tup [(.str ""), (.tup []), (.tup [])]),
  (.tup [(.str "A"), (.tup []), (.tup [])]),
  (.tup [(.int 5), (.tup []), (.tup [])]),
  (.tup [(.str "abcdefghi"), (.tup []), (.tup [])]),
  (.tup [(.str "a b"), (.tup []), (.tup [])]),
  (.tup [(.str "x1"), (.tup []), (.tup [])]),
  (.tup [.non, (.tup []), (.tup [])]),
  (.tup [(.tup []), (.str name), (.tup [])]),
  (.tup [(.tup [(.str name)]), (.tup []), (.tup [])]),
  (.tup [(.str name), .non, (.tup [])]),
  (.tup [(.str name), .lst, (.tup [])]),
  (.tup [(.str name), (.tup [(.str c)]), (.tup [])]),
  (.tup [(.str name), (.tup [(.tup [(.str c)])]), (.tup [])]),
  (.tup [(.str name), (.tup [(.tup [(.str c), (.str "piece")])]), (.tup [])]),
  (.tup [(.str name), (.tup [(.tup [(.str c), (.str "context"), (.int 0)])]), (.tup [])]),
  (.tup [(.str name), (.tup [(.tup [(.str ""), (.str "context")])]), (.tup [])]),
  (.tup [(.str name), (.tup [.lst]), (.tup [])]),
  (.tup [(.str name), (.tup [(.tup [(.int 5), (.str "token")])]), (.tup [])]),
  (.tup [(.str name), (.tup [(.tup [(.str c), .non])]), (.tup [])]),
  (.tup [(.str name), (.tup [(.tup [(.str c), (.str "token")]), (.tup [(.str c), (.str "token")])]), (.tup [])]),
  (.tup [(.str name), (.tup [(.tup [(.str c), (.str "context")]), (.tup [(.str c), (.str "token")])]), (.tup [])]),
  (.tup [(.str name), (.tup [(.tup [(.str "context"), (.str "slot")])]), (.tup [])]),
  (.tup [(.str name), (.tup [(.tup [(.str c), (.tup [(.str "token")])])]), (.tup [])]),
  (.tup [(.str name), (.tup []), .non]),
  (.tup [(.str name), (.tup []), .lst]),
  (.tup [(.str name), (.tup []), (.str "yield")]),
  (.tup [(.str name), (.tup []), .lst]),
  (.tup [(.str name), (.tup []), (.int 0)]),
  (.tup [(.str name), (.tup []), .dct]),
  (.tup [.lst, (.tup []), (.tup [])])]
theorem fd4 (vars : List Str) (b : List Tr) (as : List Str) (c : Ck) : faultD vars 4 b as c = faultL vars (faultD vars 3) as b 0 c := rfl
theorem fd3 (vars : List Str) (b : List Tr) (as : List Str) (c : Ck) : faultD vars 3 b as c = faultL vars (faultD vars 2) as b 0 c := rfl
theorem fd2 (vars : List Str) (b : List Tr) (as : List Str) (c : Ck) : faultD vars 2 b as c = faultL vars (faultD vars 1) as b 0 c := rfl
theorem fd1 (vars : List Str) (b : List Tr) (as : List Str) (c : Ck) : faultD vars 1 b as c = faultL vars (faultD vars 0) as b 0 c := rfl
theorem good_ok (x y c t : Str) (hx : nameS x = true) (hy : nameS y = true) (hc : nameS c = true) (ht : nameS t = true) (km : Km) (kc : kget km c = some ("context" : Str)) (kt : kget km t = some ("token" : Str)) (n : Nat) (hn : n ≤ 3) :
   ∀ one ∈ goodT x y c t, (one1 [x, y] km n one).1 = none ∧ (one1 [x, y] km n one).2.1 = km ∧ (one1 [x, y] km n one).2.2 ≤ n + 8 := by
  have b1 : ¬ 16 < n + 1 := by omega
  have b2 : ¬ 16 < n + 2 := by omega
  have b3 : ¬ 16 < n + 3 := by omega
  have b4 : ¬ 16 < n + 4 := by omega
  have b5 : ¬ 16 < n + 5 := by omega
  have b6 : ¬ 16 < n + 6 := by omega
  have b7 : ¬ 16 < n + 7 := by omega
  have b8 : ¬ 16 < n + 8 := by omega
  have b9 : ¬ 16 < n + 9 := by omega
  intro one h
  simp only [goodT, List.mem_cons, List.not_mem_nil, or_false] at h
  rcases h with rfl | rfl | rfl | rfl | rfl | rfl | rfl | rfl | rfl | rfl | rfl | rfl | rfl | rfl | rfl | rfl | rfl | rfl | rfl | rfl | rfl | rfl | rfl | rfl | rfl | rfl
  all_goals simp (decide := true) [one1, takesT, ko_set, ko_hold, ko_reset, ko_drop, ko_show, ko_copy, ko_within, ko_if, ko_with, ko_guard, ko_loop, ko_leave, ko_yield, ko_fail, ko_Set, ko_jump, ko_empty, ko_make, ko_step, ko_close, fitsT, pt_variable, pt_token, pt_context, pt_block, pt_integer, pt_source, numT, nameT, hx, hy, hc, ht, knowsT, sl_token, sl_context, sl_variable, sl_source, sl_block, sl_integer, va_variable, va_source, va_block, va_integer, kc, kt, ct1, ct2, ca_set, ca_hold, ca_reset, ca_drop, ca_show, ca_copy, ca_within, ca_if, ca_with, ca_guard, ca_fail, ca_yield, ca_leave, ca_loop, yieldT, isy, formW, blocksT, tupTs, isTup, blocksIn, fd4, fd3, fd2, fd1, faultL, List.filter_cons, wordS, b1, b2, b3, b4, b5, b6, b7, b8, b9, Nat.add_assoc]
end BK



set_option Elab.async false
set_option maxRecDepth 100000
set_option maxHeartbeats 4000000
set_option linter.unusedVariables false
set_option linter.unusedSimpArgs false
/-! what is right can be shown; statements within others -/
namespace BK
open PySem PySem.Spec PyProof.Rows L2
theorem name_data {z : Str} (h : nameS z = true) : dataT (.str z) = true := by
  unfold nameS at h
  rw [Bool.and_eq_true, Bool.and_eq_true, decide_eq_true_eq, decide_eq_true_eq] at h
  simp only [dataT, Bool.and_eq_true, decide_eq_true_eq]
  refine ⟨?_, by have := h.1.2; omega⟩
  rw [List.all_eq_true]
  intro c hc
  have hm := of_decide_eq_true (List.all_eq_true.mp h.2 c hc)
  have al : (alpha.cps.toList.all fun c => decide (c ≤ 122)) = true := by decide +kernel
  exact List.all_eq_true.mp al c hm
theorem words_data {w : Str} {ks : List Str} (h : kindsOf w = some ks) : dataT (.str w) = true := by
  have all : (kindTab.all fun e => dataT (.str e.1)) = true := by decide +kernel
  unfold kindsOf at h
  cases e : kindTab.find? fun e => decide (e.1 = w) with
  | none => rw [e] at h; cases h
  | some x =>
    have q : x.1 = w := of_decide_eq_true (List.find?_some (p := fun e : Str × List Str => decide (e.1 = w)) e)
    rw [← q]
    exact List.all_eq_true.mp all x (List.mem_of_find?_eq_some e)
/-- a tree that is shown, so deep, so great -/
structure Sh (t : Tr) (de si : Nat) : Prop where
  da : dataT t = true
  de : depT t ≤ de
  si : (pdT t).weight ≤ si
structure Shs (ts : List Tr) (de si : Nat) : Prop where
  da : dataTs ts = true
  de : depTs ts ≤ de
  si : PyData.weightAll (pdTs ts) ≤ si
theorem Shs.nil : Shs [] 0 0 := ⟨rfl, Nat.le_refl _, by simp only [pdTs, PyData.weightAll]; exact Nat.le_refl _⟩
theorem Shs.cons {t : Tr} {r : List Tr} {d d' s s' : Nat} (h : Sh t d s) (k : Shs r d' s') : Shs (t :: r) (max d d') (s + 1 + s') :=
  ⟨by simp only [dataTs, h.da, k.da, Bool.and_self], by simp only [depTs]; have := h.de; have := k.de; omega, by simp only [pdTs, PyData.weightAll]; have := h.si; have := k.si; omega⟩
theorem Shs.tup {ts : List Tr} {d s : Nat} (h : Shs ts d s) : Sh (.tup ts) (d + 1) s := ⟨by simp only [dataT, h.da], by simp only [depT]; have := h.de; omega, by simp only [pdT, PyData.weight]; exact h.si⟩
theorem Shs.all : ∀ {ts : List Tr} {d s : Nat}, (∀ t ∈ ts, Sh t d s) → Shs ts d (ts.length * (s + 1))
  | [], _, _, _ => ⟨rfl, Nat.zero_le _, by simp only [pdTs, PyData.weightAll]; exact Nat.zero_le _⟩
  | t :: r, d, s, h => by
    have k := (Shs.cons (h t List.mem_cons_self) (Shs.all (ts := r) fun x hx => h x (List.mem_cons_of_mem _ hx)))
    exact ⟨k.da, Nat.le_trans k.de (by omega), by
      have := k.si
      rw [List.length_cons, Nat.add_mul]
      omega⟩
theorem Sh.mono {t : Tr} {d s d' s' : Nat} (h : Sh t d s) (h1 : d ≤ d') (h2 : s ≤ s') : Sh t d' s' := ⟨h.da, Nat.le_trans h.de h1, Nat.le_trans h.si h2⟩
theorem Shs.mono {t : List Tr} {d s d' s' : Nat} (h : Shs t d s) (h1 : d ≤ d') (h2 : s ≤ s') : Shs t d' s' := ⟨h.da, Nat.le_trans h.de h1, Nat.le_trans h.si h2⟩
theorem sh_str {z : Str} (h : dataT (.str z) = true) (hl : z.length ≤ 20) : Sh (.str z) 0 20 := ⟨h, by simp [depT], by simp only [pdT, PyData.weight]; exact hl⟩
theorem sh_int {i : Int} (h : i.natAbs ≤ 1000) : Sh (.int i) 0 20 := ⟨by
    simp only [dataT, decide_eq_true_eq]
    exact Nat.lt_of_le_of_lt h (by decide +kernel), by simp [depT], by
    simp only [pdT, PyData.weight]
    split
    · exact Nat.zero_le _
    · rename_i z
      have nz : i.natAbs ≠ 0 := by simpa using z
      have : i.natAbs.log2 < 10 := (Nat.log2_lt nz).mpr (Nat.lt_of_le_of_lt h (by decide))
      omega⟩
def sumBig (f : Tr → Nat) (ts : List Tr) : Nat := (ts.map f).sum
theorem right_part {t : Tr} {k : Str} (h : partT t k = true) (n1 : k ≠ "args") (n2 : k ≠ "value") (nt : isTup t = false) : Sh t 0 20 := by
  by_cases n3 : k = "block"
  · subst n3
    have h : isTup t = true := h
    rw [nt] at h
    cases h
  have num : numT 99 t = true → Sh t 0 20 := fun h => by
    cases t with
    | int i =>
      have h : (decide (0 ≤ i) && decide (i ≤ 99)) = true := h
      rw [Bool.and_eq_true, decide_eq_true_eq, decide_eq_true_eq] at h
      exact sh_int (by omega)
    | _ => exact Bool.noConfusion (show false = true from h)
  have nam : nameT t = true → Sh t 0 20 := fun h => by
    cases t with
    | str s => exact sh_str (name_data h) (name_short h)
    | _ => exact Bool.noConfusion (show false = true from h)
  unfold partT at h
  rw [if_neg n3, if_neg n1] at h
  split at h
  · exact num h
  · split at h
    · rename_i z
      exact num z.2
    · exact nam h
theorem right_parts (d : Nat) (m : List Tr → Nat) : ∀ (rest : List Tr) (ks : List Str), (rest.zip ks).all (fun e => partT e.1 e.2) = true → rest.length = ks.length → ("args" : Str) ∉ ks → ("value" : Str) ∉ ks →
    (∀ b ∈ (rest.filter isTup).map tupTs, Shs b (2 * d) (130 * m b)) → Shs rest (2 * d + 1) (21 * rest.length + 130 * (((rest.filter isTup).map tupTs).map m).sum)
  | [], ks, _, _, _, _, _ => ⟨rfl, Nat.zero_le _, by simp only [pdTs, PyData.weightAll]; exact Nat.zero_le _⟩
  | t :: r, [], _, h, _, _, _ => by cases h
  | t :: r, k :: ks, h, hl, na, nv, hb => by
    have h : (partT t k && (r.zip ks).all fun e => partT e.1 e.2) = true := h
    rw [Bool.and_eq_true] at h
    have hl2 : r.length = ks.length := Nat.succ.inj hl
    cases t with
    | tup ts =>
      rw [List.filter_cons_of_pos (show isTup (.tup ts) = true from rfl), List.map_cons] at hb
      rw [List.filter_cons_of_pos (show isTup (.tup ts) = true from rfl), List.map_cons, List.map_cons, List.sum_cons]
      have ih := right_parts d m r ks h.2 hl2 (fun z => na (List.mem_cons_of_mem _ z)) (fun z => nv (List.mem_cons_of_mem _ z)) fun b q => hb b (List.mem_cons_of_mem _ q)
      have hd := (hb _ List.mem_cons_self).tup
      have k := Shs.cons hd ih
      refine Shs.mono k (by omega) ?_
      rw [List.length_cons]
      show 130 * m ts + 1 + _ ≤ 21 * (r.length + 1) + 130 * (m ts + _)
      omega
    | _ =>
      rw [List.filter_cons_of_neg (by intro z; exact Bool.noConfusion z)] at hb
      rw [List.filter_cons_of_neg (by intro z; exact Bool.noConfusion z)]
      have ih := right_parts d m r ks h.2 hl2 (fun z => na (List.mem_cons_of_mem _ z)) (fun z => nv (List.mem_cons_of_mem _ z)) hb
      have hd := right_part h.1 (fun z => na (by rw [z]; exact List.mem_cons_self)) (fun z => nv (by rw [z]; exact List.mem_cons_self)) rfl
      have k := Shs.cons hd ih
      refine Shs.mono k (by omega) ?_
      rw [List.length_cons]
      omega
theorem sums_le {f g : Tr → Nat} : ∀ {ts : List Tr}, (∀ t ∈ ts, Sh t (f t) (g t)) → ∀ D, (∀ t ∈ ts, f t ≤ D) → Shs ts D ((ts.map fun t => 1 + g t).sum)
  | [], _, _, _ => ⟨rfl, Nat.zero_le _, by simp only [pdTs, PyData.weightAll]; exact Nat.zero_le _⟩
  | t :: r, h, D, hD => by
    have k := Shs.cons ((h t List.mem_cons_self).mono (hD t List.mem_cons_self) (Nat.le_refl _)) (sums_le (ts := r) (fun x hx => h x (List.mem_cons_of_mem _ hx)) D fun x hx => hD x (List.mem_cons_of_mem _ hx))
    refine k.mono (by omega) ?_
    rw [List.map_cons, List.sum_cons]
    omega
theorem form_three {t : Tr} (h : formT t = true) : ∃ x rest ks, t = .tup (.str x :: rest) ∧ kindsOf x = some ks ∧ fitsT rest ks = true := by
  cases t with
  | tup l =>
    cases l with
    | nil => exact Bool.noConfusion (show false = true from h)
    | cons y rest =>
      cases y with
      | str x =>
        have h : (match kindsOf x with
          | some ks => fitsT rest ks
          | none => false) = true := h
        cases ek : kindsOf x with
        | none => rw [ek] at h; cases h
        | some ks => rw [ek] at h; exact ⟨x, rest, ks, rfl, ek, h⟩
      | _ => exact Bool.noConfusion (show false = true from h)
  | _ => exact Bool.noConfusion (show false = true from h)
theorem right_block : ∀ (d : Nat) (ts : List Tr), okD d ts → Shs ts (2 * d) (130 * metD d ts)
  | 0, ts, h => by
    have h : ts = [] := h
    subst h
    exact ⟨rfl, Nat.zero_le _, by simp only [pdTs, PyData.weightAll]; exact Nat.zero_le _⟩
  | d + 1, ts, h => by
    have q : Shs ts (2 * d + 2) ((ts.map fun t => 1 + (105 + 130 * ((blocksT t).map (metD d)).sum)).sum) := by
      refine sums_le (f := fun _ => 2 * d + 2) (g := fun t => 105 + 130 * ((blocksT t).map (metD d)).sum) (fun t ht => ?_) _ fun _ _ => Nat.le_refl _
      obtain ⟨hf, hb⟩ := h t ht
      obtain ⟨x, rest, ks, rfl, ek, hf⟩ := form_three hf
      unfold fitsT at hf
      rw [Bool.and_eq_true, decide_eq_true_eq] at hf
      have kf := kinds_few ek
      have k := Shs.tup (Shs.cons (sh_str (words_data ek) (word_few ek)) (right_parts d (metD d) rest ks hf.2 hf.1 (no_args ek) (no_value ek) fun b hb' => right_block d b (hb b hb')))
      refine k.mono (by omega) ?_
      show 20 + 1 + (21 * rest.length + 130 * (((rest.filter isTup).map tupTs).map (metD d)).sum) ≤ 105 + 130 * (((rest.filter isTup).map tupTs).map (metD d)).sum
      omega
    refine q.mono (by omega) ?_
    show _ ≤ 130 * (ts.map fun t => 1 + ((blocksT t).map (metD d)).sum).sum
    clear q h
    induction ts with
    | nil => exact Nat.le_refl _
    | cons t r ih =>
      rw [List.map_cons, List.sum_cons, List.map_cons, List.sum_cons]
      omega
theorem kind_data {t : Tr} (h : paramT t = true) (hn : nameT (firstT t) = true) : Sh t 1 42 := by
  unfold paramT at h
  split at h
  · rename_i a k
    have hn : nameT a = true := hn
    obtain ⟨n, rfl⟩ := name_str hn
    cases k with
    | str k =>
      have h : (decide (k = "context") || decide (k = "token")) = true := h
      rw [Bool.or_eq_true, decide_eq_true_eq, decide_eq_true_eq] at h
      have hk : dataT (.str k) = true := by rcases h with rfl | rfl <;> decide +kernel
      have hl : k.length ≤ 20 := by rcases h with rfl | rfl <;> decide
      exact Shs.tup (Shs.cons (sh_str (name_data hn) (name_short hn)) (Shs.cons (sh_str hk hl) Shs.nil))
    | _ => exact Bool.noConfusion (show false = true from h)
  · cases h
theorem piece_shown {t : Tr} (ht : tripleT t = true) (ho : okD 5 (blockOf t)) (hm : metD 5 (blockOf t) ≤ 16) : Sh t 12 2200 := by
  obtain ⟨nm, pt, bts, rfl, hp⟩ := triple_shape ht
  have nn : nameS nm = true := by
    have tp : (nameS nm && paramsT pt && true) = true := ht
    rw [Bool.and_eq_true, Bool.and_eq_true] at tp
    exact tp.1.1
  obtain ⟨ts, rfl⟩ : ∃ ts, pt = .tup ts := by
    cases pt with
    | tup ts => exact ⟨ts, rfl⟩
    | _ => exact Bool.noConfusion (show false = true from hp)
  obtain ⟨l2, hpar, na, _⟩ := params_split hp
  have k1 : Shs ts 1 (ts.length * 43) := Shs.all fun t ht => kind_data (List.all_eq_true.mp hpar t ht) (List.all_eq_true.mp na _ (List.mem_map.mpr ⟨t, ht, rfl⟩))
  have hm : metD 5 bts ≤ 16 := hm
  exact (Shs.tup (Shs.cons (sh_str (name_data nn) (name_short nn)) (Shs.cons k1.tup (Shs.cons (right_block 5 bts ho).tup Shs.nil)))).mono (by omega) (by omega)
theorem right_repr {t : Tr} (h : faultT t = none) : ReprOk t := by
  obtain ⟨vs, ps, rfl, l6, l3, nv, rp⟩ := book_right h
  have k1 : Shs vs 0 (vs.length * 21) := Shs.all fun t ht => by
    have := List.all_eq_true.mp nv t ht
    obtain ⟨s, rfl⟩ := name_str this
    exact sh_str (name_data this) (name_short this)
  have k2 : Shs ps 12 (ps.length * 2201) := Shs.all fun t ht => piece_shown (rp t ht).1 (rp t ht).2.1 (rp t ht).2.2
  have k := (Shs.tup (Shs.cons k1.tup (Shs.cons k2.tup Shs.nil)))
  exact ⟨k.da, Nat.le_trans k.de (by omega), Nat.le_trans k.si (by omega)⟩
/-- a book and its place, as the law asks -/
def PairK (p : Tr) : Prop := ∃ t pl, p = .tup [t, pl] ∧ pl = resT (faultT t) ∧ (faultT t = none → ReprOk t) ∧ ∀ q, faultT t = some q → ReprOk (placeT q)
theorem pair_none {t : Tr} (h : faultT t = none) : PairK (.tup [t, .non]) := ⟨t, .non, rfl, (by rw [h]; rfl), fun _ => right_repr h, fun q e => (by rw [h] at e; cases e)⟩
theorem pair_some {t : Tr} {q : Place} (h : faultT t = some q) (r : ReprOk (placeT q)) : PairK (.tup [t, placeT q]) := ⟨t, placeT q, rfl, (by rw [h]; rfl), fun e => (by rw [h] at e; cases e), fun q' e => (by rw [h] at e; cases e; exact r)⟩
theorem ints_shown : ∀ {w : List Nat}, (∀ n ∈ w, n ≤ 1000) → Shs (intsT w) 0 (21 * w.length)
  | [], _ => Shs.nil
  | n :: r, h => by
    have k := Shs.cons (sh_int (i := (n : Int)) (by have := h n List.mem_cons_self; omega)) (ints_shown (w := r) fun x hx => h x (List.mem_cons_of_mem _ hx))
    exact Shs.mono k (by omega) (by rw [List.length_cons]; omega)
theorem way_shown {i : Nat} {w : List Nat} (hi : i ≤ 1000) (h : ∀ n ∈ w, n ≤ 1000) (hl : w.length ≤ 1000) : ReprOk (placeT (.way i w)) := by
  have a := sh_int (i := (i : Int)) (by omega)
  have k := Shs.tup (Shs.cons a (Shs.cons (ints_shown h).tup Shs.nil))
  exact ⟨k.da, Nat.le_trans k.de (by decide), Nat.le_trans k.si (by omega)⟩
end BK

set_option Elab.async false
set_option maxRecDepth 100000
set_option maxHeartbeats 4000000
set_option linter.unusedVariables false
set_option linter.unusedSimpArgs false
/-! statements within others, evaluated -/
namespace BK
open PySem PySem.Spec PyProof.Rows L2
def stF (vars : List Str) (d : Nat) (as : List Str) (km : Km) (n : Nat) (t : Tr) : Fl := match takesT vars t as km (n + 1) with
  | (false, m) => (some [], (m, n + 1))
  | (true, m) => blocksIn (fun b c => recF vars d b (as ++ [wordS t]) c) (blocksT t) 0 (m, n + 1)
theorem faultL_st (vars : List Str) (d : Nat) (as : List Str) (t : Tr) (r : List Tr) (i : Nat) (km : Km) (n : Nat) : faultL vars (recF vars d) as (t :: r) i (km, n) = (match stF vars d as km n t with
    | (some w, c') => (some (i :: w), c')
    | (none, c') => faultL vars (recF vars d) as r (i + 1) c') := by
  show (match takesT vars t as km (n + 1) with
    | (false, m) => (some [i], (m, n + 1))
    | (true, m) => match blocksIn (fun b c => recF vars d b (as ++ [wordS t]) c) (blocksT t) 0 (m, n + 1) with
      | (some w, c') => (some (i :: w), c')
      | (none, c') => faultL vars (recF vars d) as r (i + 1) c') = _
  unfold stF
  cases takesT vars t as km (n + 1) with
  | mk b m => cases b <;> rfl
def showS (x : Str) : Tr := .tup [.str "show", .str x]
def yieldS : Tr := .tup [.str "yield"]
def failS : Tr := .tup [.str "fail"]
def guardS (a b : List Tr) : Tr := .tup [.str "guard", .tup a, .tup b]
def loopS (a : List Tr) : Tr := .tup [.str "loop", .tup a]
def withS (x : Str) (n : Tr) (a : List Tr) : Tr := .tup [.str "with", .str x, n, .tup a]
def ifS (x : Str) (n : Tr) (a b : List Tr) : Tr := .tup [.str "if", .str x, n, .tup a, .tup b]
section
variable {vars : List Str} {x : Str} {as : List Str} {km : Km} {n : Nat}
theorem tk_show (hx : nameS x = true) (hm : x ∈ vars) (ha : as.length ≤ 4) (hn : n ≤ 16) : takesT vars (showS x) as km n = (true, km) := by
  have b1 : ¬ 16 < n := by omega
  have b2 : ¬ 4 < as.length := by omega
  simp (decide := true) [takesT, showS, ko_show, fitsT, pt_variable, nameT, hx, knowsT, sl_variable, va_variable, hm, ca_show, b1, b2]
theorem tk_yield (hw : ("within" : Str) ∉ as) (ha : as.length ≤ 4) (hn : n ≤ 16) : takesT vars yieldS as km n = (true, km) := by
  have b1 : ¬ 16 < n := by omega
  have b2 : ¬ 4 < as.length := by omega
  simp (decide := true) [takesT, yieldS, ko_yield, fitsT, knowsT, ca_yield, b1, b2, hw]
theorem tk_fail (ha : as.length ≤ 4) (hn : n ≤ 16) : takesT vars failS as km n = (true, km) := by
  have b1 : ¬ 16 < n := by omega
  have b2 : ¬ 4 < as.length := by omega
  simp (decide := true) [takesT, failS, ko_fail, fitsT, knowsT, ca_fail, b1, b2]
theorem tk_guard {a b : List Tr} (ha : as.length ≤ 4) (hn : n ≤ 16) : takesT vars (guardS a b) as km n = (true, km) := by
  have b1 : ¬ 16 < n := by omega
  have b2 : ¬ 4 < as.length := by omega
  simp (decide := true) [takesT, guardS, ko_guard, fitsT, pt_block, isTup, knowsT, ca_guard, b1, b2]
theorem yield_yes {a : List Tr} : yieldT (yieldS :: a) = true := by
  have e : isYield yieldS = true := by decide +kernel
  simp [yieldT, e]
theorem tk_loop {a : List Tr} (hy : yieldT a = true) (ha : as.length ≤ 4) (hn : n ≤ 16) : takesT vars (loopS a) as km n = (true, km) := by
  have b1 : ¬ 16 < n := by omega
  have b2 : ¬ 4 < as.length := by omega
  simp (decide := true) [takesT, loopS, ko_loop, fitsT, pt_block, isTup, knowsT, ca_loop, b1, b2, hy]
theorem tk_with {a : List Tr} (hx : nameS x = true) (hm : x ∈ vars) (ha : as.length ≤ 4) (hn : n ≤ 16) : takesT vars (withS x (.int 0) a) as km n = (true, km) := by
  have b1 : ¬ 16 < n := by omega
  have b2 : ¬ 4 < as.length := by omega
  simp (decide := true) [takesT, withS, ko_with, fitsT, pt_variable, pt_source, pt_block, isTup, nameT, numT, hx, knowsT, sl_variable, va_variable, sl_source, va_source, sl_block, va_block, hm, ca_with, b1, b2]
theorem tk_if {a b : List Tr} (hx : nameS x = true) (hm : x ∈ vars) (ha : as.length ≤ 4) (hn : n ≤ 16) : takesT vars (ifS x (.int 0) a b) as km n = (true, km) := by
  have b1 : ¬ 16 < n := by omega
  have b2 : ¬ 4 < as.length := by omega
  simp (decide := true) [takesT, ifS, ko_if, fitsT, pt_variable, pt_integer, pt_block, isTup, nameT, numT, hx, knowsT, sl_variable, va_variable, sl_integer, va_integer, sl_block, va_block, hm, ca_if, b1, b2]
theorem tk_over {t : Tr} (ha : 4 < as.length) : takesT vars t as km n = (false, km) := by
  unfold takesT
  rw [if_pos (.inr ha)]
theorem tk_many {t : Tr} (hn : 16 < n) : takesT vars t as km n = (false, km) := by
  unfold takesT
  rw [if_pos (.inl hn)]
end
/-- a statement's answer, at depth d -/
def Ok1 (vars : List Str) (d : Nat) (t : Tr) (r : Option (List Nat)) (s : Nat) : Prop := ∀ (as : List Str) (km : Km) (n : Nat), ("within" : Str) ∉ as → as.length + d = 5 → n + s ≤ 16 → ∃ n', stF vars d as km n t = (r, (km, n')) ∧ n' ≤ n + s
section
variable {vars : List Str} {x : Str} {d s : Nat} {one : Tr} {r : Option (List Nat)}
theorem k_over (t : Tr) : Ok1 vars 0 t (some []) 1 := fun as km n _ hl _ => ⟨n + 1, by
  unfold stF
  rw [tk_over (by omega)], Nat.le_refl _⟩
theorem k_show (hx : nameS x = true) (hm : x ∈ vars) : Ok1 vars (d + 1) (showS x) none 1 := fun as km n _ hl hn => ⟨n + 1, by
  unfold stF
  rw [tk_show hx hm (by omega) (by omega)]
  rfl, Nat.le_refl _⟩
theorem k_yield : Ok1 vars (d + 1) yieldS none 1 := fun as km n hw hl hn => ⟨n + 1, by
  unfold stF
  rw [tk_yield hw (by omega) (by omega)]
  rfl, Nat.le_refl _⟩
theorem k_fail : Ok1 vars (d + 1) failS none 1 := fun as km n hw hl hn => ⟨n + 1, by
  unfold stF
  rw [tk_fail (by omega) (by omega)]
  rfl, Nat.le_refl _⟩
theorem nilD (vars : List Str) (d : Nat) (as : List Str) (c : Ck) : faultD vars d [] as c = (none, c) := by rw [faultD_eq]; rfl
theorem k_guard0 : Ok1 vars (d + 1) (guardS [] []) none 1 := fun as km n hw hl hn => ⟨n + 1, by
  unfold stF
  rw [tk_guard (by omega) (by omega)]
  show blocksIn (fun b c => faultD vars d b (as ++ [("guard" : Str)]) c) [[], []] 0 (km, n + 1) = _
  unfold blocksIn
  simp only [nilD]
  unfold blocksIn
  simp only [nilD]
  rfl, Nat.le_refl _⟩
def nestK (x k : Str) (one : Tr) : Tr := if k = "guard" then guardS [] [one] else if k = "loop" then loopS [yieldS, one] else if k = "with" then withS x (.int 0) [one] else ifS x (.int 0) [one] []
def wayK (k : Str) : List Nat := if k = "guard" then [1, 0] else if k = "loop" then [0, 1] else [0, 0]
def four : List Str := ["guard", "loop", "with", "if"]
/-- one statement in a block -/
theorem run_one (h : Ok1 vars d one r s) (as : List Str) (km : Km) (n i : Nat) (hw : ("within" : Str) ∉ as) (hl : as.length + d = 5) (hn : n + s ≤ 16) : ∃ n', faultL vars (recF vars d) as [one] i (km, n) = (r.map (i :: ·), (km, n')) ∧ n' ≤ n + s := by
  obtain ⟨n', e, hn'⟩ := h as km n hw hl hn
  refine ⟨n', ?_, hn'⟩
  rw [faultL_st, e]
  cases r <;> rfl
theorem nin (as : List Str) {k : Str} (hw : ("within" : Str) ∉ as) (hk : k ≠ "within") : ("within" : Str) ∉ as ++ [k] := fun z => by
  rcases List.mem_append.mp z with z | z
  · exact hw z
  · exact hk (List.mem_singleton.mp z).symm
theorem k_nest {k : Str} (hk : k ∈ four) (hx : nameS x = true) (hm : x ∈ vars) (h : Ok1 vars d one r s) (hd : k = "loop" → 1 ≤ d) : Ok1 vars (d + 1) (nestK x k one) (r.map (wayK k ++ ·)) (s + 2) := by
  intro as km n hw hl hn
  have ha : as.length ≤ 4 := by omega
  simp only [four, List.mem_cons, List.not_mem_nil, or_false] at hk
  have l1 : ∀ k : Str, (as ++ [k]).length + d = 5 := fun k => by rw [List.length_append, List.length_singleton]; omega
  rcases hk with rfl | rfl | rfl | rfl
  · obtain ⟨n', e, hn'⟩ := run_one h (as ++ [("guard" : Str)]) km (n + 1) 0 (nin as hw (by decide)) (l1 _) (by omega)
    refine ⟨n', ?_, by omega⟩
    show stF vars (d + 1) as km n (guardS [] [one]) = (r.map (fun z => 1 :: 0 :: z), (km, n'))
    unfold stF
    rw [tk_guard ha (by omega)]
    show blocksIn (fun b c => faultD vars d b (as ++ [("guard" : Str)]) c) [[], [one]] 0 (km, n + 1) = _
    unfold blocksIn
    simp only [nilD]
    unfold blocksIn
    simp only [faultD_eq, e]
    cases r <;> rfl
  · obtain ⟨d, rfl⟩ : ∃ d', d = d' + 1 := ⟨d - 1, by have := hd rfl; omega⟩
    obtain ⟨n1, e1, hn1⟩ := k_yield (vars := vars) (d := d) (as ++ [("loop" : Str)]) km (n + 1) (nin as hw (by decide)) (l1 _) (by omega)
    obtain ⟨n', e, hn'⟩ := run_one h (as ++ [("loop" : Str)]) km n1 1 (nin as hw (by decide)) (l1 _) (by omega)
    refine ⟨n', ?_, by omega⟩
    show stF vars (d + 1 + 1) as km n (loopS [yieldS, one]) = (r.map (fun z => 0 :: 1 :: z), (km, n'))
    unfold stF
    rw [tk_loop yield_yes ha (by omega)]
    show blocksIn (fun b c => faultD vars (d + 1) b (as ++ [("loop" : Str)]) c) [[yieldS, one]] 0 (km, n + 1) = _
    unfold blocksIn
    simp only [faultD_eq, faultL_st vars (d + 1) (as ++ [("loop" : Str)]) yieldS, e1, e]
    cases r <;> rfl
  · obtain ⟨n', e, hn'⟩ := run_one h (as ++ [("with" : Str)]) km (n + 1) 0 (nin as hw (by decide)) (l1 _) (by omega)
    refine ⟨n', ?_, by omega⟩
    show stF vars (d + 1) as km n (withS x (.int 0) [one]) = (r.map (fun z => 0 :: 0 :: z), (km, n'))
    unfold stF
    rw [tk_with hx hm ha (by omega)]
    show blocksIn (fun b c => faultD vars d b (as ++ [("with" : Str)]) c) [[one]] 0 (km, n + 1) = _
    unfold blocksIn
    simp only [faultD_eq, e]
    cases r <;> rfl
  · obtain ⟨n', e, hn'⟩ := run_one h (as ++ [("if" : Str)]) km (n + 1) 0 (nin as hw (by decide)) (l1 _) (by omega)
    refine ⟨n', ?_, by omega⟩
    show stF vars (d + 1) as km n (ifS x (.int 0) [one] []) = (r.map (fun z => 0 :: 0 :: z), (km, n'))
    unfold stF
    rw [tk_if hx hm ha (by omega)]
    show blocksIn (fun b c => faultD vars d b (as ++ [("if" : Str)]) c) [[one], []] 0 (km, n + 1) = _
    unfold blocksIn
    simp only [faultD_eq, e]
    cases r with
    | some w => rfl
    | none =>
      show blocksIn _ [[]] 1 (km, n') = _
      unfold blocksIn
      rfl
theorem k_loop_in (hx : nameS x = true) (t : Tr) : Ok1 vars 1 (nestK x "loop" t) (some [0, 0]) 2 := by
  intro as km n hw hl hn
  have l1 : (as ++ [("loop" : Str)]).length + 0 = 5 := by rw [List.length_append, List.length_singleton]; omega
  obtain ⟨n1, e1, hn1⟩ := k_over (vars := vars) yieldS (as ++ [("loop" : Str)]) km (n + 1) (nin as hw (by decide)) l1 (by omega)
  refine ⟨n1, ?_, by omega⟩
  show stF vars 1 as km n (loopS [yieldS, t]) = _
  unfold stF
  rw [tk_loop yield_yes (by omega) (by omega)]
  show blocksIn (fun b c => faultD vars 0 b (as ++ [("loop" : Str)]) c) [[yieldS, t]] 0 (km, n + 1) = _
  unfold blocksIn
  simp only [faultD_eq, faultL_st vars 0 (as ++ [("loop" : Str)]) yieldS, e1]
def nestL (x : Str) (ks : List Str) (one : Tr) : Tr := ks.foldr (nestK x) one
def wayL (ks : List Str) : List Nat := (ks.map wayK).flatten
theorem k_nests (hx : nameS x = true) (hm : x ∈ vars) : ∀ (ks : List Str) {d s : Nat} {r : Option (List Nat)}, (∀ k ∈ ks, k ∈ four) → 1 ≤ d → Ok1 vars d one r s → Ok1 vars (d + ks.length) (nestL x ks one) (r.map (wayL ks ++ ·)) (s + 2 * ks.length)
  | [], d, s, r, _, _, h => by
    have e : r.map (wayL [] ++ ·) = r := by cases r <;> rfl
    rw [e]
    exact h
  | k :: ks, d, s, r, hk, hd, h => by
    have ih := k_nests hx hm ks (fun z hz => hk z (List.mem_cons_of_mem _ hz)) hd h
    have q := k_nest (hk k List.mem_cons_self) hx hm ih (fun _ => by omega)
    have e : (r.map (wayL ks ++ ·)).map (wayK k ++ ·) = r.map (wayL (k :: ks) ++ ·) := by
      cases r with
      | none => rfl
      | some w => simp [wayL]
    rw [e] at q
    rw [List.length_cons, show s + 2 * (ks.length + 1) = s + 2 * ks.length + 2 from by omega]
    exact q
end
end BK

set_option Elab.async false
set_option maxRecDepth 100000
set_option maxHeartbeats 4000000
set_option linter.unusedVariables false
set_option linter.unusedSimpArgs false
/-! blocks that are right: the slots' kinds are told by a function -/
namespace BK
open PySem PySem.Spec PyProof.Rows L2
def KmOk (κ : Str → Str) (km : Km) : Prop := ∀ p ∈ km, p.2 = κ p.1
def SrcG (vars : List Str) (s : Tr) : Prop := (∃ i : Int, s = .int i ∧ 0 ≤ i ∧ i ≤ 99) ∨ ∃ z : Str, s = .str z ∧ z ∈ vars
structure VarsG (vars : List Str) : Prop where
  nm : ∀ v ∈ vars, nameS v = true
section
variable {vars : List Str} {κ : Str → Str} {as : List Str} {km : Km} {n : Nat}
theorem kget_ok {s k : Str} (h : KmOk κ km) (e : kget km s = some k) : k = κ s := by
  unfold kget at e
  cases f : km.find? (fun e => decide (e.1 = s)) with
  | none => rw [f] at e; cases e
  | some p =>
    rw [f] at e
    have e2 : p.2 = k := Option.some.inj e
    have e1 : p.1 = s := of_decide_eq_true (List.find?_some (p := fun e : Str × Str => decide (e.1 = s)) f)
    rw [← e2, ← e1]
    exact h p (List.mem_of_find?_eq_some f)
theorem knows_slot {s k : Str} {r : List (Tr × Str)} (h : KmOk κ km) (hk : slotK k = true) (e : κ s = k) : ∃ km', knowsT vars ((.str s, k) :: r) km = knowsT vars r km' ∧ KmOk κ km' := by
  have eq : knowsT vars ((.str s, k) :: r) km = (match kget km s with
      | none => knowsT vars r (km ++ [(s, k)])
      | some k' => if k' = k then knowsT vars r km else (false, km)) := by
    rw [knowsT, if_pos hk]
    all_goals (cases kget km s <;> rfl)
  rw [eq]
  cases g : kget km s with
  | none =>
    refine ⟨km ++ [(s, k)], rfl, fun p hp => ?_⟩
    rcases List.mem_append.mp hp with hp | hp
    · exact h p hp
    · rw [List.mem_singleton.mp hp]; exact e.symm
  | some k' =>
    have := kget_ok h g
    refine ⟨km, ?_, h⟩
    show (if k' = k then _ else _) = _
    rw [if_pos (this.trans e)]
theorem knows_var {s k : Str} {r : List (Tr × Str)} (hk : slotK k = false) (hv : varK k = true) (hm : s ∈ vars) : knowsT vars ((.str s, k) :: r) km = knowsT vars r km := by
  rw [knowsT, if_neg (by rw [hk]; decide), if_pos hv, if_pos hm]
theorem knows_src {s : Tr} {r : List (Tr × Str)} (h : SrcG vars s) : knowsT vars ((s, ("source" : Str)) :: r) km = knowsT vars r km := by
  rcases h with ⟨i, rfl, _⟩ | ⟨z, rfl, hz⟩
  · rfl
  · exact knows_var sl_source va_source hz
theorem knows_tup {ts : List Tr} {k : Str} {r : List (Tr × Str)} : knowsT vars ((.tup ts, k) :: r) km = knowsT vars r km := rfl
theorem knows_int {i : Int} {k : Str} {r : List (Tr × Str)} : knowsT vars ((.int i, k) :: r) km = knowsT vars r km := rfl
theorem take_of {x : Str} {rest : List Tr} {ks : List Str} {km' : Km} (hn : n ≤ 16) (ha : as.length ≤ 4) (ek : kindsOf x = some ks) (ef : fitsT rest ks = true) (hk : knowsT vars (rest.zip ks) km = (true, km')) (hc : canT x rest as = true) : takesT vars (.tup (.str x :: rest)) as km n = (true, km') := by
  unfold takesT
  rw [if_neg (by omega)]
  simp only [ek]
  rw [if_pos ef, hk, hc]
  rfl
theorem src_fit {s : Tr} (hV : VarsG vars) (h : SrcG vars s) : partT s "source" = true := by
  rcases h with ⟨i, rfl, h0, h1⟩ | ⟨z, rfl, hz⟩
  · simp (decide := true) [pt_source, numT, h0, h1]
  · simp (decide := true) [pt_source, nameT, hV.nm z hz]
theorem var_fit {v : Str} (hV : nameS v = true) : partT (.str v) "variable" = true := by simp (decide := true) [pt_variable, nameT, hV]
theorem fit1 {a : Tr} {k : Str} (h : partT a k = true) : fitsT [a] [k] = true := by simp [fitsT, h]
theorem fit2 {a b : Tr} {k l : Str} (h : partT a k = true) (h2 : partT b l = true) : fitsT [a, b] [k, l] = true := by simp [fitsT, h, h2]
theorem fit3 {a b c : Tr} {k l m : Str} (h : partT a k = true) (h2 : partT b l = true) (h3 : partT c m = true) : fitsT [a, b, c] [k, l, m] = true := by simp [fitsT, h, h2, h3]
theorem fit4 {a b c d : Tr} {k l m o : Str} (h : partT a k = true) (h2 : partT b l = true) (h3 : partT c m = true) (h4 : partT d o = true) : fitsT [a, b, c, d] [k, l, m, o] = true := by simp [fitsT, h, h2, h3, h4]
theorem slot_fit {s k : Str} (hs : nameS s = true) (hk : slotK k = true) : partT (.str s) k = true := by
  unfold slotK at hk
  rw [Bool.or_eq_true, decide_eq_true_eq, decide_eq_true_eq] at hk
  rcases hk with rfl | rfl
  · have e : partT (.str s) "context" = nameT (.str s) := by unfold partT; simp (decide := true)
    rw [e]; exact hs
  · have e : partT (.str s) "token" = nameT (.str s) := by unfold partT; simp (decide := true)
    rw [e]; exact hs
theorem blk_fit {ts : List Tr} : partT (.tup ts) "block" = true := by simp (decide := true) [pt_block, isTup]
end
def leaveS : Tr := .tup [.str "leave"]
/-- statements without others within -/
inductive GLeaf (vars : List Str) (κ : Str → Str) : Bool → Bool → Tr → Prop
  | yield {l : Bool} : GLeaf vars κ true l yieldS
  | show_ {f l : Bool} {v : Str} (h : v ∈ vars) : GLeaf vars κ f l (showS v)
  | set {f l : Bool} {v : Str} {s : Tr} (h : v ∈ vars) (hs : SrcG vars s) : GLeaf vars κ f l (.tup [.str "set", .str v, s])
  | hold {f l : Bool} {t v : Str} {s : Tr} (ht : nameS t = true) (hk : κ t = "token") (h : v ∈ vars) (hs : SrcG vars s) : GLeaf vars κ f l (.tup [.str "hold", .str t, .str v, s])
  | reset {f l : Bool} {t : Str} (ht : nameS t = true) (hk : κ t = "token") : GLeaf vars κ f l (.tup [.str "reset", .str t])
  | drop {f l : Bool} {v : Str} (h : v ∈ vars) : GLeaf vars κ f l (.tup [.str "drop", .str v])
  | leave {f : Bool} : GLeaf vars κ f true leaveS
  | fail {f l : Bool} : GLeaf vars κ f l failS
  | copy {f l : Bool} {c : Str} (hc : nameS c = true) (hk : κ c = "context") : GLeaf vars κ f l (.tup [.str "copy", .str c])
mutual
/-- a statement at which d levels are left, whether a yield may stand there, a leave; how many statements it is -/
inductive GS (vars : List Str) (κ : Str → Str) : Nat → Bool → Bool → Tr → Nat → Prop
  | leaf {d : Nat} {f l : Bool} {t : Tr} (h : GLeaf vars κ f l t) : GS vars κ (d + 1) f l t 1
  | within {d : Nat} {f l : Bool} {c : Str} {ts : List Tr} {m : Nat} (hc : nameS c = true) (hk : κ c = "context") (h : GB vars κ d false false ts m) : GS vars κ (d + 1) f l (.tup [.str "within", .str c, .tup ts]) (m + 1)
  | with_ {d : Nat} {f l : Bool} {v : Str} {s : Tr} {ts : List Tr} {m : Nat} (hv : v ∈ vars) (hs : SrcG vars s) (h : GB vars κ d f l ts m) : GS vars κ (d + 1) f l (.tup [.str "with", .str v, s, .tup ts]) (m + 1)
  | loop {d : Nat} {l : Bool} {ts : List Tr} {m : Nat} (h : GB vars κ d true true ts m) (hy : yieldT ts = true) : GS vars κ (d + 1) true l (loopS ts) (m + 1)
  | if_ {d : Nat} {f l : Bool} {v : Str} {i : Int} {a b : List Tr} {m k : Nat} (hv : v ∈ vars) (h0 : 0 ≤ i) (h1 : i ≤ 99) (ha : GB vars κ d f l a m) (hb : GB vars κ d f l b k) : GS vars κ (d + 1) f l (ifS v (.int i) a b) (m + k + 1)
  | guard {d : Nat} {f l : Bool} {a b : List Tr} {m k : Nat} (ha : GB vars κ d f l a m) (hb : GB vars κ d f l b k) : GS vars κ (d + 1) f l (guardS a b) (m + k + 1)
inductive GB (vars : List Str) (κ : Str → Str) : Nat → Bool → Bool → List Tr → Nat → Prop
  | nil {d : Nat} {f l : Bool} : GB vars κ d f l [] 0
  | cons {d : Nat} {f l : Bool} {t : Tr} {ts : List Tr} {m k : Nat} (h : GS vars κ d f l t m) (r : GB vars κ d f l ts k) : GB vars κ d f l (t :: ts) (m + k)
end
/-- what is around -/
structure Ard (f l : Bool) (d : Nat) (as : List Str) : Prop where
  len : as.length + d = 5
  fr : f = true → ("within" : Str) ∉ as
  lp : l = true → ("loop" : Str) ∈ as ∧ ("within" : Str) ∉ as
section
variable {vars : List Str} {κ : Str → Str} {as : List Str} {km : Km} {n d : Nat} {f l : Bool}
theorem leaf_ok {t : Tr} (hV : VarsG vars) (h : GLeaf vars κ f l t) (A : Ard f l (d + 1) as) (hk : KmOk κ km) (hn : n + 1 ≤ 16) : ∃ km', stF vars (d + 1) as km n t = (none, (km', n + 1)) ∧ KmOk κ km' := by
  have ha : as.length ≤ 4 := by have := A.len; omega
  have fin : ∀ {km'}, takesT vars t as km (n + 1) = (true, km') → blocksT t = [] → stF vars (d + 1) as km n t = (none, (km', n + 1)) := fun {km'} e b => by
    unfold stF
    rw [e, b]
    rfl
  cases h with
  | yield => exact ⟨km, fin (tk_yield (A.fr rfl) ha hn) rfl, hk⟩
  | show_ h => exact ⟨km, fin (tk_show (hV.nm _ h) h ha hn) rfl, hk⟩
  | set h hs =>
    refine ⟨km, fin (take_of hn ha ko_set (fit2 (var_fit (hV.nm _ h)) (src_fit hV hs)) ?_ (by rw [ca_set])) ?_, hk⟩
    · show knowsT vars [(_, "variable"), (_, "source")] km = _
      rw [knows_var sl_variable va_variable h, knows_src hs]; rfl
    · rcases hs with ⟨i, rfl, _⟩ | ⟨z, rfl, _⟩ <;> rfl
  | hold ht he h hs =>
    obtain ⟨km', e, hk'⟩ := knows_slot (vars := vars) (r := [(Tr.str _, ("variable" : Str)), (_, ("source" : Str))]) hk sl_token he
    refine ⟨km', fin (take_of hn ha ko_hold (fit3 (slot_fit ht sl_token) (var_fit (hV.nm _ h)) (src_fit hV hs)) ?_ (by rw [ca_hold])) ?_, hk'⟩
    · show knowsT vars [(_, "token"), (_, "variable"), (_, "source")] km = _
      rw [e, knows_var sl_variable va_variable h, knows_src hs]; rfl
    · rcases hs with ⟨i, rfl, _⟩ | ⟨z, rfl, _⟩ <;> rfl
  | reset ht he =>
    obtain ⟨km', e, hk'⟩ := knows_slot (vars := vars) (r := []) hk sl_token he
    exact ⟨km', fin (take_of hn ha ko_reset (fit1 (slot_fit ht sl_token)) e (by rw [ca_reset])) rfl, hk'⟩
  | drop h =>
    refine ⟨km, fin (take_of hn ha ko_drop (fit1 (var_fit (hV.nm _ h))) ?_ (by rw [ca_drop])) rfl, hk⟩
    show knowsT vars [(_, "variable")] km = _
    rw [knows_var sl_variable va_variable h]; rfl
  | leave =>
    obtain ⟨h1, h2⟩ := A.lp rfl
    exact ⟨km, fin (take_of hn ha ko_leave rfl rfl (by simp (decide := true) [canT, h1, h2])) rfl, hk⟩
  | fail => exact ⟨km, fin (tk_fail ha hn) rfl, hk⟩
  | copy hc he =>
    obtain ⟨km', e, hk'⟩ := knows_slot (vars := vars) (r := []) hk sl_context he
    exact ⟨km', fin (take_of hn ha ko_copy (fit1 (slot_fit hc sl_context)) e (by rw [ca_copy])) rfl, hk'⟩
theorem Ard.into (A : Ard f l (d + 1) as) {k : Str} (hk : k ≠ "within") (nk : k ≠ "loop") : Ard f l d (as ++ [k]) := by
  refine ⟨by have := A.len; rw [List.length_append, List.length_singleton]; omega, fun e z => ?_, fun e => ⟨List.mem_append_left _ (A.lp e).1, fun z => ?_⟩⟩
  · rcases List.mem_append.mp z with z | z
    · exact A.fr e z
    · exact hk (List.mem_singleton.mp z).symm
  · rcases List.mem_append.mp z with z | z
    · exact (A.lp e).2 z
    · exact hk (List.mem_singleton.mp z).symm
theorem Ard.loop (A : Ard true l (d + 1) as) : Ard true true d (as ++ [("loop" : Str)]) := by
  have nw : ("within" : Str) ∉ as ++ [("loop" : Str)] := fun z => by
    rcases List.mem_append.mp z with z | z
    · exact A.fr rfl z
    · revert z; decide
  exact ⟨by have := A.len; rw [List.length_append, List.length_singleton]; omega, fun _ => nw, fun _ => ⟨List.mem_append_right _ (List.mem_singleton.mpr rfl), nw⟩⟩
theorem Ard.within (A : Ard f l (d + 1) as) : Ard false false d (as ++ [("within" : Str)]) := ⟨by have := A.len; rw [List.length_append, List.length_singleton]; omega, (fun e => nomatch e), (fun e => nomatch e)⟩
end
mutual
theorem gs_ok {vars : List Str} {κ : Str → Str} (hV : VarsG vars) : ∀ {d : Nat} {f l : Bool} {t : Tr} {m : Nat}, GS vars κ d f l t m → ∀ (as : List Str) (km : Km) (n : Nat), Ard f l d as → KmOk κ km → n + m ≤ 16 → ∃ km', stF vars d as km n t = (none, (km', n + m)) ∧ KmOk κ km'
  | _, _, _, _, _, .leaf h, as, km, n, A, hk, hn => leaf_ok hV h A hk hn
  | d + 1, f, l, _, _, .within (c := c) (ts := ts) (m := m) hc he h, as, km, n, A, hk, hn => by
    have ha : as.length ≤ 4 := by have := A.len; omega
    obtain ⟨km1, e, hk1⟩ := knows_slot (vars := vars) (r := [(.tup ts, ("block" : Str))]) hk sl_context he
    obtain ⟨km2, e2, hk2⟩ := gb_ok hV h (as ++ [("within" : Str)]) km1 (n + 1) 0 A.within hk1 (by omega)
    refine ⟨km2, ?_, hk2⟩
    unfold stF
    rw [take_of (by omega) ha ko_within (fit2 (slot_fit hc sl_context) blk_fit) e (by rw [ca_within])]
    show blocksIn (fun b c => faultD vars d b (as ++ [("within" : Str)]) c) [ts] 0 (km1, n + 1) = _
    unfold blocksIn
    simp only [faultD_eq, e2]
    unfold blocksIn
    rw [show n + 1 + m = n + (m + 1) by omega]
  | d + 1, f, l, _, _, .with_ (v := v) (s := s) (ts := ts) (m := m) hv hs h, as, km, n, A, hk, hn => by
    have ha : as.length ≤ 4 := by have := A.len; omega
    obtain ⟨km2, e2, hk2⟩ := gb_ok hV h (as ++ [("with" : Str)]) km (n + 1) 0 (A.into (by decide) (by decide)) hk (by omega)
    refine ⟨km2, ?_, hk2⟩
    unfold stF
    rw [take_of (by omega) ha ko_with (fit3 (var_fit (hV.nm _ hv)) (src_fit hV hs) blk_fit) (by
      show knowsT vars [(_, "variable"), (_, "source"), (_, "block")] km = _
      rw [knows_var sl_variable va_variable hv, knows_src hs, knows_tup]; rfl) (by rw [ca_with])]
    have eb : blocksT (.tup [.str "with", .str v, s, .tup ts]) = [ts] := by rcases hs with ⟨i, rfl, _⟩ | ⟨z, rfl, _⟩ <;> rfl
    rw [eb]
    show blocksIn (fun b c => faultD vars d b (as ++ [("with" : Str)]) c) [ts] 0 (km, n + 1) = _
    unfold blocksIn
    simp only [faultD_eq, e2]
    unfold blocksIn
    rw [show n + 1 + m = n + (m + 1) by omega]
  | d + 1, _, l, _, _, .loop (ts := ts) (m := m) h hy, as, km, n, A, hk, hn => by
    have ha : as.length ≤ 4 := by have := A.len; omega
    obtain ⟨km2, e2, hk2⟩ := gb_ok hV h (as ++ [("loop" : Str)]) km (n + 1) 0 A.loop hk (by omega)
    refine ⟨km2, ?_, hk2⟩
    unfold stF
    rw [tk_loop hy ha (by omega)]
    show blocksIn (fun b c => faultD vars d b (as ++ [("loop" : Str)]) c) [ts] 0 (km, n + 1) = _
    unfold blocksIn
    simp only [faultD_eq, e2]
    unfold blocksIn
    rw [show n + 1 + m = n + (m + 1) by omega]
  | d + 1, f, l, _, _, .if_ (v := v) (i := i) (a := a) (b := b) (m := m) (k := k) hv h0 h1 hA hB, as, km, n, A, hk, hn => by
    have ha : as.length ≤ 4 := by have := A.len; omega
    obtain ⟨km2, e2, hk2⟩ := gb_ok hV hA (as ++ [("if" : Str)]) km (n + 1) 0 (A.into (by decide) (by decide)) hk (by omega)
    obtain ⟨km3, e3, hk3⟩ := gb_ok hV hB (as ++ [("if" : Str)]) km2 (n + 1 + m) 0 (A.into (by decide) (by decide)) hk2 (by omega)
    refine ⟨km3, ?_, hk3⟩
    unfold stF
    have ei : partT (.int i) "integer" = true := by simp (decide := true) [pt_integer, numT, h0, h1]
    have tk : takesT vars (ifS v (.int i) a b) as km (n + 1) = (true, km) := take_of (by omega) ha ko_if (fit4 (var_fit (hV.nm _ hv)) ei blk_fit blk_fit) (by
      show knowsT vars [(_, "variable"), (_, "integer"), (_, "block"), (_, "block")] km = _
      rw [knows_var sl_variable va_variable hv, knows_int, knows_tup, knows_tup]; rfl) (by rw [ca_if])
    rw [tk]
    show blocksIn (fun b c => faultD vars d b (as ++ [("if" : Str)]) c) [a, b] 0 (km, n + 1) = _
    unfold blocksIn
    simp only [faultD_eq, e2]
    unfold blocksIn
    simp only [faultD_eq, e3]
    unfold blocksIn
    rw [show n + 1 + m + k = n + (m + k + 1) by omega]
  | d + 1, f, l, _, _, .guard (a := a) (b := b) (m := m) (k := k) hA hB, as, km, n, A, hk, hn => by
    have ha : as.length ≤ 4 := by have := A.len; omega
    obtain ⟨km2, e2, hk2⟩ := gb_ok hV hA (as ++ [("guard" : Str)]) km (n + 1) 0 (A.into (by decide) (by decide)) hk (by omega)
    obtain ⟨km3, e3, hk3⟩ := gb_ok hV hB (as ++ [("guard" : Str)]) km2 (n + 1 + m) 0 (A.into (by decide) (by decide)) hk2 (by omega)
    refine ⟨km3, ?_, hk3⟩
    unfold stF
    rw [tk_guard ha (by omega)]
    show blocksIn (fun b c => faultD vars d b (as ++ [("guard" : Str)]) c) [a, b] 0 (km, n + 1) = _
    unfold blocksIn
    simp only [faultD_eq, e2]
    unfold blocksIn
    simp only [faultD_eq, e3]
    unfold blocksIn
    rw [show n + 1 + m + k = n + (m + k + 1) by omega]
theorem gb_ok {vars : List Str} {κ : Str → Str} (hV : VarsG vars) : ∀ {d : Nat} {f l : Bool} {ts : List Tr} {m : Nat}, GB vars κ d f l ts m → ∀ (as : List Str) (km : Km) (n i : Nat), Ard f l d as → KmOk κ km → n + m ≤ 16 → ∃ km', faultL vars (recF vars d) as ts i (km, n) = (none, (km', n + m)) ∧ KmOk κ km'
  | _, _, _, _, _, .nil, as, km, n, i, A, hk, hn => ⟨km, rfl, hk⟩
  | d, f, l, _, _, .cons (t := t) (ts := ts) (m := m) (k := k) h r, as, km, n, i, A, hk, hn => by
    obtain ⟨km1, e1, hk1⟩ := gs_ok hV h as km n A hk (by omega)
    obtain ⟨km2, e2, hk2⟩ := gb_ok hV r as km1 (n + m) (i + 1) A hk1 (by omega)
    refine ⟨km2, ?_, hk2⟩
    rw [faultL_st, e1]
    show faultL vars (recF vars d) as ts (i + 1) (km1, n + m) = _
    rw [e2, Nat.add_assoc]
end
theorem blk_ok {vars : List Str} {κ : Str → Str} {ts : List Tr} {m : Nat} {km : Km} (hV : VarsG vars) (h : GB vars κ 5 true false ts m) (hk : KmOk κ km) (hm : m ≤ 16) : (faultD vars 5 ts [] (km, 0)).1 = none := by
  obtain ⟨km', e, _⟩ := gb_ok hV h [] km 0 0 ⟨rfl, fun _ => by simp, (fun e => nomatch e)⟩ hk (by omega)
  rw [faultD_eq, e]
end BK

set_option Elab.async false
set_option linter.all false
set_option maxRecDepth 100000
set_option maxHeartbeats 4000000
/-! tuple * int, of any number of times. -/
namespace L2
open PySem PySem.Spec PyProof.Rows
open AutoSeq1 (wpAny_loadPart')
theorem tuple_mul1 (l : Addr) (items : Array Value) (n : Nat) (dd : Option Addr) (sl : Array (Option Value)) (u : Tok) :
    Meets (Builtin.«tuple.__mul__» ⟨[.ref l, .int 1 u], []⟩) (fun _ R s => s.heap.get? l = some { cls := .type "tuple", dict := dd, data := .seq items n, slots := sl } ∧
      R (.ok (.ret (Value.ref l))) s) :=
  .of_wp fun prog w A R s h => by
    obtain ⟨hp, g, d, tk, os⟩ := s
    obtain ⟨hl, h⟩ := h
    have f1 := AutoSeq1.idx_int
    have c0 : (decide ((1 : Int) < -(2 ^ 63)) || decide ((1 : Int) ≥ 2 ^ 63)) = false := by decide
    have c1 : (items.isEmpty || (1 : Int) == 1) = true := by simp
    wp_walk using wpAny_loadPart' hl
    repeat (first
      | (refine wpAny_ite_false (decide_eq_false (by rw [c0]; exact Bool.false_ne_true)) ?_; wp_walk using wpAny_loadPart' hl)
      | (refine wpAny_ite_true (decide_eq_true c1) ?_; wp_walk using wpAny_loadPart' hl))
    exact ⟨_, rfl, h⟩
theorem tuple_mul0 (l : Addr) (items : Array Value) (n : Nat) (dd : Option Addr) (sl : Array (Option Value)) (u : Tok) (ne : items.isEmpty = false) :
    Meets (Builtin.«tuple.__mul__» ⟨[.ref l, .int 0 u], []⟩) (fun _ R s => s.heap.get? l = some { cls := .type "tuple", dict := dd, data := .seq items n, slots := sl } ∧
      R (.ok (.ret (Value.ref s.heap.objs.size))) { s with heap := s.heap.push { cls := Value.type "tuple", data := Data.seq #[] }, toks := s.toks }) :=
  .of_wp fun prog w A R s h => by
    obtain ⟨hp, g, d, tk, os⟩ := s
    obtain ⟨hl, h⟩ := h
    have f1 := AutoSeq1.idx_int
    have c0 : (decide ((0 : Int) < -(2 ^ 63)) || decide ((0 : Int) ≥ 2 ^ 63)) = false := by decide
    have c1 : (items.isEmpty || (0 : Int) == 1) = false := by rw [ne]; decide
    have c2 : (decide ((0 : Int) ≤ 0) || items.isEmpty) = true := by simp
    wp_walk using wpAny_loadPart' hl
    repeat (first
      | (refine wpAny_ite_false (decide_eq_false (by rw [c0]; exact Bool.false_ne_true)) ?_; wp_walk using wpAny_loadPart' hl)
      | (refine wpAny_ite_false (decide_eq_false (by rw [c1]; exact Bool.false_ne_true)) ?_; wp_walk using wpAny_loadPart' hl)
      | (refine wpAny_ite_true (decide_eq_true c2) ?_; wp_walk using wpAny_loadPart' hl))
    exact ⟨_, rfl, h⟩
end L2



set_option Elab.async false
set_option linter.all false
set_option maxRecDepth 100000
set_option maxHeartbeats 4000000
namespace L2
open PySem PySem.Spec PyProof.Rows
def rRepA (K : PySem.W.Frag) : R2 := fun x y H Q => ∃ l k xs, x = .ref l ∧ y = .int k ∧ SqT K H l xs ∧ xs ≠ [] ∧ 0 ≤ k ∧ k ≤ 1000 ∧ xs.length ≤ 1000 ∧ ∀ p H', Same H H' → SqT K H' p (List.replicate k.toNat xs).flatten → Q (.ref p) H'
section
variable {X : Cx}
theorem op_repA : OpR X (binaryOp .Mult) (rRepA X.K) := by
  intro pins s σ H x y v u Q I rx ry h
  obtain ⟨l, k, xs, rfl, rfl, hT, hne, h1, h2, hz, q⟩ := h
  by_cases hk : 2 ≤ k
  · exact op_repT pins s σ H _ _ _ _ Q I rx ry ⟨l, k, xs, rfl, rfl, hT, hne, hk, h2, hz, fun p np => q p _ (fun b o e => by rw [upd_ne (ne_of_none e np)]; exact e) (SqT.of upd_same)⟩
  cases rx
  obtain ⟨t, rfl⟩ := ry
  obtain ⟨its, r, ⟨⟨cls, dd, data, sl⟩, ho, hc, n, hd⟩, hs⟩ := I.tuple hT
  simp only at hc hd
  subst hc hd
  have hle : its.length = xs.length := r.length.symm
  have hn : its ≠ [] := fun e => hne (by
    rw [e] at hle
    exact List.eq_nil_of_length_eq_zero hle.symm)
  have hi : its.toArray.isEmpty = false := by
    cases its with
    | nil => exact absurd rfl hn
    | cons a b => rfl
  have k01 : k = 0 ∨ k = 1 := by omega
  rcases k01 with rfl | rfl
  · refine wpAny_binaryOp_repeat_ref (T := "tuple") (U := "int") (by decide) ⟨_, ho, rfl⟩ (fun s' => typeIs_int s' 0 t) noFill_tuple_mul F.fills_int_mul F.slot_int_rmul repeat_tuple F.slot_int_index.lookup
      (call_meets F.slot_int_rmul (typeIs_int s 0 t) F.entry_int_rmul (F.args_int_rmul_2 _ _) (int_rmul_tuple 0 t l its.toArray n dd sl)
        ⟨ho, rfl, ⟨_, ho, rfl⟩, call_meets F.slot_tuple_mul ⟨_, ho, rfl⟩ F.entry_tuple_mul (F.args_tuple_mul_2 _ _) (tuple_mul0 l its.toArray n dd sl t hi) ⟨ho, ?_⟩⟩)
    have nf : H s.heap.objs.size = none := I.hok.fresh (Nat.le_refl _)
    refine ⟨.ref s.heap.objs.size, _, I.laid (t' := s.toks) (o := .tup []) (fun b ob q => Heap.get?_push_of_some _ q) (Nat.le_refl _) ?_, rfl, q _ _ (fun b o e => by rw [upd_ne (ne_of_none e nf)]; exact e) (SqT.of upd_same)⟩
    exact ⟨Nat.zero_le _, [], .nil, IsTup.new _ _⟩
  · refine wpAny_binaryOp_repeat_ref (T := "tuple") (U := "int") (by decide) ⟨_, ho, rfl⟩ (fun s' => typeIs_int s' 1 t) noFill_tuple_mul F.fills_int_mul F.slot_int_rmul repeat_tuple F.slot_int_index.lookup
      (call_meets F.slot_int_rmul (typeIs_int s 1 t) F.entry_int_rmul (F.args_int_rmul_2 _ _) (int_rmul_tuple 1 t l its.toArray n dd sl)
        ⟨ho, rfl, ⟨_, ho, rfl⟩, call_meets F.slot_tuple_mul ⟨_, ho, rfl⟩ F.entry_tuple_mul (F.args_tuple_mul_2 _ _) (tuple_mul1 l its.toArray n dd sl t) ⟨ho, ?_⟩⟩)
    refine ⟨.ref l, H, I.tok _, rfl, q l H (fun _ _ e => e) ?_⟩
    have e : (List.replicate (1 : Int).toNat xs).flatten = xs := by simp
    rw [e]
    exact hT
end
end L2



set_option Elab.async false
set_option maxRecDepth 100000
/-! The drawing of numbers: _law_mixed, _law_begin, _law_draw. -/
namespace SW
open PySem PySem.Spec PyProof.Rows L2
def top (i : Nat) : Stmt := PySem.Challenge.pw_stepwhere_k09_whole_books_as_texts.main.body.getD i (.Pass ⟨0, 0, 0, 0⟩)
abbrev sMixed : Stmt := top 60
abbrev sBegin : Stmt := top 61
abbrev sDraw : Stmt := top 62
/-- where the drawing keeps its things: the dict, the list of what is left, the cells -/
structure RA where
  s : Addr
  l : Addr
  c : Addr
  r : Int
/-- the same, the room told otherwise -/
def RA.rm (a : RA) (r : Int) : RA := ⟨a.s, a.l, a.c, r⟩
/-- none of the three -/
structure Off (a : RA) (p : Addr) : Prop where
  s : p ≠ a.s
  l : p ≠ a.l
  c : p ≠ a.c
/-- what stays but for the two objects that a draw writes -/
def But (a : RA) (H H' : Hp) : Prop := ∀ b o, H b = some o → b ≠ a.s → b ≠ a.l → H' b = some o
theorem But.refl (a : RA) (H : Hp) : But a H H := fun _ _ e _ _ => e
theorem But.trans {a : RA} {H H1 H2 : Hp} (x : But a H H1) (y : But a H1 H2) : But a H H2 := fun c o e h1 h2 => y c o (x c o e h1 h2) h1 h2
theorem Same.but {a : RA} {H H' : Hp} (x : Same H H') : But a H H' := fun c o e _ _ => x c o e
theorem But.at {a : RA} {H H' : Hp} {p : Addr} {o : HO} (x : But a H H') (f : Off a p) (e : H p = some o) : H' p = some o := x p o e f.s f.l
theorem But.free {a : RA} {H H' : Hp} {p : Addr} (x : But a H H') (f : Off a p) (h : H' p = none) : H p = none := by
  cases e : H p with
  | none => rfl
  | some o =>
    rw [x.at f e] at h
    cases h
/-- an object that was not there is written -/
theorem But.new {a : RA} {H H' : Hp} {p : Addr} {o : HO} (x : But a H H') (h : H p = none) : But a H (upd H' p o) := fun b u e h1 h2 => by
  rw [upd_ne (ne_of_none e h)]
  exact x b u e h1 h2
theorem same_new {H : Hp} {p : Addr} {o : HO} (h : H p = none) : Same H (upd H p o) := fun b u e => by
  rw [upd_ne (ne_of_none e h)]
  exact e
theorem Same.new {H H' : Hp} {p : Addr} {o : HO} (x : Same H H') (h : H p = none) : Same H (upd H' p o) := fun b u e => by
  rw [upd_ne (ne_of_none e h)]
  exact x b u e
/-- a comprehension without an if -/
theorem tyes {σ : L2.St} {H : Hp} {f g : Hp → Prop} (h : f H) : tYes σ H fun b H3 => if b = true then f H3 else g H3 := by
  show (if true = true then f H else g H)
  exact iteT h
theorem int_at {ns : List Int} {i : Nat} {y : V} (h : (ns.map V.int)[i]? = some y) : ∃ z, ns[i]? = some z ∧ y = V.int z := by
  rw [List.getElem?_map] at h
  cases e : ns[i]? with
  | none =>
    rw [e] at h
    cases h
  | some z =>
    rw [e] at h
    exact ⟨z, rfl, (Option.some.inj h).symm⟩
/-- the pairs of the dict of draws -/
def rk (c l : Addr) (n : Nat) (r : Int := 0) : List (Key × V) := [(.inr "cells", .ref c), (.inr "lefts", .ref l), (.inr "at", .int (n : Int)), (.inr "room", .int r)]
structure Rnd (H : Hp) (a : RA) (n : Nat) : Prop where
  ex : ∃ (ns ls : List Int), H a.s = some (.dK (rk a.c a.l n a.r)) ∧ H a.c = some (.lst (ns.map V.int)) ∧ H a.l = some (.lst (ls.map V.int)) ∧ ls.length = ns.length ∧ 0 < ns.length ∧ ns.length ≤ 63 ∧ (∀ x ∈ ls, 0 ≤ x) ∧ a.c ≠ a.s ∧ a.c ≠ a.l
theorem Rnd.same {H H' : Hp} {a : RA} {n : Nat} (R : Rnd H a n) (e : Same H H') : Rnd H' a n := by
  obtain ⟨ns, ls, h1, h2, h3, r⟩ := R
  exact ⟨ns, ls, e _ _ h1, e _ _ h2, e _ _ h3, r⟩
/-- an object beside is written -/
theorem Rnd.upd {H : Hp} {a : RA} {n : Nat} {p : Addr} {o : HO} (R : Rnd H a n) (f : Off a p) : Rnd (upd H p o) a n := by
  obtain ⟨ns, ls, h1, h2, h3, r⟩ := R
  exact ⟨ns, ls, by rw [upd_ne f.s.symm]; exact h1, by rw [upd_ne f.c.symm]; exact h2, by rw [upd_ne f.l.symm]; exact h3, r⟩
/-- a new object is none of the three -/
theorem Rnd.off {H : Hp} {a : RA} {p : Addr} {n : Nat} (R : Rnd H a n) (h : H p = none) : Off a p := by
  obtain ⟨ns, ls, h1, h2, h3, r⟩ := R
  exact ⟨(ne_of_none h1 h).symm, (ne_of_none h3 h).symm, (ne_of_none h2 h).symm⟩
/-- the numbers 48271 .. are mixed: some number below 2147483629 -/
def spMixed : Sp := fun vs H Q _ => ∃ (c k : Int), vs = [.int c, .int k] ∧ 0 ≤ k ∧ k ≤ 1000000 ∧ ∀ r : Int, 0 ≤ r → r < 2147483629 → Q (.int r) H
def spBegin (K : PySem.W.Frag) : Sp := fun vs H Q _ => ∃ (x : Addr) (ns : List Int), vs = [.ref x] ∧ SqL K H x (ns.map V.int) ∧ ns.length ≤ 63 ∧
  ∀ (a : RA) (H' : Hp), Same H H' → H a.s = none → H a.l = none → Rnd H' a 0 → Q (.ref a.s) H'
/-- a draw: a number below many; the dict and the list of what is left are written -/
def spDraw : Sp := fun vs H Q _ => ∃ (a : RA) (n : Nat) (many : Int), vs = [.ref a.s, .int many] ∧ Rnd H a n ∧ n + 60 ≤ 1000000 ∧ 0 < many ∧ many.natAbs < 2 ^ 200 ∧
  ∀ (r : Int) (H' : Hp), 0 ≤ r → r < many → Rnd H' a (n + 1) → But a H H' → Q (.int r) H'
section
variable {P : Program} {w : World} {K : PySem.W.Frag} {mg : Str → Option Value} {base : Heap}
theorem scMixed : FnScope ["cell", "k"] ["cell", "k"] (defScope sMixed) := ⟨rfl, rfl, rfl, by decide +kernel, rfl, by decide +kernel, by decide +kernel⟩
theorem ok_mixed {f : Addr} {fd : FuncData} (F : Fun K "_law_mixed" "_law_mixed" sMixed f fd) (mI : mg "int" = none) : FnOk P w K mg base CX0 1 f fd ["cell", "k"] spMixed := by
  refine F.ok scMixed (fun vs H Q E h => ?_) (fun cdv A outer s H vs Q E hr h => ?_)
  · obtain ⟨c, k, rfl, _⟩ := h
    rfl
  · obtain ⟨c, k, rfl, h0, h1, q⟩ := h
    refine ⟨_, pss_cons (ps_set (i := 0) scMixed.nd rfl (Or.inl rfl) (pe_op op_mod (pe_callTy call_int1 (by rfl) mI boot_int (pa_cons (pv 0) pa_nil)) pe_int))
      (pss_one (ps_ret (pe_op op_mod (pe_op op_mul (pe_op op_mod (pe_op op_add (pe_op op_add
        (pe_op op_mul (pv 0) (pe_op op_add pe_int (pe_op op_mul (pe_op op_mul pe_int (pv 1)) (pv 1)))) (pe_op op_mul pe_int (pv 1))) pe_int) pe_int) pe_int) pe_int))), ?_⟩
    refine ⟨_, rfl, .inl ⟨c, rfl, _, _, rfl, rfl, (by show (0 : Int) < 2147483647; decide), ?_⟩⟩
    have b0 : 0 ≤ c % 2147483647 := Int.emod_nonneg _ (by decide)
    have b1 : c % 2147483647 < 2147483647 := Int.emod_lt_of_pos _ (by decide)
    refine ⟨_, rfl, _, rfl, _, _, rfl, rfl, .inl ⟨by decide, by decide⟩, _, rfl, _, _, rfl, rfl, .inl ⟨by omega, by omega⟩, _, _, rfl, rfl, _, _, rfl, rfl, .inl ⟨by omega, by omega⟩, ?_⟩
    refine ⟨_, rfl, _, _, rfl, rfl, .inl ⟨by decide, by decide⟩, _, _, rfl, rfl, _, _, rfl, rfl, _, _, rfl, rfl, (by show (0 : Int) < 2147483647; decide), _, _, rfl, rfl, .inr ⟨by decide, by decide⟩, _, _, rfl, rfl, (by show (0 : Int) < 2147483629; decide), ?_⟩
    exact q _ (Int.emod_nonneg _ (by decide)) (Int.emod_lt_of_pos _ (by decide))
/-! _law_begin -/
theorem scBegin : FnScope ["script", "cells", "cell"] ["script"] (defScope sBegin) := ⟨rfl, rfl, rfl, by decide +kernel, rfl, by decide +kernel, by decide +kernel⟩
/-- the lefts of the cells -/
def leftOf (c : Int) : Int := if 1000000000000000000 ≤ c then c else 0
theorem leftOf_nn (c : Int) : 0 ≤ leftOf c := by unfold leftOf; split <;> omega
theorem canLay_ints : ∀ ns : List Int, PyData.canLayAll0 (ns.map PyData.int) = true
  | [] => rfl
  | n :: r => by rw [List.map_cons]; simp only [PyData.canLayAll0, PyData.canLay0, canLay_ints r, Bool.and_self]
theorem depth_ints : ∀ ns : List Int, PyData.depthAll (ns.map PyData.int) = 0
  | [] => rfl
  | n :: r => by rw [List.map_cons]; simp only [PyData.depthAll, PyData.depth, depth_ints r, Nat.max_self]
theorem shaped_ints (ns : List Int) : SeqAt.shaped (.list (ns.map PyData.int)) = true := by
  unfold SeqAt.shaped
  simp only [PyData.canLay0, PyData.depth, canLay_ints, depth_ints]
  decide
theorem dpAll_ints {K : PySem.W.Frag} {H : Hp} : ∀ ns : List Int, DpAll K H (ns.map V.int) (ns.map PyData.int)
  | [] => .nil
  | n :: r => .cons (.int n) (dpAll_ints r)
end
end SW



set_option Elab.async false
set_option maxRecDepth 100000
namespace SW
open PySem PySem.Spec PyProof.Rows L2
section
variable {P : Program} {w : World} {K : PySem.W.Frag} {mg : Str → Option Value} {base : Heap}
theorem eqv_ints_nil : ∀ ns : List Int, (!PyData.eqv (.list (ns.map PyData.int)) (.list [])) = decide (ns ≠ [])
  | [] => by simp [PyData.eqv, PyData.eqvAll]
  | n :: r => by simp [PyData.eqv, PyData.eqvAll]
theorem ok_begin {f : Addr} {fd : FuncData} (F : Fun K "_law_begin" "_law_begin" sBegin f fd) (mL : mg "list" = none) : FnOk P w K mg base CX0 1 f fd ["script"] (spBegin K) := by
  refine F.ok scBegin (fun vs H Q E h => ?_) (fun cdv A outer s H vs Q E hr h => ?_)
  · obtain ⟨a, ns, rfl, _⟩ := h
    rfl
  · obtain ⟨a, ns, rfl, hS, hl, k⟩ := h
    have hu := hr.units
    refine ⟨_, C8.pss_cut (ps_set (i := 1) scBegin.nd rfl (Or.inl rfl) (pe_ifExp (pt_cmpR (op_neD hu) (pv 0) (pe_lst pa_nil) (nomark _))
        (pe_callTy call_list_of (by rfl) mL boot_list (pa_cons (pv 0) pa_nil)) (pe_lst (pa_cons pe_int pa_nil))))
      (pss_one (ps_ret (pe_disp (pps_cons pe_str (pv 1) (pps_cons pe_str
        (pe_lc (own := [("cell", 2)]) (g := gName 2) (tt := tYes) rfl scBegin.nd (pi_list (pv 1)) (blkOk_by (N := ["script", "cells", "cell"]) (sc := defScope sBegin) (by decide +kernel))
          (fun _ _ _ _ _ => pg_name (i := 2) scBegin.nd rfl (Or.inl rfl)) (fun _ _ _ _ _ => pts_nil)
          (fun _ _ _ _ _ => pe_ifExp (pt_cmpR op_ge (pv 2) (pe_op op_pow pe_int pe_int) (nomark _)) (pv 2) pe_int))
        (pps_cons pe_str pe_int (pps_cons pe_str pe_int pps_nil)))) rfl rfl (by simp) (by decide)))), ?_⟩
    refine ⟨fun σ H1 => ∃ (c : Addr) (ms : List Int), σ = [some (.ref a), some (.ref c), none] ∧ Same H H1 ∧ H1 c = some (.lst (ms.map V.int)) ∧ 0 < ms.length ∧ ms.length ≤ 63, ?_, ?_⟩
    · refine ⟨_, rfl, Nat.zero_le _, fun p hp => ?_⟩
      have s1 : Same H (upd H p (.lst [])) := fun b o e => by
        rw [upd_ne (ne_of_none e hp)]
        exact e
      refine ⟨.list (ns.map .int), .list [], .lst (s1.seq hS) (dpAll_ints ns), .lst (SqL.of upd_same) .nil, shaped_ints ns, shaped_ints [], _, rfl, ?_⟩
      rw [eqv_ints_nil]
      refine ite2 (fun h => ?_) (fun h => ?_)
      · have hn : ns ≠ [] := of_decide_eq_true h
        refine ⟨_, rfl, _, _, rfl, .inl (s1.seq hS), fun l hl' => ?_⟩
        refine ⟨l, ns, rfl, fun b o e => ?_, upd_same, List.length_pos_iff.mpr hn, hl⟩
        rw [upd_ne (ne_of_none (s1 b o e) hl')]
        exact s1 b o e
      · refine ⟨(by show 1 ≤ sizeLine; decide), fun l hl' => ?_⟩
        refine ⟨l, [0], rfl, fun b o e => ?_, upd_same, (by decide), (by decide)⟩
        rw [upd_ne (ne_of_none (s1 b o e) hl')]
        exact s1 b o e
    · rintro σ H1 ⟨c, ms, rfl, s1, hc, h0, h1⟩
      intro p hp
      have s2 : Same H1 (upd H1 p (.dK [])) := fun b o e => by
        rw [upd_ne (ne_of_none e hp)]
        exact e
      refine ⟨_, rfl, ?_⟩
      refine ⟨_, rfl, c, rfl, ⟨_, s2.seq (SqL.of hc)⟩, fun D hD => ?_⟩
      have npD : p ≠ D := ne_of_none upd_same hD
      have hD1 : H1 D = none := by
        have z := hD
        rw [upd_ne npD.symm] at z
        exact z
      refine lc_list (K := K) (a := c) (xs := ms.map V.int) (fun i H2 => H2 p = some (.dK []) ∧ Same H1 H2 ∧ H2 D = some (.lst ((ms.take i).map fun z => V.int (leftOf z))))
        ⟨by rw [upd_ne npD, upd_same], fun b o e => by rw [upd_ne (ne_of_none e hD1)]; exact s2 b o e, upd_same⟩ (fun i H2 _ ⟨_, s3, _⟩ => s3.seq (SqL.of hc)) ?_ ?_
      · rintro i y H2 hi ⟨e1, s3, e2⟩
        obtain ⟨z, hz, rfl⟩ := int_at hi
        have hil : i < ms.length := (List.getElem?_eq_some_iff.mp hz).1
        have more : ∀ v : V, v = V.int (leftOf z) → (upd H2 D (.lst ((ms.take i).map (fun z => V.int (leftOf z)) ++ [v]))) D = some (.lst ((ms.take (i + 1)).map fun z => V.int (leftOf z))) := fun v ev => by
          rw [upd_same, List.take_add_one, hz, List.map_append, ev]
          all_goals rfl
        have keep : ∀ o, Same H1 (upd H2 D o) := fun o b u e => by
          rw [upd_ne (ne_of_none e hD1)]
          exact s3 b u e
        have kp : ∀ o, (upd H2 D o) p = some (.dK []) := fun o => by
          rw [upd_ne npD]
          exact e1
        have lt : ((ms.take i).map fun z => V.int (leftOf z)).length < sizeLine := small1000 (by rw [List.length_map, List.length_take]; omega)
        refine ⟨rfl, ?_⟩
        refine tyes ?_
        refine ⟨_, rfl, _, _, rfl, rfl, ⟨by decide, by decide, by decide⟩, _, _, rfl, rfl, _, rfl, ?_⟩
        refine ite2 (fun h => ?_) (fun h => ?_)
        · have h' : (1000000000000000000 : Int) ≤ z := of_decide_eq_true h
          exact ⟨_, rfl, _, e2, lt, kp _, keep _, more _ (by unfold leftOf; rw [if_pos h'])⟩
        · have h' : ¬ (1000000000000000000 : Int) ≤ z := fun q => h (decide_eq_true q)
          exact ⟨_, e2, lt, kp _, keep _, more _ (by unfold leftOf; rw [if_neg h'])⟩
      · rintro H2 ⟨e1, s3, e2⟩
        rw [List.length_map, List.take_length] at e2
        refine ⟨e1, rk c D 0, rfl, (by show 4 ≤ 15; decide), ?_⟩
        have hp1 : H p = none := s1.free hp
        have hD0 : H D = none := s1.free hD1
        have sp : Same H1 (upd H2 p (.dK (mergeK [] (rk c D 0)))) := fun b o e => by
          rw [upd_ne (ne_of_none e hp)]
          exact s3 b o e
        refine k ⟨p, D, c, 0⟩ _ (s1.trans sp) hp1 hD0 ⟨ms, ms.map leftOf, ?_, sp _ _ hc, ?_, by rw [List.length_map], h0, h1, fun x hx => ?_, ?_, ?_⟩
        · show (upd H2 p _) p = _
          rw [upd_same]
          all_goals rfl
        · show (upd H2 p _) D = _
          rw [upd_ne npD.symm, e2, List.map_map]
          all_goals rfl
        · obtain ⟨z, _, rfl⟩ := List.mem_map.mp hx
          exact leftOf_nn z
        · exact ne_of_none hc hp
        · exact ne_of_none hc hD1
end
end SW



set_option Elab.async false
set_option maxRecDepth 100000
namespace SW
open PySem PySem.Spec PyProof.Rows L2
theorem rk_cells (c l : Addr) (n : Nat) (rm : Int) : valV (rk c l n rm) (.inr "cells") = some (.ref c) := by with_unfolding_all rfl
theorem rk_lefts (c l : Addr) (n : Nat) (rm : Int) : valV (rk c l n rm) (.inr "lefts") = some (.ref l) := by with_unfolding_all rfl
theorem rk_at (c l : Addr) (n : Nat) (rm : Int) : valV (rk c l n rm) (.inr "at") = some (.int (n : Int)) := by with_unfolding_all rfl
theorem rk_put (c l : Addr) (n : Nat) (rm : Int) : putK (rk c l n rm) (.inr "at") (.int ((n : Int) + 1)) = rk c l (n + 1) rm := by
  have e : ((n + 1 : Nat) : Int) = (n : Int) + 1 := by omega
  unfold rk
  rw [e]
  with_unfolding_all rfl
section
variable {P : Program} {w : World} {K : PySem.W.Frag} {mg : Str → Option Value} {base : Heap}
theorem scDraw : FnScope ["state", "many", "at", "place", "left", "number"] ["state", "many"] (defScope sDraw) := ⟨rfl, rfl, rfl, by decide +kernel, rfl, by decide +kernel, by decide +kernel⟩
theorem ok_draw {f fM : Addr} {fd fdM : FuncData} (F : Fun K "_law_draw" "_law_draw" sDraw f fd) (GM : FnOk P w K mg base CX0 1 fM fdM ["cell", "k"] spMixed) (bM : Binds K fdM ["cell", "k"] []) (gM : mg "_law_mixed" = some (.ref fM)) (kM : PySem.W.keepIn K (.ref fM) = true)
    (mI : mg "int" = none) (mL : mg "len" = none) : FnOk P w K mg base CX0 2 f fd ["state", "many"] spDraw := by
  refine F.ok scDraw (fun vs H Q E h => ?_) (fun cdv A outer s H vs Q E hr h => ?_)
  · obtain ⟨a, n, many, rfl, _⟩ := h
    rfl
  · obtain ⟨⟨a, l, c, rm⟩, n, many, rfl, ⟨ns, ls, hd, hc, hls, e1, e2, e3, e4, e5, e6⟩, hn, hm, hm2, k⟩ := h
    dsimp only at hd hc hls e5 e6
    have hu := hu_of hr
    have nal : a ≠ l := ne_of hd hls (by intro z; cases z)
    refine ⟨_, pss_cons (ps_set (i := 2) scDraw.nd rfl (Or.inl rfl) (pe_dget hu (pv 0) pe_str (fun _ _ => rfl)))
      (pss_cons (ps_dput hu (pv 0) pe_str (pe_op op_add (pv 2) pe_int) rfl)
      (pss_cons (ps_set (i := 3) scDraw.nd rfl (Or.inl rfl) (pe_op op_mod (pe_callTy call_int1 (by rfl) mI boot_int (pa_cons (pv 2) pa_nil)) (pe_callB call_len_seq (by rfl) mL boot_len (pa_cons (pe_dget hu (pv 0) pe_str (fun _ _ => rfl)) pa_nil))))
      (pss_cons (ps_set (i := 4) scDraw.nd rfl (Or.inl rfl) (pe_ix ix_list (pe_dget hu (pv 0) pe_str (fun _ _ => rfl)) (pv 3) (fun _ _ => rfl)))
      (pss_cons (ps_if (pt_cmpR op_gt (pv 4) pe_int (nomark _))
        (pss_cons (ps_asg (pe_op op_fdivW (pv 4) (pv 1)) (pg_sub (pe_dget hu (pv 0) pe_str (fun _ _ => rfl)) (pv 3) set_list))
        (pss_one (ps_ret (pe_op op_mod (pe_callTy call_int1 (by rfl) mI boot_int (pa_cons (pv 4) pa_nil)) (pv 1))))) pss_nil)
      (pss_cons (ps_set (i := 5) scDraw.nd rfl (Or.inl rfl) (pe_call GM hr rfl gM kM bM .nil pass0
        (pa_cons (pe_call GM hr rfl gM kM bM .nil pass0 (pa_cons (pe_ix ix_list (pe_dget hu (pv 0) pe_str (fun _ _ => rfl)) (pv 3) (fun _ _ => rfl)) (pa_cons (pv 2) pa_nil))) (pa_cons (pe_op op_add pe_int (pv 2)) pa_nil))))
      (pss_one (ps_ret (pe_op op_mod (pe_op op_fdiv (pe_callTy call_int1 (by rfl) mI boot_int
        (pa_cons (pe_op op_add (pe_op op_mul (pv 5) pe_int) (pe_call GM hr rfl gM kM bM .nil pass0 (pa_cons (pv 5) (pa_cons (pe_op op_add pe_int (pv 2)) pa_nil)))) pa_nil)) pe_int) (pv 1))))))))), ?_⟩
    -- at = state["at"]
    refine ⟨_, rfl, a, _, rfl, (rk_at c l n rm) ▸ DGet.k (k := Sum.inr "at") hd, ?_⟩
    -- state["at"] = at + 1
    refine ⟨_, rfl, _, _, rfl, rfl, _, rfl, a, _, rfl, DPut.k (k := Sum.inr "at") hd (small1000 (by show 4 ≤ 1000; decide)), ?_⟩
    rw [rk_put]
    have d1 : (upd H a (.dK (rk c l (n + 1) rm))) a = some (.dK (rk c l (n + 1) rm)) := upd_same
    have c1 : (upd H a (.dK (rk c l (n + 1) rm))) c = some (.lst (ns.map V.int)) := by
      rw [upd_ne e5]
      exact hc
    have l1 : (upd H a (.dK (rk c l (n + 1) rm))) l = some (.lst (ls.map V.int)) := by
      rw [upd_ne nal.symm]
      exact hls
    have b1 : But ⟨a, l, c, rm⟩ H (upd H a (.dK (rk c l (n + 1) rm))) := fun b o e h1 _ => by
      rw [upd_ne h1]
      exact e
    generalize upd H a (.dK (rk c l (n + 1) rm)) = H1 at d1 c1 l1 b1 ⊢
    -- place
    have hpos : (0 : Int) < (((ns.map V.int).length : Nat) : Int) := by rw [List.length_map]; omega
    refine ⟨_, rfl, .inl ⟨(n : Int), rfl, _, rfl, a, _, rfl, (rk_cells c l (n + 1) rm) ▸ DGet.k (k := Sum.inr "cells") d1, c, _, rfl, .inl (SqL.of c1), _, _, rfl, rfl, hpos, ?_⟩⟩
    obtain ⟨j, hj, hjl⟩ : ∃ j : Nat, (n : Int) % (((ns.map V.int).length : Nat) : Int) = (j : Int) ∧ j < ns.length := by
      refine ⟨n % ns.length, ?_, Nat.mod_lt _ e2⟩
      rw [List.length_map]
      omega
    have hL : (ls.map V.int)[j]? = some (V.int (ls[j]'(by omega))) := by
      rw [List.getElem?_map, List.getElem?_eq_getElem (by omega)]
      all_goals rfl
    have hC : (ns.map V.int)[j]? = some (V.int (ns[j]'hjl)) := by
      rw [List.getElem?_map, List.getElem?_eq_getElem hjl]
      all_goals rfl
    have left0 : 0 ≤ ls[j]'(by omega) := e4 _ (List.getElem_mem _)
    generalize ls[j]'(by omega) = left at hL left0
    generalize ns[j]'hjl = cell at hC
    -- left
    refine ⟨_, rfl, a, _, rfl, (rk_lefts c l (n + 1) rm) ▸ DGet.k (k := Sum.inr "lefts") d1, _, rfl, l, _, _, _, rfl, rfl, SqL.of l1, at_of hj hL, ?_⟩
    refine ⟨_, rfl, _, _, rfl, rfl, _, rfl, ?_⟩
    refine ite2 (fun h => ?_) (fun h => ?_)
    · -- a digit of the great cell
      have hlog : CDivW left many := wide_div hm hm2 (by decide) (by decide)
      refine ⟨_, rfl, _, rfl, _, _, rfl, rfl, hlog, ?_⟩
      refine ⟨_, rfl, a, _, rfl, (rk_lefts c l (n + 1) rm) ▸ DGet.k (k := Sum.inr "lefts") d1, _, rfl, l, _, _, j, rfl, rfl, l1, ?_, ?_⟩
      · show ixN (ls.map V.int).length ((n : Int) % (((ns.map V.int).length : Nat) : Int)) = some j
        rw [hj, List.length_map]
        unfold ixN
        rw [if_pos (by omega), if_pos (by omega)]
        rfl
      refine ⟨_, rfl, .inl ⟨left, rfl, _, rfl, _, _, rfl, rfl, hm, ?_⟩⟩
      have e0 : 0 ≤ left / many := Int.ediv_nonneg left0 (Int.le_of_lt hm)
      refine k _ _ (Int.emod_nonneg _ (by omega)) (Int.emod_lt_of_pos _ hm) ⟨ns, ls.set j (left / many), by rw [upd_ne nal]; exact d1, by rw [upd_ne e6]; exact c1, ?_, by rw [List.length_set]; exact e1, e2, e3, fun x hx => ?_, e5, e6⟩ fun b o e h1 h2 => ?_
      · rw [upd_same, List.map_set]
      · rcases List.mem_or_eq_of_mem_set hx with z | z
        · exact e4 x z
        · rw [z]
          exact e0
      · rw [upd_ne h2]
        exact b1 b o e h1 h2
    · -- mixed
      refine ⟨_, rfl, a, _, rfl, (rk_cells c l (n + 1) rm) ▸ DGet.k (k := Sum.inr "cells") d1, _, rfl, c, _, _, _, rfl, rfl, SqL.of c1, at_of hj hC, _, rfl, ?_⟩
      refine ⟨cell, (n : Int), rfl, by omega, by omega, fun r1 _ _ => ?_⟩
      refine ⟨_, rfl, _, _, rfl, rfl, ?_⟩
      refine ⟨r1, (40 : Int) + (n : Int), rfl, by omega, by omega, fun r2 r20 r2l => ?_⟩
      refine ⟨_, rfl, _, _, rfl, rfl, .inl ⟨by omega, by omega⟩, _, rfl, _, rfl, _, _, rfl, rfl, ?_⟩
      refine ⟨r2, (7 : Int) + (n : Int), rfl, by omega, by omega, fun r3 _ _ => ?_⟩
      refine ⟨_, _, rfl, rfl, .inl ⟨_, rfl, _, _, rfl, rfl, ⟨by decide, by decide⟩, _, rfl, _, _, rfl, rfl, hm, ?_⟩⟩
      exact k _ _ (Int.emod_nonneg _ (by omega)) (Int.emod_lt_of_pos _ hm) ⟨ns, ls, d1, c1, l1, e1, e2, e3, e4, e5, e6⟩ b1
end
end SW



set_option Elab.async false
set_option maxRecDepth 100000
/-! Names that are drawn: _law_name. -/
namespace SW
open PySem PySem.Spec PyProof.Rows L2
abbrev sName : Stmt := top 64
/-- a word of 1 to 8 letters a to z -/
def isNmB (z : Str) : Bool := decide (1 ≤ z.length) && decide (z.length ≤ 8) && z.cps.toList.all fun c => decide (97 ≤ c) && decide (c ≤ 122)
def isNm (z : Str) : Prop := isNmB z = true
def alpha : Str := "abcdefghijklmnopqrstuvwxyz"
theorem alpha_at : ∀ i : Fin 26, ∃ c, alpha.cps.toList[i.1]? = some c ∧ 97 ≤ c ∧ c ≤ 122 := by decide +kernel
def own1 : Str := "set hold reset drop show copy within if with guard loop leave yield fail make step close"
def own2 : Str := "vars piece context token unset used empty over ended shown failed"
def few : List Str := ["x", "y", "a", "b", "c", "t", "g", "ab", "abcdefgh"]
theorem few_ok : few.all isNmB = true := by decide +kernel
def owns : List Str := Txt.split own1 " " ++ Txt.split own2 " "
theorem owns_ok : owns.all isNmB = true ∧ owns.length = 28 := by decide +kernel
theorem nm_at {l : List Str} (h : l.all isNmB = true) {i : Nat} (hi : i < l.length) : ∃ z, (l.map V.str)[i]? = some (.str z) ∧ isNm z := by
  refine ⟨l[i], ?_, ?_⟩
  · rw [List.getElem?_map, List.getElem?_eq_getElem hi]
    rfl
  · exact List.all_eq_true.mp h _ (List.getElem_mem _)
theorem at_any {α : Type} {xs : List α} {z : Int} {j : Nat} {v : α} (e : z = (j : Int)) (h : xs[j]? = some v) : atI xs z = some v := by
  subst e
  exact atI_nat h
/-- a text of one sign for each code -/
def sgn (c : Nat) : Str := ⟨#[c]⟩
theorem fold_sgn : ∀ (rest : List Nat) (acc : Array Nat), (rest.map sgn).foldl (fun (acc : Array Nat) (p : Str) => acc ++ (Str.ofString "").cps ++ p.cps) acc = acc ++ rest.toArray
  | [], acc => by simp
  | c :: r, acc => by
    rw [List.map_cons, List.foldl_cons, fold_sgn r]
    have e : (Str.ofString "").cps = #[] := by decide +kernel
    rw [e]
    apply Array.ext'
    simp [sgn]
theorem join_sgn (cs : List Nat) : Txt.join (Str.ofString "") (cs.map sgn) = ⟨cs.toArray⟩ := by
  unfold Txt.join Builtin.Str.glued
  cases cs with
  | nil => rfl
  | cons c r =>
    rw [List.map_cons, List.drop_one, List.tail_cons, fold_sgn r]
    congr 1
    apply Array.ext'
    simp [sgn]
theorem sum_sgn : ∀ cs : List Nat, ((cs.map sgn).map fun x => x.length).sum = cs.length
  | [] => rfl
  | c :: r => by
    rw [List.map_cons, List.map_cons, List.sum_cons, sum_sgn r, List.length_cons]
    show 1 + r.length = _
    omega
theorem nm_cs {cs : List Nat} (h1 : 1 ≤ cs.length) (h2 : cs.length ≤ 8) (h : ∀ c ∈ cs, 97 ≤ c ∧ c ≤ 122) : isNm ⟨cs.toArray⟩ := by
  unfold isNm isNmB
  rw [Bool.and_eq_true, Bool.and_eq_true, List.all_eq_true]
  refine ⟨⟨decide_eq_true ?_, decide_eq_true ?_⟩, fun c hc => ?_⟩
  · show 1 ≤ cs.toArray.size
    rw [List.size_toArray]
    exact h1
  · show cs.toArray.size ≤ 8
    rw [List.size_toArray]
    exact h2
  · have z := h c (by simpa using hc)
    rw [Bool.and_eq_true]
    exact ⟨decide_eq_true z.1, decide_eq_true z.2⟩
/-- a name: some word; the draws are counted -/
def spName : Sp := fun vs H Q _ => ∃ (a : RA) (n : Nat), vs = [.ref a.s] ∧ Rnd H a n ∧ n + 100 ≤ 1000000 ∧
  ∀ (z : Str) (n' : Nat) (H' : Hp), isNm z → n' ≤ n + 10 → Rnd H' a n' → But a H H' → Q (.str z) H'
section
variable {P : Program} {w : World} {K : PySem.W.Frag} {mg : Str → Option Value} {base : Heap}
theorem scName : FnScope ["state", "few", "own", "way", "k"] ["state"] (defScope sName) := ⟨rfl, rfl, rfl, by decide +kernel, rfl, by decide +kernel, by decide +kernel⟩
theorem ok_name {f fD : Addr} {fd fdD : FuncData} (F : Fun K "_law_name" "_law_name" sName f fd) (GD : FnOk P w K mg base CX0 2 fD fdD ["state", "many"] spDraw) (bD : Binds K fdD ["state", "many"] []) (gD : mg "_law_draw" = some (.ref fD)) (kD : PySem.W.keepIn K (.ref fD) = true)
    (mR : mg "range" = none) : FnOk P w K mg base CX0 3 f fd ["state"] spName := by
  refine F.ok scName (fun vs H Q E h => ?_) (fun cdv A outer s H vs Q E hr h => ?_)
  · obtain ⟨a, n, rfl, _⟩ := h
    rfl
  · obtain ⟨a, n, rfl, R, hn, k⟩ := h
    refine ⟨_, pss_cons (ps_set (i := 1) scName.nd rfl (Or.inl rfl) (pe_lst (pa_cons pe_str (pa_cons pe_str (pa_cons pe_str (pa_cons pe_str (pa_cons pe_str (pa_cons pe_str (pa_cons pe_str (pa_cons pe_str (pa_cons pe_str pa_nil)))))))))))
      (pss_cons (ps_set (i := 2) scName.nd rfl (Or.inl rfl) (pe_split pe_str pe_str))
      (C8.pss_cut (ps_set (i := 2) scName.nd rfl (Or.inl rfl) (pe_op op_cat (pv 2) (pe_split pe_str pe_str)))
      (pss_cons (ps_set (i := 3) scName.nd rfl (Or.inl rfl) (pe_call GD hr rfl gD kD bD .nil pass0 (pa_cons (pv 0) (pa_cons pe_int pa_nil))))
      (pss_cons (ps_if (pt_cmpR op_lt (pv 3) pe_int (nomark _)) (pss_one (ps_ret (pe_ifExp (pt_cmpR op_eq (pv 3) pe_int (nomark _))
          (pe_ix ix_list (pv 1) (pe_call GD hr rfl gD kD bD .nil pass0 (pa_cons (pv 0) (pa_cons pe_int pa_nil))) (fun _ _ => rfl))
          (pe_ix ix_list (pv 2) (pe_call GD hr rfl gD kD bD .nil pass0 (pa_cons (pv 0) (pa_cons pe_int pa_nil))) (fun _ _ => rfl))))) pss_nil)
      (pss_one (ps_ret (pe_join pe_str (pe_lc (own := [("k", 4)]) (g := gName 4) (tt := tYes) rfl scName.nd
          (pi_range1 rfl mR (pa_cons (pe_op op_add pe_int (pe_call GD hr rfl gD kD bD .nil pass0 (pa_cons (pv 0) (pa_cons pe_int pa_nil)))) pa_nil))
          (blkOk_by (N := ["state", "few", "own", "way", "k"]) (sc := defScope sName) (by decide +kernel))
          (fun _ _ _ _ _ => pg_name (i := 4) scName.nd rfl (Or.inl rfl)) (fun _ _ _ _ _ => pts_nil)
          (fun _ _ _ _ _ => pe_ix ix_str pe_str (pe_call GD hr rfl gD kD bD .nil pass0 (pa_cons (pv 0) (pa_cons pe_int pa_nil))) (fun _ _ => rfl)))))))))), ?_⟩
    -- few
    refine ⟨(by show 9 ≤ sizeLine; decide), fun p1 np1 => ?_⟩
    -- own
    refine ⟨⟨_, rfl⟩, _, _, rfl, rfl, by decide +kernel, by decide +kernel, fun p2 np2 => ?_⟩
    refine ⟨fun σ H4 => ∃ p1 p4, σ = [some (.ref a.s), some (.ref p1), some (.ref p4), none, none] ∧ Same H H4 ∧ H4 p1 = some (.lst (few.map V.str)) ∧ H4 p4 = some (.lst (owns.map V.str)) ∧ Off a p1 ∧ Off a p4, ?_, ?_⟩
    · refine ⟨_, rfl, ⟨_, rfl⟩, _, _, rfl, rfl, by decide +kernel, by decide +kernel, fun p3 np3 => ?_⟩
      have n23 : p2 ≠ p3 := ne_of_none upd_same np3
      refine ⟨_, _, _, _, rfl, rfl, (upd_ne n23).trans upd_same, upd_same, by decide +kernel, fun p4 np4 => ?_⟩
      refine ⟨p1, p4, rfl, ((((same_new np1).trans (same_new np2)).trans (same_new np3)).trans (same_new np4)), (((same_new np2).trans (same_new np3)).trans (same_new np4)) p1 _ upd_same, ?_, R.off np1, (R.same (((same_new np1).trans (same_new np2)).trans (same_new np3))).off np4⟩
      rw [upd_same]
      unfold owns
      rw [List.map_append]
      rfl
    rintro σ H4 ⟨p1, p4, rfl, sA, hF, hO, nF, nO⟩
    have R4 := R.same sA
    have b4 : But a H H4 := Same.but sA
    -- way
    refine ⟨_, rfl, a, n, 3, rfl, R4, by omega, by decide, by decide, fun way H5 w0 wl R5 b5 => ?_⟩
    refine ⟨_, rfl, _, _, rfl, rfl, _, rfl, ?_⟩
    refine ite2 (fun h => ?_) (fun h => ?_)
    · refine ⟨_, rfl, rfl, _, rfl, ?_⟩
      refine ite2 (fun h => ?_) (fun h => ?_)
      · refine ⟨_, rfl, _, rfl, a, n + 1, 9, rfl, R5, by omega, by decide, by decide, fun i H6 i0 il R6 b6 => ?_⟩
        obtain ⟨z, hz, nz⟩ := nm_at few_ok (i := i.toNat) (by show i.toNat < 9; omega)
        exact ⟨p1, _, _, _, rfl, rfl, SqL.of (b6.at nF (b5.at nF hF)), at_of (by omega) hz, k z _ H6 nz (by omega) R6 ((b4.trans b5).trans b6)⟩
      · refine ⟨_, rfl, _, rfl, a, n + 1, 27, rfl, R5, by omega, by decide, by decide, fun i H6 i0 il R6 b6 => ?_⟩
        obtain ⟨z, hz, nz⟩ := nm_at owns_ok.1 (i := i.toNat) (by rw [owns_ok.2]; omega)
        exact ⟨p4, _, _, _, rfl, rfl, SqL.of (b6.at nO (b5.at nO hO)), at_of (by omega) hz, k z _ H6 nz (by omega) R6 ((b4.trans b5).trans b6)⟩
    · -- any letters
      refine ⟨⟨_, rfl⟩, _, rfl, a, n + 1, 8, rfl, R5, by omega, by decide, by decide, fun m H6 m0 ml R6 b6 => ?_⟩
      refine ⟨_, _, rfl, rfl, (1 : Int) + m, rfl, by omega, by omega, fun D nD => ?_⟩
      have nD2 := R6.off nD
      have bA := (b4.trans b5).trans b6
      have nDH := bA.free nD2 nD
      refine lc_range (lo := 0) (n := ((1 : Int) + m).toNat) (fun i H7 => ∃ (cs : List Nat), H7 D = some (.lst ((cs.map sgn).map V.str)) ∧ cs.length = i ∧ (∀ c ∈ cs, 97 ≤ c ∧ c ≤ 122) ∧ Rnd H7 a (n + 1 + 1 + i) ∧ But a H H7)
        ⟨[], upd_same, rfl, fun _ h => by simp at h, R6.same (same_new nD), ((b4.trans b5).trans b6).trans (Same.but (same_new nD))⟩ ?_ ?_
      · rintro i H7 hi ⟨cs, e1, e2, e3, R7, b7⟩
        refine ⟨rfl, ?_⟩
        refine tyes ?_
        refine ⟨_, rfl, a, n + 1 + 1 + i, 26, rfl, R7, by omega, by decide, by decide, fun r H8 r0 rl R8 b8 => ?_⟩
        obtain ⟨c, hc, c1, c2⟩ := alpha_at ⟨r.toNat, by omega⟩
        have e8 := b8.at nD2 e1
        refine ⟨_, _, c, rfl, rfl, by decide +kernel, at_any (by show r = ((r.toNat : Nat) : Int); omega) hc, _, e8, small1000 (by rw [List.length_map, List.length_map]; omega), ?_⟩
        refine ⟨cs ++ [c], ?_, by rw [List.length_append, e2]; rfl, fun x hx => ?_, R8.upd nD2, (b7.trans b8).new nDH⟩
        · rw [upd_same, List.map_append, List.map_append]
          rfl
        · rcases List.mem_append.mp hx with z | z
          · exact e3 x z
          · rw [List.mem_singleton.mp z]
            exact ⟨c1, c2⟩
      · rintro H7 ⟨cs, e1, e2, e3, R7, b7⟩
        refine ⟨_, D, cs.map sgn, rfl, rfl, .inl (SqL.of e1), ?_, ?_⟩
        · have el : (Str.ofString "").length = 0 := by decide +kernel
          rw [el, Nat.mul_zero, Nat.add_zero, sum_sgn]
          omega
        · rw [join_sgn]
          exact k _ _ H7 (nm_cs (by omega) (by omega) e3) (by omega) R7 b7
end
end SW



set_option Elab.async false
set_option maxRecDepth 100000
/-! Different names: _law_names. -/
namespace SW
open PySem PySem.Spec PyProof.Rows L2
abbrev sNames : Stmt := top 65
/-- a list without repeats within another one is no longer -/
theorem nodup_le {α : Type} [BEq α] [LawfulBEq α] : ∀ {ws zs : List α}, ws.Nodup → (∀ w ∈ ws, w ∈ zs) → ws.length ≤ zs.length
  | [], _, _, _ => Nat.zero_le _
  | w :: r, zs, hn, h => by
    obtain ⟨h1, h2⟩ := List.nodup_cons.mp hn
    have hw := h w List.mem_cons_self
    have ih := nodup_le (zs := zs.erase w) h2 fun x hx => (List.mem_erase_of_ne (fun e : x = w => h1 (by rw [← e]; exact hx))).mpr (h x (List.mem_cons_of_mem _ hx))
    rw [List.length_erase_of_mem hw] at ih
    have := List.length_pos_of_mem hw
    rw [List.length_cons]
    omega
theorem some_out {α : Type} [BEq α] [LawfulBEq α] {ws zs : List α} (hn : ws.Nodup) (h : zs.length < ws.length) : ∃ w ∈ ws, w ∉ zs := by
  by_cases q : ∃ w ∈ ws, w ∉ zs
  · exact q
  · have := nodup_le hn fun w hw => Classical.byContradiction fun z => q ⟨w, hw, z⟩
    omega
def qw (j : Nat) : Str := Str.ofString "q" ++ (⟨#[97 + j]⟩ : Str)
def qs : List Str := (List.range 26).map qw
theorem qs_ok : qs.length = 26 ∧ qs.all isNmB = true ∧ qs.Nodup := by decide +kernel
theorem alpha_qs : ∀ i : Fin 26, ∃ c, alpha.cps.toList[i.1]? = some c ∧ qs[i.1]? = some (Str.ofString "q" ++ (⟨#[c]⟩ : Str)) := by decide +kernel
theorem inV_str (z : Str) : ∀ zs : List Str, inV (.str z) (zs.map V.str) = decide (z ∈ zs)
  | [] => rfl
  | y :: r => by
    have ih := inV_str z r
    unfold inV at ih ⊢
    rw [List.map_cons, List.any_cons, ih]
    show (y == z || decide (z ∈ r)) = _
    by_cases e : y = z
    · simp [e]
    · have e' : ¬ z = y := fun q => e q.symm
      simp [e, e', List.mem_cons]
theorem flat_strs : ∀ zs : List Str, (zs.map V.str).all flatV = true
  | [] => rfl
  | y :: r => by
    rw [List.map_cons, List.all_cons, flat_strs r]
    rfl
theorem str_at {zs : List Str} {i : Nat} {y : V} (h : (zs.map V.str)[i]? = some y) : ∃ z, zs[i]? = some z ∧ y = V.str z := by
  rw [List.getElem?_map] at h
  cases e : zs[i]? with
  | none =>
    rw [e] at h
    cases h
  | some z =>
    rw [e] at h
    exact ⟨z, rfl, (Option.some.inj h).symm⟩
theorem filt_pos {α : Type} {p : α → Bool} {l : List α} {x : α} (h : p x = true) : (l ++ [x]).filter p = l.filter p ++ [x] := by
  rw [List.filter_append]
  simp [List.filter, h]
theorem filt_neg {α : Type} {p : α → Bool} {l : List α} {x : α} (h : p x = false) : (l ++ [x]).filter p = l.filter p := by
  rw [List.filter_append]
  simp [List.filter, h]
/-- so many different names -/
def spNames : Sp := fun vs H Q _ => ∃ (a : RA) (n m : Nat), vs = [.ref a.s, .int (m : Int)] ∧ Rnd H a n ∧ m ≤ 9 ∧ n + 1000 ≤ 1000000 ∧
  ∀ (p : Addr) (zs : List Str) (n' : Nat) (H' : Hp), H p = none → Off a p → H' p = some (.lst (zs.map V.str)) → zs.length = m → zs.Nodup → (∀ z ∈ zs, isNm z) → n' ≤ n + 10 * m → Rnd H' a n' → But a H H' → Q (.ref p) H'
section
variable {P : Program} {w : World} {K : PySem.W.Frag} {mg : Str → Option Value} {base : Heap}
theorem scNames : FnScope ["state", "many", "found", "k", "name", "some", "j", "one"] ["state", "many"] (defScope sNames) := ⟨rfl, rfl, rfl, by decide +kernel, rfl, by decide +kernel, by decide +kernel⟩
theorem ok_names {f fN : Addr} {fd fdN : FuncData} (F : Fun K "_law_names" "_law_names" sNames f fd) (GN : FnOk P w K mg base CX0 3 fN fdN ["state"] spName) (bN : Binds K fdN ["state"] []) (gN : mg "_law_name" = some (.ref fN)) (kN : PySem.W.keepIn K (.ref fN) = true)
    (mR : mg "range" = none) (mL : mg "len" = none) : FnOk P w K mg base CX0 4 f fd ["state", "many"] spNames := by
  refine F.ok scNames (fun vs H Q E h => ?_) (fun cdv A outer s H vs Q E hr h => ?_)
  · obtain ⟨a, n, m, rfl, _⟩ := h
    rfl
  · obtain ⟨a, n, m, rfl, R, hm, hn, k⟩ := h
    refine ⟨_, pss_cons (ps_set (i := 2) scNames.nd rfl (Or.inr rfl) (pe_lst pa_nil))
      (pss_cons (ps_for PassesOwn.never rfl (pi_range1 rfl mR (pa_cons (pv 1) pa_nil)) (pg_name (i := 3) scNames.nd rfl (Or.inl rfl))
        (pss_cons (ps_set (i := 4) scNames.nd rfl (Or.inl rfl) (pe_call GN hr rfl gN kN bN .nil pass0 (pa_cons (pv 0) pa_nil)))
        (pss_cons (ps_set (i := 5) scNames.nd rfl (Or.inl rfl) (pe_op op_cat (pe_lst (pa_cons (pv 4) pa_nil))
          (pe_lc (own := [("j", 6)]) (g := gName 6) (tt := tYes) rfl scNames.nd
            (pi_range1 rfl mR (pa_cons (pe_op op_add (pe_callB call_len_seq (by rfl) mL boot_len (pa_cons (pv 2) pa_nil)) pe_int) pa_nil))
            (blkOk_by (N := ["state", "many", "found", "k", "name", "some", "j", "one"]) (sc := defScope sNames) (by decide +kernel))
            (fun _ _ _ _ _ => pg_name (i := 6) scNames.nd rfl (Or.inl rfl)) (fun _ _ _ _ _ => pts_nil)
            (fun _ _ _ _ _ => pe_op op_add_str pe_str (pe_ix ix_str pe_str (pv 6) (fun _ _ => rfl))))))
        (pss_one (ps_expr (pe_bm PySem.F.plainAttrs_list PySem.F.slot_list_append PySem.F.type_list_append mt_append (pv 2) (pa_cons
          (pe_ix ix_list (pe_lc (own := [("one", 7)]) (g := gName 7) (tt := tTest (tOp (rIn K true) (tVar 7) (tVar 2))) rfl scNames.nd (pi_list (pv 5))
            (blkOk_by (N := ["state", "many", "found", "k", "name", "some", "j", "one"]) (sc := defScope sNames) (by decide +kernel))
            (fun _ _ _ _ _ => pg_name (i := 7) scNames.nd rfl (Or.inl rfl)) (fun _ _ _ _ _ => pts_one (pt_cmpR op_notIn_seq (pv 7) (pv 2) rfl))
            (fun _ _ _ _ _ => pv 7)) pe_int (fun _ _ => rfl)) pa_nil)))))))
      (pss_one (ps_ret (pv 2)))), ?_⟩
    -- found = []
    refine ⟨Nat.zero_le _, fun p np => ?_⟩
    have fp := R.off np
    refine ⟨_, rfl, (m : Int), rfl, by omega, by omega, for_range (lo := 0) (n := ((m : Int)).toNat) (fun i σ H' => ∃ (zs : List Str) (n' : Nat) (v3 v4 v5 : Option V), σ = [some (.ref a.s), some (.int (m : Int)), some (.ref p), v3, v4, v5, none, none] ∧
        H' p = some (.lst (zs.map V.str)) ∧ zs.length = i ∧ zs.Nodup ∧ (∀ z ∈ zs, isNm z) ∧ n' ≤ n + 10 * i ∧ Rnd H' a n' ∧ But a H H')
      ⟨[], n, none, none, none, rfl, upd_same, rfl, List.nodup_nil, (fun z h => by simp at h), Nat.le_refl _, R.same (same_new np), Same.but (same_new np)⟩ ?_ ?_⟩
    · rintro i σ H1 hi ⟨zs, n', v3, v4, v5, rfl, ep, el, nd, nm, hn', R1, b1⟩
      have him : i < m := by omega
      -- name = _law_name(state)
      refine ⟨_, rfl, a, n', rfl, R1, by omega, fun z n2 H2 nz hn2 R2 b2 => ?_⟩
      have ep2 := b2.at fp ep
      -- some = [name] + [..]
      refine ⟨_, rfl, (by show 1 ≤ sizeLine; decide), fun p1 np1 => ?_⟩
      have ep3 := same_new (o := .lst [.str z]) np1 _ _ ep2
      have hlen : (((((zs.map V.str).length : Nat) : Int) + 1).toNat) = i + 1 := by rw [List.length_map, el]; omega
      refine ⟨_, rfl, p, _, rfl, .inl (SqL.of ep3), _, _, rfl, rfl, _, rfl, (by rw [List.length_map]; omega), (by rw [List.length_map]; omega), fun D nD => ?_⟩
      refine lc_range (lo := 0) (n := (((((zs.map V.str).length : Nat) : Int) + 1).toNat)) (fun j H3 => H3 D = some (.lst ((qs.take j).map V.str)) ∧ Same (upd H2 p1 (.lst [.str z])) H3) ⟨upd_same, same_new nD⟩ ?_ ?_
      · rintro j H3 hj ⟨e1, s3⟩
        rw [hlen] at hj
        obtain ⟨c, hc, hq⟩ := alpha_qs ⟨j, by omega⟩
        refine ⟨rfl, ?_⟩
        refine tyes ?_
        have lt : ((qs.take j).map V.str).length < sizeLine := small1000 (by rw [List.length_map, List.length_take]; omega)
        refine ⟨_, rfl, _, _, c, rfl, rfl, by decide +kernel, at_any (by show (0 : Int) + (j : Int) = (j : Int); omega) hc, _, _, rfl, rfl, (by show (Str.ofString "q").length + 1 ≤ sizeLine; decide +kernel), _, e1, lt, ?_, Same.new s3 nD⟩
        rw [upd_same, List.take_add_one, hq, List.map_append]
        rfl
      · rintro H3 ⟨e1, s3⟩
        rw [hlen] at e1
        refine ⟨p1, D, _, _, rfl, rfl, s3 _ _ upd_same, e1, ?_, fun p2 np2 => ?_⟩
        · rw [List.length_map, List.length_take, qs_ok.1]
          show 1 + _ ≤ sizeLine
          have h7 : 1 + min (i + 1) 26 ≤ 1000 := by omega
          exact Nat.le_of_lt (small1000 h7)
        have ep4 := same_new (o := .lst ([V.str z] ++ (qs.take (i + 1)).map V.str)) np2 _ _ (s3 _ _ ep3)
        have b4 : But a H (upd H3 p2 (.lst ([V.str z] ++ (qs.take (i + 1)).map V.str))) := (b1.trans b2).trans (Same.but (((same_new np1).trans s3).trans (same_new np2)))
        have R4 : Rnd (upd H3 p2 (.lst ([V.str z] ++ (qs.take (i + 1)).map V.str))) a n2 := R2.same (((same_new np1).trans s3).trans (same_new np2))
        have ew : (upd H3 p2 (.lst ([V.str z] ++ (qs.take (i + 1)).map V.str))) p2 = some (.lst ((z :: qs.take (i + 1)).map V.str)) := upd_same
        generalize (upd H3 p2 (.lst ([V.str z] ++ (qs.take (i + 1)).map V.str))) = H4 at ep4 b4 R4 ew ⊢
        have hws : (qs.take (i + 1)).Nodup := qs_ok.2.2.sublist (List.take_sublist _ _)
        have hwl : (qs.take (i + 1)).length = i + 1 := by rw [List.length_take, qs_ok.1]; omega
        obtain ⟨w0, hw0, hw1⟩ := some_out (zs := zs) hws (by omega)
        have wsN : ∀ y ∈ z :: qs.take (i + 1), isNm y := fun y hy => by
          rcases List.mem_cons.mp hy with e | e
          · rw [e]
            exact nz
          · exact List.all_eq_true.mp qs_ok.2.1 _ (List.mem_of_mem_take e)
        have wsO : ∃ w ∈ z :: qs.take (i + 1), w ∉ zs := ⟨w0, List.mem_cons_of_mem _ hw0, hw1⟩
        have wsL : (z :: qs.take (i + 1)).length ≤ 100 := by rw [List.length_cons, hwl]; omega
        generalize z :: qs.take (i + 1) = ws at ew wsN wsO wsL
        -- found.append([..][0])
        refine ⟨_, rfl, Or.inl ⟨rfl, _, SqL.of ep4⟩, ?_⟩
        refine ⟨_, rfl, p2, rfl, ⟨_, SqL.of ew⟩, fun D2 nD2 => ?_⟩
        refine lc_list (K := K) (a := p2) (xs := ws.map V.str) (fun j H5 => H5 D2 = some (.lst (((ws.take j).filter fun y => decide (y ∉ zs)).map V.str)) ∧ Same H4 H5) ⟨upd_same, same_new nD2⟩ (fun j H5 _ ⟨_, s5⟩ => s5.seq (SqL.of ew)) ?_ ?_
        · rintro j y H5 hj ⟨e5, s5⟩
          obtain ⟨x, hx, rfl⟩ := str_at hj
          refine ⟨rfl, _, rfl, _, rfl, p, _, rfl, .inl (SqL.of (s5 _ _ ep4)), rfl, flat_strs zs, _, rfl, ?_⟩
          show (if (!inV (.str x) (zs.map V.str)) = true then _ else _)
          rw [inV_str]
          have et : ws.take (j + 1) = ws.take j ++ [x] := by rw [List.take_add_one, hx]; rfl
          refine ite2 (fun h => ?_) (fun h => ?_)
          · have hxz : decide (x ∉ zs) = true := by simpa using h
            refine ⟨_, rfl, _, e5, small1000 ?_, ?_, Same.new s5 nD2⟩
            · rw [List.length_map]
              exact Nat.le_trans (List.length_filter_le _ _) (by rw [List.length_take]; omega)
            · rw [upd_same, et, filt_pos (p := fun y => decide (y ∉ zs)) hxz, List.map_append]
              rfl
          · have hxz : ¬ decide (x ∉ zs) = true := by simpa using h
            refine ⟨?_, s5⟩
            rw [e5, et, filt_neg (p := fun y => decide (y ∉ zs)) (by simpa using hxz)]
        · rintro H5 ⟨e5, s5⟩
          rw [List.length_map, List.take_length] at e5
          obtain ⟨w, hw, hwz⟩ := wsO
          have hne : 0 < (ws.filter fun y => decide (y ∉ zs)).length := List.length_pos_of_mem (List.mem_filter.mpr ⟨hw, decide_eq_true hwz⟩)
          obtain ⟨g, hg⟩ : ∃ g, (ws.filter fun y => decide (y ∉ zs))[0]? = some g := ⟨_, List.getElem?_eq_getElem hne⟩
          have hgm := List.mem_filter.mp (List.mem_of_getElem? hg)
          have hgz : g ∉ zs := of_decide_eq_true hgm.2
          refine ⟨D2, _, 0, .str g, rfl, rfl, SqL.of e5, at_of (j := 0) rfl (by rw [List.getElem?_map, hg]; rfl), ?_⟩
          refine ⟨p, _, _, rfl, rfl, s5 _ _ ep4, small1000 (by rw [List.length_map]; omega), ?_⟩
          refine ⟨zs ++ [g], n2, _, _, _, rfl, ?_, by rw [List.length_append, el]; rfl, nd_snoc nd hgz, fun y hy => ?_, by omega, (R4.same s5).upd fp, (b4.trans (Same.but s5)).new np⟩
          · rw [upd_same, List.map_append]
            rfl
          · rcases List.mem_append.mp hy with e | e
            · exact nm y e
            · rw [List.mem_singleton.mp e]
              exact wsN g hgm.1
    · rintro σ H1 ⟨zs, n', v3, v4, v5, rfl, ep, el, nd, nm, hn', R1, b1⟩
      exact ⟨_, rfl, k p zs n' H1 np fp ep (by omega) nd nm (by omega) R1 b1⟩
end
end SW



set_option Elab.async false
set_option maxRecDepth 100000
set_option maxHeartbeats 2000000
/-! trees stay while the draws write. -/
namespace BK
open PySem PySem.Spec PyProof.Rows L2 SW
section
variable {K : PySem.W.Frag} {H H' : Hp} {a a' : RA} {n n' : Nat}
theorem lst_but (R : Rnd H a n) (R' : Rnd H' a' n') (b : But a H H') (es : a'.s = a.s) (el : a'.l = a.l) {p : Addr} {xs : List V} (h : SqL K H p xs) : ∃ ys, SqL K H' p ys := by
  obtain ⟨ns, ls, e1, e2, e3, _⟩ := R.ex
  obtain ⟨ns', ls', f1, f2, f3, _⟩ := R'.ex
  rw [es] at f1
  rw [el] at f3
  by_cases q1 : p = a.l
  · subst q1
    exact ⟨_, SqL.of f3⟩
  by_cases q2 : p = a.s
  · subst q2
    rcases h with (h | ⟨o, h⟩) | h
    · rw [e1] at h
      cases h
    · rw [e1] at h
      cases h
    · exact ⟨xs, .inr h⟩
  rcases h with (h | ⟨o, h⟩) | h
  · exact ⟨xs, .inl (.inl (b _ _ h q2 q1))⟩
  · exact ⟨xs, .inl (.inr ⟨o, b _ _ h q2 q1⟩)⟩
  · exact ⟨xs, .inr h⟩
theorem sqt_but (R : Rnd H a n) (b : But a H H') {p : Addr} {xs : List V} (h : SqT K H p xs) : SqT K H' p xs := by
  obtain ⟨ns, ls, e1, e2, e3, _⟩ := R.ex
  have ne : ∀ o, H p = some o → (∀ kvs, o ≠ .dK kvs) → (∀ ys, o ≠ .lst ys) → H' p = some o := fun o e z1 z2 => b _ _ e (fun q => by
    subst q
    rw [e1] at e
    exact z1 _ (Option.some.inj e).symm) (fun q => by
    subst q
    rw [e3] at e
    exact z2 _ (Option.some.inj e).symm)
  rcases h with (h | ⟨o, h⟩) | h
  · exact .inl (.inl (ne _ h (fun _ z => by cases z) (fun _ z => by cases z)))
  · exact .inl (.inr ⟨o, ne _ h (fun _ z => by cases z) (fun _ z => by cases z)⟩)
  · exact .inr h
theorem dct_but (R : Rnd H a n) (R' : Rnd H' a' n') (b : But a H H') (es : a'.s = a.s) (el : a'.l = a.l) {p : Addr} {kvs : List (Key × V)} (h : H p = some (.dK kvs)) : ∃ kvs', H' p = some (.dK kvs') := by
  obtain ⟨ns, ls, e1, e2, e3, _⟩ := R.ex
  obtain ⟨ns', ls', f1, f2, f3, _⟩ := R'.ex
  rw [es] at f1
  rw [el] at f3
  by_cases q2 : p = a.s
  · subst q2
    exact ⟨_, f1⟩
  · exact ⟨_, b _ _ h q2 fun q => by
      subst q
      rw [e3] at h
      cases h⟩
mutual
theorem TrAt.rndW (R : Rnd H a n) (R' : Rnd H' a' n') (b : But a H H') (es : a'.s = a.s) (el : a'.l = a.l) : ∀ {v : V} {t : Tr}, TrAt K H v t → TrAt K H' v t
  | _, _, .non => .non
  | _, _, .bl b => .bl b
  | _, _, .int i => .int i
  | _, _, .str s h => .str s h
  | _, _, .lst h => by
    obtain ⟨ys, q⟩ := lst_but R R' b es el h
    exact .lst q
  | _, _, .dct h => by
    obtain ⟨kvs, q⟩ := dct_but R R' b es el h
    exact .dct q
  | _, _, .tup h k => .tup (sqt_but R b h) (TrAll.rndW R R' b es el k)
theorem TrAll.rndW (R : Rnd H a n) (R' : Rnd H' a' n') (b : But a H H') (es : a'.s = a.s) (el : a'.l = a.l) : ∀ {vs : List V} {ts : List Tr}, TrAll K H vs ts → TrAll K H' vs ts
  | _, _, .nil => .nil
  | _, _, .cons h k => .cons (h.rndW R R' b es el) (k.rndW R R' b es el)
end
theorem TrAt.rnd (R : Rnd H a n) (R' : Rnd H' a n') (b : But a H H') {v : V} {t : Tr} (h : TrAt K H v t) : TrAt K H' v t := h.rndW R R' b rfl rfl
theorem TrAll.rnd (R : Rnd H a n) (R' : Rnd H' a n') (b : But a H H') {vs : List V} {ts : List Tr} (h : TrAll K H vs ts) : TrAll K H' vs ts := h.rndW R R' b rfl rfl
/-- xs + ys of two tuples -/
theorem cat_tr {v u : V} {xs ys : List Tr} {Q : VK} (t1 : TrAt K H v (.tup xs)) (t2 : TrAt K H u (.tup ys)) (l1 : xs.length ≤ 1000) (l2 : ys.length ≤ 1000) (k : ∀ r H', Same H H' → TrAt K H' r (.tup (xs ++ ys)) → Q r H') : rCatA K v u H Q := by
  cases t1 with
  | @tup aa vs _ ha ta' =>
  cases t2 with
  | @tup bb us _ hb tb' =>
  have e1 := ta'.len
  have e2 := tb'.len
  refine ⟨aa, bb, vs, us, rfl, rfl, ha, hb, by rw [sizeLine_eq]; omega, fun e => ?_, fun _ e => ?_, fun _ _ p np => ?_⟩
  · subst e
    cases ta'
    exact k _ _ (fun _ _ e => e) (.tup hb tb')
  · subst e
    cases tb'
    rw [List.append_nil] at k
    exact k _ _ (fun _ _ e => e) (.tup ha ta')
  · exact k _ _ (same_new np) (.tup (SqT.of upd_same) ((ta'.app tb').same (same_new np)))
theorem TrAll.rep {v : V} {t : Tr} (h : TrAt K H v t) : ∀ k : Nat, TrAll K H (List.replicate k [v]).flatten (List.replicate k t)
  | 0 => .nil
  | k + 1 => by
    rw [List.replicate_succ, List.replicate_succ, List.flatten_cons]
    exact .cons h (TrAll.rep h k)
/-- (t,) * k -/
theorem rep_tr {v : V} {t : Tr} {k : Int} {Q : VK} (h : TrAt K H v (.tup [t])) (h0 : 0 ≤ k) (h1 : k ≤ 1000) (q : ∀ r H', Same H H' → TrAt K H' r (.tup (List.replicate k.toNat t)) → Q r H') : rRepA K v (.int k) H Q := by
  cases h with
  | @tup aa vs _ ha ta =>
  cases ta with
  | cons t1 tn =>
  cases tn
  exact ⟨aa, k, _, rfl, rfl, ha, (fun z => by cases z), h0, h1, (Nat.le_of_ble_eq_true rfl), fun p H' s hT => q _ _ s (.tup hT ((TrAll.rep t1 _).same s))⟩
/-- a new tuple -/
theorem new_tr {p : Addr} {vs : List V} {ts : List Tr} (np : H p = none) (h : TrAll K H vs ts) : Same H (upd H p (.tup vs)) ∧ TrAt K (upd H p (.tup vs)) (.ref p) (.tup ts) := ⟨same_new np, .tup (SqT.of upd_same) (h.same (same_new np))⟩
end
/-- the law's own dict -/
def ownK (x y c t nn : Str) (nm : Addr) (pv : V) : List (Key × V) := [(.inr "x", .str x), (.inr "y", .str y), (.inr "c", .str c), (.inr "t", .str t), (.inr "names", .ref nm), (.inr "params", pv), (.inr "none", .str nn)]
section
variable {x y c t nn : Str} {nm : Addr} {pv : V}
theorem ow_x : valV (ownK x y c t nn nm pv) (.inr "x") = some (.str x) := by with_unfolding_all rfl
theorem ow_y : valV (ownK x y c t nn nm pv) (.inr "y") = some (.str y) := by with_unfolding_all rfl
theorem ow_c : valV (ownK x y c t nn nm pv) (.inr "c") = some (.str c) := by with_unfolding_all rfl
theorem ow_t : valV (ownK x y c t nn nm pv) (.inr "t") = some (.str t) := by with_unfolding_all rfl
theorem ow_names : valV (ownK x y c t nn nm pv) (.inr "names") = some (.ref nm) := by with_unfolding_all rfl
theorem ow_params : valV (ownK x y c t nn nm pv) (.inr "params") = some pv := by with_unfolding_all rfl
theorem ow_none : valV (ownK x y c t nn nm pv) (.inr "none") = some (.str nn) := by with_unfolding_all rfl
end
end BK



set_option Elab.async false
set_option linter.all false
set_option maxRecDepth 100000
set_option maxHeartbeats 4000000
/-! d.update(e) of two tracked dicts; tuples told with their own object, so that dict(t) of a tuple of pairs runs -/
namespace DU
open PySem PySem.Spec PyProof.Rows L2
section
variable {X : Cx}
def rDUpd : V → List V → Hp → VK → Prop := fun x vs H Q => ∃ (a b : Addr) (ks ls : List (Key × V)), x = .ref a ∧ vs = [.ref b] ∧ a ≠ b ∧ H a = some (.dK ks) ∧ Rd H b (.dK ls) ∧
  ks.length + ls.length ≤ sizeLine ∧ Q .non (upd H a (.dK (mergeK ks ls)))
theorem mt_dupdate : MtR X "dict.update" rDUpd := by
  intro pins s σ H x vs v us Q I rx rv h
  obtain ⟨a, b, ks, ls, ex, ev, hne, ha, hb, hz, q⟩ := h
  subst ex
  subst ev
  obtain rfl : v = Value.ref a := rx
  have hus := rv.ref1
  subst hus
  obtain ⟨za, hda, va, ra, da⟩ := dk_of I.hok ha
  obtain ⟨zb, hdb, vb, rb, db⟩ := dk_rd I.hok hb
  refine call_meetsIn PySem.F.slot_dict_update da.typeIs PySem.F.entry_dict_update (PySem.F.args_dict_update_2 _ _) (meets_dict_update (mixKind X.prog X.w) a b hne hdb)
    ⟨va, vb, da, db, by rw [← ra.length, ← rb.length]; exact hz, fun h' dd' _ hs => ⟨.non, _, ?_, rfl, q⟩⟩
  have he : ∃ q, h'.get? a = some q := let ⟨q, _, _, hq, _⟩ := dd'; ⟨q, hq⟩
  have hl : (mergeK ks ls).length ≤ sizeLine := Nat.le_trans (length_mergeK ls ks) hz
  exact d_write (t' := s.toks) I (by rw [ha]; exact True.intro) hs he (dk_new hl hda (KV.merge rb ra) dd')
variable {o e : Expr} {es : List Expr} {to : TE} {t : TA} {apos cpos : Pos}
theorem pe_dupdate (ho : PE X o to) (ha : PA X (e :: es) t)
    (hbase : attributeBase o "update" X.env (eval o X.env) = eval o X.env := by rfl)
    (hfew : ((backTo cpos (starEach (e :: es) X.env)).all (fun x => !x.1) && (backToKw cpos (keywordEach [] X.env)).all (fun x => x.1.isSome)
      && decide ((e :: es).length + ([] : List Keyword).length + (if ([] : List Keyword).isEmpty then 0 else 1) < 30)) = true := by rfl)
    (hline : (apos.endLine == cpos.line) = true := by rfl) (hs : starEach (e :: es) X.env = (false, eval e X.env) :: starEach es X.env := by rfl) (hplain : (backTo cpos (starEach es X.env)).any (·.1) = false := by rfl) :
    PE X (.Call (.Attribute o "update" apos) (e :: es) [] cpos) (tBM X.K "dict" rDUpd to t) :=
  pe_bm PySem.F.plainAttrs_dict PySem.F.slot_dict_update PySem.F.type_dict_update mt_dupdate ho ha hbase hfew hline hs hplain

/-- a tuple told with its own object, which has no dict -/
def Tz (K : PySem.W.Frag) (H : Hp) (a : Addr) (xs : List V) : Prop := (∃ o, H a = some (.frz o (.tup xs)) ∧ o.dict = none) ∨
  ∃ (o : Obj) (its : Array Value) (n : Nat), K.lookup a = some o ∧ o.cls = .type "tuple" ∧ o.dict = none ∧ o.data = .seq its n ∧ its.size ≤ sizeLine ∧ Vals xs its.toList
theorem Tz.sq {K : PySem.W.Frag} {H : Hp} {a : Addr} {xs : List V} (h : Tz K H a xs) : SqT K H a xs :=
  h.elim (fun ⟨o, e, _⟩ => .inl (.inr ⟨o, e⟩)) fun ⟨o, its, n, h1, h2, h3, h4, h5, h6⟩ => .inr ⟨o, its, n, h1, h2, h4, h5, h6⟩
theorem Tz.plain {pins : List (Addr × Obj)} {σ : L2.St} {H : Hp} {s : Shared} {a : Addr} {xs : List V} (h : Tz X.K H a xs) (I : L2.Inv X pins σ H s) :
    ∃ its : List Value, Vals xs its ∧ PlainSeq "tuple" s.heap a its.toArray ∧ xs.length ≤ sizeLine := by
  rcases h with ⟨o, e, hd⟩ | ⟨o, its, n, hk, hc, hd, hs, hz, r⟩
  · obtain ⟨e1, z, its, r, ob, e2, hc, n, hdat⟩ := (show ObjOk X.prog X.w H s.heap a (.frz o (.tup xs)) from I.hok a _ e)
    rw [e1] at e2
    cases e2
    exact ⟨its, r, ⟨o, n, e1, hc, hd, hdat⟩, z⟩
  · refine ⟨its.toList, r, ⟨o, n, I.kIn a o hk, hc, hd, by simpa using hs⟩, ?_⟩
    have e := r.length
    simp only [Array.length_toList] at e
    omega
theorem pairs_split {h : Heap} : ∀ {prs : List (Key × Value)} {ps : List Addr}, prs.length = ps.length → (∀ (j : Nat) (q : Key × Value), prs[j]? = some q → ∃ (b : Addr) (u : Value), ps[j]? = some b ∧ IsTup h b #[u, q.2] ∧ keyIs q.1 u = true) →
    ∃ (ks : List (Value × Value)), ks.length = prs.length ∧ ∀ (j : Nat) (q : Key × Value), prs[j]? = some q → ∃ (b : Addr) (u : Value), ks[j]? = some (u, q.2) ∧ ps[j]? = some b ∧ IsTup h b #[u, q.2] ∧ keyIs q.1 u = true
  | [], _, _, _ => ⟨[], rfl, fun j q e => by simp at e⟩
  | _ :: _, [], hl, _ => by simp at hl
  | p0 :: prs, b0 :: ps, hl, hpr => by
    obtain ⟨ks, e1, e2⟩ := pairs_split (h := h) (prs := prs) (ps := ps) (by simpa using hl) fun j q e => by
      obtain ⟨b, u, h1, h2, h3⟩ := hpr (j + 1) q (by simpa using e)
      exact ⟨b, u, by simpa using h1, h2, h3⟩
    obtain ⟨b, u, h1, h2, h3⟩ := hpr 0 p0 rfl
    refine ⟨(u, p0.2) :: ks, by simp [e1], fun j q e => ?_⟩
    cases j with
    | zero =>
      cases (Option.some.inj e : p0 = q)
      exact ⟨b, u, rfl, h1, h2, h3⟩
    | succ j => simpa using e2 j q (by simpa using e)
/-- dict(xs) of a tuple of pairs (key, value): later pairs win, the place is the first one's -/
def rDictT (K : PySem.W.Frag) : List V → Hp → VK → Prop := fun xs H Q => ∃ (a : Addr) (ps : List Addr) (kvs : List (Key × V)), xs = [.ref a] ∧ Tz K H a (ps.map V.ref) ∧ Paired (fun p kv => SqT K H p [kV kv.1, kv.2]) ps kvs ∧
    ∀ p, H p = none → Q (.ref p) (upd H p (.dK (mergeK [] kvs)))
theorem call_dictTz (hcalm : X.calm = true) : CallR X (.type "dict") (rDictT X.K) := by
  intro pins s σ H xs us Q I r q
  obtain ⟨a, ps, kvs, ex, hq, hp, q⟩ := q
  subst ex
  obtain ⟨u, eu, rx⟩ := vals1 r
  subst eu
  cases rx
  obtain ⟨its, rv, pl, hz⟩ := hq.plain I
  have ei := refs_at rv
  subst ei
  rw [List.length_map] at hz
  obtain ⟨prs, rel, hl, hpr⟩ := pairs_of I hp
  obtain ⟨ks, hkl, hks⟩ := pairs_split hl hpr
  have hlen : (mergeK [] kvs).length ≤ sizeLine := by
    refine Nat.le_trans (length_mergeK kvs []) ?_
    rw [List.length_nil, Nat.zero_add, rel.length, hl]
    exact hz
  have pi : PairItems s.heap (ps.map Value.ref).toArray (fun j => ps.getD j 0) ks := by
    refine ⟨by simp [hkl, hl], fun j k v e => ?_⟩
    have hj : j < prs.length := by rw [← hkl]; exact (List.getElem?_eq_some_iff.mp e).1
    obtain ⟨b, u, e1, e2, e3, _⟩ := hks j prs[j] (List.getElem?_eq_getElem hj)
    rw [e1] at e
    cases e
    exact ⟨by simp [e2], by simp only [List.getD_eq_getElem?_getD, e2]; exact .inl e3⟩
  have hv : PairsHave (mixKind X.prog X.w) ks.length (PairRel ks) prs := by
    refine ⟨hkl.symm, fun i key v e => ?_⟩
    have e0 : ks[i]? = some (key, v) := e
    have hj : i < prs.length := by rw [← hkl]; exact (List.getElem?_eq_some_iff.mp e0).1
    obtain ⟨b, u, e1, _, _, e4⟩ := hks i prs[i] (List.getElem?_eq_getElem hj)
    rw [e1] at e0
    cases e0
    exact ⟨prs[i].1, List.getElem?_eq_getElem hj, e4⟩
  refine PySem.call_dict_pairs (PairArg.tuple a (ps.map Value.ref).toArray (fun j => ps.getD j 0) ks) (I.ok.hd hcalm) ⟨pl, pi⟩ hv (by rw [hkl, hl]; exact hz) fun h' tk hd' k => ?_
  have hm : (s.heap.objs.size == sysModules) = false := beq_eq_false_iff_ne.mpr (Nat.ne_of_gt I.big)
  exact ⟨.ref s.heap.objs.size, upd H s.heap.objs.size (.dK (mergeK [] kvs)), I.laid (t' := tk) (fun b o e => k b o (by simp) e) (Nat.le_refl _) (show ObjOk X.prog X.w _ _ _ (.dK (mergeK [] kvs)) from ⟨hlen, hm, merged [] prs, KV.merge rel .nil, hd'⟩), rfl, q _ (I.hok.fresh (Nat.le_refl _))⟩
/-- a tuple display, told with its own object -/
def tTupZ (t : TA) : TE := fun σ H Q => t σ H fun xs H1 => xs.length ≤ sizeLine ∧ ∀ p o, H1 p = none → o.dict = none → Q (.ref p) (upd H1 p (.frz o (.tup xs)))
theorem pe_tupZ {es : List Expr} {t : TA} {pos : Pos} {x1} (h : PA X es t) : PE X (.Tuple es x1 pos) (tTupZ t) := by
  refine ⟨fun pins s σ H Q I hq => ?_⟩
  refine wpAny_Tuple_spliced (thn (h.run pos pins s σ H _ I hq) fun us s1 ⟨xs, H1, I1, r, z, q⟩ => ⟨by rw [← r.length]; exact z, ?_⟩)
  have hf : H1 s1.heap.objs.size = none := I1.hok.fresh (Nat.le_refl _)
  refine ⟨.ref s1.heap.objs.size, upd H1 s1.heap.objs.size (.frz _ (.tup xs)), I1.laid (t' := s1.toks) (fun b u e => Heap.get?_push_of_some _ e) (Nat.le_refl _) ⟨Heap.get?_push_size _ rfl, z, us, r, ⟨_, Heap.get?_push_size _ rfl, rfl, _, rfl⟩⟩, rfl, q _ _ hf rfl⟩
/-- tuple(xs) of a list: told with its own object -/
def rTupZ (K : PySem.W.Frag) : List V → Hp → VK → Prop := fun xs H Q => ∃ p ys, xs = [.ref p] ∧ SqL K H p ys ∧ ∀ l o, H l = none → o.dict = none → Q (.ref l) (upd H l (.frz o (.tup ys)))
theorem call_tuple_z : CallR X (.type "tuple") (rTupZ X.K) := by
  intro pins s σ H xs us Q I r h
  obtain ⟨p, ys, rfl, hq, q⟩ := h
  obtain ⟨u, rfl, rx⟩ := vals1 r
  cases rx
  obtain ⟨its, r', pl, hz⟩ := I.list hq
  have hlen := r'.length
  refine call_tuple_list pl.isList (fun h' kp => ?_) (by simp only [List.size_toArray] <;> omega)
  have I1 : L2.Inv X pins σ H { s with heap := h' } := I.kept (t' := s.toks) kp
  have I2 : L2.Inv X pins σ (upd H h'.objs.size (.frz { cls := .type "tuple", data := .seq its.toArray } (.tup ys))) { s with heap := h'.push { cls := .type "tuple", data := .seq its.toArray } } :=
    I1.laid (t' := s.toks) (fun b o e => Heap.get?_push_of_some _ e) (Nat.le_refl _) ⟨Heap.get?_push_size _ rfl, hz, its, r', IsTup.new _ _⟩
  exact ⟨.ref h'.objs.size, _, I2, rfl, q _ _ (I1.hok.fresh (Nat.le_refl _)) rfl⟩
theorem tupZnew {pins : List (Addr × Obj)} {σ : L2.St} {H : Hp} {s : Shared} {Q : VK} {ob : Obj} {xs : List V} {its : List Value} (I : L2.Inv X pins σ H s) (hd : ob.dict = none) (hf : ob.isFreed = false) (hz : xs.length ≤ sizeLine) (r : Vals xs its)
    (ht : IsTup (s.heap.push ob) s.heap.objs.size its.toArray) (q : ∀ p o, H p = none → o.dict = none → Q (.ref p) (upd H p (.frz o (.tup xs)))) : EP X pins σ Q (.ref s.heap.objs.size) { s with heap := s.heap.push ob } :=
  ⟨.ref s.heap.objs.size, _, I.laid (t' := s.toks) (o := .frz ob (.tup xs)) (fun b o q => Heap.get?_push_of_some _ q) (Nat.le_refl _) ⟨Heap.get?_push_size _ hf, hz, its, r, ht⟩, rfl, q _ _ (I.hok.fresh (Nat.le_refl _)) hd⟩
/-- t + u of two tuples -/
def rCatZ (K : PySem.W.Frag) : R2 := fun x y H Q => ∃ a b xs ys, x = .ref a ∧ y = .ref b ∧ SqT K H a xs ∧ SqT K H b ys ∧ xs.length + ys.length ≤ sizeLine ∧
  (xs = [] → Q (.ref b) H) ∧ (xs ≠ [] → ys = [] → Q (.ref a) H) ∧ (xs ≠ [] → ys ≠ [] → ∀ p o, H p = none → o.dict = none → Q (.ref p) (upd H p (.frz o (.tup (xs ++ ys)))))
theorem op_catZ : OpR X (binaryOp .Add) (rCatZ X.K) := by
  intro pins s σ H x y v u Q I rx ry h
  obtain ⟨a, b, xs, ys, rfl, rfl, ha, hb, hz, q0, q1, q2⟩ := h
  cases rx
  cases ry
  obtain ⟨its, r1, p1, _⟩ := I.tuple ha
  obtain ⟨its2, r2, p2, _⟩ := I.tuple hb
  by_cases hx : xs = []
  · subst hx
    cases r1
    exact cat_tup0 p1 p2 ⟨.ref b, H, I, rfl, q0 rfl⟩
  · refine HT.cat_tup p1 p2 (fun z => hx (r1.nil_iff.mp z)) (fun z => ⟨.ref a, H, I, rfl, q1 hx (r2.nil_iff.mp z)⟩) (fun z => ?_) (by rw [← r1.length, ← r2.length]; exact hz)
    exact tupZnew I rfl rfl (by rw [List.length_append]; exact hz) (r1.append r2) (IsTup.new _ _) (q2 hx (fun w => z (r2.nil_iff.mpr w)))
/-- t[lo:hi] -/
def rSlZ (K : PySem.W.Frag) : V → Option Int → Option Int → Hp → VK → Prop := fun x lo hi H Q => ∃ a xs, x = .ref a ∧ SqT K H a xs ∧
  (HT.sIx xs.length 0 lo = 0 ∧ HT.sIx xs.length xs.length hi = xs.length → Q (.ref a) H) ∧ (¬ (HT.sIx xs.length 0 lo = 0 ∧ HT.sIx xs.length xs.length hi = xs.length) → ∀ p o, H p = none → o.dict = none → Q (.ref p) (upd H p (.frz o (.tup (cutV xs lo hi)))))
theorem sl_tupZ : SlR X (rSlZ X.K) := by
  intro pins s σ H x v vl vu lo hi sl Q I rx hs pl pu h
  obtain ⟨a, xs, rfl, hx, q1, q⟩ := h
  cases rx
  obtain ⟨its, r, ht, hz⟩ := I.tuple hx
  have hlen : its.toArray.size = xs.length := by rw [List.size_toArray]; exact r.length.symm
  refine ⟨"tuple", _, PyProof.Rows.slot_tuple_getitem.lookup, ht.typeIs, ?_⟩
  by_cases hw : HT.sIx xs.length 0 lo = 0 ∧ HT.sIx xs.length xs.length hi = xs.length
  · exact getItem_tuple_whole ht hs pl pu (by rw [hlen]; exact hw) ⟨.ref a, H, I, rfl, q1 hw⟩
  · refine HT.getItem_tuple_cut ht hs pl pu (by rw [hlen]; exact hw) ?_ (by rw [hlen]; exact hz)
    rw [hlen]
    exact tupZnew I rfl rfl (Nat.le_trans (cutV_length xs lo hi) hz) ((r.drop (HT.sIx xs.length 0 lo)).take (HT.sIx xs.length xs.length hi - HT.sIx xs.length 0 lo)) (IsTup.new _ _) (q hw)
theorem Tz.of {K : PySem.W.Frag} {H : Hp} {p : Addr} {o : Obj} {xs : List V} (hd : o.dict = none) : Tz K (upd H p (.frz o (.tup xs))) p xs := .inl ⟨o, upd_same, hd⟩
end
end DU

set_option Elab.async false
set_option maxRecDepth 100000
set_option maxHeartbeats 2000000
/-! Trees whose tuples of tuples are told with their own object. -/
namespace BK
open PySem PySem.Spec PyProof.Rows L2 SW DU
theorem tz_same {K : PySem.W.Frag} {H H' : Hp} {a : Addr} {xs : List V} (e : Same H H') (h : Tz K H a xs) : Tz K H' a xs := h.elim (fun ⟨o, h1, h2⟩ => .inl ⟨o, e _ _ h1, h2⟩) .inr
theorem tz_but {K : PySem.W.Frag} {H H' : Hp} {a : RA} {n : Nat} (R : Rnd H a n) (b : But a H H') {p : Addr} {xs : List V} (h : Tz K H p xs) : Tz K H' p xs := by
  obtain ⟨ns, ls, e1, e2, e3, _⟩ := R.ex
  rcases h with ⟨o, h, hd⟩ | h
  · exact .inl ⟨o, b _ _ h (fun q => by
      subst q
      rw [e1] at h
      cases h) (fun q => by
      subst q
      rw [e3] at h
      cases h), hd⟩
  · exact .inr h
mutual
inductive TrZ (K : PySem.W.Frag) (H : Hp) : V → Tr → Prop
  | non : TrZ K H .non .non
  | bl (b : Bool) : TrZ K H (.bl b) (.bl b)
  | int (i : Int) : TrZ K H (.int i) (.int i)
  | str (s : Str) (h : s.length ≤ sizeLine) : TrZ K H (.str s) (.str s)
  | lst {a : Addr} {xs : List V} (h : SqL K H a xs) : TrZ K H (.ref a) .lst
  | dct {a : Addr} {kvs : List (Key × V)} (h : H a = some (.dK kvs)) : TrZ K H (.ref a) .dct
  | tup {a : Addr} {xs : List V} {ts : List Tr} (h : SqT K H a xs) (z : ts.all isTup = true → Tz K H a xs) (k : TlZ K H xs ts) : TrZ K H (.ref a) (.tup ts)
inductive TlZ (K : PySem.W.Frag) (H : Hp) : List V → List Tr → Prop
  | nil : TlZ K H [] []
  | cons {v : V} {vs : List V} {t : Tr} {ts : List Tr} (h : TrZ K H v t) (k : TlZ K H vs ts) : TlZ K H (v :: vs) (t :: ts)
end
section
variable {K : PySem.W.Frag} {H H' : Hp}
mutual
theorem TrZ.at : ∀ {v : V} {t : Tr}, TrZ K H v t → TrAt K H v t
  | _, _, .non => .non
  | _, _, .bl b => .bl b
  | _, _, .int i => .int i
  | _, _, .str s h => .str s h
  | _, _, .lst h => .lst h
  | _, _, .dct h => .dct h
  | _, _, .tup h _ k => .tup h (TlZ.all k)
theorem TlZ.all : ∀ {vs : List V} {ts : List Tr}, TlZ K H vs ts → TrAll K H vs ts
  | _, _, .nil => .nil
  | _, _, .cons h k => .cons h.at (TlZ.all k)
end
mutual
theorem TrZ.same (e : Same H H') : ∀ {v : V} {t : Tr}, TrZ K H v t → TrZ K H' v t
  | _, _, .non => .non
  | _, _, .bl b => .bl b
  | _, _, .int i => .int i
  | _, _, .str s h => .str s h
  | _, _, .lst h => .lst (e.seq h)
  | _, _, .dct h => .dct (e _ _ h)
  | _, _, .tup h z k => .tup (sqt_same e h) (fun q => tz_same e (z q)) (TlZ.same e k)
theorem TlZ.same (e : Same H H') : ∀ {vs : List V} {ts : List Tr}, TlZ K H vs ts → TlZ K H' vs ts
  | _, _, .nil => .nil
  | _, _, .cons h k => .cons (h.same e) (k.same e)
end
theorem tz_updL {D : Addr} {ys ys' xs : List V} {a : Addr} (e : H D = some (.lst ys)) (h : Tz K H a xs) : Tz K (upd H D (.lst ys')) a xs := by
  rcases h with ⟨o, h, hd⟩ | h
  · exact .inl ⟨o, by rw [upd_ne (ne_of h e (by intro z; cases z))]; exact h, hd⟩
  · exact .inr h
mutual
theorem TrZ.updL {D : Addr} {ys ys' : List V} (e : H D = some (.lst ys)) : ∀ {v : V} {t : Tr}, TrZ K H v t → TrZ K (upd H D (.lst ys')) v t
  | _, _, .non => .non
  | _, _, .bl b => .bl b
  | _, _, .int i => .int i
  | _, _, .str s h => .str s h
  | _, _, .lst (a := a) (xs := xs) h => by
    by_cases z : a = D
    · rw [z]
      exact .lst (SqL.of upd_same)
    · refine .lst (xs := xs) ?_
      rcases h with (h | ⟨o, h⟩) | h
      · exact .inl (.inl (by rw [upd_ne z]; exact h))
      · exact .inl (.inr ⟨o, by rw [upd_ne z]; exact h⟩)
      · exact .inr h
  | _, _, .dct h => .dct (by rw [upd_ne (ne_of h e (by intro z; cases z))]; exact h)
  | _, _, .tup h z k => .tup (sqt_updL e h) (fun q => tz_updL e (z q)) (TlZ.updL e k)
theorem TlZ.updL {D : Addr} {ys ys' : List V} (e : H D = some (.lst ys)) : ∀ {vs : List V} {ts : List Tr}, TlZ K H vs ts → TlZ K (upd H D (.lst ys')) vs ts
  | _, _, .nil => .nil
  | _, _, .cons h k => .cons (h.updL e) (k.updL e)
end
theorem TlZ.len {vs : List V} {ts : List Tr} (h : TlZ K H vs ts) : vs.length = ts.length := h.all.len
theorem TlZ.get : ∀ {vs : List V} {ts : List Tr} {i : Nat} {v : V}, TlZ K H vs ts → vs[i]? = some v → ∃ t, ts[i]? = some t ∧ TrZ K H v t
  | _, _, _, _, .nil, h => by simp at h
  | _, _, 0, _, .cons h k, e => by
    rw [List.getElem?_cons_zero] at e
    cases e
    exact ⟨_, rfl, h⟩
  | _, _, i + 1, _, .cons h k, e => by
    rw [List.getElem?_cons_succ] at e
    obtain ⟨t, h1, h2⟩ := k.get e
    exact ⟨t, by rw [List.getElem?_cons_succ]; exact h1, h2⟩
theorem TlZ.get' : ∀ {vs : List V} {ts : List Tr} {i : Nat} {t : Tr}, TlZ K H vs ts → ts[i]? = some t → ∃ v, vs[i]? = some v ∧ TrZ K H v t
  | _, _, _, _, .nil, h => by simp at h
  | _, _, 0, _, .cons h k, e => by
    rw [List.getElem?_cons_zero] at e
    cases e
    exact ⟨_, rfl, h⟩
  | _, _, i + 1, _, .cons h k, e => by
    rw [List.getElem?_cons_succ] at e
    obtain ⟨t, h1, h2⟩ := k.get' e
    exact ⟨t, by rw [List.getElem?_cons_succ]; exact h1, h2⟩
theorem TlZ.app : ∀ {vs us : List V} {xs ys : List Tr}, TlZ K H vs xs → TlZ K H us ys → TlZ K H (vs ++ us) (xs ++ ys)
  | _, _, _, _, .nil, h => h
  | _, _, _, _, .cons t k, h => .cons t (k.app h)
theorem TlZ.snoc {vs : List V} {ts : List Tr} {v : V} {t : Tr} (h : TlZ K H vs ts) (k : TrZ K H v t) : TlZ K H (vs ++ [v]) (ts ++ [t]) := h.app (.cons k .nil)
theorem TlZ.taken : ∀ {vs : List V} {ts : List Tr} (n : Nat), TlZ K H vs ts → TlZ K H (vs.take n) (ts.take n)
  | _, _, 0, _ => by rw [List.take_zero, List.take_zero]; exact .nil
  | _, _, n + 1, .nil => .nil
  | _, _, n + 1, .cons h k => .cons h (TlZ.taken n k)
theorem TlZ.dropn : ∀ {vs : List V} {ts : List Tr} (n : Nat), TlZ K H vs ts → TlZ K H (vs.drop n) (ts.drop n)
  | _, _, 0, h => h
  | _, _, n + 1, .nil => .nil
  | _, _, n + 1, .cons h k => TlZ.dropn n k
theorem TlZ.rev : ∀ {vs : List V} {ts : List Tr}, TlZ K H vs ts → TlZ K H vs.reverse ts.reverse
  | _, _, .nil => .nil
  | _, _, .cons h k => by
    rw [List.reverse_cons, List.reverse_cons]
    exact (TlZ.rev k).app (.cons h .nil)
theorem TlZ.rep {v : V} {t : Tr} (h : TrZ K H v t) : ∀ k : Nat, TlZ K H (List.replicate k [v]).flatten (List.replicate k t)
  | 0 => .nil
  | k + 1 => by
    rw [List.replicate_succ, List.replicate_succ, List.flatten_cons]
    exact .cons h (TlZ.rep h k)
end
section
variable {K : PySem.W.Frag} {H H' : Hp} {a a' : RA} {n n' : Nat}
mutual
theorem TrZ.rndW (R : Rnd H a n) (R' : Rnd H' a' n') (b : But a H H') (es : a'.s = a.s) (el : a'.l = a.l) : ∀ {v : V} {t : Tr}, TrZ K H v t → TrZ K H' v t
  | _, _, .non => .non
  | _, _, .bl b => .bl b
  | _, _, .int i => .int i
  | _, _, .str s h => .str s h
  | _, _, .lst h => by
    obtain ⟨ys, q⟩ := lst_but R R' b es el h
    exact .lst q
  | _, _, .dct h => by
    obtain ⟨kvs, q⟩ := dct_but R R' b es el h
    exact .dct q
  | _, _, .tup h z k => .tup (sqt_but R b h) (fun q => tz_but R b (z q)) (TlZ.rndW R R' b es el k)
theorem TlZ.rndW (R : Rnd H a n) (R' : Rnd H' a' n') (b : But a H H') (es : a'.s = a.s) (el : a'.l = a.l) : ∀ {vs : List V} {ts : List Tr}, TlZ K H vs ts → TlZ K H' vs ts
  | _, _, .nil => .nil
  | _, _, .cons h k => .cons (h.rndW R R' b es el) (k.rndW R R' b es el)
end
theorem TrZ.rnd (R : Rnd H a n) (R' : Rnd H' a n') (b : But a H H') {v : V} {t : Tr} (h : TrZ K H v t) : TrZ K H' v t := h.rndW R R' b rfl rfl
theorem TlZ.rnd (R : Rnd H a n) (R' : Rnd H' a n') (b : But a H H') {vs : List V} {ts : List Tr} (h : TlZ K H vs ts) : TlZ K H' vs ts := h.rndW R R' b rfl rfl
/-- a new tuple which holds something else than tuples -/
theorem new_trZ {p : Addr} {vs : List V} {ts : List Tr} (np : H p = none) (h : TlZ K H vs ts) (hz : ts.all isTup = false := by rfl) : Same H (upd H p (.tup vs)) ∧ TrZ K (upd H p (.tup vs)) (.ref p) (.tup ts) :=
  ⟨same_new np, .tup (SqT.of upd_same) (fun q => by rw [hz] at q; cases q) (h.same (same_new np))⟩
theorem sqt_z {p : Addr} {o : Obj} {vs : List V} : SqT K (upd H p (.frz o (.tup vs))) p vs := .inl (.inr ⟨o, upd_same⟩)
/-- a new tuple, told with its own object -/
theorem new_z {p : Addr} {o : Obj} {vs : List V} {ts : List Tr} (np : H p = none) (hd : o.dict = none) (h : TlZ K H vs ts) : Same H (upd H p (.frz o (.tup vs))) ∧ TrZ K (upd H p (.frz o (.tup vs))) (.ref p) (.tup ts) :=
  ⟨same_new np, .tup sqt_z (fun _ => Tz.of hd) (h.same (same_new np))⟩
/-- xs + ys of two tuples -/
theorem cat_z {v u : V} {xs ys : List Tr} {Q : VK} (t1 : TrZ K H v (.tup xs)) (t2 : TrZ K H u (.tup ys)) (l1 : xs.length ≤ 1000) (l2 : ys.length ≤ 1000) (k : ∀ r H', Same H H' → TrZ K H' r (.tup (xs ++ ys)) → Q r H') : rCatZ K v u H Q := by
  cases t1 with
  | @tup aa vs _ ha za ta' =>
  cases t2 with
  | @tup bb us _ hb zb tb' =>
  have e1 := ta'.len
  have e2 := tb'.len
  refine ⟨aa, bb, vs, us, rfl, rfl, ha, hb, by rw [sizeLine_eq]; omega, fun e => ?_, fun _ e => ?_, fun _ _ p o np hd => ?_⟩
  · subst e
    cases ta'
    exact k _ _ (fun _ _ e => e) (.tup hb zb tb')
  · subst e
    cases tb'
    rw [List.append_nil] at k
    exact k _ _ (fun _ _ e => e) (.tup ha za ta')
  · obtain ⟨s, t⟩ := new_z (K := K) np hd (ta'.app tb')
    exact k _ _ s t
theorem sl_take_z {v : V} {ts : List Tr} {i : Nat} {Q : VK} (h : TrZ K H v (.tup ts)) (hi : i ≤ ts.length) (k : ∀ r H', Same H H' → TrZ K H' r (.tup (ts.take i)) → Q r H') (c1 : ∀ {n i : Nat}, i ≤ n → HT.sIx n n (some (i : Int)) = i) (c2 : ∀ {xs : List V} {i : Nat}, i ≤ xs.length → cutV xs none (some (i : Int)) = xs.take i) : rSlZ K v none (some (i : Int)) H Q := by
  cases h with
  | @tup a xs _ ha za ta =>
  have e := ta.len
  refine ⟨a, xs, rfl, ha, fun ⟨_, w⟩ => ?_, fun _ p o np hd => ?_⟩
  · rw [c1 (by omega)] at w
    have : ts.take i = ts := List.take_of_length_le (by omega)
    rw [this] at k
    exact k _ _ (fun _ _ e => e) (.tup ha za ta)
  · rw [c2 (by omega)]
    obtain ⟨s, t⟩ := new_z (K := K) np hd (ta.taken i)
    exact k _ _ s t
theorem sl_drop_z {v : V} {ts : List Tr} {i : Nat} {Q : VK} (h : TrZ K H v (.tup ts)) (hi : i ≤ ts.length) (k : ∀ r H', Same H H' → TrZ K H' r (.tup (ts.drop i)) → Q r H') (c1 : ∀ {n i : Nat}, i ≤ n → HT.sIx n 0 (some (i : Int)) = i) (c2 : ∀ {xs : List V} {i : Nat}, i ≤ xs.length → cutV xs (some (i : Int)) none = xs.drop i) : rSlZ K v (some (i : Int)) none H Q := by
  cases h with
  | @tup a xs _ ha za ta =>
  have e := ta.len
  refine ⟨a, xs, rfl, ha, fun ⟨w, _⟩ => ?_, fun _ p o np hd => ?_⟩
  · rw [c1 (by omega)] at w
    subst w
    exact k _ _ (fun _ _ e => e) (.tup ha za ta)
  · rw [c2 (by omega)]
    obtain ⟨s, t⟩ := new_z (K := K) np hd (ta.dropn i)
    exact k _ _ s t
end
end BK

set_option Elab.async false
set_option maxRecDepth 100000
set_option maxHeartbeats 4000000
set_option linter.unusedVariables false
/-! the room of a state; _law_of, _law_from, _law_leaf -/
namespace SW
open PySem PySem.Spec PyProof.Rows L2
theorem rk_room (c l : Addr) (n : Nat) (rm : Int) : valV (rk c l n rm) (.inr "room") = some (.int rm) := by with_unfolding_all rfl
theorem rk_setR (c l : Addr) (n : Nat) (rm r' : Int) : putK (rk c l n rm) (.inr "room") (.int r') = rk c l n r' := by with_unfolding_all rfl
theorem rnd_room {H : Hp} {a : RA} {n : Nat} (R : Rnd H a n) : DGet H a.s (.str "room") (some (.int a.r)) := by
  obtain ⟨ns, ls, h1, _⟩ := R
  have := DGet.k (k := Sum.inr "room") h1
  rw [rk_room] at this
  exact this
/-- the room is told otherwise -/
theorem rnd_setR {H : Hp} {a : RA} {n : Nat} (R : Rnd H a n) (r : Int) : ∃ H', DPut H a.s (.str "room") (.int r) H' ∧ Rnd H' (a.rm r) n ∧ But a H H' := by
  obtain ⟨ns, ls, h1, h2, h3, e1, e2, e3, e4, e5, e6⟩ := R
  have := DPut.k (k := Sum.inr "room") (v := .int r) h1 (small1000 (by show 4 ≤ 1000; decide))
  rw [rk_setR] at this
  refine ⟨_, this, ⟨ns, ls, upd_same, ?_, ?_, e1, e2, e3, e4, e5, e6⟩, fun b o e n1 _ => ?_⟩
  · show (upd H a.s _) a.c = _
    rw [upd_ne e5]
    exact h2
  · show (upd H a.s _) a.l = _
    rw [upd_ne (ne_of h3 h1 (by intro z; cases z))]
    exact h3
  · rw [upd_ne n1]
    exact e
theorem Off.rm {a : RA} {p : Addr} (h : Off a p) (r : Int) : Off (a.rm r) p := ⟨h.s, h.l, h.c⟩
theorem Off.mr {a : RA} {p : Addr} {r : Int} (h : Off (a.rm r) p) : Off a p := ⟨h.s, h.l, h.c⟩
theorem But.rm {a : RA} {r : Int} {H H' : Hp} (h : But (a.rm r) H H') : But a H H' := h
abbrev sOf : Stmt := top 63
theorem scOf : FnScope ["state", "some"] ["state", "some"] (defScope sOf) := ⟨rfl, rfl, rfl, by decide +kernel, rfl, by decide +kernel, by decide +kernel⟩
def spOfL (K : PySem.W.Frag) : Sp := fun vs H Q _ => ∃ (a : RA) (n : Nat) (L : Addr) (us : List V), vs = [.ref a.s, .ref L] ∧ Rnd H a n ∧ n + 60 ≤ 1000000 ∧ Off a L ∧ H L = some (.lst us) ∧ 0 < us.length ∧ us.length ≤ 1000 ∧
  ∀ (v : V) (i : Nat) (H' : Hp), us[i]? = some v → Rnd H' a (n + 1) → But a H H' → Q v H'
section
variable {P : Program} {w : World} {K : PySem.W.Frag} {mg : Str → Option Value} {base : Heap}
theorem ok_of {f fD : Addr} {fd fdD : FuncData} (F : Fun K "_law_of" "_law_of" sOf f fd) (mL : mg "len" = none)
    (GD : FnOk P w K mg base CX0 2 fD fdD ["state", "many"] spDraw) (bD : Binds K fdD ["state", "many"] []) (gD : mg "_law_draw" = some (.ref fD)) (kD : PySem.W.keepIn K (.ref fD) = true) : FnOk P w K mg base CX0 3 f fd ["state", "some"] (spOfL K) := by
  refine F.ok scOf (fun vs H Q E h => ?_) (fun cdv A outer s H vs Q E hr h => ?_)
  · obtain ⟨a, n, L, us, rfl, _⟩ := h
    rfl
  · obtain ⟨a, n, L, us, rfl, R, hn, oL, eL, l0, l1, k⟩ := h
    refine ⟨_, pss_one (ps_ret (pe_ix ix_list (pv 1) (pe_call GD hr rfl gD kD bD .nil pass0 (pa_cons (pv 0) (pa_cons (pe_callB call_len_seq (by rfl) mL boot_len (pa_cons (pv 1) pa_nil)) pa_nil))) (fun _ _ => rfl))), ?_⟩
    refine ⟨_, rfl, _, rfl, _, rfl, L, us, rfl, .inl (SqL.of eL), a, n, (us.length : Int), rfl, R, hn, by omega, by omega, fun r H1 r0 rl R1 b1 => ?_⟩
    obtain ⟨v, hv⟩ : ∃ v, us[r.toNat]? = some v := ⟨_, List.getElem?_eq_getElem (by omega)⟩
    exact ⟨L, us, r, v, rfl, rfl, SqL.of (b1.at oL eL), at_of (by omega) hv, k v _ H1 hv R1 b1⟩
end
end SW
namespace BK
open PySem PySem.Spec PyProof.Rows L2 SW DU
/-- the law's own dict of a piece -/
def ownD (vl cl tl : Addr) : List (Key × V) := [(.inr "vars", .ref vl), (.inr "contexts", .ref cl), (.inr "tokens", .ref tl)]
theorem own_v (vl cl tl : Addr) : valV (ownD vl cl tl) (.inr "vars") = some (.ref vl) := by with_unfolding_all rfl
theorem own_c (vl cl tl : Addr) : valV (ownD vl cl tl) (.inr "contexts") = some (.ref cl) := by with_unfolding_all rfl
theorem own_t (vl cl tl : Addr) : valV (ownD vl cl tl) (.inr "tokens") = some (.ref tl) := by with_unfolding_all rfl
/-- the names of a piece: variables, slots -/
structure OwnN (vars cs ts : List Str) (κ : Str → Str) : Prop where
  v1 : 0 < vars.length
  v3 : vars.length ≤ 3
  vn : ∀ z ∈ vars, nameS z = true
  c1 : 0 < cs.length
  c3 : cs.length ≤ 3
  cn : ∀ z ∈ cs, nameS z = true ∧ κ z = "context"
  t1 : 0 < ts.length
  t3 : ts.length ≤ 3
  tn : ∀ z ∈ ts, nameS z = true ∧ κ z = "token"
structure OwnD (H : Hp) (a : RA) (ow : Addr) (vars cs ts : List Str) : Prop where
  ex : ∃ vl cl tl, H ow = some (.dK (ownD vl cl tl)) ∧ H vl = some (.lst (vars.map V.str)) ∧ H cl = some (.lst (cs.map V.str)) ∧ H tl = some (.lst (ts.map V.str)) ∧ SW.Off a ow ∧ SW.Off a vl ∧ SW.Off a cl ∧ SW.Off a tl
section
variable {H H' : Hp} {a : RA} {ow : Addr} {vars cs ts : List Str}
theorem OwnD.but (h : OwnD H a ow vars cs ts) (b : But a H H') : OwnD H' a ow vars cs ts := by
  obtain ⟨vl, cl, tl, h1, h2, h3, h4, o1, o2, o3, o4⟩ := h
  exact ⟨vl, cl, tl, b.at o1 h1, b.at o2 h2, b.at o3 h3, b.at o4 h4, o1, o2, o3, o4⟩
theorem OwnD.same (h : OwnD H a ow vars cs ts) (e : Same H H') : OwnD H' a ow vars cs ts := h.but (Same.but e)
theorem OwnD.rm (h : OwnD H a ow vars cs ts) (r : Int) : OwnD H (a.rm r) ow vars cs ts := by
  obtain ⟨vl, cl, tl, h1, h2, h3, h4, o1, o2, o3, o4⟩ := h
  exact ⟨vl, cl, tl, h1, h2, h3, h4, o1.rm r, o2.rm r, o3.rm r, o4.rm r⟩
theorem OwnD.gv (h : OwnD H a ow vars cs ts) : ∃ vl, DGet H ow (.str "vars") (some (.ref vl)) ∧ SW.Off a vl ∧ H vl = some (.lst (vars.map V.str)) := by
  obtain ⟨vl, cl, tl, h1, h2, h3, h4, o1, o2, o3, o4⟩ := h
  exact ⟨vl, (own_v vl cl tl) ▸ DGet.k (k := Sum.inr "vars") h1, o2, h2⟩
theorem OwnD.gc (h : OwnD H a ow vars cs ts) : ∃ vl, DGet H ow (.str "contexts") (some (.ref vl)) ∧ SW.Off a vl ∧ H vl = some (.lst (cs.map V.str)) := by
  obtain ⟨vl, cl, tl, h1, h2, h3, h4, o1, o2, o3, o4⟩ := h
  exact ⟨cl, (own_c vl cl tl) ▸ DGet.k (k := Sum.inr "contexts") h1, o3, h3⟩
theorem OwnD.gt (h : OwnD H a ow vars cs ts) : ∃ vl, DGet H ow (.str "tokens") (some (.ref vl)) ∧ SW.Off a vl ∧ H vl = some (.lst (ts.map V.str)) := by
  obtain ⟨vl, cl, tl, h1, h2, h3, h4, o1, o2, o3, o4⟩ := h
  exact ⟨tl, (own_t vl cl tl) ▸ DGet.k (k := Sum.inr "tokens") h1, o4, h4⟩
end
theorem str_get {zs : List Str} {i : Nat} {v : V} (h : (zs.map V.str)[i]? = some v) : ∃ z ∈ zs, v = .str z := by
  obtain ⟨z, hz, e⟩ := List.mem_map.mp (List.mem_of_getElem? h)
  exact ⟨z, hz, e.symm⟩
theorem name_line {z : Str} (h : nameS z = true) : z.length ≤ sizeLine := by
  have := name_short h
  rw [sizeLine_eq]
  omega
abbrev sFrom : Stmt := top 66
theorem scFrom : FnScope ["state", "own"] ["state", "own"] (defScope sFrom) := ⟨rfl, rfl, rfl, by decide +kernel, rfl, by decide +kernel, by decide +kernel⟩
def spFrom (K : PySem.W.Frag) : Sp := fun vs H Q _ => ∃ (a : RA) (n : Nat) (ow : Addr) (vars cs ts : List Str) (κ : Str → Str), vs = [.ref a.s, .ref ow] ∧ Rnd H a n ∧ n + 200 ≤ 1000000 ∧ OwnN vars cs ts κ ∧ OwnD H a ow vars cs ts ∧
  ∀ (v : V) (s : Tr) (n' : Nat) (H' : Hp), SrcG vars s → (∀ H2, TrZ K H2 v s) → n' ≤ n + 3 → Rnd H' a n' → But a H H' → Q v H'
section
variable {P : Program} {w : World} {K : PySem.W.Frag} {mg : Str → Option Value} {base : Heap}
theorem ok_from {f fD fO : Addr} {fd fdD fdO : FuncData} (F : Fun K "_law_from" "_law_from" sFrom f fd)
    (GD : FnOk P w K mg base CX0 2 fD fdD ["state", "many"] spDraw) (bD : Binds K fdD ["state", "many"] []) (gD : mg "_law_draw" = some (.ref fD)) (kD : PySem.W.keepIn K (.ref fD) = true)
    (GO : FnOk P w K mg base CX0 3 fO fdO ["state", "some"] (spOfL K)) (bO : Binds K fdO ["state", "some"] []) (gO : mg "_law_of" = some (.ref fO)) (kO : PySem.W.keepIn K (.ref fO) = true) : FnOk P w K mg base CX0 4 f fd ["state", "own"] (spFrom K) := by
  refine F.ok scFrom (fun vs H Q E h => ?_) (fun cdv A outer s H vs Q E hr h => ?_)
  · obtain ⟨a, n, ow, vars, cs, ts, κ, rfl, _⟩ := h
    rfl
  · obtain ⟨a, n, ow, vars, cs, ts, κ, rfl, R, hn, hN, hD, k⟩ := h
    have hu := hu_of hr
    have hr2 : Room 2 _ := hr.mono (by decide)
    have hr3 : Room 3 _ := hr.mono (by decide)
    refine ⟨_, pss_cons (ps_if (pt_cmpR op_eq (pe_call GD hr2 rfl gD kD bD .nil pass0 (pa_cons (pv 0) (pa_cons pe_int pa_nil))) pe_int (nomark _)) (pss_one (ps_ret (pe_call GO hr3 rfl gO kO bO .nil pass0 (pa_cons (pv 0) (pa_cons (pe_dget hu (pv 1) pe_str (fun _ _ => rfl)) pa_nil))))) pss_nil)
      (pss_one (ps_ret (pe_ix ix_list (pe_lst (pa_cons pe_int (pa_cons pe_int (pa_cons pe_int (pa_cons (pe_call GD hr2 rfl gD kD bD .nil pass0 (pa_cons (pv 0) (pa_cons pe_int pa_nil))) pa_nil))))) (pe_call GD hr2 rfl gD kD bD .nil pass0 (pa_cons (pv 0) (pa_cons pe_int pa_nil))) (fun _ _ => rfl)))), ?_⟩
    refine ⟨_, rfl, a, n, 3, rfl, R, by omega, by decide, by decide, fun r H1 r0 rl R1 b1 => ?_⟩
    refine ⟨rfl, _, rfl, ?_⟩
    refine ite2 (fun _ => ?_) (fun _ => ?_)
    · obtain ⟨vl, g, ov, ev⟩ := (hD.but b1).gv
      refine ⟨_, rfl, _, rfl, ow, _, rfl, g, a, n + 1, vl, _, rfl, R1, by omega, ov, ev, by rw [List.length_map]; exact hN.v1, by rw [List.length_map]; have := hN.v3; omega, fun v i H2 hv R2 b2 => ?_⟩
      obtain ⟨z, hz, rfl⟩ := str_get hv
      exact k (.str z) (.str z) (n + 2) H2 (.inr ⟨z, rfl, hz⟩) (fun _ => .str z (name_line (hN.vn z hz))) (by omega) R2 (b1.trans b2)
    · refine ⟨_, rfl, a, n + 1, 100, rfl, R1, by omega, by decide, by decide, fun x H2 x0 xl R2 b2 => ⟨(show 4 ≤ sizeLine by decide), fun q nq => ?_⟩⟩
      have sq := same_new (o := .lst [.int 0, .int 1, .int 2, .int x]) nq
      have eq : (upd H2 q (.lst [.int 0, .int 1, .int 2, .int x])) q = some (.lst [.int 0, .int 1, .int 2, .int x]) := upd_same
      have oq := R2.off nq
      have R3 := R2.same sq
      have b3 := (b1.trans b2).trans (Same.but sq)
      generalize upd H2 q (.lst [.int 0, .int 1, .int 2, .int x]) = H3 at sq eq R3 b3 ⊢
      refine ⟨_, rfl, a, n + 2, 4, rfl, R3, by omega, by decide, by decide, fun y H4 y0 yl R4 b4 => ?_⟩
      have e4 := b4.at oq eq
      have fin : ∀ (z : Int), 0 ≤ z → z ≤ 99 → Q (.int z) H4 := fun z z0 z9 => k (.int z) (.int z) (n + 3) H4 (.inl ⟨z, rfl, z0, z9⟩) (fun _ => .int z) (by omega) R4 (b3.trans b4)
      have hy : y = 0 ∨ y = 1 ∨ y = 2 ∨ y = 3 := by omega
      rcases hy with rfl | rfl | rfl | rfl
      · exact ⟨q, _, 0, .int 0, rfl, rfl, SqL.of e4, rfl, fin 0 (by decide) (by decide)⟩
      · exact ⟨q, _, 1, .int 1, rfl, rfl, SqL.of e4, rfl, fin 1 (by decide) (by decide)⟩
      · exact ⟨q, _, 2, .int 2, rfl, rfl, SqL.of e4, rfl, fin 2 (by decide) (by decide)⟩
      · exact ⟨q, _, 3, .int x, rfl, rfl, SqL.of e4, rfl, fin x x0 (by omega)⟩
end
end BK

set_option Elab.async false
set_option maxRecDepth 100000
set_option maxHeartbeats 4000000
set_option linter.unusedVariables false
/-! _law_leaf -/
namespace BK
open PySem PySem.Spec PyProof.Rows L2 SW DU
abbrev sLeaf : Stmt := top 67
abbrev nLeaf : List Str := ["state", "own", "is_free", "is_loop", "way", "var"]
theorem scLeaf : FnScope nLeaf ["state", "own", "is_free", "is_loop"] (defScope sLeaf) := ⟨rfl, rfl, rfl, by decide +kernel, rfl, by decide +kernel, by decide +kernel⟩
def spLeaf (K : PySem.W.Frag) : Sp := fun vs H Q _ => ∃ (a : RA) (n : Nat) (ow : Addr) (vars cs ts : List Str) (κ : Str → Str) (f l : Bool), vs = [.ref a.s, .ref ow, .bl f, .bl l] ∧ Rnd H a n ∧ n + 300 ≤ 1000000 ∧ OwnN vars cs ts κ ∧ OwnD H a ow vars cs ts ∧
  ∀ (v : V) (t : Tr) (n' : Nat) (H' : Hp), GLeaf vars κ f l t → TrZ K H' v t → n' ≤ n + 10 → Rnd H' a n' → But a H H' → Q v H'
section
variable {P : Program} {w : World} {K : PySem.W.Frag} {mg : Str → Option Value} {base : Heap}
theorem ok_leaf {f fD fO fF : Addr} {fd fdD fdO fdF : FuncData} (F : Fun K "_law_leaf" "_law_leaf" sLeaf f fd)
    (GD : FnOk P w K mg base CX0 2 fD fdD ["state", "many"] spDraw) (bD : Binds K fdD ["state", "many"] []) (gD : mg "_law_draw" = some (.ref fD)) (kD : PySem.W.keepIn K (.ref fD) = true)
    (GO : FnOk P w K mg base CX0 3 fO fdO ["state", "some"] (spOfL K)) (bO : Binds K fdO ["state", "some"] []) (gO : mg "_law_of" = some (.ref fO)) (kO : PySem.W.keepIn K (.ref fO) = true)
    (GF : FnOk P w K mg base CX0 4 fF fdF ["state", "own"] (spFrom K)) (bF : Binds K fdF ["state", "own"] []) (gF : mg "_law_from" = some (.ref fF)) (kF : PySem.W.keepIn K (.ref fF) = true) : FnOk P w K mg base CX0 5 f fd ["state", "own", "is_free", "is_loop"] (spLeaf K) := by
  refine F.ok scLeaf (fun vs H Q E h => ?_) (fun cdv A outer s H vs Q E hr h => ?_)
  · obtain ⟨a, n, ow, vars, cs, ts, κ, f, l, rfl, _⟩ := h
    rfl
  · obtain ⟨a, n, ow, vars, cs, ts, κ, f, l, rfl, R, hn, hN, hD, k⟩ := h
    have hu := hu_of hr
    have hr2 : Room 2 _ := hr.mono (by decide)
    have hr3 : Room 3 _ := hr.mono (by decide)
    have one' : 1 ≤ sizeLine := by decide
    have two' : 2 ≤ sizeLine := by decide
    have three' : 3 ≤ sizeLine := by decide
    have four' : 4 ≤ sizeLine := by decide
    refine ⟨_, C8.pss_cut (ps_par (i := 4) (j := 5) rfl scLeaf.nd rfl rfl (by decide) rfl rfl (pa_cons (pe_call GD hr2 rfl gD kD bD .nil pass0 (pa_cons (pv 0) (pa_cons pe_int pa_nil))) (pa_cons (pe_call GO hr3 rfl gO kO bO .nil pass0 (pa_cons (pv 0) (pa_cons (pe_dget hu (pv 1) pe_str (fun _ _ => rfl)) pa_nil))) pa_nil)) (by rfl))
      (pss_cons (ps_if (pt_cmpR op_lt (pv 4) pe_int (nomark _)) (pss_one (ps_ret (pe_ifExp (pt_val (pv 2)) (pe_tup (pa_cons pe_str pa_nil)) (pe_tup (pa_cons pe_str (pa_cons (pv 5) pa_nil)))))) pss_nil)
      (pss_cons (ps_if (pt_cmpR op_lt (pv 4) pe_int (nomark _)) (pss_one (ps_ret (pe_tup (pa_cons pe_str (pa_cons (pv 5) (pa_cons (pe_call GF hr rfl gF kF bF .nil pass0 (pa_cons (pv 0) (pa_cons (pv 1) pa_nil))) pa_nil)))))) pss_nil)
      (pss_cons (ps_if (pt_cmpR op_lt (pv 4) pe_int (nomark _)) (pss_one (ps_ret (pe_tup (pa_cons pe_str (pa_cons (pe_call GO hr3 rfl gO kO bO .nil pass0 (pa_cons (pv 0) (pa_cons (pe_dget hu (pv 1) pe_str (fun _ _ => rfl)) pa_nil))) (pa_cons (pv 5) (pa_cons (pe_call GF hr rfl gF kF bF .nil pass0 (pa_cons (pv 0) (pa_cons (pv 1) pa_nil))) pa_nil))))))) pss_nil)
      (pss_cons (ps_if (pt_cmpR op_lt (pv 4) pe_int (nomark _)) (pss_one (ps_ret (pe_tup (pa_cons pe_str (pa_cons (pe_call GO hr3 rfl gO kO bO .nil pass0 (pa_cons (pv 0) (pa_cons (pe_dget hu (pv 1) pe_str (fun _ _ => rfl)) pa_nil))) pa_nil))))) pss_nil)
      (pss_cons (ps_if (pt_cmpR op_lt (pv 4) pe_int (nomark _)) (pss_one (ps_ret (pe_ifExp (pt_cmpR op_lt (pv 4) pe_int (nomark _)) (pe_tup (pa_cons pe_str (pa_cons (pv 5) pa_nil))) (pe_tup (pa_cons pe_str (pa_cons (pv 5) pa_nil)))))) pss_nil)
      (pss_cons (ps_if (pt_cmpR op_eq (pv 4) pe_int (nomark _)) (pss_one (ps_ret (pe_ifExp (pt_val (pv 3)) (pe_tup (pa_cons pe_str pa_nil)) (pe_tup (pa_cons pe_str pa_nil))))) pss_nil)
      (pss_one (ps_ret (pe_tup (pa_cons pe_str (pa_cons (pe_call GO hr3 rfl gO kO bO .nil pass0 (pa_cons (pv 0) (pa_cons (pe_dget hu (pv 1) pe_str (fun _ _ => rfl)) pa_nil))) pa_nil))))))))))), ?_⟩
    refine ⟨fun σ H2 => ∃ (wy : Int) (z : Str), σ = [some (.ref a.s), some (.ref ow), some (.bl f), some (.bl l), some (.int wy), some (.str z)] ∧ z ∈ vars ∧ Rnd H2 a (n + 2) ∧ But a H H2, ?_, ?_⟩
    · refine ⟨_, rfl, a, n, 16, rfl, R, by omega, by decide, by decide, fun wy H1 _ _ R1 b1 => ?_⟩
      obtain ⟨vl, g, ov, ev⟩ := (hD.but b1).gv
      refine ⟨_, rfl, _, rfl, ow, _, rfl, g, a, n + 1, vl, _, rfl, R1, by omega, ov, ev, by rw [List.length_map]; exact hN.v1, by rw [List.length_map]; have := hN.v3; omega, fun v i H2 hv R2 b2 => ?_⟩
      obtain ⟨z, hz, rfl⟩ := str_get hv
      exact ⟨_, _, rfl, wy, z, rfl, hz, R2, b1.trans b2⟩
    rintro σ H2 ⟨wy, z, rfl, hz, R2, b2⟩
    have fin : ∀ {us : List Tr} {xs : List V} {H1 : Hp} {n1 : Nat} {p : Addr}, GLeaf vars κ f l (.tup us) → H1 p = none → TlZ K H1 xs us → n1 ≤ n + 10 → Rnd H1 a n1 → But a H H1 → Q (.ref p) (upd H1 p (.tup xs)) := fun {us xs H1 n1 p} hg np ht hn1 R1 b1 => by
      obtain ⟨sp, tp⟩ := new_trZ np ht (by cases hg <;> rfl)
      exact k _ _ n1 _ hg tp hn1 (R1.same sp) (b1.trans (Same.but sp))
    have zt : ∀ {H' : Hp}, TrZ K H' (.str z) (.str z) := .str z (name_line (hN.vn z hz))
    have D2 := hD.but b2
    have lt : ∀ {c : Int} {tt : TS} {D : Ends} {σ : L2.St} {H : Hp}, True := trivial
    refine ⟨_, rfl, _, _, rfl, rfl, _, rfl, ?_⟩
    refine ite2 (fun _ => ?_) (fun _ => ?_)
    · cases f with
      | true => exact ⟨_, rfl, _, rfl, iteT ⟨one', fun p np => fin .yield np (.cons (.str "yield" (by decide)) .nil) (by omega) R2 b2⟩⟩
      | false => exact ⟨_, rfl, _, rfl, iteF ⟨_, rfl, two', fun p np => fin (.show_ hz) np (.cons (.str "show" (by decide)) (.cons zt .nil)) (by omega) R2 b2⟩⟩
    refine ⟨_, rfl, _, _, rfl, rfl, _, rfl, ?_⟩
    refine ite2 (fun _ => ?_) (fun _ => ?_)
    · refine ⟨_, rfl, _, rfl, _, rfl, a, n + 2, ow, vars, cs, ts, κ, rfl, R2, by omega, hN, D2, fun v s n3 H3 hs ht hn3 R3 b3 => ⟨three', fun p np => ?_⟩⟩
      exact fin (.set hz hs) np (.cons (.str "set" (by decide)) (.cons zt (.cons (ht _) .nil))) (by omega) R3 (b2.trans b3)
    refine ⟨_, rfl, _, _, rfl, rfl, _, rfl, ?_⟩
    refine ite2 (fun _ => ?_) (fun _ => ?_)
    · obtain ⟨tl, g, ov, ev⟩ := D2.gt
      refine ⟨_, rfl, _, rfl, ow, _, rfl, g, a, n + 2, tl, _, rfl, R2, by omega, ov, ev, by rw [List.length_map]; exact hN.t1, by rw [List.length_map]; have := hN.t3; omega, fun v i H3 hv R3 b3 => ?_⟩
      obtain ⟨y, hy, rfl⟩ := str_get hv
      obtain ⟨y1, y2⟩ := hN.tn y hy
      refine ⟨_, rfl, _, rfl, _, rfl, a, n + 3, ow, vars, cs, ts, κ, rfl, R3, by omega, hN, D2.but b3, fun v s n4 H4 hs ht hn4 R4 b4 => ⟨four', fun p np => ?_⟩⟩
      exact fin (.hold y1 y2 hz hs) np (.cons (.str "hold" (by decide)) (.cons (.str y (name_line y1)) (.cons zt (.cons (ht _) .nil)))) (by omega) R4 ((b2.trans b3).trans b4)
    refine ⟨_, rfl, _, _, rfl, rfl, _, rfl, ?_⟩
    refine ite2 (fun _ => ?_) (fun _ => ?_)
    · obtain ⟨tl, g, ov, ev⟩ := D2.gt
      refine ⟨_, rfl, _, rfl, ow, _, rfl, g, a, n + 2, tl, _, rfl, R2, by omega, ov, ev, by rw [List.length_map]; exact hN.t1, by rw [List.length_map]; have := hN.t3; omega, fun v i H3 hv R3 b3 => ⟨two', fun p np => ?_⟩⟩
      obtain ⟨y, hy, rfl⟩ := str_get hv
      obtain ⟨y1, y2⟩ := hN.tn y hy
      exact fin (.reset y1 y2) np (.cons (.str "reset" (by decide)) (.cons (.str y (name_line y1)) .nil)) (by omega) R3 (b2.trans b3)
    refine ⟨_, rfl, _, _, rfl, rfl, _, rfl, ?_⟩
    refine ite2 (fun _ => ?_) (fun _ => ?_)
    · refine ⟨_, rfl, _, _, rfl, rfl, _, rfl, ?_⟩
      refine ite2 (fun _ => ?_) (fun _ => ?_)
      · exact ⟨_, rfl, two', fun p np => fin (.show_ hz) np (.cons (.str "show" (by decide)) (.cons zt .nil)) (by omega) R2 b2⟩
      · exact ⟨_, rfl, two', fun p np => fin (.drop hz) np (.cons (.str "drop" (by decide)) (.cons zt .nil)) (by omega) R2 b2⟩
    refine ⟨_, rfl, rfl, _, rfl, ?_⟩
    refine ite2 (fun _ => ?_) (fun _ => ?_)
    · cases l with
      | true => exact ⟨_, rfl, _, rfl, iteT ⟨one', fun p np => fin .leave np (.cons (.str "leave" (by decide)) .nil) (by omega) R2 b2⟩⟩
      | false => exact ⟨_, rfl, _, rfl, iteF ⟨one', fun p np => fin .fail np (.cons (.str "fail" (by decide)) .nil) (by omega) R2 b2⟩⟩
    · obtain ⟨tl, g, ov, ev⟩ := D2.gc
      refine ⟨_, rfl, _, rfl, ow, _, rfl, g, a, n + 2, tl, _, rfl, R2, by omega, ov, ev, by rw [List.length_map]; exact hN.c1, by rw [List.length_map]; have := hN.c3; omega, fun v i H3 hv R3 b3 => ⟨two', fun p np => ?_⟩⟩
      obtain ⟨y, hy, rfl⟩ := str_get hv
      obtain ⟨y1, y2⟩ := hN.cn y hy
      exact fin (.copy y1 y2) np (.cons (.str "copy" (by decide)) (.cons (.str y (name_line y1)) .nil)) (by omega) R3 (b2.trans b3)
end
end BK

set_option Elab.async false
set_option maxRecDepth 100000
set_option maxHeartbeats 4000000
set_option linter.unusedVariables false
/-! blocks that are drawn: pieces of tuples, of blocks -/
namespace BK
open PySem PySem.Spec PyProof.Rows L2 SW DU
theorem GB.append {vars : List Str} {κ : Str → Str} {d : Nat} {f l : Bool} : ∀ {a b : List Tr} {m k : Nat}, GB vars κ d f l a m → GB vars κ d f l b k → GB vars κ d f l (a ++ b) (m + k)
  | _, b, _, k, .nil, h => by rw [List.nil_append, Nat.zero_add]; exact h
  | _, b, _, k, .cons (t := t) (ts := ts) (m := m) (k := j) h r, h2 => by
    rw [List.cons_append, Nat.add_assoc]
    exact .cons h (r.append h2)
theorem GB.snoc {vars : List Str} {κ : Str → Str} {d : Nat} {f l : Bool} {a : List Tr} {t : Tr} {m k : Nat} (h : GB vars κ d f l a m) (g : GS vars κ d f l t k) : GB vars κ d f l (a ++ [t]) (m + k) := h.append (.cons g .nil)
theorem GB.split {vars : List Str} {κ : Str → Str} {d : Nat} {f l : Bool} : ∀ {ts : List Tr} {m : Nat}, GB vars κ d f l ts m → ∀ i, ∃ m1 m2, GB vars κ d f l (ts.take i) m1 ∧ GB vars κ d f l (ts.drop i) m2 ∧ m1 + m2 = m
  | _, _, .nil, i => ⟨0, 0, by rw [List.take_nil]; exact .nil, by rw [List.drop_nil]; exact .nil, rfl⟩
  | _, _, .cons h r, 0 => ⟨0, _, .nil, .cons h r, by omega⟩
  | _, _, .cons (m := m) h r, i + 1 => by
    obtain ⟨m1, m2, g1, g2, e⟩ := r.split i
    exact ⟨m + m1, m2, .cons h g1, g2, by omega⟩
theorem gs_pos {vs : List Str} {κ : Str → Str} {d : Nat} {f l : Bool} {t : Tr} {m : Nat} (h : GS vs κ d f l t m) : 1 ≤ m := by
  cases h <;> omega
theorem gb_len {vs : List Str} {κ : Str → Str} {d : Nat} {f l : Bool} : ∀ {ts : List Tr} {m : Nat}, GB vs κ d f l ts m → ts.length ≤ m
  | [], _, _ => Nat.zero_le _
  | t :: r, _, .cons h k => by
    have h1 := gs_pos h
    have h2 := gb_len k
    rw [List.length_cons]
    omega
theorem yield_mid (a b : List Tr) : yieldT (a ++ [yieldS] ++ b) = true := by
  have h : [yieldS].any isYield = true := yield_yes
  unfold yieldT
  rw [List.any_append, List.any_append, h]
  simp
/-- a list of trees -/
def LstAt (K : PySem.W.Frag) (H : Hp) (D : Addr) (ts : List Tr) : Prop := ∃ vs, H D = some (.lst vs) ∧ TlZ K H vs ts
theorem LstAt.same {K : PySem.W.Frag} {H H' : Hp} {D : Addr} {ts : List Tr} (h : LstAt K H D ts) (e : Same H H') : LstAt K H' D ts := by
  obtain ⟨vs, h1, h2⟩ := h
  exact ⟨vs, e _ _ h1, h2.same e⟩
theorem LstAt.rnd {K : PySem.W.Frag} {H H' : Hp} {D : Addr} {ts : List Tr} {a : RA} {n n' : Nat} (h : LstAt K H D ts) (o : SW.Off a D) (R : Rnd H a n) (R' : Rnd H' a n') (b : But a H H') : LstAt K H' D ts := by
  obtain ⟨vs, h1, h2⟩ := h
  exact ⟨vs, b.at o h1, h2.rnd R R' b⟩
theorem six_hi {n i : Nat} (h : i ≤ n) : HT.sIx n n (some (i : Int)) = i := by
  unfold HT.sIx
  show (if (i : Int) < 0 then _ else min (i : Int).toNat n) = i
  rw [if_neg (by omega)]
  omega
theorem six_lo {n i : Nat} (h : i ≤ n) : HT.sIx n 0 (some (i : Int)) = i := by
  unfold HT.sIx
  show (if (i : Int) < 0 then _ else min (i : Int).toNat n) = i
  rw [if_neg (by omega)]
  omega
theorem cut_to {xs : List V} {i : Nat} (h : i ≤ xs.length) : cutV xs none (some (i : Int)) = xs.take i := by
  unfold cutV
  have e1 : HT.sIx xs.length 0 none = 0 := rfl
  rw [e1, six_hi h]
  simp
theorem cut_from {xs : List V} {i : Nat} (h : i ≤ xs.length) : cutV xs (some (i : Int)) none = xs.drop i := by
  unfold cutV
  have e2 : HT.sIx xs.length xs.length none = xs.length := rfl
  rw [e2, six_lo h]
  rw [List.take_of_length_le (by rw [List.length_drop]; omega)]
section
variable {K : PySem.W.Frag} {H : Hp}
theorem sl_take_tr {v : V} {ts : List Tr} {i : Nat} {Q : VK} (h : TrZ K H v (.tup ts)) (hi : i ≤ ts.length) (k : ∀ r H', Same H H' → TrZ K H' r (.tup (ts.take i)) → Q r H') : DU.rSlZ K v none (some (i : Int)) H Q := sl_take_z h hi k six_hi cut_to
theorem sl_drop_tr {v : V} {ts : List Tr} {i : Nat} {Q : VK} (h : TrZ K H v (.tup ts)) (hi : i ≤ ts.length) (k : ∀ r H', Same H H' → TrZ K H' r (.tup (ts.drop i)) → Q r H') : DU.rSlZ K v (some (i : Int)) none H Q := sl_drop_z h hi k six_lo cut_from
end
def bodyOf : Stmt → List Stmt
  | .For _ _ b _ _ => b
  | .If _ b _ _ => b
  | _ => []
/-! the promises of _law_statement, _law_block -/
abbrev sStA : Stmt := top 68
abbrev nStA : List Str := ["state", "own", "deep", "is_free", "is_loop", "way", "var", "block", "at", "number", "first", "second"]
theorem scStA : FnScope nStA ["state", "own", "deep", "is_free", "is_loop"] (defScope sStA) := ⟨rfl, rfl, rfl, by decide +kernel, rfl, by decide +kernel, by decide +kernel⟩
abbrev sBlA : Stmt := top 69
abbrev nBlA : List Str := ["state", "own", "deep", "is_free", "is_loop", "found", "k"]
theorem scBlA : FnScope nBlA ["state", "own", "deep", "is_free", "is_loop"] (defScope sBlA) := ⟨rfl, rfl, rfl, by decide +kernel, rfl, by decide +kernel, by decide +kernel⟩
def spStA (K : PySem.W.Frag) (e : Nat) : Sp := fun vs H Q _ => ∃ (a : RA) (n : Nat) (ow : Addr) (vars cs ts : List Str) (κ : Str → Str) (deep : Nat) (f l : Bool), vs = [.ref a.s, .ref ow, .int (deep : Int), .bl f, .bl l] ∧ Rnd H a n ∧ 0 ≤ a.r ∧ a.r ≤ 100 ∧ (n : Int) + 20 * a.r + 620 ≤ 1000000 ∧ OwnN vars cs ts κ ∧ OwnD H a ow vars cs ts ∧ deep + e = 5 ∧ 1 ≤ e ∧
  ∀ (v : V) (t : Tr) (m n' : Nat) (H' : Hp), GS vars κ e f l t m → (m : Int) - 1 ≤ a.r → TrZ K H' v t → n' ≤ n + 20 * m → Rnd H' (a.rm (a.r - ((m : Int) - 1))) n' → But a H H' → Q v H'
def spBlA (K : PySem.W.Frag) (e : Nat) : Sp := fun vs H Q _ => ∃ (a : RA) (n : Nat) (ow : Addr) (vars cs ts : List Str) (κ : Str → Str) (deep : Nat) (f l : Bool), vs = [.ref a.s, .ref ow, .int (deep : Int), .bl f, .bl l] ∧ Rnd H a n ∧ 0 ≤ a.r ∧ a.r ≤ 100 ∧ (n : Int) + 20 * a.r + 610 ≤ 1000000 ∧ OwnN vars cs ts κ ∧ OwnD H a ow vars cs ts ∧ deep + e = 5 ∧ 1 ≤ e ∧
  ∀ (v : V) (us : List Tr) (m n' : Nat) (H' : Hp), GB vars κ e f l us m → (m : Int) ≤ a.r → TrZ K H' v (.tup us) → n' ≤ n + 2 + 20 * m → Rnd H' (a.rm (a.r - (m : Int))) n' → But a H H' → Q v H'
section
variable {P : Program} {w : World} {K : PySem.W.Frag} {mg : Str → Option Value} {base : Heap}
abbrev XBl (P : Program) (w : World) (K : PySem.W.Frag) (mg : Str → Option Value) (base : Heap) (f : Addr) (cdv : Value) (A : Around) (outer : List Env) (s : Shared) (H : Hp) (E : XK) : Cx := (cxOf CX0 P w K mg base nBlA "_law_block" (defScope sBlA) f cdv A outer s H E).nox
/-- what is gathered of a block -/
def BlI (K : PySem.W.Frag) (a : RA) (n : Nat) (vars : List Str) (κ : Str → Str) (e : Nat) (f l : Bool) (D : Addr) (H0 H2 : Hp) : Prop := ∃ (us : List Tr) (m n' : Nat), GB vars κ e f l us m ∧ (m : Int) ≤ a.r ∧ LstAt K H2 D us ∧ n' ≤ n + 2 + 20 * m ∧ Rnd H2 (a.rm (a.r - (m : Int))) n' ∧ But a H0 H2
theorem blA_turn {f fS : Addr} {fdS : FuncData} {cdv : Value} {A : Around} {outer : List Env} {s0 : Shared} {H : Hp} {E : XK} {e : Nat} (hr : Room (4 + 2 * e) (A.deeper (envOfC "_law_block" (defScope sBlA) s0.heap.objs.size f cdv)))
    (GS' : FnOk P w K mg base CX0 (4 + 2 * e) fS fdS ["state", "own", "deep", "is_free", "is_loop"] (spStA K e)) (bS : Binds K fdS ["state", "own", "deep", "is_free", "is_loop"] []) (gS : mg "_law_statement" = some (.ref fS)) (kS : PySem.W.keepIn K (.ref fS) = true) :
    ∃ t, PSs (XBl P w K mg base f cdv A outer s0 H E) (bodyOf (stAt sBlA 1)) t ∧
    ∀ {D} {a : RA} {n deep : Nat} {ow N : Addr} {vars cs ts : List Str} {κ : Str → Str} {f l : Bool} {H0 H1 : Hp} {v6 : Option V}, 0 ≤ a.r → a.r ≤ 100 → (n : Int) + 20 * a.r + 610 ≤ 1000000 → OwnN vars cs ts κ → OwnD H0 a ow vars cs ts → deep + e = 5 → 1 ≤ e → H0 N = none → SW.Off a N → BlI K a n vars κ e f l N H0 H1 →
      (∀ H2, BlI K a n vars κ e f l N H0 H2 → D.nx [some (.ref a.s), some (.ref ow), some (.int (deep : Int)), some (.bl f), some (.bl l), some (.ref N), v6] H2) →
      t D [some (.ref a.s), some (.ref ow), some (.int (deep : Int)), some (.bl f), some (.bl l), some (.ref N), v6] H1 := by
  have hu := hu_of hr
  refine ⟨_, pss_one (ps_if (pt_cmpR op_gt (pe_dget hu (pv 0) pe_str (fun _ _ => rfl)) pe_int (nomark _))
            (pss_cons (ps_dput hu (pv 0) pe_str (pe_op op_sub (pe_dget hu (pv 0) pe_str (fun _ _ => rfl)) pe_int) rfl)
            (pss_one (ps_expr (pe_bm PySem.F.plainAttrs_list PySem.F.slot_list_append PySem.F.type_list_append mt_append (pv 5) (pa_cons (pe_call GS' hr rfl gS kS bS .nil pass0 (pa_cons (pv 0) (pa_cons (pv 1) (pa_cons (pv 2) (pa_cons (pv 3) (pa_cons (pv 4) pa_nil)))))) pa_nil))))) pss_nil), ?_⟩
  intro D a n deep ow N vars cs ts κ f l H0 H1 v6 r0 r1 hn hN hD hde he nN oN hI k
  obtain ⟨us, m, n', hg, hm, hL, hn', R, b⟩ := id hI
  have gr := rnd_room R
  refine ⟨_, rfl, a.s, _, rfl, gr, _, _, rfl, rfl, _, rfl, ?_⟩
  refine ite2 (fun h => ?_) (fun _ => k H1 hI)
  have h : (0 : Int) < a.r - (m : Int) := of_decide_eq_true h
  obtain ⟨H2, dp, R2, b2⟩ := rnd_setR R (a.r - (m : Int) - 1)
  refine ⟨_, rfl, a.s, _, rfl, gr, _, _, rfl, rfl, _, rfl, a.s, H2, rfl, dp, ?_⟩
  have b2 : But a H1 H2 := b2
  have R2 : Rnd H2 (a.rm (a.r - (m : Int) - 1)) n' := R2
  have hD2 := (hD.but (b.trans b2)).rm (a.r - (m : Int) - 1)
  obtain ⟨vs, eN, tN⟩ := id hL
  have eN2 := b2.at oN eN
  have vl := tN.len
  have ul := gb_len hg
  refine ⟨_, rfl, .inl ⟨rfl, _, SqL.of eN2⟩, _, rfl, _, rfl, _, rfl, _, rfl, _, rfl, a.rm (a.r - (m : Int) - 1), n', ow, vars, cs, ts, κ, deep, f, l, rfl, R2, (show (0 : Int) ≤ a.r - (m : Int) - 1 by omega), (show a.r - (m : Int) - 1 ≤ 100 by omega), (show (n' : Int) + 20 * (a.r - (m : Int) - 1) + 620 ≤ 1000000 by omega), hN, hD2, hde, he, fun v t k2 n2 H3 hs hk tv hn2 R3 b3 => ?_⟩
  have b3 : But a H2 H3 := b3
  have hk : (k2 : Int) - 1 ≤ a.r - (m : Int) - 1 := hk
  have eN3 := b3.at oN eN2
  have t3 := (tN.rndW R R2 b2 rfl rfl).rndW R2 R3 b3 rfl rfl
  refine ⟨N, vs, v, rfl, rfl, eN3, small1000 (by omega), ?_⟩
  refine k _ ⟨us ++ [t], m + k2, n2, hg.snoc hs, by omega, ⟨vs ++ [v], upd_same, (t3.updL eN3).app (.cons (tv.updL eN3) .nil)⟩, by omega, ?_, ?_⟩
  · have er : (a.rm (a.r - (m : Int) - 1)).rm ((a.rm (a.r - (m : Int) - 1)).r - ((k2 : Int) - 1)) = a.rm (a.r - ((m + k2 : Nat) : Int)) := by
      show a.rm (a.r - (m : Int) - 1 - ((k2 : Int) - 1)) = _
      congr 1
      omega
    rw [er] at R3
    exact R3.upd (oN.rm _)
  · exact ((b.trans b2).trans b3).new nN
end
end BK

set_option Elab.async false
set_option maxRecDepth 100000
set_option maxHeartbeats 4000000
set_option linter.unusedVariables false
/-! _law_block -/
namespace BK
open PySem PySem.Spec PyProof.Rows L2 SW DU
section
variable {P : Program} {w : World} {K : PySem.W.Frag} {mg : Str → Option Value} {base : Heap}
theorem ok_blA {f fD fS : Addr} {fd fdD fdS : FuncData} {e : Nat} (F : Fun K "_law_block" "_law_block" sBlA f fd) (mR : mg "range" = none) (mT : mg "tuple" = none)
    (GD : FnOk P w K mg base CX0 2 fD fdD ["state", "many"] spDraw) (bD : Binds K fdD ["state", "many"] []) (gD : mg "_law_draw" = some (.ref fD)) (kD : PySem.W.keepIn K (.ref fD) = true)
    (GS' : FnOk P w K mg base CX0 (4 + 2 * e) fS fdS ["state", "own", "deep", "is_free", "is_loop"] (spStA K e)) (bS : Binds K fdS ["state", "own", "deep", "is_free", "is_loop"] []) (gS : mg "_law_statement" = some (.ref fS)) (kS : PySem.W.keepIn K (.ref fS) = true) :
    FnOk P w K mg base CX0 (4 + 2 * e + 1) f fd ["state", "own", "deep", "is_free", "is_loop"] (spBlA K e) := by
  refine F.ok scBlA (fun vs H Q E h => ?_) (fun cdv A outer s H vs Q E hr h => ?_)
  · obtain ⟨a, n, ow, vars, cs, ts, κ, deep, f, l, rfl, _⟩ := h
    rfl
  · obtain ⟨a, n, ow, vars, cs, ts, κ, deep, f, l, rfl, R, r0, r1, hn, hN, hD, hde, he, k⟩ := h
    have hr2 : Room 2 _ := hr.mono (by omega)
    obtain ⟨tt, pt, rt⟩ := blA_turn (P := P) (w := w) (K := K) (mg := mg) (base := base) (outer := outer) (H := H) (E := E) hr GS' bS gS kS
    refine ⟨_, C8.pss_cut (ps_set (i := 5) scBlA.nd rfl (Or.inl rfl) (pe_lst pa_nil))
      (C8.pss_cut (ps_for PassesOwn.never rfl (pi_range1 rfl mR (pa_cons (pe_ifExp (pt_cmpR op_gt (pe_call GD hr2 rfl gD kD bD .nil pass0 (pa_cons (pv 0) (pa_cons pe_int pa_nil))) pe_int (nomark _))
            (pe_call GD hr2 rfl gD kD bD .nil pass0 (pa_cons (pv 0) (pa_cons pe_int pa_nil))) (pe_call GD hr2 rfl gD kD bD .nil pass0 (pa_cons (pv 0) (pa_cons pe_int pa_nil)))) pa_nil)) (pg_name (i := 6) scBlA.nd rfl (Or.inl rfl)) pt)
      (pss_one (ps_ret (pe_callTy call_tuple_z (by rfl) mT boot_tuple (pa_cons (pv 5) pa_nil))))), ?_⟩
    refine ⟨fun σ H1 => ∃ D : Addr, σ = [some (.ref a.s), some (.ref ow), some (.int (deep : Int)), some (.bl f), some (.bl l), some (.ref D), none] ∧ H D = none ∧ H1 D = some (.lst []) ∧ SW.Off a D ∧ Rnd H1 a n ∧ Same H H1, ?_, ?_⟩
    · exact ⟨Nat.zero_le _, fun D nD => ⟨D, rfl, nD, upd_same, R.off nD, R.same (same_new nD), same_new nD⟩⟩
    rintro σ H1 ⟨D, rfl, nD, eD, oD, R1, s1⟩
    refine ⟨fun σ H2 => ∃ v6 : Option V, σ = [some (.ref a.s), some (.ref ow), some (.int (deep : Int)), some (.bl f), some (.bl l), some (.ref D), v6] ∧ BlI K a n vars κ e f l D H H2, ?_, ?_⟩
    · refine ⟨_, rfl, a, n, 4, rfl, R1, by omega, by decide, by decide, fun x H2 _ _ R2 b2 => ?_⟩
      have z0 : ∀ {n2 : Nat} {H3 : Hp}, n2 ≤ n + 2 → Rnd H3 a n2 → But a H1 H3 → BlI K a n vars κ e f l D H H3 := fun {n2 H3} h R3 b3 =>
        ⟨[], 0, n2, .nil, by simpa using r0, ⟨[], b3.at oD eD, .nil⟩, by omega, by
          have er : a.rm (a.r - ((0 : Nat) : Int)) = a := by
            show a.rm (a.r - 0) = a
            rw [Int.sub_zero]
            rfl
          rw [er]
          exact R3, (Same.but s1).trans b3⟩
      refine ⟨_, _, rfl, rfl, _, rfl, ?_⟩
      refine ite2 (fun _ => ?_) (fun _ => ?_)
      · refine ⟨_, rfl, a, n + 1, 5, rfl, R2, by omega, by decide, by decide, fun c H3 c0 c1 R3 b3 => ?_⟩
        refine ⟨c, rfl, by omega, by omega, for_range (lo := 0) (n := c.toNat) (fun i σ H4 => ∃ v6 : Option V, σ = [some (.ref a.s), some (.ref ow), some (.int (deep : Int)), some (.bl f), some (.bl l), some (.ref D), v6] ∧ BlI K a n vars κ e f l D H H4) ⟨none, rfl, z0 (by omega) R3 (b2.trans b3)⟩ ?_ (fun σ H4 h => h)⟩
        rintro i σ H4 hi ⟨v6, rfl, hI⟩
        exact rt r0 r1 hn hN hD hde he nD oD hI fun H5 hI5 => ⟨_, rfl, hI5⟩
      · refine ⟨_, rfl, a, n + 1, 17, rfl, R2, by omega, by decide, by decide, fun c H3 c0 c1 R3 b3 => ?_⟩
        refine ⟨c, rfl, by omega, by omega, for_range (lo := 0) (n := c.toNat) (fun i σ H4 => ∃ v6 : Option V, σ = [some (.ref a.s), some (.ref ow), some (.int (deep : Int)), some (.bl f), some (.bl l), some (.ref D), v6] ∧ BlI K a n vars κ e f l D H H4) ⟨none, rfl, z0 (by omega) R3 (b2.trans b3)⟩ ?_ (fun σ H4 h => h)⟩
        rintro i σ H4 hi ⟨v6, rfl, hI⟩
        exact rt r0 r1 hn hN hD hde he nD oD hI fun H5 hI5 => ⟨_, rfl, hI5⟩
    rintro σ H2 ⟨v6, rfl, us, m, n', hg, hm, ⟨vs, e2, t2⟩, hn', R2, b2⟩
    refine ⟨_, rfl, D, vs, rfl, SqL.of e2, fun p o np hd => ?_⟩
    have sp := same_new (o := .frz o (.tup vs)) np
    exact k (.ref p) us m n' _ hg hm (.tup sqt_z (fun _ => Tz.of hd) (t2.same sp)) hn' (R2.same sp) (b2.trans (Same.but sp))
end
end BK

set_option Elab.async false
set_option maxRecDepth 100000
set_option maxHeartbeats 4000000
set_option linter.unusedVariables false
/-! _law_statement: a leaf, a loop -/
namespace BK
open PySem PySem.Spec PyProof.Rows L2 SW DU
abbrev XSt (P : Program) (w : World) (K : PySem.W.Frag) (mg : Str → Option Value) (base : Heap) (f : Addr) (cdv : Value) (A : Around) (outer : List Env) (s : Shared) (H : Hp) (E : XK) : Cx := (cxOf CX0 P w K mg base nStA "_law_statement" (defScope sStA) f cdv A outer s H E).nox
section
variable {P : Program} {w : World} {K : PySem.W.Frag} {mg : Str → Option Value} {base : Heap} {f0 : Addr} {cdv : Value} {A : Around} {outer : List Env} {s0 : Shared} {H : Hp} {E : XK}
theorem stA_leaf {fL : Addr} {fdL : FuncData} (hr : Room 5 (A.deeper (envOfC "_law_statement" (defScope sStA) s0.heap.objs.size f0 cdv)))
    (GL : FnOk P w K mg base CX0 5 fL fdL ["state", "own", "is_free", "is_loop"] (spLeaf K)) (bL : Binds K fdL ["state", "own", "is_free", "is_loop"] []) (gL : mg "_law_leaf" = some (.ref fL)) (kL : PySem.W.keepIn K (.ref fL) = true) :
    ∃ t, PSs (XSt P w K mg base f0 cdv A outer s0 H E) (bodyOf (stAt sStA 1)) t ∧
    ∀ {D} {a : RA} {n : Nat} {ow : Addr} {vars cs ts : List Str} {κ : Str → Str} {f l : Bool} {H1 : Hp} {v2 v5 v6 v7 v8 v9 v10 v11 : Option V}, Rnd H1 a n → n + 300 ≤ 1000000 → OwnN vars cs ts κ → OwnD H1 a ow vars cs ts →
      (∀ (v : V) (t : Tr) (n' : Nat) (H' : Hp), GLeaf vars κ f l t → TrZ K H' v t → n' ≤ n + 10 → Rnd H' a n' → But a H1 H' → D.rt v H') →
      t D [some (.ref a.s), some (.ref ow), v2, some (.bl f), some (.bl l), v5, v6, v7, v8, v9, v10, v11] H1 := by
  refine ⟨_, pss_one (ps_ret (pe_call GL hr rfl gL kL bL .nil pass0 (pa_cons (pv 0) (pa_cons (pv 1) (pa_cons (pv 3) (pa_cons (pv 4) pa_nil)))))), ?_⟩
  intro D a n ow vars cs ts κ f l H1 v2 v5 v6 v7 v8 v9 v10 v11 R hn hN hD k
  exact ⟨_, rfl, _, rfl, _, rfl, _, rfl, a, n, ow, vars, cs, ts, κ, f, l, rfl, R, hn, hN, hD, k⟩
theorem stA_loop {fB fD : Addr} {fdB fdD : FuncData} {e : Nat} (hr : Room (4 + 2 * e + 1) (A.deeper (envOfC "_law_statement" (defScope sStA) s0.heap.objs.size f0 cdv))) (mL : mg "len" = none)
    (GD : FnOk P w K mg base CX0 2 fD fdD ["state", "many"] spDraw) (bD : Binds K fdD ["state", "many"] []) (gD : mg "_law_draw" = some (.ref fD)) (kD : PySem.W.keepIn K (.ref fD) = true)
    (GB' : FnOk P w K mg base CX0 (4 + 2 * e + 1) fB fdB ["state", "own", "deep", "is_free", "is_loop"] (spBlA K e)) (bB : Binds K fdB ["state", "own", "deep", "is_free", "is_loop"] []) (gB : mg "_law_block" = some (.ref fB)) (kB : PySem.W.keepIn K (.ref fB) = true) :
    ∃ t, PSs (XSt P w K mg base f0 cdv A outer s0 H E) (bodyOf (stAt sStA 4)) t ∧
    ∀ {D} {a : RA} {n deep : Nat} {ow : Addr} {vars cs ts : List Str} {κ : Str → Str} {f l : Bool} {H1 : Hp} {v5 v6 v7 v8 v9 v10 v11 : Option V}, Rnd H1 a n → 1 ≤ a.r → a.r ≤ 100 → (n : Int) + 20 * a.r + 600 ≤ 1000000 → OwnN vars cs ts κ → OwnD H1 a ow vars cs ts → deep + e = 4 → 1 ≤ e → f = true →
      (∀ (v : V) (t : Tr) (m n' : Nat) (H' : Hp), GS vars κ (e + 1) f l t m → (m : Int) - 1 ≤ a.r → TrZ K H' v t → n' + 30 ≤ n + 20 * m → Rnd H' (a.rm (a.r - ((m : Int) - 1))) n' → But a H1 H' → D.rt v H') →
      t D [some (.ref a.s), some (.ref ow), some (.int (deep : Int)), some (.bl f), some (.bl l), v5, v6, v7, v8, v9, v10, v11] H1 := by
  have hu := hu_of hr
  have hr2 : Room 2 _ := hr.mono (by omega)
  have one' : 1 ≤ sizeLine := by decide
  have two' : 2 ≤ sizeLine := by decide
  refine ⟨_, pss_cons (ps_dput hu (pv 0) pe_str (pe_op op_sub (pe_dget hu (pv 0) pe_str (fun _ _ => rfl)) pe_int) rfl)
    (pss_cons (ps_set (i := 7) scStA.nd rfl (Or.inl rfl) (pe_call GB' hr rfl gB kB bB .nil pass0 (pa_cons (pv 0) (pa_cons (pv 1) (pa_cons (pe_op op_add (pv 2) pe_int) (pa_cons pe_bl (pa_cons pe_bl pa_nil)))))))
    (pss_cons (ps_set (i := 8) scStA.nd rfl (Or.inl rfl) (pe_call GD hr2 rfl gD kD bD .nil pass0 (pa_cons (pv 0) (pa_cons (pe_op op_add (pe_callB call_len_seq (by rfl) mL boot_len (pa_cons (pv 7) pa_nil)) pe_int) pa_nil))))
    (pss_one (ps_ret (pe_tup (pa_cons pe_str (pa_cons (pe_op op_catZ (pe_op op_catZ (pe_slice sl_tupZ (pv 7) po_none (po_some (pv 8))) (pe_tupZ (pa_cons (pe_tup (pa_cons pe_str pa_nil)) pa_nil))) (pe_slice sl_tupZ (pv 7) (po_some (pv 8)) po_none)) pa_nil))))))), ?_⟩
  intro D a n deep ow vars cs ts κ f l H1 v5 v6 v7 v8 v9 v10 v11 R r0 r1 hn hN hD hde he hf k
  subst hf
  obtain ⟨H2, dp, R2, b2⟩ := rnd_setR R (a.r - 1)
  have b2 : But a H1 H2 := b2
  refine ⟨_, rfl, a.s, _, rfl, rnd_room R, _, _, rfl, rfl, _, rfl, a.s, H2, rfl, dp, ?_⟩
  have ed : (deep : Int) + 1 = ((deep + 1 : Nat) : Int) := by omega
  refine ⟨_, rfl, _, rfl, _, rfl, _, _, rfl, rfl, a.rm (a.r - 1), n, ow, vars, cs, ts, κ, deep + 1, true, true, by rw [← ed]; rfl, R2, (show (0 : Int) ≤ a.r - 1 by omega), (show a.r - 1 ≤ 100 by omega), (show (n : Int) + 20 * (a.r - 1) + 610 ≤ 1000000 by omega), hN, (hD.but b2).rm _, by omega, he, fun v us m n3 H3 hg hm tv hn3 R3 b3 => ?_⟩
  have hm : (m : Int) ≤ a.r - 1 := hm
  have b3 : But a H2 H3 := b3
  obtain ⟨ta, xs, rfl, hta, hza, txs⟩ : ∃ (ta : Addr) (xs : List V), v = .ref ta ∧ SqT K H3 ta xs ∧ (us.all isTup = true → Tz K H3 ta xs) ∧ TlZ K H3 xs us := by
    cases tv with
    | tup h z k => exact ⟨_, _, rfl, h, z, k⟩
  have xl := txs.len
  have ul := gb_len hg
  refine ⟨_, rfl, _, rfl, ta, xs, rfl, .inr hta, _, _, rfl, rfl, (a.rm (a.r - 1)).rm ((a.rm (a.r - 1)).r - (m : Int)), n3, ((xs.length : Int) + 1), rfl, R3, by omega, by omega, by omega, fun i H4 i0 il R4 b4 => ?_⟩
  have b4 : But a H3 H4 := b4
  obtain ⟨j, rfl⟩ : ∃ j : Nat, i = (j : Int) := ⟨i.toNat, by omega⟩
  have tv4 : TrZ K H4 (.ref ta) (.tup us) := (TrZ.tup hta hza txs).rndW R3 R4 b4 rfl rfl
  obtain ⟨m1, m2, g1, g2, em⟩ := hg.split j
  refine ⟨_, rfl, _, rfl, j, rfl, sl_take_tr tv4 (by omega) fun q5 H5 s5 t5 => ?_⟩
  refine ⟨one', fun q6 n6 => ⟨one', fun q7 o7 n7 d7 => ?_⟩⟩
  obtain ⟨s6, t6⟩ := new_trZ (K := K) n6 (.cons (.str "yield" (by decide)) .nil)
  generalize upd H5 q6 (.tup [.str "yield"]) = H6 at s6 t6 n7 ⊢
  obtain ⟨s7, t7⟩ := new_z n7 d7 (.cons t6 .nil)
  generalize upd H6 q7 (.frz o7 (.tup [.ref q6])) = H7 at s7 t7 ⊢
  have s57 := s6.trans s7
  refine cat_z (t5.same s57) t7 (by rw [List.length_take]; omega) (by simp) fun q8 H8 s8 t8 => ?_
  have s58 := s5.trans (s57.trans s8)
  refine ⟨_, rfl, _, rfl, j, rfl, ?_⟩
  dsimp only [tNoPart]
  refine sl_drop_tr (tv4.same s58) (by omega) fun q9 H9 s9 t9 => ?_
  refine cat_z (t8.same s9) t9 (by rw [List.length_append, List.length_take]; simp; omega) (by rw [List.length_drop]; omega) fun q10 H10 s10 t10 => ⟨two', fun q11 n11 => ?_⟩
  obtain ⟨s11, t11⟩ := new_trZ n11 (.cons (.str "loop" (by decide)) (.cons t10 .nil))
  have sA := ((s58.trans s9).trans s10).trans s11
  have gy : GB vars κ e true true (us.take j ++ [yieldS] ++ us.drop j) (m1 + 1 + m2) := by
    obtain ⟨e', rfl⟩ : ∃ e', e = e' + 1 := ⟨e - 1, by omega⟩
    exact (g1.snoc (.leaf .yield)).append g2
  refine k _ _ (m1 + 1 + m2 + 1) (n3 + 1) _ (.loop gy (yield_mid _ _)) (by omega) t11 (by omega) ?_ (((b2.trans b3).trans b4).trans (Same.but sA))
  have er : (a.rm (a.r - 1)).rm ((a.rm (a.r - 1)).r - (m : Int)) = a.rm (a.r - (((m1 + 1 + m2 + 1 : Nat) : Int) - 1)) := by
    show a.rm (a.r - 1 - (m : Int)) = _
    congr 1
    omega
  rw [er] at R4
  exact R4.same sA
end
end BK

set_option Elab.async false
set_option maxRecDepth 100000
set_option maxHeartbeats 8000000
set_option linter.unusedVariables false
/-! _law_statement -/
namespace BK
open PySem PySem.Spec PyProof.Rows L2 SW DU
section
variable {P : Program} {w : World} {K : PySem.W.Frag} {mg : Str → Option Value} {base : Heap}
theorem ok_stA {f0 fD fO fF fL fB : Addr} {fd fdD fdO fdF fdL fdB : FuncData} {e : Nat} (F : Fun K "_law_statement" "_law_statement" sStA f0 fd) (mL : mg "len" = none)
    (GD : FnOk P w K mg base CX0 2 fD fdD ["state", "many"] spDraw) (bD : Binds K fdD ["state", "many"] []) (gD : mg "_law_draw" = some (.ref fD)) (kD : PySem.W.keepIn K (.ref fD) = true)
    (GO : FnOk P w K mg base CX0 3 fO fdO ["state", "some"] (spOfL K)) (bO : Binds K fdO ["state", "some"] []) (gO : mg "_law_of" = some (.ref fO)) (kO : PySem.W.keepIn K (.ref fO) = true)
    (GF : FnOk P w K mg base CX0 4 fF fdF ["state", "own"] (spFrom K)) (bF : Binds K fdF ["state", "own"] []) (gF : mg "_law_from" = some (.ref fF)) (kF : PySem.W.keepIn K (.ref fF) = true)
    (GL : FnOk P w K mg base CX0 5 fL fdL ["state", "own", "is_free", "is_loop"] (spLeaf K)) (bL : Binds K fdL ["state", "own", "is_free", "is_loop"] []) (gL : mg "_law_leaf" = some (.ref fL)) (kL : PySem.W.keepIn K (.ref fL) = true)
    (GB' : FnOk P w K mg base CX0 (4 + 2 * e + 1) fB fdB ["state", "own", "deep", "is_free", "is_loop"] (spBlA K e)) (bB : Binds K fdB ["state", "own", "deep", "is_free", "is_loop"] []) (gB : mg "_law_block" = some (.ref fB)) (kB : PySem.W.keepIn K (.ref fB) = true) :
    FnOk P w K mg base CX0 (4 + 2 * (e + 1)) f0 fd ["state", "own", "deep", "is_free", "is_loop"] (spStA K (e + 1)) := by
  have e1 : 4 + 2 * (e + 1) = 4 + 2 * e + 1 + 1 := by omega
  rw [e1]
  refine F.ok scStA (fun vs H Q E h => ?_) (fun cdv A outer s H vs Q E hr h => ?_)
  · obtain ⟨a, n, ow, vars, cs, ts, κ, deep, f, l, rfl, _⟩ := h
    rfl
  · obtain ⟨a, n, ow, vars, cs, ts, κ, deep, f, l, rfl, R, r0, r1, hn, hN, hD, hde, he, k⟩ := h
    have hu := hu_of hr
    have hr2 : Room 2 _ := hr.mono (by omega)
    have hr3 : Room 3 _ := hr.mono (by omega)
    have hr4 : Room 4 _ := hr.mono (by omega)
    have hr5 : Room 5 _ := hr.mono (by omega)
    have three' : 3 ≤ sizeLine := by decide
    have four' : 4 ≤ sizeLine := by decide
    have five' : 5 ≤ sizeLine := by decide
    obtain ⟨tl, pl, rl⟩ := stA_leaf (P := P) (w := w) (base := base) (outer := outer) (H := H) (E := E) hr5 GL bL gL kL
    obtain ⟨to, po, ro⟩ := stA_loop (P := P) (w := w) (base := base) (outer := outer) (H := H) (E := E) hr mL GD bD gD kD GB' bB gB kB
    refine ⟨_, C8.pss_cut (ps_par (i := 5) (j := 6) rfl scStA.nd rfl rfl (by decide) rfl rfl (pa_cons (pe_call GD hr2 rfl gD kD bD .nil pass0 (pa_cons (pv 0) (pa_cons pe_int pa_nil))) (pa_cons (pe_call GO hr3 rfl gO kO bO .nil pass0 (pa_cons (pv 0) (pa_cons (pe_dget hu (pv 1) pe_str (fun _ _ => rfl)) pa_nil))) pa_nil)) (by rfl))
      (C8.pss_cut (ps_if (PW.pt (pw_or (pt_cmpR op_gt (pv 2) pe_int (nomark _)) (pw_or (pt_cmpR op_gt (pv 5) pe_int (nomark _)) (pw_or1 (PW.pt (pw_and (pt_cmpR op_eq (pv 5) pe_int (nomark _)) (pw_and1 (PW.pt (pw_or (pt_not (pt_val (pv 3))) (pw_or1 (pt_cmpR op_eq (pe_dget hu (pv 0) pe_str (fun _ _ => rfl)) pe_int (nomark _))))))))))) ) pl pss_nil)
      (C8.pss_cut (ps_if (pt_cmpR op_eq (pv 5) pe_int (nomark _)) (pss_one (ps_ret (pe_tup (pa_cons pe_str (pa_cons (pe_call GO hr3 rfl gO kO bO .nil pass0 (pa_cons (pv 0) (pa_cons (pe_dget hu (pv 1) pe_str (fun _ _ => rfl)) pa_nil))) (pa_cons (pe_call GB' hr rfl gB kB bB .nil pass0 (pa_cons (pv 0) (pa_cons (pv 1) (pa_cons (pe_op op_add (pv 2) pe_int) (pa_cons pe_bl (pa_cons pe_bl pa_nil)))))) pa_nil)))))) pss_nil)
      (C8.pss_cut (ps_if (pt_cmpR op_eq (pv 5) pe_int (nomark _)) (pss_one (ps_ret (pe_tup (pa_cons pe_str (pa_cons (pv 6) (pa_cons (pe_call GF hr4 rfl gF kF bF .nil pass0 (pa_cons (pv 0) (pa_cons (pv 1) pa_nil))) (pa_cons (pe_call GB' hr rfl gB kB bB .nil pass0 (pa_cons (pv 0) (pa_cons (pv 1) (pa_cons (pe_op op_add (pv 2) pe_int) (pa_cons (pv 3) (pa_cons (pv 4) pa_nil)))))) pa_nil))))))) pss_nil)
      (C8.pss_cut (ps_if (pt_cmpR op_eq (pv 5) pe_int (nomark _)) po pss_nil)
      (C8.pss_cut (ps_set (i := 9) scStA.nd rfl (Or.inl rfl) (pe_ix ix_list (pe_lst (pa_cons pe_int (pa_cons pe_int (pa_cons pe_int (pa_cons (pe_call GD hr2 rfl gD kD bD .nil pass0 (pa_cons (pv 0) (pa_cons pe_int pa_nil))) pa_nil))))) (pe_call GD hr2 rfl gD kD bD .nil pass0 (pa_cons (pv 0) (pa_cons pe_int pa_nil))) (fun _ _ => rfl)))
      (C8.pss_cut (ps_set (i := 10) scStA.nd rfl (Or.inl rfl) (pe_call GB' hr rfl gB kB bB .nil pass0 (pa_cons (pv 0) (pa_cons (pv 1) (pa_cons (pe_op op_add (pv 2) pe_int) (pa_cons (pv 3) (pa_cons (pv 4) pa_nil)))))))
      (C8.pss_cut (ps_set (i := 11) scStA.nd rfl (Or.inl rfl) (pe_call GB' hr rfl gB kB bB .nil pass0 (pa_cons (pv 0) (pa_cons (pv 1) (pa_cons (pe_op op_add (pv 2) pe_int) (pa_cons (pv 3) (pa_cons (pv 4) pa_nil)))))))
      (pss_one (ps_ret (pe_ifExp (pt_cmpR op_eq (pv 5) pe_int (nomark _)) (pe_tup (pa_cons pe_str (pa_cons (pv 6) (pa_cons (pv 9) (pa_cons (pv 10) (pa_cons (pv 11) pa_nil)))))) (pe_tup (pa_cons pe_str (pa_cons (pv 10) (pa_cons (pv 11) pa_nil)))))))))))))), ?_⟩
    have ed : (deep : Int) + 1 = ((deep + 1 : Nat) : Int) := by omega
    have era : ∀ {m : Nat}, m = 1 → a.rm (a.r - ((m : Int) - 1)) = a := fun {m} h => by
      subst h
      show a.rm (a.r - 0) = a
      rw [Int.sub_zero]
      rfl
    refine ⟨fun σ H2 => ∃ (wy : Int) (z : Str), σ = [some (.ref a.s), some (.ref ow), some (.int (deep : Int)), some (.bl f), some (.bl l), some (.int wy), some (.str z), none, none, none, none, none] ∧ z ∈ vars ∧ 0 ≤ wy ∧ Rnd H2 a (n + 2) ∧ But a H H2, ?_, ?_⟩
    · refine ⟨_, rfl, a, n, 10, rfl, R, by omega, by decide, by decide, fun wy H1 w0 _ R1 b1 => ?_⟩
      obtain ⟨vl, g, ov, ev⟩ := (hD.but b1).gv
      refine ⟨_, rfl, _, rfl, ow, _, rfl, g, a, n + 1, vl, _, rfl, R1, by omega, ov, ev, by rw [List.length_map]; exact hN.v1, by rw [List.length_map]; have := hN.v3; omega, fun v i H2 hv R2 b2 => ?_⟩
      obtain ⟨z, hz, rfl⟩ := str_get hv
      exact ⟨_, _, rfl, wy, z, rfl, hz, w0, R2, b1.trans b2⟩
    rintro σ H2 ⟨wy, z, rfl, hz, w0, R2, b2⟩
    have zt : ∀ {H' : Hp}, TrZ K H' (.str z) (.str z) := .str z (name_line (hN.vn z hz))
    have D2 := hD.but b2
    have leaf : ∀ (v : V) (t : Tr) (n' : Nat) (H' : Hp), GLeaf vars κ f l t → TrZ K H' v t → n' ≤ n + 2 + 10 → Rnd H' a n' → But a H2 H' → Q v H' := fun v t n' H' hg tv hn' R' b' =>
      k v t 1 n' H' (.leaf hg) (by omega) tv (by omega) (by rw [era rfl]; exact R') (b2.trans b')
    refine ⟨fun σ H3 => σ = [some (.ref a.s), some (.ref ow), some (.int (deep : Int)), some (.bl f), some (.bl l), some (.int wy), some (.str z), none, none, none, none, none] ∧ H2 = H3 ∧ deep ≤ 3 ∧ wy ≤ 4 ∧ (wy = 4 → f = true ∧ 1 ≤ a.r), ?_, ?_⟩
    · refine ⟨_, rfl, _, _, rfl, rfl, _, rfl, ?_⟩
      refine ite2 (fun _ => iteT (rl R2 (by omega) hN D2 leaf)) (fun d3 => ?_)
      have d3 : ¬ (3 : Int) < (deep : Int) := fun h => d3 (decide_eq_true h)
      refine ⟨_, rfl, _, _, rfl, rfl, _, rfl, ?_⟩
      refine ite2 (fun _ => iteT (rl R2 (by omega) hN D2 leaf)) (fun w4 => ?_)
      have w4 : ¬ (4 : Int) < wy := fun h => w4 (decide_eq_true h)
      by_cases e4 : wy = 4
      · subst e4
        refine ⟨_, rfl, rfl, _, rfl, iteT ?_⟩
        cases f with
        | false => exact ⟨_, rfl, _, rfl, iteT (iteT (rl R2 (by omega) hN D2 leaf))⟩
        | true =>
          refine ⟨_, rfl, _, rfl, iteF ?_⟩
          refine ⟨_, rfl, a.s, _, rfl, rnd_room R2, rfl, _, rfl, ?_⟩
          refine ite2 (fun _ => rl R2 (by omega) hN D2 leaf) (fun h => ⟨rfl, rfl, by omega, by omega, fun _ => ⟨rfl, ?_⟩⟩)
          have : ¬ a.r = 0 := fun q => h (by rw [q]; rfl)
          omega
      · refine ⟨_, rfl, rfl, _, rfl, ?_⟩
        refine ite2 (fun h => absurd ?_ e4) (fun _ => iteF ⟨rfl, rfl, by omega, by omega, fun h => absurd h e4⟩)
        simpa using h
    rintro σ H3 ⟨rfl, rfl, d3, w4, hw⟩
    have he' : 1 ≤ e := by omega
    have same_if : ∀ {c : Int} {σ : L2.St}, True := fun {c σ} => trivial
    -- within
    refine ⟨fun σ H3 => σ = [some (.ref a.s), some (.ref ow), some (.int (deep : Int)), some (.bl f), some (.bl l), some (.int wy), some (.str z), none, none, none, none, none] ∧ H2 = H3, ?_, ?_⟩
    · refine ⟨_, rfl, rfl, _, rfl, ?_⟩
      refine ite2 (fun _ => ?_) (fun _ => ⟨rfl, rfl⟩)
      obtain ⟨tl', g, ov, ev⟩ := D2.gc
      refine ⟨_, rfl, _, rfl, ow, _, rfl, g, a, n + 2, tl', _, rfl, R2, by omega, ov, ev, by rw [List.length_map]; exact hN.c1, by rw [List.length_map]; have := hN.c3; omega, fun v i H3 hv R3 b3 => ?_⟩
      obtain ⟨y, hy, rfl⟩ := str_get hv
      obtain ⟨y1, y2⟩ := hN.cn y hy
      refine ⟨_, rfl, _, rfl, _, rfl, _, _, rfl, rfl, a, n + 3, ow, vars, cs, ts, κ, deep + 1, false, false, by rw [← ed]; rfl, R3, r0, r1, by omega, hN, D2.but b3, by omega, he', fun v us m n4 H4 hg hm tv hn4 R4 b4 => ⟨three', fun p np => ?_⟩⟩
      obtain ⟨sp, tp⟩ := new_trZ np (.cons (.str "within" (by decide)) (.cons (.str y (name_line y1)) (.cons tv .nil)))
      refine k _ _ (m + 1) n4 _ (.within y1 y2 hg) (by omega) tp (by omega) ?_ (((b2.trans b3).trans b4).trans (Same.but sp))
      have er : a.rm (a.r - (m : Int)) = a.rm (a.r - (((m + 1 : Nat) : Int) - 1)) := by
        congr 1
        omega
      rw [← er]
      exact R4.same sp
    rintro σ H3 ⟨rfl, rfl⟩
    -- with
    refine ⟨fun σ H3 => σ = [some (.ref a.s), some (.ref ow), some (.int (deep : Int)), some (.bl f), some (.bl l), some (.int wy), some (.str z), none, none, none, none, none] ∧ H2 = H3, ?_, ?_⟩
    · refine ⟨_, rfl, rfl, _, rfl, ?_⟩
      refine ite2 (fun _ => ?_) (fun _ => ⟨rfl, rfl⟩)
      refine ⟨_, rfl, _, rfl, _, rfl, a, n + 2, ow, vars, cs, ts, κ, rfl, R2, by omega, hN, D2, fun v s' n3 H3 hs ht hn3 R3 b3 => ?_⟩
      refine ⟨_, rfl, _, rfl, _, rfl, _, _, rfl, rfl, _, rfl, _, rfl, a, n3, ow, vars, cs, ts, κ, deep + 1, f, l, by rw [← ed]; rfl, R3, r0, r1, by omega, hN, D2.but b3, by omega, he', fun v us m n4 H4 hg hm tv hn4 R4 b4 => ⟨four', fun p np => ?_⟩⟩
      obtain ⟨sp, tp⟩ := new_trZ np (.cons (.str "with" (by decide)) (.cons zt (.cons (ht _) (.cons tv .nil))))
      refine k _ _ (m + 1) n4 _ (.with_ hz hs hg) (by omega) tp (by omega) ?_ (((b2.trans b3).trans b4).trans (Same.but sp))
      have er : a.rm (a.r - (m : Int)) = a.rm (a.r - (((m + 1 : Nat) : Int) - 1)) := by
        congr 1
        omega
      rw [← er]
      exact R4.same sp
    rintro σ H3 ⟨rfl, rfl⟩
    -- loop
    refine ⟨fun σ H3 => σ = [some (.ref a.s), some (.ref ow), some (.int (deep : Int)), some (.bl f), some (.bl l), some (.int wy), some (.str z), none, none, none, none, none] ∧ H2 = H3, ?_, ?_⟩
    · by_cases e4 : wy = 4
      · obtain ⟨hf, hr1⟩ := hw e4
        subst e4
        refine ⟨_, rfl, rfl, _, rfl, iteT ?_⟩
        exact ro R2 hr1 r1 (by omega) hN D2 (by omega) he' hf fun v t m n' H' hg hm tv hn' R' b' => k v t m n' H' hg hm tv (by omega) R' (b2.trans b')
      · refine ⟨_, rfl, rfl, _, rfl, ?_⟩
        refine ite2 (fun h => absurd ?_ e4) (fun _ => ⟨rfl, rfl⟩)
        simpa using h
    rintro σ H3 ⟨rfl, rfl⟩
    -- number
    refine ⟨fun σ H3 => ∃ i : Int, σ = [some (.ref a.s), some (.ref ow), some (.int (deep : Int)), some (.bl f), some (.bl l), some (.int wy), some (.str z), none, none, some (.int i), none, none] ∧ 0 ≤ i ∧ i ≤ 99 ∧ Rnd H3 a (n + 4) ∧ But a H2 H3, ?_, ?_⟩
    · refine ⟨_, rfl, a, n + 2, 100, rfl, R2, by omega, by decide, by decide, fun x H3 x0 xl R3 b3 => ⟨four', fun q nq => ?_⟩⟩
      have sq := same_new (o := .lst [.int 0, .int 1, .int 2, .int x]) nq
      have eq : (upd H3 q (.lst [.int 0, .int 1, .int 2, .int x])) q = some (.lst [.int 0, .int 1, .int 2, .int x]) := upd_same
      have oq := R3.off nq
      have R4 := R3.same sq
      have b34 := b3.trans (Same.but sq)
      generalize upd H3 q (.lst [.int 0, .int 1, .int 2, .int x]) = H4 at sq eq R4 b34 ⊢
      refine ⟨_, rfl, a, n + 3, 4, rfl, R4, by omega, by decide, by decide, fun y H5 y0 yl R5 b5 => ?_⟩
      have e5 := b5.at oq eq
      have b25 := b34.trans b5
      have hy : y = 0 ∨ y = 1 ∨ y = 2 ∨ y = 3 := by omega
      rcases hy with rfl | rfl | rfl | rfl
      · exact ⟨q, _, 0, .int 0, rfl, rfl, SqL.of e5, rfl, 0, rfl, by decide, by decide, R5, b25⟩
      · exact ⟨q, _, 1, .int 1, rfl, rfl, SqL.of e5, rfl, 1, rfl, by decide, by decide, R5, b25⟩
      · exact ⟨q, _, 2, .int 2, rfl, rfl, SqL.of e5, rfl, 2, rfl, by decide, by decide, R5, b25⟩
      · exact ⟨q, _, 3, .int x, rfl, rfl, SqL.of e5, rfl, x, rfl, x0, by omega, R5, b25⟩
    rintro σ H3 ⟨i, rfl, i0, i9, R3, b3⟩
    have b23 := b2.trans b3
    have D3 := D2.but b3
    -- first
    refine ⟨fun σ H4 => ∃ (v : V) (us : List Tr) (m n4 : Nat), σ = [some (.ref a.s), some (.ref ow), some (.int (deep : Int)), some (.bl f), some (.bl l), some (.int wy), some (.str z), none, none, some (.int i), some v, none] ∧ GB vars κ e f l us m ∧ (m : Int) ≤ a.r ∧ TrZ K H4 v (.tup us) ∧ n4 ≤ n + 6 + 20 * m ∧ Rnd H4 (a.rm (a.r - (m : Int))) n4 ∧ But a H3 H4, ?_, ?_⟩
    · refine ⟨_, rfl, _, rfl, _, rfl, _, _, rfl, rfl, _, rfl, _, rfl, a, n + 4, ow, vars, cs, ts, κ, deep + 1, f, l, by rw [← ed]; rfl, R3, r0, r1, by omega, hN, D3, by omega, he', fun v us m n4 H4 hg hm tv hn4 R4 b4 => ?_⟩
      exact ⟨v, us, m, n4, rfl, hg, hm, tv, by omega, R4, b4⟩
    rintro σ H4 ⟨v1, us1, m1, n4, rfl, g1, hm1, t1, hn4, R4, b4⟩
    refine ⟨fun σ H5 => ∃ (v : V) (us : List Tr) (m n5 : Nat), σ = [some (.ref a.s), some (.ref ow), some (.int (deep : Int)), some (.bl f), some (.bl l), some (.int wy), some (.str z), none, none, some (.int i), some v1, some v] ∧ GB vars κ e f l us m ∧ (m : Int) ≤ a.r - (m1 : Int) ∧ TrZ K H5 v (.tup us) ∧ TrZ K H5 v1 (.tup us1) ∧ n5 ≤ n4 + 2 + 20 * m ∧ Rnd H5 (a.rm (a.r - (m1 : Int) - (m : Int))) n5 ∧ But a H4 H5, ?_, ?_⟩
    · refine ⟨_, rfl, _, rfl, _, rfl, _, _, rfl, rfl, _, rfl, _, rfl, a.rm (a.r - (m1 : Int)), n4, ow, vars, cs, ts, κ, deep + 1, f, l, by rw [← ed]; rfl, R4, (show (0 : Int) ≤ a.r - (m1 : Int) by omega), (show a.r - (m1 : Int) ≤ 100 by omega), (show (n4 : Int) + 20 * (a.r - (m1 : Int)) + 610 ≤ 1000000 by omega), hN, (D3.but b4).rm _, by omega, he', fun v us m n5 H5 hg hm tv hn5 R5 b5 => ?_⟩
      exact ⟨v, us, m, n5, rfl, hg, hm, tv, t1.rndW R4 R5 b5 rfl rfl, by omega, R5, b5⟩
    rintro σ H5 ⟨v2, us2, m2, n5, rfl, g2, hm2, t2, t1, hn5, R5, b5⟩
    have bA := (b23.trans b4).trans b5
    have er : a.rm (a.r - (m1 : Int) - (m2 : Int)) = a.rm (a.r - (((m1 + m2 + 1 : Nat) : Int) - 1)) := by
      congr 1
      omega
    rw [er] at R5
    refine ⟨_, rfl, rfl, _, rfl, ?_⟩
    refine ite2 (fun _ => ?_) (fun _ => ?_)
    · refine ⟨_, rfl, _, rfl, _, rfl, _, rfl, five', fun p np => ?_⟩
      obtain ⟨sp, tp⟩ := new_trZ np (.cons (.str "if" (by decide)) (.cons zt (.cons (.int i) (.cons t1 (.cons t2 .nil)))))
      exact k _ _ (m1 + m2 + 1) n5 _ (.if_ hz i0 i9 g1 g2) (by omega) tp (by omega) (R5.same sp) (bA.trans (Same.but sp))
    · refine ⟨_, rfl, _, rfl, three', fun p np => ?_⟩
      obtain ⟨sp, tp⟩ := new_trZ np (.cons (.str "guard" (by decide)) (.cons t1 (.cons t2 .nil)))
      exact k _ _ (m1 + m2 + 1) n5 _ (.guard g1 g2) (by omega) tp (by omega) (R5.same sp) (bA.trans (Same.but sp))
end
end BK

set_option Elab.async false
set_option linter.all false
set_option maxRecDepth 100000
set_option maxHeartbeats 4000000
/-! for p in zip(l, m) of two lists, the pair kept under a name: the pair that was handed out, should its place be free -/
namespace ZN
open PySem PySem.Spec PyProof.Rows
section
variable {prog : Program} {w : World} {A : Around} {E : Value → Shared → Prop} {s : Shared}
theorem alive_no {T : Addr} {Q : Option Obj → Shared → Prop} (hT : s.heap.get? T = none) (q : Q none s) : wpAny (model prog w) A (loadIfAlive T) Q E s := by
  have q' : Q (s.heap.get? T) s := by rw [hT]; exact q
  exact fun _ _ _ => q'
/-- the zip's pair is taken anew: its place is free -/
theorem free_dead {z TI TO T : Addr} {f : Bool} {Q : Bool → Shared → Prop} (hz : IsZipHeld s.heap z TI TO T f) (hT : s.heap.get? T = none) (q : Q true s) :
    wpAny (model prog w) A (Builtin.SmallTypes.ownedTupleIsFree (.ref z)) Q E s := by
  unfold Builtin.SmallTypes.ownedTupleIsFree
  refine wpAny_bind (wpAny_field hz rfl (x := rawInt T) rfl ?_)
  show wpAny _ _ (loadIfAlive ((T : Int).toNat) >>= _) _ _ _
  rw [Int.toNat_natCast]
  refine wpAny_bind (alive_no hT ?_)
  simp only [Option.isNone_none, if_true]
  exact wpAny_pure q
/-- what the record of a zip may be -/
abbrev ZipRec (h : Heap) (z TI TO : Addr) (v : Value) (f : Bool) : Prop := h.get? z = some { cls := .type "zip", dict := none, data := .fields #[v, .bool f, .bool false, .ref TI, .ref TO], slots := #[] }
theorem item_dead {z TI TO T i1 i2 a b : Addr} {f : Bool} {k : Nat} {xs ys : Array Value} {x y c d : Value} {Q : Value → Shared → Prop} (D : ZipApart z TI TO i1 i2 a b) (hz : IsZipHeld s.heap z TI TO T f) (hT : s.heap.get? T = none)
    (hI : IsPair s.heap TI (.ref i1) (.ref i2)) (hO : IsPair s.heap TO c d) (p1 : s.heap.IsListIter i1 a k) (p2 : s.heap.IsListIter i2 b k) (ta : s.heap.IsList a xs) (tb : s.heap.IsList b ys) (hx : xs[k]? = some x) (hy : ys[k]? = some y)
    (q : ∀ h', ZipRec h' z TI TO (rawInt s.heap.objs.size) false → IsPair h' TO x y → h'.IsListIter i1 a (k + 1) → h'.IsListIter i2 b (k + 1) → IsPair h' s.heap.objs.size x y → (∀ r o, r ≠ z → r ≠ TO → r ≠ i1 → r ≠ i2 → s.heap.get? r = some o → h'.get? r = some o) → Q (.ref s.heap.objs.size) { s with heap := h' }) :
    wpAny (model prog w) A (Builtin.«zip.__next__» ⟨[.ref z], []⟩) (fun fin s' => ∃ v, fin = .done (.ret v) ∧ Q v s') E s := by
  show wpAny _ _ (field (.ref z) 2 >>= _) _ _ _
  refine wpAny_bind (wpAny_field hz rfl (x := .bool false) rfl ?_)
  show wpAny _ _ (field (.ref z) 3 >>= _) _ _ _
  refine wpAny_bind (wpAny_field hz rfl (x := .ref TI) rfl (wpAny_bind (wpAny_seqItems hI rfl ?_)))
  show wpAny _ _ (Builtin.SmallTypes.ownedTupleIsFree (.ref z) >>= _) _ _ _
  refine wpAny_bind (free_dead hz hT ?_)
  simp only [if_true]
  refine wpAny_bind (wpAny_rule (wpAny_bind (wpAny_field hz rfl (x := .ref TO) rfl (wpAny_bind (wpAny_setField_rec hz (by simp) fun g1 r1 s1 => ?_)))))
  replace r1 : ZipRec g1 z TI TO .ellipsis f := r1
  refine wpAny_bind ?_
  simp only [List.zipIdx_cons, List.zipIdx_nil, List.forIn_cons, List.forIn_nil]
  refine wpAny_bind (wpAny_bind (wpAny_onRaise ?_))
  show wpAny _ _ (Builtin.SmallTypes.nextOf (.ref i1) >>= _) _ _ _
  refine wpAny_bind (wpAny_nextOf_list_item (p1.extBut s1.extBut D.i1z) (ta.extBut s1.extBut D.l1z) hx fun g2 n1 s2 => wpAny_pure ?_)
  have o2 : IsPair g2 TO c d := s2.extBut _ _ D.TOi1 (s1.extBut _ _ D.TOz hO)
  refine wpAny_bind (wpAny_seqItems o2 rfl (wpAny_bind (wpAny_updateSeq_pair o2 fun g3 o3 s3 => wpAny_bind (wpAny_letGo (wpAny_pure ?_)))))
  replace o3 : IsPair g3 TO x d := o3
  refine wpAny_bind (wpAny_bind (wpAny_onRaise ?_))
  show wpAny _ _ (Builtin.SmallTypes.nextOf (.ref i2) >>= _) _ _ _
  have p2' : g3.IsListIter i2 b k := ((p2.extBut s1.extBut D.i2z).extBut s2.extBut D.i12.symm).extBut s3.extBut D.TOi2.symm
  have tb' : g3.IsList b ys := ((tb.extBut s1.extBut D.l2z).extBut s2.extBut D.l2i1).extBut s3.extBut D.l2TO
  refine wpAny_bind (wpAny_nextOf_list_item p2' tb' hy fun g4 n2 s4 => wpAny_pure ?_)
  have o4 : IsPair g4 TO x d := s4.extBut _ _ D.TOi2 o3
  refine wpAny_bind (wpAny_seqItems o4 rfl (wpAny_bind (wpAny_updateSeq_pair o4 fun g5 o5 s5 => wpAny_bind (wpAny_letGo (wpAny_pure (wpAny_pure ?_))))))
  replace o5 : IsPair g5 TO x y := o5
  refine wpAny_bind (wpAny_seqItems o5 rfl (wpAny_bind (wpAny_newTuple ?_)))
  have sz : g5.objs.size = s.heap.objs.size := by rw [s5.1, s4.1, s3.1, s2.1, s1.1]
  have r5 : ZipRec g5 z TI TO .ellipsis f := s5.extBut _ _ D.TOz.symm (s4.extBut _ _ D.i2z.symm (s3.extBut _ _ D.TOz.symm (s2.extBut _ _ D.i1z.symm r1)))
  have kp : ∀ r o, r ≠ z → r ≠ TO → r ≠ i1 → r ≠ i2 → s.heap.get? r = some o → g5.get? r = some o := fun r o c1 c2 c3 c4 e => s5.extBut _ _ c2 (s4.extBut _ _ c4 (s3.extBut _ _ c2 (s2.extBut _ _ c3 (s1.extBut _ _ c1 e))))
  have m1 : g5.IsListIter i1 a (k + 1) := ((n1.extBut s3.extBut D.TOi1.symm).extBut s4.extBut D.i12).extBut s5.extBut D.TOi1.symm
  have m2 : g5.IsListIter i2 b (k + 1) := n2.extBut s5.extBut D.TOi2.symm
  have zl : z < g5.objs.size := Heap.lt_size r5
  show wpAny _ _ (Builtin.SmallTypes.ownedTupleHandOut (.ref z) (.ref g5.objs.size) >>= _) _ _ _
  refine wpAny_bind ?_
  unfold Builtin.SmallTypes.ownedTupleHandOut
  have r6 : ZipRec (g5.push { cls := .type "tuple", data := .seq #[x, y] }) z TI TO .ellipsis f := Heap.get?_push_of_some _ r5
  refine wpAny_bind (wpAny_setField_rec r6 (by simp) fun g7 r7 s7 => ?_)
  replace r7 : ZipRec g7 z TI TO (rawInt g5.objs.size) f := r7
  refine wpAny_setField_rec r7 (by simp) fun g8 r8 s8 => ?_
  replace r8 : ZipRec g8 z TI TO (rawInt g5.objs.size) false := r8
  have up : ∀ r o, r ≠ z → g5.get? r = some o → g8.get? r = some o := fun r o c1 e => s8.extBut _ _ c1 (s7.extBut _ _ c1 (Heap.get?_push_of_some _ e))
  have t8 : IsPair g8 g5.objs.size x y := s8.extBut _ _ (Nat.ne_of_gt zl) (s7.extBut _ _ (Nat.ne_of_gt zl) (Heap.get?_push_size _ rfl))
  rw [sz] at r8 t8
  refine wpAny_pure ⟨_, rfl, ?_⟩
  show Q (.ref g5.objs.size) _
  rw [sz]
  exact q g8 r8 (up _ _ D.TOz o5) (m1.at fun o e => up _ o D.i1z e) (m2.at fun o e => up _ o D.i2z e) t8 fun r o c1 c2 c3 c4 e => up r o c1 (kp r o c1 c2 c3 c4 e)
theorem end_dead {z TI TO T i1 i2 a b : Addr} {f : Bool} {k : Nat} {xs ys : Array Value} {c d : Value} {Q : Fin → Shared → Prop} (calm : A.handled = none) (D : ZipApart z TI TO i1 i2 a b) (hz : IsZipHeld s.heap z TI TO T f) (hT : s.heap.get? T = none)
    (hI : IsPair s.heap TI (.ref i1) (.ref i2)) (hO : IsPair s.heap TO c d) (p1 : s.heap.IsListIter i1 a k) (p2 : s.heap.IsListIter i2 b k) (ta : s.heap.IsList a xs) (tb : s.heap.IsList b ys) (he : xs[k]? = none ∨ ys[k]? = none)
    (q : ∀ h' e, (∀ r o, r ≠ z → r ≠ TO → r ≠ i1 → r ≠ i2 → s.heap.get? r = some o → h'.get? r = some o) → (∃ o, h'.get? e = some o ∧ o.cls = .type "StopIteration") → E (.ref e) { s with heap := h' }) :
    wpAny (model prog w) A (Builtin.«zip.__next__» ⟨[.ref z], []⟩) Q E s := by
  show wpAny _ _ (field (.ref z) 2 >>= _) _ _ _
  refine wpAny_bind (wpAny_field hz rfl (x := .bool false) rfl ?_)
  show wpAny _ _ (field (.ref z) 3 >>= _) _ _ _
  refine wpAny_bind (wpAny_field hz rfl (x := .ref TI) rfl (wpAny_bind (wpAny_seqItems hI rfl ?_)))
  show wpAny _ _ (Builtin.SmallTypes.ownedTupleIsFree (.ref z) >>= _) _ _ _
  refine wpAny_bind (free_dead hz hT ?_)
  simp only [if_true]
  refine wpAny_bind (wpAny_rule (wpAny_bind (wpAny_field hz rfl (x := .ref TO) rfl (wpAny_bind (wpAny_setField_rec hz (by simp) fun g1 r1 s1 => ?_)))))
  replace r1 : ZipRec g1 z TI TO .ellipsis f := r1
  refine wpAny_bind ?_
  simp only [List.zipIdx_cons, List.zipIdx_nil, List.forIn_cons, List.forIn_nil]
  refine wpAny_bind (wpAny_bind (wpAny_onRaise ?_))
  show wpAny _ _ (Builtin.SmallTypes.nextOf (.ref i1) >>= _) _ _ _
  have p1' := p1.extBut s1.extBut D.i1z
  have ta' := ta.extBut s1.extBut D.l1z
  cases hx : xs[k]? with
  | none =>
    refine wpAny_bind (wpAny_nextOf_list_end calm p1' ta' hx fun g2 e s2 ⟨oe, h1, h2⟩ => ?_)
    have r2 : ZipRec g2 z TI TO .ellipsis f := s2 _ _ D.i1z.symm r1
    have ne : e ≠ z := fun x => by
      subst x
      rw [r2] at h1
      cases h1
      simp at h2
    exact wpAny_setField_rec r2 (by simp) fun g3 _ s3 => q g3 e (fun r o c1 _ c3 _ x => s3.extBut _ _ c1 (s2 _ _ c3 (s1.extBut _ _ c1 x))) ⟨oe, s3.extBut _ _ ne h1, h2⟩
  | some x =>
    have hy : ys[k]? = none := he.resolve_left fun z => by rw [hx] at z; cases z
    refine wpAny_bind (wpAny_nextOf_list_item p1' ta' hx fun g2 n1 s2 => wpAny_pure ?_)
    have o2 : IsPair g2 TO c d := s2.extBut _ _ D.TOi1 (s1.extBut _ _ D.TOz hO)
    refine wpAny_bind (wpAny_seqItems o2 rfl (wpAny_bind (wpAny_updateSeq_pair o2 fun g3 o3 s3 => wpAny_bind (wpAny_letGo (wpAny_pure ?_)))))
    refine wpAny_bind (wpAny_bind (wpAny_onRaise ?_))
    show wpAny _ _ (Builtin.SmallTypes.nextOf (.ref i2) >>= _) _ _ _
    have p2' : g3.IsListIter i2 b k := ((p2.extBut s1.extBut D.i2z).extBut s2.extBut D.i12.symm).extBut s3.extBut D.TOi2.symm
    have tb' : g3.IsList b ys := ((tb.extBut s1.extBut D.l2z).extBut s2.extBut D.l2i1).extBut s3.extBut D.l2TO
    refine wpAny_bind (wpAny_nextOf_list_end calm p2' tb' hy fun g4 e s4 ⟨oe, h1, h2⟩ => ?_)
    have r4 : ZipRec g4 z TI TO .ellipsis f := s4 _ _ D.i2z.symm (s3.extBut _ _ D.TOz.symm (s2.extBut _ _ D.i1z.symm r1))
    have ne : e ≠ z := fun x => by
      subst x
      rw [r4] at h1
      cases h1
      simp at h2
    exact wpAny_setField_rec r4 (by simp) fun g5 _ s5 => q g5 e (fun r o c1 c2 c3 c4 x => s5.extBut _ _ c1 (s4 _ _ c4 (s3.extBut _ _ c2 (s2.extBut _ _ c3 (s1.extBut _ _ c1 x))))) ⟨oe, s5.extBut _ _ ne h1, h2⟩
end
end ZN

set_option Elab.async false
set_option linter.all false
set_option maxRecDepth 100000
set_option maxHeartbeats 4000000
/-! for p in zip(l, m): the turn, the rule -/
namespace ZN
open PySem PySem.Spec PyProof.Rows L2
section
variable {prog : Program} {w : World} {A : Around} {E : Value → Shared → Prop} {s : Shared}
/-- the zip behind i pairs -/
structure ZSt (h : Heap) (z TI TO i1 i2 a b : Addr) (i : Nat) : Prop where
  zr : IsZip h z TI TO .none ∨ ∃ T f, IsZipHeld h z TI TO T f
  ti : PySem.IsPair h TI (.ref i1) (.ref i2)
  to : ∃ x y, PySem.IsPair h TO x y
  l1 : h.IsListIter i1 a i
  l2 : h.IsListIter i2 b i
theorem nextN {z TI TO i1 i2 a b : Addr} {k : Nat} {xs ys : Array Value} {x y : Value} {Q : Option Value → Shared → Prop} (D : ZipApart z TI TO i1 i2 a b) (st : ZSt s.heap z TI TO i1 i2 a b k)
    (ta : s.heap.IsList a xs) (tb : s.heap.IsList b ys) (hx : xs[k]? = some x) (hy : ys[k]? = some y)
    (q : ∀ h', ZSt h' z TI TO i1 i2 a b (k + 1) → PySem.IsPair h' s.heap.objs.size x y → (∀ r o, r ≠ z → r ≠ TO → r ≠ i1 → r ≠ i2 → s.heap.get? r = some o → h'.get? r = some o) → Q (some (.ref s.heap.objs.size)) { s with heap := h' }) :
    wpAny (model prog w) A (pyNext (.ref z)) Q E s := by
  obtain ⟨zr, ti, ⟨c, d, to⟩, l1, l2⟩ := st
  rcases zr with hz | ⟨T, f, hz⟩
  · exact wpAny_pyNext_zip_item D hz ti to l1 l2 ta tb hx hy fun h' z' t' n1 n2 p _ kp => q h' ⟨.inr ⟨_, false, z'⟩, kp _ _ D.TIz D.TITO D.TIi1 D.TIi2 ti, ⟨x, y, t'⟩, n1, n2⟩ p kp
  · cases hT : s.heap.get? T with
    | some oT => exact wpAny_pyNext_zip_item_held D hz hT ti l1 l2 ta tb hx hy fun h' z' n1 n2 p _ kp => q h' ⟨.inr ⟨_, true, z'⟩, kp _ _ D.TIz D.TIi1 D.TIi2 ti, ⟨c, d, kp _ _ D.TOz D.TOi1 D.TOi2 to⟩, n1, n2⟩ p fun r o c1 _ c3 c4 e => kp r o c1 c3 c4 e
    | none =>
      have ty : s.TypeIs (.ref z) "zip" := ⟨_, hz, rfl⟩
      unfold pyNext
      exact wpAny_bind (wpAny_attempt (wpAny_callSpecial?_slot (name := Str.ofString "__next__") ty F.slot_zip_next (wpAny_call_entry F.slot_zip_next ty F.entry_zip_next
        (item_dead D hz hT ti to l1 l2 ta tb hx hy fun h' z' t' n1 n2 p kp => wpAny_pure (q h' ⟨.inr ⟨_, false, z'⟩, kp _ _ D.TIz D.TITO D.TIi1 D.TIi2 ti, ⟨x, y, t'⟩, n1, n2⟩ p kp)) (F.args_zip_next_1 _))))
theorem endN {z TI TO i1 i2 a b : Addr} {k : Nat} {xs ys : Array Value} {Q : Option Value → Shared → Prop} (calm : A.handled = none) (D : ZipApart z TI TO i1 i2 a b) (st : ZSt s.heap z TI TO i1 i2 a b k)
    (ta : s.heap.IsList a xs) (tb : s.heap.IsList b ys) (he : xs[k]? = none ∨ ys[k]? = none)
    (q : ∀ h', (∀ r o, r ≠ z → r ≠ TO → r ≠ i1 → r ≠ i2 → s.heap.get? r = some o → h'.get? r = some o) → Q none { s with heap := h' }) :
    wpAny (model prog w) A (pyNext (.ref z)) Q E s := by
  obtain ⟨zr, ti, ⟨c, d, to⟩, l1, l2⟩ := st
  rcases zr with hz | ⟨T, f, hz⟩
  · exact wpAny_pyNext_zip_end calm D hz ti to l1 l2 ta tb he q
  · cases hT : s.heap.get? T with
    | some oT => exact wpAny_pyNext_zip_end_held calm D hz hT ti l1 l2 ta tb he fun h' kp => q h' fun r o c1 _ c3 c4 e => kp r o c1 c3 c4 e
    | none =>
      have ty : s.TypeIs (.ref z) "zip" := ⟨_, hz, rfl⟩
      unfold pyNext
      refine wpAny_bind (wpAny_attempt (wpAny_callSpecial?_slot (name := Str.ofString "__next__") ty F.slot_zip_next (wpAny_call_entry F.slot_zip_next ty F.entry_zip_next
        (end_dead calm D hz hT ti to l1 l2 ta tb he fun h' e kp ho => ?_) (F.args_zip_next_1 _))))
      obtain ⟨o, h1, h2⟩ := ho
      exact wpAny_bind (wpAny_isInstance (T := "StopIteration") (b := true) ⟨o, h1, h2⟩ isSubtype_stop (wpAny_pure (q _ kp)))
end
theorem turnN {P : Program} {w : World} {K : PySem.W.Frag} {nm : Str} {p0 : Pos} {a b z TI TO i1 i2 : Addr} (D : ZipApart z TI TO i1 i2 a b) : Turn P w K (.Name nm p0) (Itz K a b) [z, TI, TO, i1, i2] z (fun i h => ZSt h z TI TO i1 i2 a b i) where
  mem := by simp
  obj := fun i h st c hc => by
    obtain ⟨zr, ti, ⟨x, y, to⟩, ⟨o1, e1, _, d1⟩, ⟨o2, e2, _, d2⟩⟩ := st
    have q : c = z ∨ c = TI ∨ c = TO ∨ c = i1 ∨ c = i2 := by simpa using hc
    rcases q with rfl | rfl | rfl | rfl | rfl
    · rcases zr with hz | ⟨T, f, hz⟩
      · exact ⟨_, hz, fun v q => nomatch q⟩
      · exact ⟨_, hz, fun v q => nomatch q⟩
    · exact ⟨_, ti, fun v q => nomatch q⟩
    · exact ⟨_, to, fun v q => nomatch q⟩
    · exact ⟨o1, e1, fun v q => by rw [d1] at q; cases q⟩
    · exact ⟨o2, e2, fun v q => by rw [d2] at q; cases q⟩
  keep := fun i h h' st kp => by
    obtain ⟨zr, ti, ⟨x, y, to⟩, l1, l2⟩ := st
    exact ⟨zr.imp (kp z (by simp) _) (fun ⟨T, f, hz⟩ => ⟨T, f, kp z (by simp) _ hz⟩), kp TI (by simp) _ ti, ⟨x, y, kp TO (by simp) _ to⟩, l1.at fun o q => kp i1 (by simp) o q, l2.at fun o q => kp i2 (by simp) o q⟩
  item := by
    intro X hP hw hK hc i pins s σ H E I hf st hg
    subst hP hw hK
    obtain ⟨xs, ys, x, y, hqx, hqy, hx, hy⟩ := hg
    obtain ⟨its, rv, p, _⟩ := I.list hqx
    obtain ⟨its2, rv2, p2, _⟩ := I.list hqy
    obtain ⟨u, hu, ru⟩ := rv.get hx
    obtain ⟨u2, hu2, ru2⟩ := rv2.get hy
    have lt : ∀ c ∈ [z, TI, TO, i1, i2], c < s.heap.objs.size := fun c hcm => by
      obtain ⟨zr, ti, ⟨_, _, to⟩, ⟨_, e1, _⟩, ⟨_, e2, _⟩⟩ := st
      have q : c = z ∨ c = TI ∨ c = TO ∨ c = i1 ∨ c = i2 := by simpa using hcm
      rcases q with rfl | rfl | rfl | rfl | rfl
      · rcases zr with hz | ⟨T, f, hz⟩
        · exact Heap.lt_size hz
        · exact Heap.lt_size hz
      · exact Heap.lt_size ti
      · exact Heap.lt_size to
      · exact Heap.lt_size e1
      · exact Heap.lt_size e2
    refine nextN D st p.isList p2.isList (x := u) (y := u2) (by simpa using hu) (by simpa using hu2) fun h' st' hT kp => ⟨_, rfl, ?_⟩
    have new : ObjOk X.prog X.w (upd H s.heap.objs.size (.tup [x, y])) h' s.heap.objs.size (.tup [x, y]) := ⟨by show 2 ≤ sizeLine; decide, [u, u2], .cons ru (.cons ru2 .nil), ⟨_, hT, rfl, _, rfl⟩⟩
    have I1 : Inv X pins σ (upd H s.heap.objs.size (.tup [x, y])) { s with heap := h' } :=
      I.turnedNew (t' := s.toks) (ch := [z, TI, TO, i1, i2]) (fun c o hb q => kp c o (fun e => hb (by simp [e])) (fun e => hb (by simp [e])) (fun e => hb (by simp [e])) (fun e => hb (by simp [e])) q) hf (Nat.le_refl _) new
    show wpAny _ _ (pure ()) _ _ _
    refine wpAny_pure ⟨.ref s.heap.objs.size, _, I1, rfl, ⟨_, x, y, rfl, I.hok.fresh (Nat.le_refl _), rfl, fun l hl => by rw [I.list_inj hl hqx]; exact hx, fun l hl => by rw [I.list_inj hl hqy]; exact hy⟩, st', fun c hcm => ?_⟩
    rw [upd_ne (Nat.ne_of_lt (lt c hcm))]
    exact (hf c hcm).1
  done := by
    intro X hP hw hK hc i pins s σ H E I hf st hg
    subst hP hw hK
    obtain ⟨xs, ys, hqx, hqy, hend⟩ := hg
    obtain ⟨its, rv, p, _⟩ := I.list hqx
    obtain ⟨its2, rv2, p2, _⟩ := I.list hqy
    have l1 := rv.length
    have l2 := rv2.length
    have he : its.toArray[i]? = none ∨ its2.toArray[i]? = none := hend.imp (fun q => by simp; omega) (fun q => by simp; omega)
    exact endN (I.ok.hd hc) D st p.isList p2.isList he fun h' kp => ⟨rfl, I.turnedL (t' := s.toks) (ch := [z, TI, TO, i1, i2]) (fun c o hb q => kp c o (fun e => hb (by simp [e])) (fun e => hb (by simp [e])) (fun e => hb (by simp [e])) (fun e => hb (by simp [e])) q) hf⟩
  self := fun A i s Q E st h => by
    obtain ⟨zr, _⟩ := st
    rcases zr with hz | ⟨T, f, hz⟩
    · exact wpAny_pyIter_zip hz h
    · have ty : s.TypeIs (.ref z) "zip" := ⟨_, hz, rfl⟩
      refine wpAny_pyIter_slot ty F.slot_zip_iter (wpAny_call_entry F.slot_zip_iter ty F.entry_zip_iter ?_ (F.args_zip_iter_1 _))
      show wpAny _ _ (ret (.ref z)) _ _ s
      exact wpAny_pure ⟨_, rfl, "zip", _, ty, F.slot_zip_next.lookup, h⟩
/-- p in zip(l, m), lists; each pair is a new one -/
theorem pi_zipN {X : Cx} {nm : Str} {e e2 : Expr} {ta : TA} {p0 p pos : Pos} (hg : Gl X "zip") (hm : X.mg "zip" = none) (ha : PA X [e, e2] ta)
    (hs : starEach [e, e2] X.env = (false, eval e X.env) :: starEach [e2] X.env := by rfl) (hpl : (backTo pos (starEach [e2] X.env)).any (·.1) = false := by rfl) : PI X (.Name nm p0) (.Call (.Name "zip" p) [e, e2] [] pos) (iZip X.K ta) := by
  refine ⟨fun pins s σ H R I h => ?_⟩
  refine Call_ (ld_blt I hg hm PyProof.Rows.boot_zip (PyProof.Rows.callWith_type1 (thn (ha.run pos pins s σ H _ I h) fun us s1 ⟨vs, H1, I1, r1, a, b, xs, ys, ex, hqx, hqy, q⟩ => ?_) hs hpl))
  subst ex
  obtain ⟨u, u2, rfl, rx, ry⟩ := vals2 r1
  obtain rfl : u = Value.ref a := rx
  obtain rfl : u2 = Value.ref b := ry
  obtain ⟨its, rv, p1, _⟩ := I1.list hqx
  obtain ⟨its2, rv2, p2, _⟩ := I1.list hqy
  have D := PySem.W.ktu_apart s1.heap.objs.size a b p1.lt p2.lt
  refine call_zip_2 p1.isList p2.isList fun h' hz hI hO h1 h2 _ kp => wpAny_pyIter_zip hz ?_
  refine ⟨s1.heap.objs.size + 4, [s1.heap.objs.size + 4, s1.heap.objs.size + 2, s1.heap.objs.size + 3, s1.heap.objs.size, s1.heap.objs.size + 1], _, _, H1, rfl, I1.kept (t' := s1.toks) kp, turnN D, ⟨.inl hz, hI, ⟨_, _, hO⟩, h1, h2⟩, fun c hcm => ?_, q⟩
  have le : s1.heap.objs.size ≤ c := by
    simp only [List.mem_cons, List.not_mem_nil, or_false] at hcm
    rcases hcm with z | z | z | z | z <;> rw [z] <;> first | exact Nat.le_refl _ | exact Nat.le_add_right _ _
  exact I1.fpOk le (I1.hok.fresh le)
end ZN

set_option Elab.async false
set_option maxRecDepth 100000
set_option maxHeartbeats 4000000
set_option linter.unusedVariables false
/-! x[::-1], of a list and of a tuple -/
namespace SW
open PySem PySem.Spec PyProof.Rows L2 HT
section
variable {prog : Program} {w : World} {A : Around} {E : Value → Shared → Prop} {s : Shared}
theorem applied_rev {sl : Addr} {u : Tok} {n : Nat} {Q : Int × Int × Nat → Shared → Prop} (hs : s.heap.IsSliceOf sl .none .none (.int (-1) u))
    (h : Q ((n : Int) - 1, -1, n) s) : wpAny (model prog w) A (Builtin.Slice.sliceApplied (.ref sl) (pure (n : Int))) Q E s := by
  obtain ⟨os, hos, hcs, hds⟩ := id hs
  unfold Builtin.Slice.sliceApplied Builtin.Slice.sliceFields
  refine wpAny_bind (wpAny_bind (wpAny_field hos hds (x := .none) rfl (wpAny_bind (wpAny_field hos hds (x := .none) rfl (wpAny_bind (wpAny_field hos hds (x := .int (-1) u) rfl (wpAny_pure ?_)))))))
  refine wpAny_bind (slicePart_ (.int (-1) u) ?_)
  show wpAny _ _ (if ((-1 : Int) == 0) = true then _ else _) _ _ s
  rw [if_neg (by decide)]
  refine wpAny_bind (slicePart_ .none (wpAny_bind (slicePart_ .none (wpAny_bind (wpAny_pure ?_)))))
  show wpAny _ _ (match Builtin.Slice.sliceAdjust none none (-1) (n : Int) with | (lo, hi) => pure (lo, (-1 : Int), Builtin.Slice.slicePlaces lo hi (-1))) _ _ s
  have e1 : Builtin.Slice.sliceAdjust none none (-1) (n : Int) = ((n : Int) - 1, -1) := rfl
  rw [e1]
  show wpAny _ _ (pure ((n : Int) - 1, (-1 : Int), Builtin.Slice.slicePlaces ((n : Int) - 1) (-1) (-1))) _ _ s
  have e2 : Builtin.Slice.slicePlaces ((n : Int) - 1) (-1) (-1) = n := by
    unfold Builtin.Slice.slicePlaces
    have h1 : ¬ ((-1 : Int) > 0) := by omega
    have h2 : (- (-1 : Int)) = 1 := by omega
    simp only [h1, if_false, h2, Int.ediv_one]
    split <;> omega
  rw [e2]
  exact wpAny_pure h
theorem pick_rev (xs : Array Value) : ((List.range xs.size).filterMap fun (m : Nat) => xs[((xs.size : Int) - 1 + (m : Int) * (-1)).toNat]?).toArray = xs.toList.reverse.toArray := by
  have e : (List.range xs.size).filterMap (fun (m : Nat) => xs[((xs.size : Int) - 1 + (m : Int) * (-1)).toNat]?) = ((List.range xs.size).map fun k => xs.size - 1 - k).filterMap (xs[·]?) := by
    rw [List.filterMap_map]
    have key : ∀ l : List Nat, (∀ m ∈ l, m < xs.size) → l.filterMap (fun (m : Nat) => xs[((xs.size : Int) - 1 + (m : Int) * (-1)).toNat]?) = l.filterMap ((fun x => xs[x]?) ∘ fun k => xs.size - 1 - k) := by
      intro l
      induction l with
      | nil => intro _; rfl
      | cons m r ih =>
        intro h
        have hm := h m List.mem_cons_self
        have e2 : ((xs.size : Int) - 1 + (m : Int) * (-1)).toNat = xs.size - 1 - m := by omega
        have ih := ih fun z hz => h z (List.mem_cons_of_mem _ hz)
        simp only [List.filterMap_cons, Function.comp_apply]
        rw [e2, ih]
    exact key _ fun m hm => List.mem_range.mp hm
  rw [e, PySem.W.krv_range, List.filterMap_reverse, PySem.W.krv_all]
theorem tuple_rev {t sl : Addr} {items : Array Value} {u : Tok} {Q : Value → Shared → Prop} (ht : IsTup s.heap t items) (hs : s.heap.IsSliceOf sl .none .none (.int (-1) u))
    (h : Q (.ref s.heap.objs.size) { s with heap := s.heap.push { cls := .type "tuple", data := .seq items.toList.reverse.toArray } })
    (hsz : items.size ≤ sizeLine) : wpAny (model prog w) A (getItem (.ref t) (.ref sl)) Q E s := by
  have htake : sizeOk (.seq items.toList.reverse.toArray) := by
    show items.toList.reverse.toArray.size ≤ sizeLine
    rw [List.size_toArray, List.length_reverse, Array.length_toList]
    exact hsz
  obtain ⟨os, hos, hcs, hds⟩ := id hs
  have hTs : s.TypeIs (.ref sl) "slice" := ⟨os, hos, hcs⟩
  unfold getItem
  try with_reducible refine wpAny_holding ?_
  first | refine wpAny_bind (wpAny_pure ?_) | skip
  refine wpAny_bind (wpAny_sequenceKey ht.typeIs (by decide) ?_)
  refine wpAny_bind (wpAny_callSpecial?_slot (name := Str.ofString "__getitem__") ht.typeIs PyProof.Rows.slot_tuple_getitem
    (wpAny_call_entry PyProof.Rows.slot_tuple_getitem ht.typeIs entry_tuple_getitem ?_ (args_tuple_getitem _ _)))
  show wpAny _ _ (Builtin.Tuple.tupleItemsOf (.ref t) >>= _) _ _ s
  refine wpAny_bind (tupleItemsOf_ ht ?_)
  refine wpAny_bind (wpAny_typeOf hTs ?_)
  rw [if_pos (by decide)]
  refine wpAny_bind (applied_rev hs ?_)
  have hno : ¬ ((((items.size : Int) - 1) == 0 && (-1 : Int) == 1 && items.size == items.size) = true) := by
    intro q
    rw [Bool.and_eq_true, Bool.and_eq_true] at q
    exact absurd q.1.2 (by decide)
  show wpAny _ _ (if (((items.size : Int) - 1) == 0 && (-1 : Int) == 1 && items.size == items.size) = true then _ else _) _ _ s
  rw [if_neg hno, pick_rev]
  first
    | exact wpAny_bind (m := Builtin.Tuple.tupleExact _) (wpAny_newObj_type (wpAny_pure ⟨_, rfl, wpAny_pure h⟩) htake)
    | exact wpAny_bind (m := Builtin.Tuple.tupleExact _) (wpAny_newObj_type (wpAny_bind (wpAny_pure (wpAny_pure ⟨_, rfl, wpAny_pure h⟩))) htake)
    | exact wpAny_bind (wpAny_bind (m := Builtin.Tuple.tupleExact _) (wpAny_newObj_type (wpAny_pure (wpAny_pure ⟨_, rfl, wpAny_pure h⟩)) htake))
    | exact wpAny_bind (wpAny_bind (m := Builtin.Tuple.tupleExact _) (wpAny_newObj_type (wpAny_pure ⟨_, rfl, wpAny_pure h⟩) htake))
end
end SW
namespace L2
open PySem PySem.Spec PyProof.Rows
section
variable {X : Cx} {e : Expr} {te : TE} {pos p2 p3 p4 : Pos}
/-- what x[::-1] is, by values -/
def RevR (X : Cx) (r : V → Hp → VK → Prop) : Prop :=
  ∀ (pins : List (Addr × Obj)) (s : Shared) (σ : St) (H : Hp) (x : V) (v : Value) (u : Tok) (sl : Addr) (Q : VK), Inv X pins σ H s → RelV x v → s.heap.IsSliceOf sl .none .none (.int (-1) u) → r x H Q →
    ∃ T id, typeLookup (.type T) "__getitem__" = pure (some (.builtin id)) ∧ s.TypeIs v T ∧ wpAny (model X.prog X.w) X.A (getItem v (.ref sl)) (EP X pins σ Q) X.xe s
def tRev (r : V → Hp → VK → Prop) (te ts : TE) : TE := fun σ H Q => te σ H fun x H1 => ts σ H1 fun y H2 => y = .int (-1) ∧ r x H2 Q
theorem pe_rev {r : V → Hp → VK → Prop} {st : Expr} {ts : TE} (hr : RevR X r) (he : PE X e te) (hst : PE X st ts) : PE X (.Subscript e (.Slice none none (some st) p2) pos) (tRev r te ts) := by
  refine ⟨fun pins s σ H Q I h => ?_⟩
  refine Subscript_ (thn (he.run pins s σ H _ I h) fun v s1 ⟨x, H1, I1, r1, q1⟩ => ?_)
  refine wpAny_Slice ?_
  rw [evalPart_none]
  refine wpAny_pure ?_
  refine wpAny_pure ?_
  rw [evalPart_some]
  refine thn (hst.run pins s1 σ H1 _ I1 q1) fun vu s3 ⟨y, H3, I3, ry, hy, q3⟩ => ?_
  subst hy
  obtain ⟨t, rfl⟩ := ry
  have I4 : Inv X pins σ H3 { s3 with heap := s3.heap.push { cls := .type "slice", data := .fields #[.none, .none, .int (-1) t] } } := I3.kept (t' := s3.toks) fun b ob q => Heap.get?_push_of_some _ q
  obtain ⟨T, id, hT, ht, hg⟩ := hr pins { s3 with heap := s3.heap.push { cls := .type "slice", data := .fields #[.none, .none, .int (-1) t] } } σ H3 x v t s3.heap.objs.size Q I4 r1 (Heap.IsSliceOf.new ..) q3
  show wpAny (model X.prog X.w) X.A (subscriptTail e (.Slice none none (some st) p2) v (.ref s3.heap.objs.size)) (EP X pins σ Q) X.xe { s3 with heap := s3.heap.push { cls := .type "slice", data := .fields #[.none, .none, .int (-1) t] } }
  exact tail_any (ops := [v, .ref s3.heap.objs.size]) ht hT hg (by with_unfolding_all rfl)
def rRevL (K : PySem.W.Frag) : V → Hp → VK → Prop := fun x H Q => ∃ a xs, x = .ref a ∧ SqL K H a xs ∧ ∀ p, H p = none → Q (.ref p) (upd H p (.lst xs.reverse))
def rRevT (K : PySem.W.Frag) : V → Hp → VK → Prop := fun x H Q => ∃ a xs, x = .ref a ∧ SqT K H a xs ∧ ∀ p, H p = none → Q (.ref p) (upd H p (.tup xs.reverse))
theorem rev_list : RevR X (rRevL X.K) := by
  intro pins s σ H x v u sl Q I rx hs h
  obtain ⟨a, xs, rfl, hx, q⟩ := h
  cases rx
  obtain ⟨its, r, ht, hz⟩ := I.list hx
  have hlen := r.length
  refine ⟨"list", _, slot_list_getitem.lookup, ht.isList.typeIs, ?_⟩
  refine wpAny_getItem_list_slice ht.isList hs .none .none (.int (-1) u) (by decide) ?_ (by rw [List.size_toArray] <;> omega)
  rw [PySem.W.krv_pick]
  refine ⟨.ref s.heap.objs.size, _, I.laid (t' := s.toks) (o := .lst xs.reverse) (fun b ob q => Heap.get?_push_of_some _ q) (Nat.le_refl _) ?_, rfl, q _ (I.hok.fresh (Nat.le_refl _))⟩
  exact ⟨by rw [List.length_reverse]; exact hz, _, 0, r.reverse, Heap.get?_push_size _ rfl⟩
theorem rev_tup : RevR X (rRevT X.K) := by
  intro pins s σ H x v u sl Q I rx hs h
  obtain ⟨a, xs, rfl, hx, q⟩ := h
  cases rx
  obtain ⟨its, r, ht, hz⟩ := I.tuple hx
  have hlen : its.toArray.size = xs.length := by rw [List.size_toArray]; exact r.length.symm
  refine ⟨"tuple", _, PyProof.Rows.slot_tuple_getitem.lookup, ht.typeIs, ?_⟩
  refine SW.tuple_rev ht hs ?_ (by rw [hlen]; exact hz)
  refine ⟨.ref s.heap.objs.size, _, I.laid (t' := s.toks) (o := .tup xs.reverse) (fun b ob q => Heap.get?_push_of_some _ q) (Nat.le_refl _) ?_, rfl, q _ (I.hok.fresh (Nat.le_refl _))⟩
  exact ⟨by rw [List.length_reverse]; exact hz, _, r.reverse, IsTup.new _ _⟩
end
end L2
namespace SW
open PySem PySem.Spec PyProof.Rows L2
section
variable {X : Cx} {CX : CXT} {k : Nat} {f C : Addr} {fd : FuncData} {ps : List Str} {sp : Sp} {E : XK}
end
end SW

set_option Elab.async false
set_option maxRecDepth 100000
set_option maxHeartbeats 8000000
set_option linter.unusedVariables false
/-! _law_statement, _law_block whole; params that are drawn -/
namespace BK
open PySem PySem.Spec PyProof.Rows L2 SW DU
section
variable {P : Program} {w : World} {K : PySem.W.Frag} {mg : Str → Option Value} {base : Heap}
theorem ok_gen {fS fB fD fO fF fL : Addr} {fdS fdB fdD fdO fdF fdL : FuncData} (FS : Fun K "_law_statement" "_law_statement" sStA fS fdS) (FB : Fun K "_law_block" "_law_block" sBlA fB fdB) (mL : mg "len" = none) (mR : mg "range" = none) (mT : mg "tuple" = none)
    (GD : FnOk P w K mg base CX0 2 fD fdD ["state", "many"] spDraw) (bD : Binds K fdD ["state", "many"] []) (gD : mg "_law_draw" = some (.ref fD)) (kD : PySem.W.keepIn K (.ref fD) = true)
    (GO : FnOk P w K mg base CX0 3 fO fdO ["state", "some"] (spOfL K)) (bO : Binds K fdO ["state", "some"] []) (gO : mg "_law_of" = some (.ref fO)) (kO : PySem.W.keepIn K (.ref fO) = true)
    (GF : FnOk P w K mg base CX0 4 fF fdF ["state", "own"] (spFrom K)) (bF : Binds K fdF ["state", "own"] []) (gF : mg "_law_from" = some (.ref fF)) (kF : PySem.W.keepIn K (.ref fF) = true)
    (GL : FnOk P w K mg base CX0 5 fL fdL ["state", "own", "is_free", "is_loop"] (spLeaf K)) (bL : Binds K fdL ["state", "own", "is_free", "is_loop"] []) (gL : mg "_law_leaf" = some (.ref fL)) (kL : PySem.W.keepIn K (.ref fL) = true)
    (bS : Binds K fdS ["state", "own", "deep", "is_free", "is_loop"] []) (gS : mg "_law_statement" = some (.ref fS)) (kS : PySem.W.keepIn K (.ref fS) = true)
    (bB : Binds K fdB ["state", "own", "deep", "is_free", "is_loop"] []) (gB : mg "_law_block" = some (.ref fB)) (kB : PySem.W.keepIn K (.ref fB) = true) :
    ∀ e, FnOk P w K mg base CX0 (4 + 2 * e) fS fdS ["state", "own", "deep", "is_free", "is_loop"] (spStA K e)
  | 0 => ⟨fun vs H Q E h => by
      obtain ⟨a, n, ow, vars, cs, ts, κ, deep, f, l, rfl, _⟩ := h
      rfl, fun A outer s H args us vs Q E hr e0 hb r h => by
      obtain ⟨a, n, ow, vars, cs, ts, κ, deep, f, l, _, _, _, _, _, _, _, _, he, _⟩ := h
      exact absurd he (by decide)⟩
  | e + 1 => ok_stA FS mL GD bD gD kD GO bO gO kO GF bF gF kF GL bL gL kL (ok_blA FB mR mT GD bD gD kD (ok_gen FS FB mL mR mT GD bD gD kD GO bO gO kO GF bF gF kF GL bL gL kL bS gS kS bB gB kB e) bS gS kS) bB gB kB
end
/-! params -/
def pairT (z k : Str) : Tr := .tup [.str z, .str k]
/-- pairs of slots and kinds -/
structure PrmG (κ : Str → Str) (ps : List Tr) : Prop where
  sh : ∀ p ∈ ps, ∃ z k, p = pairT z k ∧ nameS z = true ∧ (k = "context" ∨ k = "token") ∧ κ z = k
  nd : (ps.map wordS).Nodup
theorem PrmG.sub {κ : Str → Str} {ps qs : List Tr} (h : PrmG κ ps) (s : qs.Sublist ps) : PrmG κ qs := ⟨fun p hp => h.sh p (s.subset hp), h.nd.sublist (s.map wordS)⟩
theorem PrmG.rev {κ : Str → Str} {ps : List Tr} (h : PrmG κ ps) : PrmG κ ps.reverse := ⟨fun p hp => h.sh p (List.mem_reverse.mp hp), by
  rw [List.map_reverse]
  exact (List.pairwise_reverse (R := fun a b => a ≠ b)).mpr (h.nd.imp fun e => e.symm)⟩
theorem firsts {κ : Str → Str} : ∀ {ps : List Tr}, (∀ p ∈ ps, ∃ z k, p = pairT z k ∧ nameS z = true ∧ (k = "context" ∨ k = "token") ∧ κ z = k) → (ps.map firstT).all nameT = true ∧ texts (ps.map firstT) = ps.map wordS
  | [], _ => ⟨rfl, rfl⟩
  | p :: r, h => by
    obtain ⟨i1, i2⟩ := firsts (ps := r) fun q hq => h q (List.mem_cons_of_mem _ hq)
    obtain ⟨z, k, rfl, hz, _⟩ := h p List.mem_cons_self
    constructor
    · rw [List.map_cons, List.all_cons, i1]
      have : nameT (firstT (pairT z k)) = true := hz
      rw [this]
      rfl
    · show z :: texts (r.map firstT) = z :: r.map wordS
      rw [i2]
theorem PrmG.ok {κ : Str → Str} {ps : List Tr} (h : PrmG κ ps) (hl : ps.length ≤ 2) : paramsT (.tup ps) = true ∧ KmOk κ (kindsP (.tup ps)) := by
  obtain ⟨f1, f2⟩ := firsts h.sh
  constructor
  · rw [params_tup]
    have a1 : diffT (ps.map firstT) = true := by
      unfold diffT
      rw [f1, f2, decide_eq_true h.nd]
      rfl
    have a2 : ps.all paramT = true := List.all_eq_true.mpr fun p hp => by
      obtain ⟨z, k, rfl, _, hk, _⟩ := h.sh p hp
      show kindT (.str k) = true
      rcases hk with rfl | rfl <;> decide +kernel
    rw [a1, a2, decide_eq_true hl]
    rfl
  · intro q hq
    obtain ⟨p, hp, e⟩ := List.mem_filterMap.mp (show q ∈ ps.filterMap pairKm from hq)
    obtain ⟨z, k, rfl, _, _, hk⟩ := h.sh p hp
    have e : some (z, k) = some q := e
    rw [← Option.some.inj e]
    exact hk.symm
/-- the kinds of the four slots -/
def kap4 (s0 s1 : Str) : Str → Str := fun z => if z = s0 ∨ z = s1 then "context" else "token"
def all4 (s0 s1 s2 s3 : Str) : List Tr := [pairT s0 "context", pairT s1 "context", pairT s2 "token", pairT s3 "token"]
theorem all4_ok {s0 s1 s2 s3 : Str} (hn : ∀ z ∈ [s0, s1, s2, s3], nameS z = true) (nd : [s0, s1, s2, s3].Nodup) : PrmG (kap4 s0 s1) (all4 s0 s1 s2 s3) := by
  have n4 := nd
  simp only [List.nodup_cons, List.mem_cons, List.not_mem_nil, or_false, not_or] at n4
  obtain ⟨⟨a, b, c⟩, ⟨d, e⟩, f, _⟩ := n4
  refine ⟨fun p hp => ?_, nd⟩
  simp only [all4, List.mem_cons, List.not_mem_nil, or_false] at hp
  rcases hp with rfl | rfl | rfl | rfl
  · exact ⟨s0, _, rfl, hn _ (by simp), .inl rfl, if_pos (.inl rfl)⟩
  · exact ⟨s1, _, rfl, hn _ (by simp), .inl rfl, if_pos (.inr rfl)⟩
  · exact ⟨s2, _, rfl, hn _ (by simp), .inr rfl, if_neg (by rintro (h | h); exact b h.symm; exact d h.symm)⟩
  · exact ⟨s3, _, rfl, hn _ (by simp), .inr rfl, if_neg (by rintro (h | h); exact c h.symm; exact e h.symm)⟩
theorem own4 {vars : List Str} {s0 s1 s2 s3 : Str} (v1 : 0 < vars.length) (v3 : vars.length ≤ 3) (vn : ∀ z ∈ vars, nameS z = true) (hn : ∀ z ∈ [s0, s1, s2, s3], nameS z = true) (nd : [s0, s1, s2, s3].Nodup) : OwnN vars [s0, s1] [s2, s3] (kap4 s0 s1) := by
  have n4 := nd
  simp only [List.nodup_cons, List.mem_cons, List.not_mem_nil, or_false, not_or] at n4
  obtain ⟨⟨a, b, c⟩, ⟨d, e⟩, f, _⟩ := n4
  refine ⟨v1, v3, vn, by simp, by simp, fun z hz => ?_, by simp, by simp, fun z hz => ?_⟩
  · simp only [List.mem_cons, List.not_mem_nil, or_false] at hz
    exact ⟨hn z (by rcases hz with rfl | rfl <;> simp), if_pos hz⟩
  · simp only [List.mem_cons, List.not_mem_nil, or_false] at hz
    refine ⟨hn z (by rcases hz with rfl | rfl <;> simp), if_neg ?_⟩
    rcases hz with rfl | rfl
    · rintro (h | h); exact b h.symm; exact d h.symm
    · rintro (h | h); exact c h.symm; exact e h.symm
/-- a piece that is drawn -/
structure DrawnP (vars : List Str) (name : Str) (p : Tr) (most : Nat) : Prop where
  ex : ∃ (ps : List Tr) (blk : List Tr) (κ : Str → Str) (m : Nat), p = .tup [.str name, .tup ps, .tup blk] ∧ PrmG κ ps ∧ ps.length ≤ 2 ∧ GB vars κ 5 true false blk m ∧ m ≤ most
theorem DrawnP.word {vars : List Str} {name : Str} {p : Tr} {most : Nat} (h : DrawnP vars name p most) : wordS p = name := by
  obtain ⟨ps, blk, κ, m, rfl, _⟩ := h
  rfl
theorem DrawnP.ok {vars : List Str} {name : Str} {p : Tr} {most : Nat} (hV : VarsG vars) (hn : nameS name = true) (h : DrawnP vars name p most) (hm : most ≤ 16) : tripleT p = true ∧ (faultD vars 5 (blockOf p) [] (kindsP (paramsOf p), 0)).1 = none := by
  obtain ⟨ps, blk, κ, m, rfl, hp, hl, hg, hm'⟩ := h
  obtain ⟨p1, p2⟩ := hp.ok hl
  refine ⟨?_, blk_ok hV hg p2 (by omega)⟩
  show (nameT (.str name) && paramsT (.tup ps) && isTup (.tup blk)) = true
  have : nameT (.str name) = true := hn
  rw [this, p1]
  rfl
end BK

set_option Elab.async false
set_option maxRecDepth 100000
set_option maxHeartbeats 8000000
set_option linter.unusedVariables false
/-! _law_piece: slots, own, params -/
namespace BK
open PySem PySem.Spec PyProof.Rows L2 SW DU
theorem mem_alpha : ∀ i : Fin 123, 97 ≤ i.1 → i.1 ∈ alpha.cps.toList := by decide +kernel
theorem nm_name {z : Str} (h : isNm z) : nameS z = true := by
  unfold isNm isNmB at h
  unfold nameS
  rw [Bool.and_eq_true, Bool.and_eq_true] at h ⊢
  obtain ⟨⟨h1, h2⟩, h3⟩ := h
  refine ⟨⟨h1, h2⟩, ?_⟩
  rw [List.all_eq_true] at h3 ⊢
  intro c hc
  have q := h3 c hc
  rw [Bool.and_eq_true] at q
  have q1 := of_decide_eq_true q.1
  have q2 := of_decide_eq_true q.2
  exact decide_eq_true (mem_alpha ⟨c, by omega⟩ q1)
abbrev sPie : Stmt := top 70
abbrev nPie : List Str := ["state", "own", "name", "most", "slots", "kinds", "params", "pair"]
theorem scPie : FnScope nPie ["state", "own", "name", "most"] (defScope sPie) := ⟨rfl, rfl, rfl, by decide +kernel, rfl, by decide +kernel, by decide +kernel⟩
abbrev XPi (P : Program) (w : World) (K : PySem.W.Frag) (mg : Str → Option Value) (base : Heap) (f : Addr) (cdv : Value) (A : Around) (outer : List Env) (s : Shared) (H : Hp) (E : XK) : Cx := (cxOf CX0 P w K mg base nPie "_law_piece" (defScope sPie) f cdv A outer s H E).nox
/-- the dict that _law_book hands on -/
def OwnB (H : Hp) (a : RA) (ow : Addr) (vars : List Str) : Prop := ∃ vl, H ow = some (.dK [(.inr "vars", .ref vl)]) ∧ H vl = some (.lst (vars.map V.str)) ∧ SW.Off a ow ∧ SW.Off a vl
theorem OwnB.but {H H' : Hp} {a : RA} {ow : Addr} {vars : List Str} (h : OwnB H a ow vars) (b : But a H H') : OwnB H' a ow vars := by
  obtain ⟨vl, h1, h2, o1, o2⟩ := h
  exact ⟨vl, b.at o1 h1, b.at o2 h2, o1, o2⟩
theorem OwnB.rm {H : Hp} {a : RA} {ow : Addr} {vars : List Str} (h : OwnB H a ow vars) (r : Int) : OwnB H (a.rm r) ow vars := by
  obtain ⟨vl, h1, h2, o1, o2⟩ := h
  exact ⟨vl, h1, h2, o1.rm r, o2.rm r⟩
structure VarsN (vars : List Str) : Prop where
  v1 : 0 < vars.length
  v3 : vars.length ≤ 3
  vn : ∀ z ∈ vars, nameS z = true
theorem four_of {zs : List Str} (h : zs.length = 4) : ∃ s0 s1 s2 s3, zs = [s0, s1, s2, s3] := by
  match zs, h with
  | [a, b, c, d], _ => exact ⟨a, b, c, d, rfl⟩
theorem ownB_v (vl : Addr) : valV [((.inr "vars" : Key), V.ref vl)] (.inr "vars") = some (.ref vl) := by with_unfolding_all rfl
theorem ownD_merge (vl cl tl : Addr) : mergeK [] [((.inr "vars" : Key), V.ref vl), (.inr "contexts", .ref cl), (.inr "tokens", .ref tl)] = ownD vl cl tl := by with_unfolding_all rfl
section
variable {P : Program} {w : World} {K : PySem.W.Frag} {mg : Str → Option Value} {base : Heap} {f : Addr} {cdv : Value} {A : Around} {outer : List Env} {s0 : Shared} {H : Hp} {E : XK}
theorem pc0 {fN : Addr} {fdN : FuncData} (hr : Room 15 (A.deeper (envOfC "_law_piece" (defScope sPie) s0.heap.objs.size f cdv)))
    (GN : FnOk P w K mg base CX0 4 fN fdN ["state", "many"] spNames) (bN : Binds K fdN ["state", "many"] []) (gN : mg "_law_names" = some (.ref fN)) (kN : PySem.W.keepIn K (.ref fN) = true) :
    ∃ t, PS (XPi P w K mg base f cdv A outer s0 H E) (stAt sPie 0) t ∧
    ∀ {D} {a : RA} {n : Nat} {H1 : Hp} {v1 v2 v3 : Option V}, Rnd H1 a n → n + 1000 ≤ 1000000 →
      (∀ (sl kl : Addr) (z0 z1 z2 z3 : Str) (n' : Nat) (H2 : Hp), (∀ z ∈ [z0, z1, z2, z3], nameS z = true) → [z0, z1, z2, z3].Nodup → H2 sl = some (.lst [.str z0, .str z1, .str z2, .str z3]) → H2 kl = some (.lst [.str "context", .str "context", .str "token", .str "token"]) → SW.Off a sl → SW.Off a kl → n' ≤ n + 40 → Rnd H2 a n' → But a H1 H2 →
        D.nx [some (.ref a.s), v1, v2, v3, some (.ref sl), some (.ref kl), none, none] H2) →
      t D [some (.ref a.s), v1, v2, v3, none, none, none, none] H1 := by
  have hr4 : Room 4 _ := hr.mono (by decide)
  refine ⟨_, ps_par (i := 4) (j := 5) rfl scPie.nd rfl rfl (by decide) rfl rfl (pa_cons (pe_call GN hr4 rfl gN kN bN .nil pass0 (pa_cons (pv 0) (pa_cons pe_int pa_nil))) (pa_cons (pe_lst (pa_cons pe_str (pa_cons pe_str (pa_cons pe_str (pa_cons pe_str pa_nil))))) pa_nil)) (by rfl), ?_⟩
  intro D a n H1 v1 v2 v3 R hn k
  refine ⟨_, rfl, a, n, 4, rfl, R, by decide, hn, fun p zs n' H2 np op ep lz nd hz hn' R2 b2 => ?_⟩
  obtain ⟨z0, z1, z2, z3, rfl⟩ := four_of lz
  refine ⟨(show 4 ≤ sizeLine by decide), fun q nq => ⟨_, _, rfl, ?_⟩⟩
  have sq := same_new (o := .lst [.str "context", .str "context", .str "token", .str "token"]) nq
  exact k p q z0 z1 z2 z3 n' _ (fun z h => nm_name (hz z h)) nd (sq _ _ ep) upd_same op (R2.off nq) (by omega) (R2.same sq) (b2.trans (Same.but sq))
theorem pc1 (hr : Room 15 (A.deeper (envOfC "_law_piece" (defScope sPie) s0.heap.objs.size f cdv))) :
    ∃ t, PS (XPi P w K mg base f cdv A outer s0 H E) (stAt sPie 1) t ∧
    ∀ {D} {a : RA} {n : Nat} {H1 : Hp} {ow sl : Addr} {vars : List Str} {z0 z1 z2 z3 : Str} {v2 v3 v5 v6 v7 : Option V}, Rnd H1 a n → OwnB H1 a ow vars → H1 sl = some (.lst [.str z0, .str z1, .str z2, .str z3]) →
      (∀ (o2 : Addr) (H2 : Hp), OwnD H2 a o2 vars [z0, z1] [z2, z3] → Same H1 H2 → D.nx [some (.ref a.s), some (.ref o2), v2, v3, some (.ref sl), v5, v6, v7] H2) →
      t D [some (.ref a.s), some (.ref ow), v2, v3, some (.ref sl), v5, v6, v7] H1 := by
  have hu := hu_of hr
  refine ⟨_, ps_set (i := 1) scPie.nd rfl (Or.inl rfl) (pe_disp (pps_cons pe_str (pe_dget hu (pv 1) pe_str (fun _ _ => rfl)) (pps_cons pe_str (pe_slice sl_list (pv 4) po_none (po_some pe_int)) (pps_cons pe_str (pe_slice sl_list (pv 4) (po_some pe_int) po_none) pps_nil))) rfl rfl (by simp) (by decide)), ?_⟩
  intro D a n H1 ow sl vars z0 z1 z2 z3 v2 v3 v5 v6 v7 R hB es k
  obtain ⟨vl, e1, e2, o1, o2⟩ := hB
  intro p np
  have s1 := same_new (o := .dK []) np
  have ep : (upd H1 p (.dK [])) p = some (.dK []) := upd_same
  generalize hG : upd H1 p (.dK []) = G1 at s1 ep ⊢
  have g : DGet G1 ow (.str "vars") (some (.ref vl)) := (ownB_v vl) ▸ DGet.k (k := Sum.inr "vars") (s1 _ _ e1)
  refine ⟨_, rfl, ow, _, rfl, g, ?_⟩
  refine ⟨_, rfl, 2, rfl, sl, _, rfl, SqL.of (s1 _ _ es), fun q1 n1 => ?_⟩
  have c1 : cutV [V.str z0, .str z1, .str z2, .str z3] none (some 2) = [.str z0, .str z1] := cut_to (xs := [V.str z0, .str z1, .str z2, .str z3]) (i := 2) (by simp)
  rw [c1]
  have s2 := same_new (o := .lst [.str z0, .str z1]) n1
  have eq1 : (upd G1 q1 (.lst [.str z0, .str z1])) q1 = some (.lst [.str z0, .str z1]) := upd_same
  generalize upd G1 q1 (.lst [.str z0, .str z1]) = G2 at s2 eq1 ⊢
  have s12 := s1.trans s2
  refine ⟨_, rfl, 2, rfl, sl, _, rfl, SqL.of (s12 _ _ es), fun q2 n2 => ?_⟩
  have c2 : cutV [V.str z0, .str z1, .str z2, .str z3] (some 2) none = [.str z2, .str z3] := cut_from (xs := [V.str z0, .str z1, .str z2, .str z3]) (i := 2) (by simp)
  rw [c2]
  have s3 := same_new (o := .lst [.str z2, .str z3]) n2
  have eq2 : (upd G2 q2 (.lst [.str z2, .str z3])) q2 = some (.lst [.str z2, .str z3]) := upd_same
  generalize upd G2 q2 (.lst [.str z2, .str z3]) = G3 at s3 eq2 ⊢
  have s13 := s12.trans s3
  have ep3 := s3 _ _ (s2 _ _ ep)
  refine ⟨ep3, [(.inr "vars", .ref vl), (.inr "contexts", .ref q1), (.inr "tokens", .ref q2)], rfl, (by show 3 ≤ 15; decide), ?_⟩
  rw [ownD_merge]
  have sD : Same H1 (upd G3 p (.dK (ownD vl q1 q2))) := fun b o e => by
    rw [upd_ne (ne_of_none e np)]
    exact s13 _ _ e
  have at3 : ∀ {b : Addr} {o : HO}, G3 b = some o → b ≠ p → (upd G3 p (.dK (ownD vl q1 q2))) b = some o := fun e ne => by
    rw [upd_ne ne]
    exact e
  have nq1 : q1 ≠ p := (ne_of_none ep n1).symm
  have nq2 : q2 ≠ p := (ne_of_none (s2 _ _ ep) n2).symm
  refine k p _ ⟨vl, q1, q2, upd_same, sD _ _ e2, at3 (s3 _ _ eq1) nq1, at3 eq2 nq2, R.off np, o2, ?_, ?_⟩ sD
  · exact (R.same s1).off n1
  · exact (R.same s12).off n2
end
end BK

set_option Elab.async false
set_option maxRecDepth 100000
set_option maxHeartbeats 8000000
set_option linter.unusedVariables false
/-! _law_piece: params, room -/
namespace BK
open PySem PySem.Spec PyProof.Rows L2 SW DU
theorem cut_all {xs : List V} {i : Nat} : cutV xs none (some (i : Int)) = xs.take i := by
  by_cases h : i ≤ xs.length
  · exact cut_to h
  · have e2 : HT.sIx xs.length xs.length (some (i : Int)) = xs.length := by
      unfold HT.sIx
      show (if (i : Int) < 0 then _ else min (i : Int).toNat xs.length) = xs.length
      rw [if_neg (by omega)]
      omega
    unfold cutV
    have e1 : HT.sIx xs.length 0 none = 0 := rfl
    rw [e1, e2, List.drop_zero, Nat.sub_zero, List.take_length, List.take_of_length_le (by omega)]
theorem zip_at {z0 z1 z2 z3 : Str} (hz : ∀ z ∈ [z0, z1, z2, z3], nameS z = true) {i : Nat} {x y : V} (hx : [V.str z0, .str z1, .str z2, .str z3][i]? = some x) (hy : [V.str "context", .str "context", .str "token", .str "token"][i]? = some y) :
    ∃ z k, x = .str z ∧ y = .str k ∧ nameS z = true ∧ k.length ≤ sizeLine ∧ (all4 z0 z1 z2 z3)[i]? = some (pairT z k) := by
  have hi : i < 4 := by
    have := (List.getElem?_eq_some_iff.mp hx).1
    simpa using this
  have : i = 0 ∨ i = 1 ∨ i = 2 ∨ i = 3 := by omega
  rcases this with rfl | rfl | rfl | rfl
  · cases hx; cases hy; exact ⟨_, _, rfl, rfl, hz _ (by simp), by decide, rfl⟩
  · cases hx; cases hy; exact ⟨_, _, rfl, rfl, hz _ (by simp), by decide, rfl⟩
  · cases hx; cases hy; exact ⟨_, _, rfl, rfl, hz _ (by simp), by decide, rfl⟩
  · cases hx; cases hy; exact ⟨_, _, rfl, rfl, hz _ (by simp), by decide, rfl⟩
section
variable {P : Program} {w : World} {K : PySem.W.Frag} {mg : Str → Option Value} {base : Heap} {f : Addr} {cdv : Value} {A : Around} {outer : List Env} {s0 : Shared} {H : Hp} {E : XK} {fD fB : Addr} {fdD fdB : FuncData}
theorem pc2 (hr : Room 15 (A.deeper (envOfC "_law_piece" (defScope sPie) s0.heap.objs.size f cdv))) (mZ : mg "zip" = none)
    (GD : FnOk P w K mg base CX0 2 fD fdD ["state", "many"] spDraw) (bD : Binds K fdD ["state", "many"] []) (gD : mg "_law_draw" = some (.ref fD)) (kD : PySem.W.keepIn K (.ref fD) = true) :
    ∃ t, PS (XPi P w K mg base f cdv A outer s0 H E) (stAt sPie 2) t ∧
    ∀ {D} {a : RA} {n : Nat} {H1 : Hp} {sl kl : Addr} {z0 z1 z2 z3 : Str} {v1 v2 v3 : Option V}, Rnd H1 a n → n + 1000 ≤ 1000000 → (∀ z ∈ [z0, z1, z2, z3], nameS z = true) → SW.Off a sl → SW.Off a kl → H1 sl = some (.lst [.str z0, .str z1, .str z2, .str z3]) → H1 kl = some (.lst [.str "context", .str "context", .str "token", .str "token"]) →
      (∀ (L : Addr) (ps : List Tr) (n' : Nat) (H2 : Hp), ps.Sublist (all4 z0 z1 z2 z3) → ps.length ≤ 2 → LstAt K H2 L ps → SW.Off a L → n' ≤ n + 4 → Rnd H2 a n' → But a H1 H2 → D.nx [some (.ref a.s), v1, v2, v3, some (.ref sl), some (.ref kl), some (.ref L), none] H2) →
      t D [some (.ref a.s), v1, v2, v3, some (.ref sl), some (.ref kl), none, none] H1 := by
  have hr2 : Room 2 _ := hr.mono (by decide)
  refine ⟨_, ps_set (i := 6) scPie.nd rfl (Or.inl rfl) (pe_slice sl_list (pe_lc (own := [("pair", 7)]) (g := gName 7) (te := tVar 7) rfl scPie.nd (ZN.pi_zipN (by rfl) mZ (pa_cons (pv 4) (pa_cons (pv 5) pa_nil))) (blkOk_by (N := nPie) (sc := defScope sPie) (by decide +kernel))
      (fun _ _ _ _ _ => pg_name (i := 7) scPie.nd rfl (Or.inl rfl))
      (fun _ _ _ _ _ => pts_one (pt_cmpR op_eq (pe_call GD hr2 rfl gD kD bD .nil pass0 (pa_cons (pv 0) (pa_cons pe_int pa_nil))) pe_int (nomark _))) (fun _ _ _ _ _ => pv 7)) po_none (po_some pe_int)), ?_⟩
  intro D a n H1 sl kl z0 z1 z2 z3 v1 v2 v3 R hn hz os ok es ek k
  refine ⟨_, rfl, _, rfl, sl, kl, _, _, rfl, SqL.of es, SqL.of ek, fun N nN => ?_⟩
  have oN := R.off nN
  have pz : ∀ {H' : Hp} {p : Addr} {z k : Str}, nameS z = true → k.length ≤ sizeLine → H' p = none → Same H' (upd H' p (.tup [.str z, .str k])) ∧ TrZ K (upd H' p (.tup [.str z, .str k])) (.ref p) (pairT z k) := fun {H' p z k} h1 h2 np => new_trZ np (.cons (.str z (name_line h1)) (.cons (.str k h2) .nil))
  refine lc_it (walk_zip (K := K) (a := sl) (b := kl) (xs := [.str z0, .str z1, .str z2, .str z3]) (ys := [.str "context", .str "context", .str "token", .str "token"]) (n := 4) rfl) (fun i H2 => ∃ (ps : List Tr) (n' : Nat), LstAt K H2 N ps ∧ ps.Sublist ((all4 z0 z1 z2 z3).take i) ∧ Rnd H2 a n' ∧ n' ≤ n + i ∧ But a H1 H2)
    ⟨[], n, ⟨[], upd_same, .nil⟩, List.Sublist.slnil, R.upd oN, by omega, Same.but (same_new nN)⟩ (fun i H2 _ ⟨_, _, _, _, _, _, b⟩ => ⟨SqL.of (b.at os es), SqL.of (b.at ok ek)⟩) ?_ ?_
  · rintro i v H2 H3 hi ⟨ps, n', ⟨us, eN, tN⟩, hsub, R2, hn', b2⟩ ⟨T, x, y, rfl, nT, rfl, hx, hy⟩
    obtain ⟨z, kd, rfl, rfl, hzn, hkl, hat⟩ := zip_at hz hx hy
    have et : (all4 z0 z1 z2 z3).take (i + 1) = (all4 z0 z1 z2 z3).take i ++ [pairT z kd] := by rw [List.take_add_one, hat]; rfl
    obtain ⟨sT, tT⟩ := pz hzn hkl nT
    have eN3 := sT _ _ eN
    have R3 := R2.same sT
    have tN3 := tN.same sT
    have b3 := b2.trans (Same.but sT)
    generalize upd H2 T (.tup [.str z, .str kd]) = H3 at sT tT eN3 R3 tN3 b3 ⊢
    have pl : ps.length ≤ 4 := by
      have := hsub.length_le
      rw [List.length_take] at this
      have : (all4 z0 z1 z2 z3).length = 4 := rfl
      omega
    have ul := tN.len
    refine ⟨rfl, ?_⟩
    refine ⟨_, rfl, a, n', 3, rfl, R3, by omega, by decide, by decide, fun r H4 _ _ R4 b4 => ?_⟩
    have eN4 := b4.at oN eN3
    have tN4 := tN3.rnd R3 R4 b4
    have tT4 := tT.rnd R3 R4 b4
    refine ⟨rfl, _, rfl, ?_⟩
    refine ite2 (fun _ => ?_) (fun _ => ?_)
    · refine ⟨_, rfl, us, eN4, small1000 (by omega), ps ++ [pairT z kd], n' + 1, ⟨us ++ [.ref T], upd_same, (tN4.updL eN4).app (.cons (tT4.updL eN4) .nil)⟩, ?_, R4.upd oN, by omega, (b3.trans b4).new nN⟩
      rw [et]
      exact hsub.append (List.Sublist.refl _)
    · refine ⟨ps, n' + 1, ⟨us, eN4, tN4⟩, ?_, R4, by omega, b3.trans b4⟩
      rw [et]
      exact hsub.trans (List.sublist_append_left _ _)
  · rintro H2 ⟨ps, n', ⟨us, eN, tN⟩, hsub, R2, hn', b2⟩
    have e4 : (all4 z0 z1 z2 z3).take 4 = all4 z0 z1 z2 z3 := rfl
    rw [e4] at hsub
    refine ⟨2, rfl, N, us, rfl, SqL.of eN, fun q nq => ?_⟩
    have ec : cutV us none (some 2) = us.take 2 := cut_all (i := 2)
    rw [ec]
    have sq := same_new (o := .lst (us.take 2)) nq
    exact k q (ps.take 2) n' _ ((List.take_sublist _ _).trans hsub) (by rw [List.length_take]; omega) ⟨us.take 2, upd_same, (tN.taken 2).same sq⟩ (R2.off nq) hn' (R2.same sq) (b2.trans (Same.but sq))
theorem pc3 (hr : Room 15 (A.deeper (envOfC "_law_piece" (defScope sPie) s0.heap.objs.size f cdv)))
    (GD : FnOk P w K mg base CX0 2 fD fdD ["state", "many"] spDraw) (bD : Binds K fdD ["state", "many"] []) (gD : mg "_law_draw" = some (.ref fD)) (kD : PySem.W.keepIn K (.ref fD) = true) :
    ∃ t, PS (XPi P w K mg base f cdv A outer s0 H E) (stAt sPie 3) t ∧
    ∀ {D} {a : RA} {n : Nat} {H1 : Hp} {L : Addr} {ps : List Tr} {v1 v2 v3 v4 v5 v7 : Option V}, Rnd H1 a n → n + 1000 ≤ 1000000 → LstAt K H1 L ps → SW.Off a L →
      (∀ (L' : Addr) (qs : List Tr) (H2 : Hp), (qs = ps ∨ qs = ps.reverse) → LstAt K H2 L' qs → SW.Off a L' → Rnd H2 a (n + 1) → But a H1 H2 → D.nx [some (.ref a.s), v1, v2, v3, v4, v5, some (.ref L'), v7] H2) →
      t D [some (.ref a.s), v1, v2, v3, v4, v5, some (.ref L), v7] H1 := by
  have hr2 : Room 2 _ := hr.mono (by decide)
  refine ⟨_, ps_set (i := 6) scPie.nd rfl (Or.inl rfl) (pe_ifExp (pt_cmpR op_eq (pe_call GD hr2 rfl gD kD bD .nil pass0 (pa_cons (pv 0) (pa_cons pe_int pa_nil))) pe_int (nomark _)) (pe_rev rev_list (pv 6) (pe_un un_neg pe_int)) (pv 6)), ?_⟩
  intro D a n H1 L ps v1 v2 v3 v4 v5 v7 R hn hL oL k
  refine ⟨_, rfl, a, n, 2, rfl, R, by omega, by decide, by decide, fun r H2 _ _ R2 b2 => ?_⟩
  have hL2 := hL.rnd oL R R2 b2
  refine ⟨rfl, _, rfl, ?_⟩
  refine ite2 (fun _ => ?_) (fun _ => ⟨_, rfl, k L ps H2 (.inl rfl) hL2 oL R2 b2⟩)
  obtain ⟨us, eL, tL⟩ := hL2
  refine ⟨_, rfl, _, rfl, rfl, L, us, rfl, SqL.of eL, fun q nq => ?_⟩
  have sq := same_new (o := .lst us.reverse) nq
  exact k q ps.reverse _ (.inr rfl) ⟨us.reverse, upd_same, tL.rev.same sq⟩ (R2.off nq) (R2.same sq) (b2.trans (Same.but sq))
theorem pc4 (hr : Room 15 (A.deeper (envOfC "_law_piece" (defScope sPie) s0.heap.objs.size f cdv)))
    (GD : FnOk P w K mg base CX0 2 fD fdD ["state", "many"] spDraw) (bD : Binds K fdD ["state", "many"] []) (gD : mg "_law_draw" = some (.ref fD)) (kD : PySem.W.keepIn K (.ref fD) = true) :
    ∃ t, PS (XPi P w K mg base f cdv A outer s0 H E) (stAt sPie 4) t ∧
    ∀ {D} {a : RA} {n : Nat} {H1 : Hp} {most : Int} {v1 v2 v4 v5 v6 v7 : Option V}, Rnd H1 a n → n + 1000 ≤ 1000000 → 0 ≤ most → most ≤ 100 →
      (∀ (r : Int) (H2 : Hp), 0 ≤ r → r ≤ most → Rnd H2 (a.rm r) (n + 2) → But a H1 H2 → D.nx [some (.ref a.s), v1, v2, some (.int most), v4, v5, v6, v7] H2) →
      t D [some (.ref a.s), v1, v2, some (.int most), v4, v5, v6, v7] H1 := by
  have hu := hu_of hr
  have hr2 : Room 2 _ := hr.mono (by decide)
  refine ⟨_, ps_dput hu (pv 0) pe_str (pe_ix ix_list (pe_lst (pa_cons (pv 3) (pa_cons (pe_call GD hr2 rfl gD kD bD .nil pass0 (pa_cons (pv 0) (pa_cons (pe_op op_add (pv 3) pe_int) pa_nil))) pa_nil))) (pe_call GD hr2 rfl gD kD bD .nil pass0 (pa_cons (pv 0) (pa_cons pe_int pa_nil))) (fun _ _ => rfl)) rfl, ?_⟩
  intro D a n H1 most v1 v2 v4 v5 v6 v7 R hn m0 m1 k
  refine ⟨_, rfl, _, rfl, _, rfl, _, _, rfl, rfl, a, n, most + 1, rfl, R, by omega, by omega, by omega, fun x H2 x0 xl R2 b2 => ⟨(show 2 ≤ sizeLine by decide), fun q nq => ?_⟩⟩
  have sq := same_new (o := .lst [.int most, .int x]) nq
  have eq : (upd H2 q (.lst [.int most, .int x])) q = some (.lst [.int most, .int x]) := upd_same
  have oq := R2.off nq
  have R3 := R2.same sq
  have b3 := b2.trans (Same.but sq)
  generalize upd H2 q (.lst [.int most, .int x]) = H3 at sq eq R3 b3 ⊢
  refine ⟨_, rfl, a, n + 1, 2, rfl, R3, by omega, by decide, by decide, fun y H4 y0 yl R4 b4 => ?_⟩
  have e4 := b4.at oq eq
  have fin : ∀ (r : Int), 0 ≤ r → r ≤ most → ∃ H5, DPut H4 a.s (.str "room") (.int r) H5 ∧ D.nx [some (.ref a.s), v1, v2, some (.int most), v4, v5, v6, v7] H5 := fun r h0 h1 => by
    obtain ⟨H5, dp, R5, b5⟩ := rnd_setR R4 r
    exact ⟨H5, dp, k r H5 h0 h1 R5 ((b3.trans b4).trans b5)⟩
  have hy : y = 0 ∨ y = 1 := by omega
  rcases hy with rfl | rfl
  · obtain ⟨H5, dp, q5⟩ := fin most m0 (Int.le_refl _)
    exact ⟨q, _, 0, .int most, rfl, rfl, SqL.of e4, rfl, _, rfl, a.s, H5, rfl, dp, q5⟩
  · obtain ⟨H5, dp, q5⟩ := fin x x0 (by omega)
    exact ⟨q, _, 1, .int x, rfl, rfl, SqL.of e4, rfl, _, rfl, a.s, H5, rfl, dp, q5⟩
end
end BK

set_option Elab.async false
set_option maxRecDepth 100000
set_option maxHeartbeats 8000000
set_option linter.unusedVariables false
/-! _law_piece, _law_book -/
namespace BK
open PySem PySem.Spec PyProof.Rows L2 SW DU
def spPie (K : PySem.W.Frag) : Sp := fun vs H Q _ => ∃ (a : RA) (n : Nat) (ow : Addr) (vars : List Str) (name : Str) (most : Nat), vs = [.ref a.s, .ref ow, .str name, .int (most : Int)] ∧ Rnd H a n ∧ n + 4000 ≤ 1000000 ∧ OwnB H a ow vars ∧ VarsN vars ∧ nameS name = true ∧ most ≤ 16 ∧
  ∀ (v : V) (p : Tr) (n' : Nat) (r' : Int) (H' : Hp), DrawnP vars name p most → TrZ K H' v p → n' ≤ n + 400 → Rnd H' (a.rm r') n' → But a H H' → Q v H'
section
variable {P : Program} {w : World} {K : PySem.W.Frag} {mg : Str → Option Value} {base : Heap}
theorem ok_pie {f fN fD fB : Addr} {fd fdN fdD fdB : FuncData} (F : Fun K "_law_piece" "_law_piece" sPie f fd) (mZ : mg "zip" = none) (mT : mg "tuple" = none)
    (GN : FnOk P w K mg base CX0 4 fN fdN ["state", "many"] spNames) (bN : Binds K fdN ["state", "many"] []) (gN : mg "_law_names" = some (.ref fN)) (kN : PySem.W.keepIn K (.ref fN) = true)
    (GD : FnOk P w K mg base CX0 2 fD fdD ["state", "many"] spDraw) (bD : Binds K fdD ["state", "many"] []) (gD : mg "_law_draw" = some (.ref fD)) (kD : PySem.W.keepIn K (.ref fD) = true)
    (GB' : FnOk P w K mg base CX0 15 fB fdB ["state", "own", "deep", "is_free", "is_loop"] (spBlA K 5)) (bB : Binds K fdB ["state", "own", "deep", "is_free", "is_loop"] []) (gB : mg "_law_block" = some (.ref fB)) (kB : PySem.W.keepIn K (.ref fB) = true) :
    FnOk P w K mg base CX0 16 f fd ["state", "own", "name", "most"] (spPie K) := by
  refine F.ok scPie (fun vs H Q E h => ?_) (fun cdv A outer s0 H vs Q E hr h => ?_)
  · obtain ⟨a, n, ow, vars, name, most, rfl, _⟩ := h
    rfl
  · obtain ⟨a, n, ow, vars, name, most, rfl, R, hn, hB, hV, hnm, hmo, k⟩ := h
    obtain ⟨t0, p0, r0⟩ := pc0 (P := P) (w := w) (K := K) (base := base) (outer := outer) (H := H) (E := E) hr GN bN gN kN
    obtain ⟨t1, p1, r1⟩ := pc1 (P := P) (w := w) (K := K) (mg := mg) (base := base) (outer := outer) (H := H) (E := E) hr
    obtain ⟨t2, p2, r2⟩ := pc2 (P := P) (w := w) (K := K) (base := base) (outer := outer) (H := H) (E := E) hr mZ GD bD gD kD
    obtain ⟨t3, p3, r3⟩ := pc3 (P := P) (w := w) (K := K) (base := base) (outer := outer) (H := H) (E := E) hr GD bD gD kD
    obtain ⟨t4, p4, r4⟩ := pc4 (P := P) (w := w) (K := K) (base := base) (outer := outer) (H := H) (E := E) hr GD bD gD kD
    refine ⟨_, C8.pss_cut p0 (C8.pss_cut p1 (C8.pss_cut p2 (C8.pss_cut p3 (C8.pss_cut p4 (pss_one (ps_ret (pe_tup (pa_cons (pv 2) (pa_cons (pe_callTy call_tuple_z (by rfl) mT boot_tuple (pa_cons (pv 6) pa_nil))
      (pa_cons (pe_call GB' hr rfl gB kB bB .nil pass0 (pa_cons (pv 0) (pa_cons (pv 1) (pa_cons pe_int (pa_cons pe_bl (pa_cons pe_bl pa_nil)))))) pa_nil)))))))))), ?_⟩
    refine ⟨fun σ H1 => ∃ (sl kl : Addr) (z0 z1 z2 z3 : Str) (n1 : Nat), σ = [some (.ref a.s), some (.ref ow), some (.str name), some (.int (most : Int)), some (.ref sl), some (.ref kl), none, none] ∧ (∀ z ∈ [z0, z1, z2, z3], nameS z = true) ∧ [z0, z1, z2, z3].Nodup ∧ H1 sl = some (.lst [.str z0, .str z1, .str z2, .str z3]) ∧ H1 kl = some (.lst [.str "context", .str "context", .str "token", .str "token"]) ∧ SW.Off a sl ∧ SW.Off a kl ∧ n1 ≤ n + 40 ∧ Rnd H1 a n1 ∧ But a H H1, ?_, ?_⟩
    · exact r0 R (by omega) fun sl kl z0 z1 z2 z3 n1 H1 h1 h2 h3 h4 h5 h6 h7 h8 h9 => ⟨sl, kl, z0, z1, z2, z3, n1, rfl, h1, h2, h3, h4, h5, h6, h7, h8, h9⟩
    rintro σ H1 ⟨sl, kl, z0, z1, z2, z3, n1, rfl, hz, nd, es, ek, os, ok, hn1, R1, b1⟩
    refine ⟨fun σ H2 => ∃ o2 : Addr, σ = [some (.ref a.s), some (.ref o2), some (.str name), some (.int (most : Int)), some (.ref sl), some (.ref kl), none, none] ∧ OwnD H2 a o2 vars [z0, z1] [z2, z3] ∧ Same H1 H2, ?_, ?_⟩
    · exact r1 R1 (hB.but b1) es fun o2 H2 hD s2 => ⟨o2, rfl, hD, s2⟩
    rintro σ H2 ⟨o2, rfl, hD, s2⟩
    have b2 := b1.trans (Same.but s2)
    refine ⟨fun σ H3 => ∃ (L : Addr) (ps : List Tr) (n3 : Nat), σ = [some (.ref a.s), some (.ref o2), some (.str name), some (.int (most : Int)), some (.ref sl), some (.ref kl), some (.ref L), none] ∧ ps.Sublist (all4 z0 z1 z2 z3) ∧ ps.length ≤ 2 ∧ LstAt K H3 L ps ∧ SW.Off a L ∧ n3 ≤ n1 + 4 ∧ Rnd H3 a n3 ∧ But a H2 H3, ?_, ?_⟩
    · exact r2 (R1.same s2) (by omega) hz os ok (s2 _ _ es) (s2 _ _ ek) fun L ps n3 H3 h1 h2 h3 h4 h5 h6 h7 => ⟨L, ps, n3, rfl, h1, h2, h3, h4, h5, h6, h7⟩
    rintro σ H3 ⟨L, ps, n3, rfl, hsub, hl2, hL, oL, hn3, R3, b3⟩
    have hD3 := hD.but b3
    have b13 := b2.trans b3
    refine ⟨fun σ H4 => ∃ (L : Addr) (qs : List Tr), σ = [some (.ref a.s), some (.ref o2), some (.str name), some (.int (most : Int)), some (.ref sl), some (.ref kl), some (.ref L), none] ∧ (qs = ps ∨ qs = ps.reverse) ∧ LstAt K H4 L qs ∧ SW.Off a L ∧ Rnd H4 a (n3 + 1) ∧ But a H3 H4, ?_, ?_⟩
    · exact r3 R3 (by omega) hL oL fun L qs H4 h1 h2 h3 h4 h5 => ⟨L, qs, rfl, h1, h2, h3, h4, h5⟩
    rintro σ H4 ⟨L', qs, rfl, hq, hL4, oL4, R4, b4⟩
    have hD4 := hD3.but b4
    have hP : PrmG (kap4 z0 z1) qs ∧ qs.length ≤ 2 := by
      have h0 := (all4_ok hz nd).sub hsub
      rcases hq with rfl | rfl
      · exact ⟨h0, hl2⟩
      · exact ⟨h0.rev, by rw [List.length_reverse]; exact hl2⟩
    refine ⟨fun σ H5 => ∃ r : Int, σ = [some (.ref a.s), some (.ref o2), some (.str name), some (.int (most : Int)), some (.ref sl), some (.ref kl), some (.ref L'), none] ∧ 0 ≤ r ∧ r ≤ (most : Int) ∧ Rnd H5 (a.rm r) (n3 + 3) ∧ But a H4 H5, ?_, ?_⟩
    · exact r4 R4 (by omega) (by omega) (by omega) fun r H5 h1 h2 h3 h4 => ⟨r, rfl, h1, h2, h3, h4⟩
    rintro σ H5 ⟨r, rfl, r0', r1', R5, b5⟩
    obtain ⟨us, eL, tL⟩ := hL4
    have eL5 := b5.at oL4 eL
    have tL5 := tL.rndW R4 R5 b5 rfl rfl
    refine ⟨_, rfl, _, rfl, L', us, rfl, SqL.of eL5, fun q oq nq dq => ?_⟩
    obtain ⟨sq, tq⟩ := new_z (K := K) nq dq tL5
    have R6 := R5.same sq
    have hD6 := ((hD4.but b5).same sq).rm r
    generalize upd H5 q (.frz oq (.tup us)) = H6 at sq tq R6 hD6 ⊢
    refine ⟨_, rfl, _, rfl, a.rm r, n3 + 3, o2, vars, [z0, z1], [z2, z3], kap4 z0 z1, 0, true, false, rfl, R6, r0', (show r ≤ 100 by omega), (show ((n3 + 3 : Nat) : Int) + 20 * r + 610 ≤ 1000000 by omega), own4 hV.v1 hV.v3 hV.vn hz nd, hD6, rfl, by decide, fun v bl m n7 H7 hg hm tv hn7 R7 b7 => ⟨(show 3 ≤ sizeLine by decide), fun p np => ?_⟩⟩
    have hm : (m : Int) ≤ r := hm
    have b7 : But a H6 H7 := b7
    have tq7 := tq.rndW R6 R7 b7 rfl rfl
    obtain ⟨sp, tp⟩ := new_trZ np (.cons (.str name (name_line hnm)) (.cons tq7 (.cons tv .nil)))
    exact k _ _ n7 (r - (m : Int)) _ ⟨qs, bl, kap4 z0 z1, m, rfl, hP.1, hP.2, hg, by omega⟩ tp (by omega) (R7.same sp) (((((b13.trans b4).trans b5).trans (Same.but sq)).trans b7).trans (Same.but sp))
end
end BK

set_option Elab.async false
set_option maxRecDepth 100000
set_option maxHeartbeats 8000000
set_option linter.unusedVariables false
/-! _law_book -/
namespace BK
open PySem PySem.Spec PyProof.Rows L2 SW DU
theorem strs_texts : ∀ ns : List Str, texts (ns.map Tr.str) = ns
  | [] => rfl
  | n :: r => by
    have ih := strs_texts r
    show (n :: texts (r.map Tr.str)) = n :: r
    rw [ih]
theorem strs_trG {K : PySem.W.Frag} {H : Hp} : ∀ {zs : List Str}, (∀ z ∈ zs, z.length ≤ sizeLine) → TlZ K H (zs.map V.str) (zs.map Tr.str)
  | [], _ => .nil
  | z :: r, h => .cons (.str z (h z List.mem_cons_self)) (strs_trG fun x hx => h x (List.mem_cons_of_mem _ hx))
def bookT (vars : List Str) (ps : List Tr) : Tr := .tup [.tup (vars.map Tr.str), .tup ps]
/-- a book that is drawn -/
structure BookG (vars : List Str) (ps : List Tr) (most : Nat) : Prop where
  vv : VarsN vars
  vd : vars.Nodup
  pc : ∀ p ∈ ps, DrawnP vars (wordS p) p most ∧ nameS (wordS p) = true
  nd : (ps.map wordS).Nodup
theorem drawn_none {vars : List Str} : ∀ (ps : List Tr) (i : Nat) (ns : List Str), (∀ p ∈ ps, tripleT p = true ∧ (faultD vars 5 (blockOf p) [] (kindsP (paramsOf p), 0)).1 = none) → (ns ++ ps.map wordS).Nodup → piecesL vars ps i ns = none
  | [], _, _, _, _ => rfl
  | t :: r, i, ns, h, nd => by
    obtain ⟨h1, h2⟩ := h t List.mem_cons_self
    have hn : wordS t ∉ ns := by
      rw [List.map_cons, List.nodup_append] at nd
      exact fun q => nd.2.2 _ q _ List.mem_cons_self rfl
    show (if tripleT t = true ∧ wordS t ∉ ns then _ else _) = none
    rw [if_pos ⟨h1, hn⟩, h2]
    refine drawn_none r (i + 1) (ns ++ [wordS t]) (fun p hp => h p (List.mem_cons_of_mem _ hp)) ?_
    rw [List.append_assoc]
    exact nd
theorem BookG.fault {vars : List Str} {ps : List Tr} {most : Nat} (h : BookG vars ps most) (hm : most ≤ 16) (hl : ps.length ≤ 6) : faultT (bookT vars ps) = none := by
  show (if 6 < ps.length then _ else if 1 ≤ (vars.map Tr.str).length ∧ (vars.map Tr.str).length ≤ 3 ∧ diffT (vars.map Tr.str) = true then _ else _) = none
  have e1 : diffT (vars.map Tr.str) = true := by
    unfold diffT
    rw [Bool.and_eq_true, strs_texts, List.all_eq_true]
    refine ⟨fun t ht => ?_, decide_eq_true h.vd⟩
    obtain ⟨z, hz, rfl⟩ := List.mem_map.mp ht
    exact h.vv.vn z hz
  have l1 := h.vv.v1
  have l2 := h.vv.v3
  rw [if_neg (by omega), if_pos ⟨by rw [List.length_map]; omega, by rw [List.length_map]; omega, e1⟩, strs_texts]
  exact drawn_none ps 0 [] (fun p hp => (h.pc p hp).1.ok ⟨h.vv.vn⟩ (h.pc p hp).2 hm) (by simpa using h.nd)
abbrev sLBk : Stmt := top 71
abbrev nLBk : List Str := ["state", "many", "most", "own", "names", "name"]
theorem scLBk : FnScope nLBk ["state", "many", "most"] (defScope sLBk) := ⟨rfl, rfl, rfl, by decide +kernel, rfl, by decide +kernel, by decide +kernel⟩
def spLBk (K : PySem.W.Frag) : Sp := fun vs H Q _ => ∃ (a : RA) (n many most : Nat), vs = [.ref a.s, .int (many : Int), .int (most : Int)] ∧ Rnd H a n ∧ n + 10000 ≤ 1000000 ∧ many ≤ 6 ∧ most ≤ 16 ∧
  ∀ (v : V) (vars : List Str) (ps : List Tr) (n' : Nat) (r' : Int) (H' : Hp), BookG vars ps most → ps.length = many → TrZ K H' v (bookT vars ps) → n' ≤ n + 4000 → Rnd H' (a.rm r') n' → But a H H' → Q v H'
theorem ownB_merge (vl : Addr) : mergeK [] [((.inr "vars" : Key), V.ref vl)] = [(.inr "vars", .ref vl)] := by with_unfolding_all rfl
section
variable {P : Program} {w : World} {K : PySem.W.Frag} {mg : Str → Option Value} {base : Heap}
theorem ok_lbk {f fN fD fP : Addr} {fd fdN fdD fdP : FuncData} (F : Fun K "_law_book" "_law_book" sLBk f fd) (mT : mg "tuple" = none)
    (GN : FnOk P w K mg base CX0 4 fN fdN ["state", "many"] spNames) (bN : Binds K fdN ["state", "many"] []) (gN : mg "_law_names" = some (.ref fN)) (kN : PySem.W.keepIn K (.ref fN) = true)
    (GD : FnOk P w K mg base CX0 2 fD fdD ["state", "many"] spDraw) (bD : Binds K fdD ["state", "many"] []) (gD : mg "_law_draw" = some (.ref fD)) (kD : PySem.W.keepIn K (.ref fD) = true)
    (GP : FnOk P w K mg base CX0 16 fP fdP ["state", "own", "name", "most"] (spPie K)) (bP : Binds K fdP ["state", "own", "name", "most"] []) (gP : mg "_law_piece" = some (.ref fP)) (kP : PySem.W.keepIn K (.ref fP) = true) :
    FnOk P w K mg base CX0 17 f fd ["state", "many", "most"] (spLBk K) := by
  refine F.ok scLBk (fun vs H Q E h => ?_) (fun cdv A outer s0 H vs Q E hr h => ?_)
  · obtain ⟨a, n, many, most, rfl, _⟩ := h
    rfl
  · obtain ⟨a, n, many, most, rfl, R, hn, hma, hmo, k⟩ := h
    have hu := hu_of hr
    have hr2 : Room 2 _ := hr.mono (by decide)
    have hr4 : Room 4 _ := hr.mono (by decide)
    refine ⟨_, C8.pss_cut (ps_set (i := 3) scLBk.nd rfl (Or.inr rfl) (pe_disp (pps_cons pe_str (pe_call GN hr4 rfl gN kN bN .nil pass0 (pa_cons (pv 0) (pa_cons (pe_op op_add pe_int (pe_call GD hr2 rfl gD kD bD .nil pass0 (pa_cons (pv 0) (pa_cons pe_int pa_nil)))) pa_nil))) pps_nil) rfl rfl (by simp) (by decide)))
      (C8.pss_cut (ps_set (i := 4) scLBk.nd rfl (Or.inl rfl) (pe_call GN hr4 rfl gN kN bN .nil pass0 (pa_cons (pv 0) (pa_cons (pv 1) pa_nil))))
      (pss_one (ps_ret (pe_tupZ (pa_cons (pe_callTy call_tuple_z (by rfl) mT boot_tuple (pa_cons (pe_dget hu (pv 3) pe_str (fun _ _ => rfl)) pa_nil))
        (pa_cons (pe_callTy call_tuple_z (by rfl) mT boot_tuple (pa_cons (pe_lc (own := [("name", 5)]) (g := gName 5) (tt := tYes) (te := tCall (spPie K) [] E0 (tCons (tVar 0) (tCons (tVar 3) (tCons (tVar 5) (tCons (tVar 2) tNil))))) rfl scLBk.nd (pi_list (pv 4)) (blkOk_by (N := nLBk) (sc := defScope sLBk) (by decide +kernel))
          (fun _ _ _ _ _ => pg_name (i := 5) scLBk.nd rfl (Or.inl rfl)) (fun _ _ _ _ _ => pts_nil) (fun _ _ _ _ _ => by exact pe_call GP hr rfl gP kP bP .nil pass0 (pa_cons (pv 0) (pa_cons (pv 3) (pa_cons (pv 5) (pa_cons (pv 2) pa_nil)))))) pa_nil)) pa_nil)))))), ?_⟩
    -- own
    refine ⟨fun σ H1 => ∃ (ow vl : Addr) (vars : List Str) (n1 : Nat), σ = [some (.ref a.s), some (.int (many : Int)), some (.int (most : Int)), some (.ref ow), none, none] ∧ H1 ow = some (.dK [(.inr "vars", .ref vl)]) ∧ H1 vl = some (.lst (vars.map V.str)) ∧ SW.Off a ow ∧ SW.Off a vl ∧ VarsN vars ∧ vars.Nodup ∧ n1 ≤ n + 31 ∧ Rnd H1 a n1 ∧ But a H H1, ?_, ?_⟩
    · intro p np
      have s1 := same_new (o := .dK []) np
      have ep : (upd H p (.dK [])) p = some (.dK []) := upd_same
      have op := R.off np
      have R1 := R.same s1
      generalize upd H p (.dK []) = G1 at s1 ep R1 ⊢
      refine ⟨_, rfl, _, rfl, a, n, 3, rfl, R1, by omega, by decide, by decide, fun x H2 x0 xl R2 b2 => ?_⟩
      obtain ⟨m, rfl⟩ : ∃ m : Nat, x = (m : Int) := ⟨x.toNat, by omega⟩
      have em : (1 : Int) + (m : Int) = ((1 + m : Nat) : Int) := by omega
      refine ⟨_, _, rfl, rfl, a, n + 1, 1 + m, by rw [← em]; rfl, R2, by omega, by omega, fun vl zs n3 H3 nv ov ev lz nd hz hn3 R3 b3 => ?_⟩
      have b13 := b2.trans b3
      have ep3 := b13.at op ep
      refine ⟨ep3, [(.inr "vars", .ref vl)], rfl, (by show 1 ≤ 15; decide), ?_⟩
      rw [ownB_merge]
      have nvp : vl ≠ p := (ne_of_none (b2.at op ep) nv).symm
      refine ⟨p, vl, zs, n3, rfl, upd_same, by rw [upd_ne nvp]; exact ev, op, ov, ⟨by omega, by omega, fun z h => nm_name (hz z h)⟩, nd, by omega, R3.upd op, ?_⟩
      exact fun b o e h1 h2 => by
        rw [upd_ne (ne_of_none e np)]
        exact b13 b o (s1 b o e) h1 h2
    rintro σ H1 ⟨ow, vl, vars, n1, rfl, e1, e2, ow', ov, hV, vd, hn1, R1, b1⟩
    have hB : OwnB H1 a ow vars := ⟨vl, e1, e2, ow', ov⟩
    -- names
    refine ⟨fun σ H2 => ∃ (nl : Addr) (zs : List Str) (n2 : Nat), σ = [some (.ref a.s), some (.int (many : Int)), some (.int (most : Int)), some (.ref ow), some (.ref nl), none] ∧ H2 nl = some (.lst (zs.map V.str)) ∧ SW.Off a nl ∧ zs.length = many ∧ zs.Nodup ∧ (∀ z ∈ zs, nameS z = true) ∧ n2 ≤ n1 + 60 ∧ Rnd H2 a n2 ∧ But a H1 H2, ?_, ?_⟩
    · refine ⟨_, rfl, _, rfl, a, n1, many, rfl, R1, by omega, by omega, fun nl zs n2 H2 _ on en lz nd hz hn2 R2 b2 => ?_⟩
      exact ⟨nl, zs, n2, rfl, en, on, lz, nd, fun z h => nm_name (hz z h), by omega, R2, b2⟩
    rintro σ H2 ⟨nl, zs, n2, rfl, en, on, lz, nd, hz, hn2, R2, b2⟩
    have hB2 := hB.but b2
    have g : DGet H2 ow (.str "vars") (some (.ref vl)) := (ownB_v vl) ▸ DGet.k (k := Sum.inr "vars") (b2.at ow' e1)
    refine ⟨_, rfl, ow, _, rfl, g, vl, _, rfl, SqL.of (b2.at ov e2), fun q oq nq dq => ?_⟩
    obtain ⟨sq, tq⟩ := new_z (K := K) nq dq (strs_trG (K := K) (H := H2) (zs := vars) fun z h => name_line (hV.vn z h))
    have R3 := R2.same sq
    have b3 := b2.trans (Same.but sq)
    have hB3 := hB.but b3
    have en3 := sq _ _ en
    generalize upd H2 q (.frz oq (.tup (vars.map V.str))) = H3 at sq tq R3 b3 hB3 en3 ⊢
    refine ⟨_, rfl, nl, rfl, ⟨_, SqL.of en3⟩, fun N nN => ?_⟩
    have oN := R3.off nN
    refine lc_it (walk_list (K := K) (a := nl) (xs := zs.map V.str)) (fun i H4 => ∃ (ps : List Tr) (n' : Nat) (r' : Int), LstAt K H4 N ps ∧ ps.map wordS = zs.take i ∧ (∀ p ∈ ps, DrawnP vars (wordS p) p most) ∧ Rnd H4 (a.rm r') n' ∧ n' ≤ n2 + 400 * i ∧ But a H3 H4)
      ⟨[], n2, a.r, ⟨[], upd_same, .nil⟩, rfl, (fun p hp => nomatch hp), (R3.same (same_new nN)), by omega, Same.but (same_new nN)⟩ (fun i H4 _ ⟨_, _, _, _, _, _, _, _, b4⟩ => SqL.of (b4.at on en3)) ?_ ?_
    · rintro i y Hx H4 hi ⟨ps, n', r', ⟨us, eN, tN⟩, ew, hl, R4, hn4, b4⟩ ⟨rfl, hy⟩
      obtain ⟨z, hz', rfl⟩ : ∃ z, zs[i]? = some z ∧ y = V.str z := by
        rw [List.getElem?_map] at hy
        cases e : zs[i]? with
        | none => rw [e] at hy; cases hy
        | some z => rw [e] at hy; exact ⟨z, rfl, (Option.some.inj hy).symm⟩
      have il : i < zs.length := (List.getElem?_eq_some_iff.mp hz').1
      have et : zs.take (i + 1) = zs.take i ++ [z] := by rw [List.take_add_one, hz']; rfl
      have pl' : ps.length = i := by
        have := congrArg List.length ew
        rw [List.length_map, List.length_take] at this
        omega
      have ul := tN.len
      refine ⟨rfl, ?_⟩
      refine tyes ?_
      refine ⟨_, rfl, _, rfl, _, rfl, _, rfl, a.rm r', n', ow, vars, z, most, rfl, R4, by omega, (hB3.but b4).rm r', hV, hz z (List.mem_of_getElem? hz'), hmo, fun v p n5 r5 H5 hP tv hn5 R5 b5 => ?_⟩
      have b5 : But a H4 H5 := b5
      have e5 := b5.at oN eN
      have t5 := tN.rndW R4 R5 b5 rfl rfl
      refine ⟨_, e5, small1000 (by omega), ps ++ [p], n5, r5, ⟨us ++ [v], upd_same, (t5.updL e5).app (.cons (tv.updL e5) .nil)⟩, ?_, fun u hu => ?_, R5.upd (oN.rm r5), by omega, (b4.trans b5).new nN⟩
      · rw [List.map_append, ew, et, List.map_cons, List.map_nil, hP.word]
      · rcases List.mem_append.mp hu with hu | hu
        · exact hl u hu
        · rw [List.mem_singleton.mp hu, hP.word]
          exact hP
    · rintro H4 ⟨ps, n', r', ⟨us, eN, tN⟩, ew, hl, R4, hn4, b4⟩
      rw [List.length_map, List.take_length] at ew
      rw [List.length_map] at hn4
      have pl' : ps.length = zs.length := by rw [← ew, List.length_map]
      refine ⟨N, us, rfl, SqL.of eN, fun q2 o2 nq2 d2 => ⟨(show 2 ≤ sizeLine by decide), fun p op np dp => ?_⟩⟩
      obtain ⟨s5, t5⟩ := new_z (K := K) nq2 d2 tN
      have tv5 := (tq.rndW R3 R4 b4 rfl rfl).same s5
      generalize upd H4 q2 (.frz o2 (.tup us)) = H5 at s5 t5 tv5 np ⊢
      obtain ⟨s6, t6⟩ := new_z np dp (.cons tv5 (.cons t5 .nil))
      refine k _ vars ps n' r' _ ⟨hV, vd, fun p hp => ⟨hl p hp, hz _ ?_⟩, by rw [ew]; exact nd⟩ (by omega) t6 (by omega) ((R4.same s5).same s6) (((b1.trans b3).trans b4).trans (Same.but (s5.trans s6)))
      rw [← ew]
      exact List.mem_map.mpr ⟨p, hp, rfl⟩
end
end BK

set_option Elab.async false
set_option maxRecDepth 100000
set_option maxHeartbeats 4000000
set_option linter.unusedVariables false
/-! _law_spread -/
namespace BK
open PySem PySem.Spec PyProof.Rows L2 SW DU RZ ET
abbrev sLSp : Stmt := top 76
abbrev nLSp : List Str := ["state", "words", "gaps", "found", "at", "word", "gap"]
theorem scLSp : FnScope nLSp ["state", "words"] (defScope sLSp) := ⟨rfl, rfl, rfl, by decide +kernel, rfl, by decide +kernel, by decide +kernel⟩
def spLSp (K : PySem.W.Frag) : Sp := fun vs H Q _ => ∃ (a : RA) (n : Nat) (L : Addr) (ws : List Str), vs = [.ref a.s, .ref L] ∧ Rnd H a n ∧ n + 3000 ≤ 1000000 ∧ Off a L ∧ H L = some (.lst (ws.map V.str)) ∧ (∀ w ∈ ws, WdW w) ∧ ws.length ≤ 2000 ∧
  ∀ (z : Str) H', Rnd H' a (n + 2 + ws.length) → But a H H' → z.length ≤ 300000 → wk (z.cps.toList ++ [32]) [] = ws → Q (.str z) H'
section
variable {P : Program} {w : World} {K : PySem.W.Frag} {mg : Str → Option Value} {base : Heap}
theorem ok_lsp {f fS fO : Addr} {fd fdS fdO : FuncData} (F : Fun K "_law_spread" "_law_spread" sLSp f fd) (mE : mg "enumerate" = none)
    (GS : FnOk P w K mg base CX0 1 fS fdS ["word"] (spLSi K)) (bS : Binds K fdS ["word"] []) (gS : mg "_law_is_sign" = some (.ref fS)) (kS : PySem.W.keepIn K (.ref fS) = true)
    (GO : FnOk P w K mg base CX0 3 fO fdO ["state", "some"] (spOfL K)) (bO : Binds K fdO ["state", "some"] []) (gO : mg "_law_of" = some (.ref fO)) (kO : PySem.W.keepIn K (.ref fO) = true) : FnOk P w K mg base CX0 4 f fd ["state", "words"] (spLSp K) := by
  refine F.ok scLSp (fun vs H Q E h => ?_) (fun cdv A outer s H vs Q E hr h => ?_)
  · obtain ⟨a, n, L, ws, rfl, _⟩ := h
    rfl
  · obtain ⟨a, n, L, ws, rfl, R0, hn, oL, eL, hw, wl, k⟩ := h
    have hr1 : Room 1 _ := hr.mono (by decide)
    have hr3 : Room 3 _ := hr.mono (by decide)
    refine ⟨_, pss_cons (ps_set (i := 2) scLSp.nd rfl (Or.inl rfl) (pe_lst (pa_cons pe_str (pa_cons pe_str (pa_cons pe_str (pa_cons pe_str (pa_cons pe_str (pa_cons pe_str (pa_cons pe_str (pa_cons pe_str pa_nil))))))))))
      (pss_cons (ps_set (i := 3) scLSp.nd rfl (Or.inl rfl) (pe_call GO hr3 rfl gO kO bO .nil pass0 (pa_cons (pv 0) (pa_cons (pv 2) pa_nil))))
      (pss_cons (ps_for PassesOwn.never rfl (pi_enum (by rfl) mE (pa_cons (pv 1) pa_nil)) (pg_tup rfl (pgs_cons (pg_name (i := 4) scLSp.nd rfl (Or.inl rfl)) (pgs_cons (pg_name (i := 5) scLSp.nd rfl (Or.inl rfl)) pgs_nil)))
        (C8.pss_cut (ps_set (i := 6) scLSp.nd rfl (Or.inl rfl) (pe_call GO hr3 rfl gO kO bO .nil pass0 (pa_cons (pv 0) (pa_cons (pv 2) pa_nil))))
        (C8.pss_cut (ps_if (PW.pt (pw_and (pt_cmpR op_gt (pv 4) pe_int (nomark _)) (pw_and (pt_cmpR op_eq (pv 6) pe_str (nomark _)) (pw_and (pt_not (pt_val (pe_call GS hr1 rfl gS kS bS .nil pass0 (pa_cons (pv 5) pa_nil))))
            (pw_and1 (pt_not (pt_val (pe_call GS hr1 rfl gS kS bS .nil pass0 (pa_cons (pe_ix ix_list (pv 1) (pe_op op_sub (pv 4) pe_int) (fun _ _ => rfl)) pa_nil)))))))))
          (pss_one (ps_set (i := 6) scLSp.nd rfl (Or.inl rfl) pe_str)) pss_nil)
        (pss_one (ps_set (i := 3) scLSp.nd rfl (Or.inl rfl) (pe_op op_add_str (pe_op op_add_str (pv 3) (pv 6)) (pv 5)))))))
      (pss_one (ps_ret (pe_op op_add_str (pv 3) (pe_call GO hr3 rfl gO kO bO .nil pass0 (pa_cons (pv 0) (pa_cons (pv 2) pa_nil)))))))), ?_⟩
    have big : sizeLine = 16777216 := sizeLine_eq
    refine ⟨(by decide : 8 ≤ sizeLine), fun G nG => ?_⟩
    have sG := same_new (o := .lst (gapsW.map V.str)) nG
    have oG := R0.off nG
    have eG : (upd H G (.lst (gapsW.map V.str))) G = some (.lst (gapsW.map V.str)) := upd_same
    have R1 := R0.same sG
    have b1 : But a H (upd H G (.lst (gapsW.map V.str))) := Same.but sG
    refine ⟨_, rfl, _, rfl, a, n, G, gapsW.map V.str, rfl, R1, by omega, oG, eG, by decide, by decide, fun v j H2 hv R2 b2 => ?_⟩
    obtain ⟨g0, hg0, rfl⟩ := str_at hv
    obtain ⟨gg0, lg0⟩ := gaps_all (List.mem_of_getElem? hg0)
    have b02 := b1.trans b2
    have eG2 := b2.at oG eG
    have eL2 := b02.at oL eL
    refine ⟨_, rfl, L, _, rfl, SqL.of eL2, for_it (walk_enum (K := K) (a := L) (xs := ws.map V.str)) (fun i σ H3 => ∃ (f : Str) (v4 v5 v6 : Option V) (r : List (Str × Str)), σ = [some (.ref a.s), some (.ref L), some (.ref G), some (.str f), v4, v5, v6] ∧ Rnd H3 a (n + 1 + i) ∧ But a H2 H3 ∧ Lf f g0 r ws i)
      ⟨_, none, none, none, [], rfl, R2, But.refl _ _, Lf.start lg0⟩ (fun i σ H3 _ ⟨_, _, _, _, _, _, _, b3, _⟩ => SqL.of (b3.at oL eL2)) ?_ ?_⟩
    · rintro i y σ H3 H4 hi ⟨f, v4, v5, v6, r, rfl, R3, b3, hf⟩ ⟨U, xj, z', rfl, nU, rfl, q5, q6⟩
      obtain rfl : V.int (i : Nat) = xj := Option.some.inj q5
      obtain ⟨x, hx, rfl⟩ := str_at q6
      have wx := hw x (List.mem_of_getElem? hx)
      have il : i < ws.length := (List.getElem?_eq_some_iff.mp hx).1
      have sU := same_new (o := .tup [.int (i : Nat), .str x]) nU
      have R4 := R3.same sU
      have b4 := b3.trans (Same.but sU)
      refine ⟨U, _, rfl, SqT.of upd_same, rfl, _, _, rfl, _, _, rfl, rfl, ?_⟩
      generalize upd H3 U (.tup [.int (i : Nat), .str x]) = H4 at R4 b4 ⊢
      -- gap
      refine ⟨fun σ H5 => ∃ g : Str, σ = [some (.ref a.s), some (.ref L), some (.ref G), some (.str f), some (.int (i : Nat)), some (.str x), some (.str g)] ∧ GapS g ∧ g.length ≤ 10 ∧ (g = "" ∨ g.cps.toList ≠ []) ∧ Rnd H5 a (n + 1 + i + 1) ∧ But a H2 H5, ?_, ?_⟩
      · refine ⟨_, rfl, _, rfl, a, n + 1 + i, G, gapsW.map V.str, rfl, R4, by omega, oG, b4.at oG eG2, by decide, by decide, fun v j H5 hv R5 b5 => ?_⟩
        obtain ⟨g, hg, rfl⟩ := str_at hv
        have gm := List.mem_of_getElem? hg
        obtain ⟨gg, lg⟩ := gaps_all gm
        refine ⟨g, rfl, gg, lg, ?_, R5, b4.trans b5⟩
        have all : ∀ g ∈ gapsW, g = "" ∨ g.cps.toList ≠ [] := by decide +kernel
        exact all g gm
      rintro σ H5 ⟨g, rfl, gg, lg, ge, R5, b5⟩
      have eL5 := b5.at oL eL2
      -- a gap between two runs
      refine ⟨fun σ H6 => ∃ g : Str, σ = [some (.ref a.s), some (.ref L), some (.ref G), some (.str f), some (.int (i : Nat)), some (.str x), some (.str g)] ∧ GapS g ∧ g.length ≤ 10 ∧ Rnd H6 a (n + 1 + i + 1) ∧ But a H2 H6 ∧ (∀ p, 0 < i → ws[i - 1]? = some p → RunW p → g.cps.toList ≠ [] ∨ SigW x), ?_, ?_⟩
      · refine ⟨_, rfl, _, _, rfl, rfl, _, rfl, ?_⟩
        by_cases h0 : 0 < i
        · rw [decide_eq_true (show (0 : Int) < ((i : Nat) : Int) by omega)]
          refine iteT ⟨_, rfl, rfl, _, rfl, ?_⟩
          rw [eq_txt]
          by_cases h1 : g = ""
          · rw [decide_eq_true h1]
            refine iteT ⟨_, rfl, x, rfl, fun H6 s6 => ⟨_, rfl, ?_⟩⟩
            by_cases hs : x ∈ signW
            · rw [decide_eq_true hs]
              exact iteF (iteF ⟨g, rfl, gg, lg, R5.same s6, b5.trans (Same.but s6), fun _ _ _ _ => .inr (sig_of hs)⟩)
            · rw [decide_eq_false hs]
              obtain ⟨p, hp⟩ : ∃ p, ws[i - 1]? = some p := ⟨_, List.getElem?_eq_getElem (by omega)⟩
              refine iteT ⟨_, rfl, _, rfl, _, _, rfl, rfl, L, _, _, _, rfl, rfl, SqL.of (s6 _ _ eL5), at_of (j := i - 1) (by omega) (by rw [List.getElem?_map, hp]; rfl), p, rfl, fun H7 s7 => ⟨_, rfl, ?_⟩⟩
              have R7 := (R5.same s6).same s7
              have b7 := (b5.trans (Same.but s6)).trans (Same.but s7)
              by_cases hq : p ∈ signW
              · rw [decide_eq_true hq]
                refine iteF ⟨g, rfl, gg, lg, R7, b7, fun p2 _ e2 hr => ?_⟩
                obtain rfl : p = p2 := Option.some.inj (hp.symm.trans e2)
                exact absurd hq (run_nosig hr)
              · rw [decide_eq_false hq]
                exact iteT ⟨" ", rfl, gap_blank, by decide, R7, b7, fun _ _ _ _ => .inl (by decide)⟩
          · rw [decide_eq_false h1]
            refine iteF (iteF ⟨g, rfl, gg, lg, R5, b5, fun _ _ _ _ => .inl ?_⟩)
            rcases ge with e | e
            · exact absurd e h1
            · exact e
        · rw [decide_eq_false (show ¬ (0 : Int) < ((i : Nat) : Int) by omega)]
          exact iteF (iteF ⟨g, rfl, gg, lg, R5, b5, fun _ h => absurd h h0⟩)
      clear gg lg ge eL5 R5 b5 g
      rintro σ H6 ⟨g, rfl, gg, lg, R6, b6, hg⟩
      have ln := hf.ln
      have lx := wx.2.1
      refine ⟨_, rfl, _, rfl, _, _, rfl, rfl, ?_, _, rfl, _, _, rfl, rfl, ?_, ?_⟩
      · show f.length + g.length ≤ _
        omega
      · show (f ++ g).length + x.length ≤ _
        have : (f ++ g : Str).length = f.length + g.length := Array.size_append
        omega
      exact ⟨_, _, _, _, r ++ [(g, x)], rfl, by rw [← Nat.add_assoc]; exact R6, b6, hf.step hx gg lg lx hg⟩
    · rintro σ H3 ⟨f, v4, v5, v6, r, rfl, R3, b3, hf⟩
      rw [List.length_map] at R3 hf
      have ln := hf.ln
      refine ⟨_, rfl, _, rfl, _, rfl, a, n + 1 + ws.length, G, gapsW.map V.str, rfl, R3, by omega, oG, b3.at oG eG2, by decide, by decide, fun v j H4 hv R4 b4 => ?_⟩
      obtain ⟨e, he, rfl⟩ := str_at hv
      obtain ⟨ge, le⟩ := gaps_all (List.mem_of_getElem? he)
      have lz : (f ++ e : Str).length = f.length + e.length := Array.size_append
      refine ⟨_, _, rfl, rfl, by omega, ?_⟩
      refine k (f ++ e) H4 ?_ ((b02.trans b3).trans b4) (by omega) (hf.done (e := e) (Nat.le_refl _) hw gg0 ge ?_)
      · have : n + 1 + ws.length + 1 = n + 2 + ws.length := by omega
        rw [← this]
        exact R4
      · show (f.cps ++ e.cps).toList = _
        rw [Array.toList_append]
end
end BK

set_option Elab.async false
set_option maxRecDepth 100000
set_option maxHeartbeats 8000000
set_option linter.unusedVariables false
/-! _law_right -/
namespace BK
open PySem PySem.Spec PyProof.Rows L2 SW DU RZ ET
theorem tr_pair {K : PySem.W.Frag} {H : Hp} {v : V} {x y : Tr} (h : TrAt K H v (.tup [x, y])) : ∃ a v1 v2, v = .ref a ∧ SqT K H a [v1, v2] ∧ TrAt K H v1 x ∧ TrAt K H v2 y := by
  cases h with
  | @tup a vs _ ha ta =>
  cases ta with
  | cons h1 r =>
  cases r with
  | cons h2 r =>
  cases r
  exact ⟨_, _, _, rfl, ha, h1, h2⟩
theorem repr_bk {t : Tr} (h : ReprOk t) : (pdT t).showable = true ∧ (pdT t).hasDict = false ∧ (pdT t).depth ≤ 60 ∧ (pdT t).shown.length ≤ sizeLine := by
  refine ⟨pd_show _ h.da, pd_noDict _, ?_, ?_⟩
  · rw [pd_depth]
    have := h.de
    omega
  · have := PyData.shown_le 100 (by decide) _ (pd_leaves _ h.da)
    have w := pd_weight _ h.da
    have s := h.si
    rw [sizeLine_eq]
    omega
theorem params_len : ∀ l : List Tr, ((l.map paramW).flatten).length ≤ 2 * l.length := fun l => by
  induction l with
  | nil => exact Nat.le_refl _
  | cons q l ih =>
    rw [List.map_cons, List.flatten_cons, List.length_append, List.length_cons]
    have : (paramW q).length ≤ 2 := by
      unfold paramW
      split
      · exact Nat.le_refl _
      · exact Nat.zero_le _
    omega
theorem piece_len {p : Tr} (h1 : tripleT p = true) (h2 : okD 5 (blockOf p)) (h3 : metD 5 (blockOf p) ≤ 16) : (pieceW p).length ≤ 199 := by
  obtain ⟨n, pt, bts, rfl, hq⟩ := triple_shape h1
  obtain ⟨prs, rfl⟩ : ∃ ts, pt = .tup ts := by
    cases pt with
    | tup ts => exact ⟨ts, rfl⟩
    | _ => exact Bool.noConfusion (show false = true from hq)
  obtain ⟨l2, hpar, na, _⟩ := params_split hq
  have bl := (block_len 5 bts h2).1
  have h3 : metD 5 bts ≤ 16 := h3
  have pl2 := params_len prs
  simp only [pieceW, List.length_cons, List.length_append, List.length_nil]
  omega
theorem pieces_len : ∀ l : List Tr, (∀ p ∈ l, tripleT p = true ∧ okD 5 (blockOf p) ∧ metD 5 (blockOf p) ≤ 16) → ((l.map fun p => (";" : Str) :: pieceW p).flatten).length ≤ 200 * l.length
  | [], _ => Nat.le_refl _
  | q :: l, h => by
    have h1 := pieces_len l fun p hp => h p (List.mem_cons_of_mem _ hp)
    obtain ⟨a1, a2, a3⟩ := h q List.mem_cons_self
    have h2 := piece_len a1 a2 a3
    rw [List.map_cons, List.flatten_cons, List.length_append, List.length_cons, List.length_cons]
    omega
/-- what is known of a right book's words -/
structure RtB (vars : List Str) (ps : List Tr) : Prop where
  vl : vars.length ≤ 3
  pl : ps.length ≤ 6
  vn : ∀ y ∈ vars, nameS y = true
  hp : ∀ p ∈ ps, tripleT p = true ∧ okD 5 (blockOf p) ∧ metD 5 (blockOf p) ≤ 16
  ww : ∀ w ∈ bookW (bookT vars ps), WdW w
  wl : (bookW (bookT vars ps)).length ≤ 2000
theorem rt_of {vars : List Str} {ps : List Tr} (h : faultT (bookT vars ps) = none) : RtB vars ps := by
  obtain ⟨vs, ps', e, pl, vl, vn, hp⟩ := book_right h
  unfold bookT at e
  injection e with e
  injection e with e1 e
  injection e1 with e1
  injection e with e2 e
  injection e2 with e2
  subst e2
  subst e1
  have vl : vars.length ≤ 3 := by rw [List.length_map] at vl; exact vl
  have vn : ∀ y ∈ vars, nameS y = true := fun y hy => List.all_eq_true.mp vn (.str y) (List.mem_map.mpr ⟨y, hy, rfl⟩)
  refine ⟨vl, pl, vn, hp, book_words vn fun p h => ⟨(hp p h).1, (hp p h).2.1⟩, ?_⟩
  have e : bookW (bookT vars ps) = [("vars" : Str)] ++ vars ++ (ps.map fun p => (";" : Str) :: pieceW p).flatten := by
    show [("vars" : Str)] ++ texts (vars.map Tr.str) ++ _ = _
    rw [texts_back]
  have h1 := pieces_len ps hp
  rw [e, List.length_append, List.length_append, List.length_singleton]
  omega
abbrev sLRt : Stmt := top 77
abbrev nLRt : List Str := ["state", "book", "words", "text", "kept", "turn", "one", "found"]
theorem scLRt : FnScope nLRt ["state", "book"] (defScope sLRt) := ⟨rfl, rfl, rfl, by decide +kernel, rfl, by decide +kernel, by decide +kernel⟩
def spLRt (K : PySem.W.Frag) : Sp := fun vs H Q _ => ∃ (a : RA) (n : Nat) (bv : V) (vars : List Str) (ps : List Tr), vs = [.ref a.s, bv] ∧ Rnd H a n ∧ n + 20000 ≤ 1000000 ∧ TrAt K H bv (bookT vars ps) ∧ faultT (bookT vars ps) = none ∧ ∀ n' H', n' ≤ n + 5000 → Rnd H' a n' → Q (.bl true) H'
section
variable {P : Program} {w : World} {K : PySem.W.Frag} {mg : Str → Option Value} {base : Heap}
theorem ok_lrt {f fW fT fR fTi fSp CB : Addr} {fdW fdT fdR fdTi fdSp : FuncData} {oc kV doc pm ct cdv : Value} {od an : Option Addr} {osl : Array (Option Value)}
    (lk : K.lookup f = some ⟨oc, od, .func (PySem.W.fnOf "_law_right" "_law_right" (defArgs sLRt) (defBody sLRt) (defScope sLRt) .none kV doc pm an cdv ct), osl⟩) (hcd : PySem.W.codeIn K cdv "_law_right" = true) (mP : mg "repr" = none) (mG : mg "range" = none)
    (GW : FnOk P w K mg base CX0 7 fW fdW ["book"] (spLKW K)) (bW : Binds K fdW ["book"] []) (gW : mg "_law_book_words" = some (.ref fW)) (kW : PySem.W.keepIn K (.ref fW) = true)
    (GT : FnOk P w K mg base (L2.CX P w) 18 fT fdT ["book"] (spText K CB)) (bT : Binds K fdT ["book"] []) (gT : mg "book_text" = some (.ref fT)) (kT : PySem.W.keepIn K (.ref fT) = true)
    (GR : FnOk P w K mg base (L2.CX P w) 28 fR fdR ["text"] (spRb K)) (bR : Binds K fdR ["text"] []) (gR : mg "read_book" = some (.ref fR)) (kR : PySem.W.keepIn K (.ref fR) = true)
    (GTi : FnOk P w K mg base CX0 2 fTi fdTi ["words"] (spLTi K)) (bTi : Binds K fdTi ["words"] []) (gTi : mg "_law_tight" = some (.ref fTi)) (kTi : PySem.W.keepIn K (.ref fTi) = true)
    (GSp : FnOk P w K mg base CX0 4 fSp fdSp ["state", "words"] (spLSp K)) (bSp : Binds K fdSp ["state", "words"] []) (gSp : mg "_law_spread" = some (.ref fSp)) (kSp : PySem.W.keepIn K (.ref fSp) = true) :
    FnG P w K mg base 29 f (PySem.W.fnOf "_law_right" "_law_right" (defArgs sLRt) (defBody sLRt) (defScope sLRt) .none kV doc pm an cdv ct) ["state", "book"] (spLRt K) := by
  refine fng_of lk hcd scLRt (fun vs H Q E h => ?_) (fun A outer s H vs Q E gd hr h => ?_)
  · obtain ⟨a, n, bv, vars, ps, rfl, _⟩ := h
    rfl
  · obtain ⟨a, n, bv, vars, ps, rfl, R0, hn, tb0, hf, k⟩ := h
    have hr0 : Room 0 _ := hr.mono (by decide)
    have hr2 : Room 2 _ := hr.mono (by decide)
    have hr4 : Room 4 _ := hr.mono (by decide)
    have hr7 : Room 7 _ := hr.mono (by decide)
    have hr18 : Room 18 _ := hr.mono (by decide)
    have three' : 3 ≤ sizeLine := by decide
    have gd' : (A.deeper (envOfC "_law_right" (defScope sLRt) s.heap.objs.size f cdv)).guards = some [] := gd
    obtain ⟨vl, pl, vn, hp, ww, wl⟩ := rt_of hf
    have rk := right_repr hf
    have hz := join_repr ww wl
    have lj := join_len ww
    have wj := wk_join ww
    obtain ⟨f1, f2, f3, f4⟩ := repr_bk rk
    refine ⟨_, C8.pss_cut (ps_set (i := 2) scLRt.nd rfl (Or.inl rfl) (pe_call GW hr7 rfl gW kW bW .nil pass0 (pa_cons (pv 1) pa_nil)))
      (C8.pss_cut (ps_par (i := 3) (j := 4) rfl scLRt.nd rfl rfl (by decide) rfl rfl (pa_cons (pe_join pe_str (pv 2)) (pa_cons (pe_callB (call_reprD gd' hr0) (by rfl) mP boot_repr (pa_cons (pv 1) pa_nil)) pa_nil)) (by rfl))
      (C8.pss_cut (ps_for PassesOwn.never rfl (pi_range1 rfl mG (pa_cons pe_int pa_nil)) (pg_name (i := 5) scLRt.nd rfl (Or.inl rfl))
        (C8.pss_cut (ps_if (pt_cmpR op_ne (pe_callB call_reprS (by rfl) mP boot_repr (pa_cons (pe_callS GT hr18 rfl gT kT bT (fun σ => passAt LamX.takes0 σ) (pa_cons (pv 1) pa_nil)) pa_nil)) (pe_callB call_reprS (by rfl) mP boot_repr (pa_cons (pv 3) pa_nil)) (nomark _)) (pss_one (ps_ret pe_bl)) pss_nil)
        (pss_one (ps_for PassesOwn.never rfl (pi_tup (pe_tup (pa_cons (pv 3) (pa_cons (pe_call GTi hr2 rfl gTi kTi bTi .nil pass0 (pa_cons (pv 2) pa_nil)) (pa_cons (pe_call GSp hr4 rfl gSp kSp bSp .nil pass0 (pa_cons (pv 0) (pa_cons (pv 2) pa_nil))) pa_nil))))) (pg_name (i := 6) scLRt.nd rfl (Or.inl rfl))
          (C8.pss_cut (ps_set (i := 7) scLRt.nd rfl (Or.inl rfl) (pe_callS GR hr rfl gR kR bR (fun σ => passAt LamX.takes0 σ) (pa_cons (pv 6) pa_nil)))
          (pss_one (ps_if (PW.pt (pw_or (pt_cmpR op_ne (pe_callB (call_reprD gd' hr0) (by rfl) mP boot_repr (pa_cons (pv 7) pa_nil)) (pv 4) (nomark _)) (pw_or1 (pt_cmpR op_ne (pe_callS GT hr18 rfl gT kT bT (fun σ => passAt LamX.takes0 σ) (pa_cons (pv 7) pa_nil)) (pv 3) (nomark _))))) (pss_one (ps_ret pe_bl)) pss_nil))))))) 
      (pss_one (ps_ret (pe_cmpR op_eq (pe_callB (call_reprD gd' hr0) (by rfl) mP boot_repr (pa_cons (pv 1) pa_nil)) (pv 4) (nomark _)))))), ?_⟩
    obtain ⟨ba, va, pa, rfl, hba, _, _⟩ := tr_pair tb0
    obtain ⟨ws, ews⟩ : ∃ ws, ws = bookW (bookT vars ps) := ⟨_, rfl⟩
    obtain ⟨bt, ebt⟩ : ∃ bt, bt = bookT vars ps := ⟨_, rfl⟩
    rw [← ews] at ww wl hz lj wj
    rw [← ebt] at rk f1 f2 f3 f4 hf tb0
    have tw : ∀ {H' : Hp}, TrAt K H' (.ref ba) bt → Dp K H' (.ref ba) (pdT bt) := fun t => t.dp rk.da
    have no : ∀ {p : Place} {X : Prop}, faultT bt = some p → X := fun e => by rw [hf] at e; cases e
    have ebw : bookW bt = ws := by rw [ews, ebt]
    -- words
    refine ⟨fun σ H1 => ∃ L : Addr, σ = [some (.ref a.s), some (.ref ba), some (.ref L), none, none, none, none, none] ∧ Rnd H1 a n ∧ Off a L ∧ H1 L = some (.lst (ws.map V.str)) ∧ TrAt K H1 (.ref ba) bt, ?_, ?_⟩
    · have tb0' : TrAt K H (.ref ba) (bookT vars ps) := ebt ▸ tb0
      refine ⟨_, rfl, .ref ba, vars, ps, rfl, tb0', vl, pl, hp, fun L H1 s1 nL eL => ⟨L, rfl, R0.same s1, R0.off nL, ?_, tb0.same s1⟩⟩
      rw [ews]
      exact eL
    rintro σ H1 ⟨L, rfl, R1, oL, eL, tb1⟩
    -- text, kept
    refine ⟨fun σ H2 => σ = [some (.ref a.s), some (.ref ba), some (.ref L), some (.str (Txt.join " " ws)), some (.str (pdT bt).shown), none, none, none] ∧ H1 = H2, ?_, ?_⟩
    · refine ⟨⟨_, rfl⟩, _, rfl, " ", L, ws, rfl, rfl, .inl (SqL.of eL), ?_, _, rfl, ba, _, rfl, tw tb1, f1, f2, f3, f4, _, _, rfl, rfl, rfl⟩
      have l20 : ∀ l : List Str, (∀ w ∈ l, WdW w) → (l.map (·.length)).sum ≤ 20 * l.length := fun l => by
        induction l with
        | nil => intro _; exact Nat.le_refl _
        | cons q l ih =>
          intro h
          have h1 := ih fun w hw => h w (List.mem_cons_of_mem _ hw)
          have h2 := (h q List.mem_cons_self).2.1
          rw [List.map_cons, List.sum_cons, List.length_cons]
          omega
      have := l20 ws ww
      have e1 : (" " : Str).length = 1 := by decide
      rw [e1]
      omega
    rintro σ _ ⟨rfl, rfl⟩
    obtain ⟨tx, etx⟩ : ∃ tx, tx = Txt.join " " ws := ⟨_, rfl⟩
    rw [← etx] at hz lj wj ⊢
    have ebx : Txt.join " " (bookW bt) = tx := by rw [ebw, etx]
    obtain ⟨kt, ekt⟩ : ∃ kt, kt = (pdT bt).shown := ⟨_, rfl⟩
    rw [← ekt]
    -- two turns
    refine ⟨fun σ H2 => ∃ (v5 v6 v7 : Option V) (n' : Nat), σ = [some (.ref a.s), some (.ref ba), some (.ref L), some (.str tx), some (.str kt), v5, v6, v7] ∧ Rnd H2 a n' ∧ n' ≤ n + 5000 ∧ TrAt K H2 (.ref ba) bt, ?_, ?_⟩
    · refine ⟨2, rfl, by decide, by decide, for_range (lo := 0) (n := 2) (fun i σ H2 => ∃ (v5 v6 v7 : Option V) (n' : Nat), σ = [some (.ref a.s), some (.ref ba), some (.ref L), some (.str tx), some (.str kt), v5, v6, v7] ∧ Rnd H2 a n' ∧ n' ≤ n + 2002 * i ∧ H2 L = some (.lst (ws.map V.str)) ∧ TrAt K H2 (.ref ba) bt)
        ⟨none, none, none, n, rfl, R1, by omega, eL, tb1⟩ ?_ (fun σ H2 ⟨v5, v6, v7, n', e, R2, hn', _, tb2⟩ => ⟨v5, v6, v7, n', e, R2, by omega, tb2⟩)⟩
      rintro i σ H2 hi ⟨v5, v6, v7, n', rfl, R2, hn', eL2, tb2⟩
      have hi2 : i < 2 := hi
      -- repr(book_text(book)) == repr(text)
      refine ⟨fun σ H3 => σ = [some (.ref a.s), some (.ref ba), some (.ref L), some (.str tx), some (.str kt), some (.int (0 + (i : Int))), v6, v7] ∧ Same H2 H3, ?_, ?_⟩
      · refine ⟨_, rfl, .ref ba, bt, rfl, tb2, fun _ H3 s3 => ?_, fun p ep => no ep⟩
        rw [ebx]
        refine ⟨_, rfl, hz, _, rfl, _, rfl, hz, rfl, _, rfl, ?_⟩
        rw [decide_eq_true rfl]
        exact iteF ⟨rfl, s3⟩
      rintro σ H3 ⟨rfl, s3⟩
      have R3 := R2.same s3
      have eL3 := s3 _ _ eL2
      have tb3 := tb2.same s3
      -- the three texts
      refine ⟨_, rfl, _, rfl, L, ws, rfl, eL3, ww, wl, fun z1 H4 s4 z1l z1w => ?_⟩
      refine ⟨_, rfl, _, rfl, a, n', L, ws, rfl, R3.same s4, by omega, oL, s4 _ _ eL3, ww, wl, fun z2 H5 R5 b5 z2l z2w => ⟨three', fun q nq => ?_⟩⟩
      have sq := same_new (o := .tup [.str tx, .str z1, .str z2]) nq
      have eq : (upd H5 q (.tup [.str tx, .str z1, .str z2])) q = some (.tup [.str tx, .str z1, .str z2]) := upd_same
      refine ⟨q, rfl, ⟨_, SqT.of eq⟩, ?_⟩
      have R6 := R5.same sq
      have eL6 := sq _ _ (b5.at oL (s4 _ _ eL3))
      have tb6 : TrAt K (upd H5 q (.tup [.str tx, .str z1, .str z2])) (.ref ba) bt := ((tb3.same s4).rnd (R3.same s4) R5 b5).same sq
      generalize upd H5 q (.tup [.str tx, .str z1, .str z2]) = H6 at eq R6 eL6 tb6 ⊢
      have all3 : ∀ v ∈ ([.str tx, .str z1, .str z2] : List V), ∃ z : Str, v = .str z ∧ z.length ≤ 300000 ∧ wk (z.cps.toList ++ [32]) [] = ws := fun v hv => by
        simp only [List.mem_cons, List.not_mem_nil, or_false] at hv
        rcases hv with rfl | rfl | rfl
        · exact ⟨tx, rfl, by omega, wj⟩
        · exact ⟨z1, rfl, z1l, z1w⟩
        · exact ⟨z2, rfl, z2l, z2w⟩
      refine for_tup (K := K) (a := q) (xs := [.str tx, .str z1, .str z2]) (fun j σ H7 => ∃ v6 v7 : Option V, σ = [some (.ref a.s), some (.ref ba), some (.ref L), some (.str tx), some (.str kt), some (.int (0 + (i : Int))), v6, v7] ∧ Same H6 H7)
        ⟨v6, v7, rfl, fun _ _ e => e⟩ (fun j σ H7 _ ⟨_, _, _, s7⟩ => SqT.of (s7 _ _ eq)) ?_ (fun σ H7 ⟨v6, v7, e, s7⟩ => ⟨_, v6, v7, n' + 2 + ws.length, e, R6.same s7, by omega, s7 _ _ eL6, tb6.same s7⟩)
      rintro j y σ H7 hj ⟨v6, v7, rfl, s7⟩
      obtain ⟨z, rfl, zl, zw⟩ := all3 y (List.mem_of_getElem? hj)
      -- found
      refine ⟨fun σ H8 => ∃ fv : V, σ = [some (.ref a.s), some (.ref ba), some (.ref L), some (.str tx), some (.str kt), some (.int (0 + (i : Int))), some (.str z), some fv] ∧ Same H6 H8 ∧ TrAt K H8 fv bt, ?_, ?_⟩
      · refine ⟨_, rfl, z, vars, ps, rfl, zl, ?_, ?_, vn, fun p h => ⟨(hp p h).1, (hp p h).2.1⟩, ?_, fun v H8 s8 tv => ⟨v, rfl, s7.trans s8, ebt.symm ▸ (show TrAt K H8 v (bookT vars ps) from tv)⟩⟩
        · rw [zw, ews]
          rfl
        · have : (bookW (bookT vars ps)).length ≤ 2000 := by rw [← ews]; exact wl
          exact Nat.le_trans this (by decide)
        · rw [ebt] at hf
          exact hf
      rintro σ H8 ⟨fv, rfl, s8, tv⟩
      obtain ⟨fa, y1, y2, rfl, hfa⟩ : ∃ (fa : Addr) (y1 y2 : V), fv = .ref fa ∧ SqT K H8 fa [y1, y2] := by
        rw [ebt] at tv
        obtain ⟨fa, y1, y2, e, h, _, _⟩ := tr_pair tv
        exact ⟨fa, y1, y2, e, h⟩
      refine ⟨_, rfl, fa, _, rfl, tv.dp rk.da, f1, f2, f3, f4, ?_⟩
      rw [← ekt]
      refine ⟨_, rfl, rfl, _, rfl, ?_⟩
      rw [decide_eq_true rfl]
      refine iteF ⟨_, rfl, .ref fa, bt, rfl, tv, fun _ H9 s9 => ?_, fun p ep => no ep⟩
      rw [ebx]
      refine ⟨_, rfl, rfl, _, rfl, ?_⟩
      rw [decide_eq_true rfl]
      exact iteF ⟨_, _, rfl, s8.trans s9⟩
    rintro σ H2 ⟨v5, v6, v7, n', rfl, R2, hn', tb2⟩
    refine ⟨_, rfl, ba, _, rfl, tw tb2, f1, f2, f3, f4, ?_⟩
    rw [← ekt]
    refine ⟨_, rfl, rfl, ?_⟩
    rw [decide_eq_true rfl]
    exact k n' H2 hn' R2
end
end BK

set_option Elab.async false
set_option maxRecDepth 100000
set_option maxHeartbeats 8000000
set_option linter.unusedVariables false
/-! the book of the example -/
namespace BK
open PySem PySem.Spec PyProof.Rows L2 SW DU RZ ET
abbrev sLEx : Stmt := top 78
theorem scLEx : FnScope ["block"] [] (defScope sLEx) := ⟨rfl, rfl, rfl, by decide +kernel, rfl, by decide +kernel, by decide +kernel⟩
def exB : List Tr := [.tup [.str "set", .str "x", .int 5], .tup [.str "within", .str "c", .tup [.tup [.str "show", .str "x"]]], .tup [.str "yield"]]
def exP : List Tr := [.tup [.str "a", .tup [.tup [.str "c", .str "context"]], .tup exB]]
def exT : Str := "vars x ; piece a c context { set x 5 ; within c { show x } ; yield }"
theorem ex_fault : faultT (bookT ["x"] exP) = none := by decide +kernel
theorem ex_text : Txt.join " " (bookW (bookT ["x"] exP)) = exT := by decide +kernel
theorem ex_words : wk (exT.cps.toList ++ [32]) [] = bookW (bookT ["x"] exP) := by rw [← ex_text, wk_join (rt_of ex_fault).ww]
def spLEx (K : PySem.W.Frag) : Sp := fun vs H Q _ => vs = [] ∧ ∀ v H', Same H H' → TrAt K H' v (bookT ["x"] exP) → Q v H'
section
variable {X : Cx}
theorem ex_0 : ETr X [] (valueOf (stAt sLEx 0)) (.tup exB) := et_tup (ea_cons (et_tup (ea_cons et_str (ea_cons et_str (ea_cons et_int ea_nil)))) (ea_cons (et_tup (ea_cons et_str (ea_cons et_str (ea_cons (et_tup (ea_cons (et_tup (ea_cons et_str (ea_cons et_str ea_nil))) ea_nil)) ea_nil)))) (ea_cons (et_tup (ea_cons et_str ea_nil)) ea_nil)))
theorem ex_1 (h0 : ∀ {pos}, PE X (.Name "block" pos) (tVar 0)) : ETr X [(0, .tup exB)] (valueOf (stAt sLEx 1)) (bookT ["x"] exP) :=
  et_tup (ea_cons (et_tup (ea_cons et_str ea_nil)) (ea_cons (et_tup (ea_cons (et_tup (ea_cons et_str (ea_cons (et_tup (ea_cons (et_tup (ea_cons et_str (ea_cons et_str ea_nil))) ea_nil)) (ea_cons (et_var h0 (.head _)) ea_nil)))) ea_nil)) ea_nil))
end
section
variable {P : Program} {w : World} {K : PySem.W.Frag} {mg : Str → Option Value} {base : Heap}
theorem ok_lex {f : Addr} {fd : FuncData} (F : Fun K "_law_example" "_law_example" sLEx f fd) : FnOk P w K mg base CX0 1 f fd [] (spLEx K) := by
  refine F.ok scLEx (fun vs H Q E h => ?_) (fun cdv A outer s H vs Q E hr h => ?_)
  · obtain ⟨rfl, _⟩ := h
    rfl
  · obtain ⟨rfl, k⟩ := h
    obtain ⟨te0, q0, r0⟩ := ex_0 (X := (cxOf CX0 P w K mg base ["block"] "_law_example" (defScope sLEx) f cdv A outer s H E).nox)
    obtain ⟨te1, q1, r1⟩ := ex_1 (X := (cxOf CX0 P w K mg base ["block"] "_law_example" (defScope sLEx) f cdv A outer s H E).nox) (pv 0)
    refine ⟨_, pss_cons (ps_set (i := 0) scLEx.nd rfl (Or.inl rfl) q0) (pss_one (ps_ret q1)), ?_⟩
    refine r0 _ _ _ (fun p hp => by cases hp) fun v H1 s1 tv => ?_
    refine r1 _ _ _ (fun p hp => ?_) fun u H2 s2 tu => k u H2 (s1.trans s2) tu
    rw [List.mem_singleton.mp hp]
    exact ⟨v, rfl, tv⟩
end
end BK

set_option Elab.async false
set_option maxRecDepth 100000
set_option maxHeartbeats 8000000
set_option linter.unusedVariables false
/-! _law_great -/
namespace BK
open PySem PySem.Spec PyProof.Rows L2 SW DU RZ ET
abbrev sLGr : Stmt := top 79
abbrev nLGr : List Str := ["state", "letters", "names", "first", "turned", "one", "two", "three", "token", "context", "inner", "tried", "outer", "last", "params", "k", "j", "name"]
theorem scLGr : FnScope nLGr ["state"] (defScope sLGr) := ⟨rfl, rfl, rfl, by decide +kernel, rfl, by decide +kernel, by decide +kernel⟩
def abc : Str := "abcdefghijklmnopqrstuvwxyz"
/-- the k-th name's sign j -/
def sgG (k j : Nat) : Str := ⟨#[97 + (3 * k + 7 * j) % 26]⟩
def nmG (k : Nat) : Str := Txt.join "" ((List.range 8).map (sgG k))
def nmsG : List Str := (List.range 9).map nmG
def tuG (m : Nat) : List Str := nmsG.drop m ++ nmsG.take m
def gA (t : List Str) (i : Nat) : Tr := .str (t.getD i Str.empty)
def inG (t : List Str) : Tr := .tup [.str "with", gA t 0, .int 99, .tup [.tup [.str "hold", gA t 3, gA t 1, gA t 2], .tup [.str "yield"], .tup [.str "leave"]]]
def trG (t : List Str) : Tr := .tup [.tup [.str "if", gA t 2, .int 5, .tup [inG t], .tup []], .tup [.str "show", gA t 2]]
def ouG (t : List Str) : Tr := .tup [.str "loop", .tup [.tup [.str "yield"], .tup [.str "guard", trG t, .tup [.tup [.str "reset", gA t 3]]]]]
def laG (t : List Str) : Tr := .tup [.str "if", gA t 1, .int 10, .tup [.tup [.str "copy", gA t 4]], .tup [.tup [.str "within", gA t 4, .tup [.tup [.str "set", gA t 0, .int 0], .tup [.str "drop", gA t 1]]]]]
def paG (t : List Str) : Tr := .tup [.tup [gA t 3, .str "token"], .tup [gA t 4, .str "context"]]
def piG (t : List Str) (n : Str) : Tr := .tup [.str n, paG t, .tup [ouG t, laG t, .tup [.str "fail"]]]
def psG (t : List Str) : List Tr := (t.take 6).map (piG t)
theorem great_none : ∀ m : Fin 9, faultT (bookT ((tuG m.val).take 3) (psG (tuG m.val))) = none := by decide +kernel
theorem great_len : ∀ m : Fin 9, (tuG m.val).length = 9 := by decide +kernel
theorem great_short : ∀ z ∈ nmsG, z.length ≤ 20 := by decide +kernel
def rJ (K : PySem.W.Frag) : V → List V → Hp → VK → Prop := fun se xs H Q => ∃ e q, ∃ zs : List Str, se = .str e ∧ xs = [.ref q] ∧ (SqL K H q (zs.map V.str) ∨ SqT K H q (zs.map V.str)) ∧ (zs.map (·.length)).sum + zs.length * e.length ≤ 16777216 ∧ Q (.str (Txt.join e zs)) H
def spLGr (K : PySem.W.Frag) : Sp := fun vs H Q _ => ∃ (a : RA) (n : Nat), vs = [.ref a.s] ∧ Rnd H a n ∧ n + 100 ≤ 1000000 ∧ ∀ (m : Nat) v H', m < 9 → Rnd H' a (n + 1) → But a H H' → TrAt K H' v (bookT ((tuG m).take 3) (psG (tuG m))) → Q v H'
theorem abc_at : ∀ q : Fin 26, abc.cps.toList[q.val]? = some (97 + q.val) := by decide +kernel
theorem nine {α : Type} {l : List α} (h : l.length = 9) : ∃ z0 z1 z2 z3 z4 z5 z6 z7 z8, l = [z0, z1, z2, z3, z4, z5, z6, z7, z8] := by
  match l, h with
  | [z0, z1, z2, z3, z4, z5, z6, z7, z8], _ => exact ⟨_, _, _, _, _, _, _, _, _, rfl⟩
def ETu (X : Cx) {ι : Type} (L : ι → List (Nat × Tr)) (e : Expr) (t : ι → Tr) : Prop := ∃ te : TE, PE X e te ∧ ∀ a σ H Q, Gt X.K (L a) σ H → (∀ v H', Same H H' → TrAt X.K H' v (t a) → Q v H') → te σ H Q
def EAu (X : Cx) {ι : Type} (L : ι → List (Nat × Tr)) (es : List Expr) (ts : ι → List Tr) : Prop := ∃ ta : TA, PA X es ta ∧ ∀ a σ H Q, Gt X.K (L a) σ H → (∀ vs H', Same H H' → TrAll X.K H' vs (ts a) → Q vs H') → ta σ H Q
section
variable {X : Cx} {ι : Type} {L : ι → List (Nat × Tr)}
theorem eu_var {i : Nat} {x : Str} {pos : Pos} {t : ι → Tr} (h : PE X (.Name x pos) (tVar i)) (m : ∀ a, (i, t a) ∈ L a) : ETu X L (.Name x pos) t := ⟨_, h, fun a σ H Q g k => by
  obtain ⟨v, h1, h2⟩ := g _ (m a)
  exact ⟨v, h1, k v H (fun _ _ e => e) h2⟩⟩
theorem eu_str {s : Str} {j : Nat} {pos : Pos} (h : s.length ≤ sizeLine := by decide +kernel) : ETu X L (.Constant (.str s) j pos) (fun _ => .str s) := ⟨_, pe_str, fun _ _ H _ _ k => k _ H (fun _ _ e => e) (.str s h)⟩
theorem eu_int {i : Int} {j : Nat} {pos : Pos} : ETu X L (.Constant (.int i) j pos) (fun _ => .int i) := ⟨_, pe_int, fun _ _ H _ _ k => k _ H (fun _ _ e => e) (.int i)⟩
theorem eu_bl {b : Bool} {j : Nat} {pos : Pos} : ETu X L (.Constant (.bool b) j pos) (fun _ => .bl b) := ⟨_, pe_bl, fun _ _ H _ _ k => k _ H (fun _ _ e => e) (.bl b)⟩
theorem eu_non {j : Nat} {pos : Pos} : ETu X L (.Constant .none j pos) (fun _ => .non) := ⟨_, pe_non, fun _ _ H _ _ k => k _ H (fun _ _ e => e) .non⟩
theorem eb_nil : EAu X L [] (fun _ => []) := ⟨_, pa_nil, fun _ _ H _ _ k => k _ H (fun _ _ e => e) .nil⟩
theorem eb_cons {e : Expr} {es : List Expr} {t : ι → Tr} {ts : ι → List Tr} (h : ETu X L e t) (r : EAu X L es ts) (hs : starEach (e :: es) X.env = (false, eval e X.env) :: starEach es X.env := by rfl) : EAu X L (e :: es) (fun a => t a :: ts a) := by
  obtain ⟨te, p, q⟩ := h
  obtain ⟨ta, p2, q2⟩ := r
  exact ⟨_, pa_cons p p2 hs, fun a σ H Q g k => q a σ H _ g fun v H1 s1 h1 => q2 a σ H1 _ (g.same s1) fun vs H2 s2 h2 => k _ H2 (s1.trans s2) (.cons (h1.same s2) h2)⟩
theorem eu_tup {es : List Expr} {k : Nat} {pos : Pos} {ts : ι → List Tr} (h : EAu X L es ts) (hl : es.length ≤ 1000 := by exact Nat.le_of_ble_eq_true rfl) (hl2 : ∀ a, (ts a).length = es.length := by exact fun _ => rfl) : ETu X L (.Tuple es k pos) (fun a => .tup (ts a)) := by
  obtain ⟨ta, p, q⟩ := h
  refine ⟨_, pe_tup p, fun a σ H Q g k => q a σ H _ g fun vs H1 s1 h1 => ⟨?_, fun p np => k _ _ (s1.trans (same_new np)) (.tup (SqT.of upd_same) (h1.same (same_new np)))⟩⟩
  rw [h1.len, hl2, sizeLine_eq]
  omega
end
/-- five names, and more -/
structure Z5 where
  z0 : Str
  z1 : Str
  z2 : Str
  z3 : Str
  z4 : Str
  r : List Str
def Z5.l (Z : Z5) : List Str := Z.z0 :: Z.z1 :: Z.z2 :: Z.z3 :: Z.z4 :: Z.r
def LG (Z : Z5) : List (Nat × Tr) := [(5, .str Z.z0), (6, .str Z.z1), (7, .str Z.z2), (8, .str Z.z3), (9, .str Z.z4)]
structure VG (X : Cx) : Prop where
  h5 : ∀ {pos}, PE X (.Name "one" pos) (tVar 5)
  h6 : ∀ {pos}, PE X (.Name "two" pos) (tVar 6)
  h7 : ∀ {pos}, PE X (.Name "three" pos) (tVar 7)
  h8 : ∀ {pos}, PE X (.Name "token" pos) (tVar 8)
  h9 : ∀ {pos}, PE X (.Name "context" pos) (tVar 9)
section
variable {X : Cx} {L : Z5 → List (Nat × Tr)}
theorem VG.e5 (V : VG X) {pos : Pos} : ETu X (fun Z => LG Z ++ L Z) (.Name "one" pos) (fun Z => .str Z.z0) := eu_var V.h5 fun Z => List.mem_append_left _ (.head _)
theorem VG.e6 (V : VG X) {pos : Pos} : ETu X (fun Z => LG Z ++ L Z) (.Name "two" pos) (fun Z => .str Z.z1) := eu_var V.h6 fun Z => List.mem_append_left _ (.tail _ (.head _))
theorem VG.e7 (V : VG X) {pos : Pos} : ETu X (fun Z => LG Z ++ L Z) (.Name "three" pos) (fun Z => .str Z.z2) := eu_var V.h7 fun Z => List.mem_append_left _ (.tail _ (.tail _ (.head _)))
theorem VG.e8 (V : VG X) {pos : Pos} : ETu X (fun Z => LG Z ++ L Z) (.Name "token" pos) (fun Z => .str Z.z3) := eu_var V.h8 fun Z => List.mem_append_left _ (.tail _ (.tail _ (.tail _ (.head _))))
theorem VG.e9 (V : VG X) {pos : Pos} : ETu X (fun Z => LG Z ++ L Z) (.Name "context" pos) (fun Z => .str Z.z4) := eu_var V.h9 fun Z => List.mem_append_left _ (.tail _ (.tail _ (.tail _ (.tail _ (.head _)))))
theorem gr_in (V : VG X) : ETu X (fun Z => LG Z ++ L Z) (valueOf (stAt sLGr 5)) (fun Z => inG Z.l) :=
  eu_tup (eb_cons eu_str (eb_cons V.e5 (eb_cons eu_int (eb_cons (eu_tup (eb_cons (eu_tup (eb_cons eu_str (eb_cons V.e8 (eb_cons V.e6 (eb_cons V.e7 eb_nil))))) (eb_cons (eu_tup (eb_cons eu_str eb_nil)) (eb_cons (eu_tup (eb_cons eu_str eb_nil)) eb_nil)))) eb_nil))))
theorem gr_tr (V : VG X) (h : ∀ {pos}, PE X (.Name "inner" pos) (tVar 10)) : ETu X (fun Z => LG Z ++ [(10, inG Z.l)]) (valueOf (stAt sLGr 6)) (fun Z => trG Z.l) :=
  eu_tup (eb_cons (eu_tup (eb_cons eu_str (eb_cons V.e7 (eb_cons eu_int (eb_cons (eu_tup (eb_cons (eu_var h fun Z => List.mem_append_right _ (.head _)) eb_nil)) (eb_cons (eu_tup eb_nil) eb_nil)))))) (eb_cons (eu_tup (eb_cons eu_str (eb_cons V.e7 eb_nil))) eb_nil))
theorem gr_ou (V : VG X) (h : ∀ {pos}, PE X (.Name "tried" pos) (tVar 11)) : ETu X (fun Z => LG Z ++ [(11, trG Z.l)]) (valueOf (stAt sLGr 7)) (fun Z => ouG Z.l) :=
  eu_tup (eb_cons eu_str (eb_cons (eu_tup (eb_cons (eu_tup (eb_cons eu_str eb_nil)) (eb_cons (eu_tup (eb_cons eu_str (eb_cons (eu_var h fun Z => List.mem_append_right _ (.head _)) (eb_cons (eu_tup (eb_cons (eu_tup (eb_cons eu_str (eb_cons V.e8 eb_nil))) eb_nil)) eb_nil)))) eb_nil))) eb_nil))
theorem gr_la (V : VG X) : ETu X (fun Z => LG Z ++ L Z) (valueOf (stAt sLGr 8)) (fun Z => laG Z.l) :=
  eu_tup (eb_cons eu_str (eb_cons V.e6 (eb_cons eu_int (eb_cons (eu_tup (eb_cons (eu_tup (eb_cons eu_str (eb_cons V.e9 eb_nil))) eb_nil))
    (eb_cons (eu_tup (eb_cons (eu_tup (eb_cons eu_str (eb_cons V.e9 (eb_cons (eu_tup (eb_cons (eu_tup (eb_cons eu_str (eb_cons V.e5 (eb_cons eu_int eb_nil)))) (eb_cons (eu_tup (eb_cons eu_str (eb_cons V.e6 eb_nil))) eb_nil))) eb_nil)))) eb_nil)) eb_nil)))))
theorem gr_pa (V : VG X) : ETu X (fun Z => LG Z ++ L Z) (valueOf (stAt sLGr 9)) (fun Z => paG Z.l) :=
  eu_tup (eb_cons (eu_tup (eb_cons V.e8 (eb_cons eu_str eb_nil))) (eb_cons (eu_tup (eb_cons V.e9 (eb_cons eu_str eb_nil))) eb_nil))
end
end BK

set_option Elab.async false
set_option maxRecDepth 100000
set_option maxHeartbeats 8000000
set_option linter.unusedVariables false
/-! _law_great: the def -/
namespace BK
open PySem PySem.Spec PyProof.Rows L2 SW DU RZ ET
abbrev rlG : List Str → List (Option V) := fun _ => []
theorem tall_str {K : PySem.W.Frag} {H : Hp} : ∀ {l : List Str}, (∀ z ∈ l, z.length ≤ 20) → TrAll K H (l.map V.str) (l.map Tr.str)
  | [], _ => .nil
  | z :: r, h => .cons (.str z (Nat.le_trans (h z List.mem_cons_self) (by decide))) (tall_str fun y hy => h y (List.mem_cons_of_mem _ hy))
section
variable {P : Program} {w : World} {K : PySem.W.Frag} {mg : Str → Option Value} {base : Heap}
theorem ok_lgr {f fD : Addr} {fd fdD : FuncData} (F : Fun K "_law_great" "_law_great" sLGr f fd) (mG : mg "range" = none) (mI : mg "int" = none) (mT : mg "tuple" = none)
    (GD : FnOk P w K mg base CX0 2 fD fdD ["state", "many"] spDraw) (bD : Binds K fdD ["state", "many"] []) (gD : mg "_law_draw" = some (.ref fD)) (kD : PySem.W.keepIn K (.ref fD) = true) : FnOk P w K mg base CX0 3 f fd ["state"] (spLGr K) := by
  refine F.ok scLGr (fun vs H Q E h => ?_) (fun cdv A outer s H vs Q E hr h => ?_)
  · obtain ⟨a, n, rfl, _⟩ := h
    rfl
  · obtain ⟨a, n, rfl, R0, hn, k⟩ := h
    have one' : 1 ≤ sizeLine := by decide
    have two' : 2 ≤ sizeLine := by decide
    have three' : 3 ≤ sizeLine := by decide
    have big : sizeLine = 16777216 := sizeLine_eq
    have VX : VG (cxOf CX0 P w K mg base nLGr "_law_great" (defScope sLGr) f cdv A outer s H E).nox := ⟨pv 5, pv 6, pv 7, pv 8, pv 9⟩
    obtain ⟨te5, q5, r5⟩ := gr_in (L := fun _ => []) VX
    obtain ⟨te6, q6, r6⟩ := gr_tr VX (pv 10)
    obtain ⟨te7, q7, r7⟩ := gr_ou VX (pv 11)
    obtain ⟨te8, q8, r8⟩ := gr_la (L := fun _ => []) VX
    obtain ⟨te9, q9, r9⟩ := gr_pa (L := fun _ => []) VX
    refine ⟨_, C8.pss_cut (ps_set (i := 1) scLGr.nd rfl (Or.inr rfl) pe_str)
      (C8.pss_cut (ps_setLc (i := 2) (own := [("k", 15)]) (g := gName 15) (tt := tYes) (te := tM1 (rJ K) (tC (.str "")) _) rfl scLGr.nd rfl rfl (sw_true rfl rfl rfl (by decide +kernel)) (pi_range1 rfl mG (pa_cons pe_int pa_nil)) (blkOk_by (N := nLGr) (sc := defScope sLGr) (by decide +kernel))
        (fun _ _ _ _ _ => pg_name (i := 15) scLGr.nd rfl (Or.inr rfl)) (fun _ _ _ _ _ => pts_nil)
        (fun _ _ _ _ _ => pe_join pe_str (pe_lc (own := [("j", 16)]) (g := gName 16) (tt := tYes) rfl scLGr.nd (pi_range1 rfl mG (pa_cons pe_int pa_nil)) (blkOk_by (N := nLGr) (by rfl))
          (fun _ _ _ _ _ => pg_name (i := 16) scLGr.nd rfl (Or.inl rfl)) (fun _ _ _ _ _ => pts_nil) (fun _ _ _ _ _ => pe_ix ix_str (pv 1) (pe_op op_mod (pe_callTy call_int1 (by rfl) mI boot_int (pa_cons (pe_op op_add (pe_op op_mul pe_int (pv 15)) (pe_op op_mul pe_int (pv 16))) pa_nil)) pe_int) (fun _ _ => rfl)))))
      (C8.pss_cut (ps_set (i := 3) scLGr.nd rfl (Or.inl rfl) (pe_call GD hr rfl gD kD bD .nil pass0 (pa_cons (pv 0) (pa_cons pe_int pa_nil))))
      (C8.pss_cut (ps_set (i := 4) scLGr.nd rfl (Or.inl rfl) (pe_op op_cat (pe_slice sl_list (pv 2) (po_some (pv 3)) po_none) (pe_slice sl_list (pv 2) po_none (po_some (pv 3)))))
      (C8.pss_cut (ps_asg (pe_slice sl_list (pv 4) po_none (po_some pe_int)) (pg_unl rfl (pgs_cons (pg_name (i := 5) scLGr.nd rfl (Or.inl rfl)) (pgs_cons (pg_name (i := 6) scLGr.nd rfl (Or.inl rfl)) (pgs_cons (pg_name (i := 7) scLGr.nd rfl (Or.inl rfl)) (pgs_cons (pg_name (i := 8) scLGr.nd rfl (Or.inl rfl)) (pgs_cons (pg_name (i := 9) scLGr.nd rfl (Or.inl rfl)) pgs_nil)))))))
      (C8.pss_cut (ps_set (i := 10) scLGr.nd rfl (Or.inl rfl) q5)
      (C8.pss_cut (ps_set (i := 11) scLGr.nd rfl (Or.inl rfl) q6)
      (C8.pss_cut (ps_set (i := 12) scLGr.nd rfl (Or.inr rfl) q7)
      (C8.pss_cut (ps_set (i := 13) scLGr.nd rfl (Or.inr rfl) q8)
      (C8.pss_cut (ps_set (i := 14) scLGr.nd rfl (Or.inr rfl) q9)
      (pss_one (ps_ret (pe_tup (pa_cons (pe_callTy call_tuple_of (by rfl) mT boot_tuple (pa_cons (pe_slice sl_list (pv 4) po_none (po_some pe_int)) pa_nil))
        (pa_cons (pe_callTy call_tuple_of (by rfl) mT boot_tuple (pa_cons (pe_lc (own := [("name", 17)]) (g := gName 17) (tt := tYes) rfl scLGr.nd (pi_list (pe_slice sl_list (pv 4) po_none (po_some pe_int))) (blkOk_by (N := nLGr) (sc := defScope sLGr) (by decide +kernel))
          (fun _ _ _ _ _ => pg_name (i := 17) scLGr.nd rfl (Or.inl rfl)) (fun _ _ _ _ _ => pts_nil) (fun _ _ _ _ _ => pe_tup (pa_cons (pv 17) (pa_cons (pv 14) (pa_cons (pe_tup (pa_cons (pv 12) (pa_cons (pv 13) (pa_cons (pe_tup (pa_cons pe_str pa_nil)) pa_nil)))) pa_nil))))) pa_nil)) pa_nil)))))))))))))), ?_⟩
    -- letters
    refine ⟨fun σ H1 => σ = [some (.ref a.s), some (.str abc), none, none, none, none, none, none, none, none, none, none, none, none, none, none, none, none] ∧ H = H1, ⟨rfl, rfl⟩, ?_⟩
    rintro σ _ ⟨rfl, rfl⟩
    -- names
    refine ⟨fun σ H1 => ∃ L, σ = [some (.ref a.s), some (.str abc), some (.ref L), none, none, none, none, none, none, none, none, none, none, none, none, none, none, none] ∧ Same H H1 ∧ H L = none ∧ H1 L = some (.lst (nmsG.map V.str)), ?_, ?_⟩
    · refine ⟨9, rfl, by decide, by decide, fun D nD => lc_range (lo := 0) (n := 9) (fun i H2 => Same H H2 ∧ H2 D = some (.lst (((List.range i).map nmG).map V.str))) ⟨same_new nD, upd_same⟩ ?_ (fun H2 ⟨s2, e2⟩ => ⟨D, rfl, s2, nD, e2⟩)⟩
      rintro i H2 hi ⟨s2, e2⟩
      refine ⟨rfl, tyes ?_⟩
      refine ⟨⟨_, rfl⟩, 8, rfl, by decide, by decide, fun D2 nD2 => lc_range (lo := 0) (n := 8) (fun j H3 => Same H2 H3 ∧ H3 D2 = some (.lst (((List.range j).map (sgG i)).map V.str))) ⟨same_new nD2, upd_same⟩ ?_ ?_⟩
      · rintro j H3 hj ⟨s3, e3⟩
        refine ⟨rfl, tyes ?_⟩
        have h26 : ((3 * i + 7 * j) % 26) < 26 := Nat.mod_lt _ (by decide)
        have ez : (3 * ((0 : Int) + (i : Int)) + 7 * ((0 : Int) + (j : Int))) % 26 = (((3 * i + 7 * j) % 26 : Nat) : Int) := by omega
        refine ⟨_, rfl, _, rfl, _, _, rfl, rfl, .inl ⟨by decide, by decide⟩, _, rfl, _, _, rfl, rfl, .inl ⟨by decide, by decide⟩, _, _, rfl, rfl, .inl ⟨_, rfl, _, _, rfl, rfl, (by show (0 : Int) < 26; decide), abc, _, 97 + (3 * i + 7 * j) % 26, rfl, rfl, by decide, ?_, ?_⟩⟩
        · rw [ez]
          exact atI_nat (abc_at ⟨_, h26⟩)
        · refine ⟨_, e3, by rw [List.length_map, List.length_map, List.length_range]; omega, fun b o e => ?_, ?_⟩
          · rw [upd_ne (ne_of_none e nD2)]
            exact s3 _ _ e
          · rw [upd_same, List.range_succ, List.map_append, List.map_append]
            rfl
      · rintro H3 ⟨s3, e3⟩
        refine ⟨"", D2, (List.range 8).map (sgG i), rfl, rfl, .inl (SqL.of e3), Nat.le_of_ble_eq_true rfl, _, s3 _ _ e2, by rw [List.length_map, List.length_map, List.length_range]; omega, fun b o e => ?_, ?_⟩
        · rw [upd_ne (ne_of_none e nD)]
          exact s3 _ _ (s2 _ _ e)
        · rw [upd_same, show List.range (i + 1) = List.range i ++ [i] from List.range_succ, List.map_append, List.map_append]
          rfl
    rintro σ H1 ⟨L, rfl, s1, nL, eL⟩
    have oL := R0.off nL
    -- first
    refine ⟨fun σ H2 => ∃ m : Nat, m < 9 ∧ σ = [some (.ref a.s), some (.str abc), some (.ref L), some (.int (m : Int)), none, none, none, none, none, none, none, none, none, none, none, none, none, none] ∧ Rnd H2 a (n + 1) ∧ But a H H2 ∧ H2 L = some (.lst (nmsG.map V.str)), ?_, ?_⟩
    · refine ⟨_, rfl, a, n, 9, rfl, R0.same s1, by omega, by decide, by decide, fun x H2 x0 xl R2 b2 => ?_⟩
      obtain ⟨m, rfl⟩ : ∃ m : Nat, x = (m : Int) := ⟨x.toNat, by omega⟩
      exact ⟨m, by omega, rfl, R2, (Same.but s1).trans b2, b2.at oL eL⟩
    rintro σ H2 ⟨m, hm, rfl, R2, b2, eL2⟩
    obtain ⟨t, et⟩ : ∃ t, t = tuG m := ⟨_, rfl⟩
    have tl : t.length = 9 := by rw [et]; exact great_len ⟨m, hm⟩
    have ts : ∀ z ∈ t, z.length ≤ 20 := fun z hz => by
      rw [et] at hz
      rcases List.mem_append.mp hz with hz | hz
      · exact great_short z (List.mem_of_mem_drop hz)
      · exact great_short z (List.mem_of_mem_take hz)
    have k := k m
    rw [← et] at k
    -- turned
    refine ⟨fun σ H3 => ∃ T, σ = [some (.ref a.s), some (.str abc), some (.ref L), some (.int (m : Int)), some (.ref T), none, none, none, none, none, none, none, none, none, none, none, none, none] ∧ Same H2 H3 ∧ H3 T = some (.lst (t.map V.str)), ?_, ?_⟩
    · refine ⟨_, rfl, _, rfl, _, rfl, L, _, rfl, SqL.of eL2, fun p1 n1 => ?_⟩
      have s3 := same_new (o := .lst (cutV (nmsG.map V.str) (some (m : Int)) none)) n1
      refine ⟨_, rfl, _, rfl, _, rfl, L, _, rfl, SqL.of (s3 _ _ eL2), fun p2 n2 => ?_⟩
      have s4 := same_new (o := .lst (cutV (nmsG.map V.str) none (some (m : Int)))) n2
      have l1 := cutV_length (nmsG.map V.str) (some (m : Int)) none
      have l2 := cutV_length (nmsG.map V.str) none (some (m : Int))
      have l9 : (nmsG.map V.str).length = 9 := by decide +kernel
      refine ⟨p1, p2, _, _, rfl, rfl, s4 _ _ upd_same, upd_same, by omega, fun p3 n3 => ⟨p3, rfl, (s3.trans s4).trans (same_new n3), ?_⟩⟩
      rw [upd_same, cut_from (by omega), cut_to (by omega), ← List.map_drop, ← List.map_take, ← List.map_append, et]
      rfl
    rintro σ H3 ⟨T, rfl, s3, eT⟩
    obtain ⟨z0, z1, z2, z3, z4, z5, z6, z7, z8, rfl⟩ := nine tl
    obtain ⟨Z, eZ⟩ : ∃ Z : Z5, Z = ⟨z0, z1, z2, z3, z4, [z5, z6, z7, z8]⟩ := ⟨_, rfl⟩
    -- five names
    refine ⟨fun σ H4 => σ = [some (.ref a.s), some (.str abc), some (.ref L), some (.int (m : Int)), some (.ref T), some (.str z0), some (.str z1), some (.str z2), some (.str z3), some (.str z4), none, none, none, none, none, none, none, none] ∧ Same H3 H4, ?_, ?_⟩
    · refine ⟨_, rfl, _, rfl, T, _, rfl, SqL.of eT, fun p np => ?_⟩
      exact ⟨p, _, rfl, SqL.of upd_same, rfl, _, _, rfl, _, _, rfl, _, _, rfl, _, _, rfl, _, _, rfl, rfl, rfl, same_new np⟩
    rintro σ H4 ⟨rfl, s4⟩
    have gt : ∀ {H' : Hp} {v10 v11 v12 v13 v14 : Option V}, ∀ p ∈ LG Z, ∃ v, ([some (.ref a.s), some (.str abc), some (.ref L), some (.int (m : Int)), some (.ref T), some (.str z0), some (.str z1), some (.str z2), some (.str z3), some (.str z4), v10, v11, v12, v13, v14, none, none, none] : L2.St)[p.1]? = some (some v) ∧ TrAt K H' v p.2 := fun p hp => by
      have sh : ∀ z ∈ [z0, z1, z2, z3, z4, z5, z6, z7, z8], z.length ≤ sizeLine := fun z hz => Nat.le_trans (ts z hz) (by decide)
      rw [eZ] at hp
      simp only [LG, List.mem_cons, List.not_mem_nil, or_false] at hp
      rcases hp with rfl | rfl | rfl | rfl | rfl
      · exact ⟨_, rfl, .str _ (sh _ (by simp))⟩
      · exact ⟨_, rfl, .str _ (sh _ (by simp))⟩
      · exact ⟨_, rfl, .str _ (sh _ (by simp))⟩
      · exact ⟨_, rfl, .str _ (sh _ (by simp))⟩
      · exact ⟨_, rfl, .str _ (sh _ (by simp))⟩
    have zl : Z.l = [z0, z1, z2, z3, z4, z5, z6, z7, z8] := by rw [eZ]; rfl
    -- inner
    refine ⟨fun σ H5 => ∃ v, σ = [some (.ref a.s), some (.str abc), some (.ref L), some (.int (m : Int)), some (.ref T), some (.str z0), some (.str z1), some (.str z2), some (.str z3), some (.str z4), some v, none, none, none, none, none, none, none] ∧ Same H4 H5 ∧ TrAt K H5 v (inG Z.l), ?_, ?_⟩
    · refine r5 Z _ _ _ (fun p hp => ?_) fun v H5 s5 tv => ⟨v, rfl, s5, tv⟩
      have hp : p ∈ LG Z ++ [] := hp
      rw [List.append_nil] at hp
      exact gt p hp
    rintro σ H5 ⟨v5, rfl, s5, t5⟩
    -- tried
    refine ⟨fun σ H6 => ∃ v, σ = [some (.ref a.s), some (.str abc), some (.ref L), some (.int (m : Int)), some (.ref T), some (.str z0), some (.str z1), some (.str z2), some (.str z3), some (.str z4), some v5, some v, none, none, none, none, none, none] ∧ Same H5 H6 ∧ TrAt K H6 v (trG Z.l), ?_, ?_⟩
    · refine r6 Z _ _ _ (fun p hp => ?_) fun v H6 s6 tv => ⟨v, rfl, s6, tv⟩
      rcases List.mem_append.mp hp with hp | hp
      · exact gt p hp
      · rw [List.mem_singleton.mp hp]
        exact ⟨_, rfl, t5⟩
    rintro σ H6 ⟨v6, rfl, s6, t6⟩
    -- outer
    refine ⟨fun σ H7 => ∃ v, σ = [some (.ref a.s), some (.str abc), some (.ref L), some (.int (m : Int)), some (.ref T), some (.str z0), some (.str z1), some (.str z2), some (.str z3), some (.str z4), some v5, some v6, some v, none, none, none, none, none] ∧ Same H6 H7 ∧ TrAt K H7 v (ouG Z.l), ?_, ?_⟩
    · refine r7 Z _ _ _ (fun p hp => ?_) fun v H7 s7 tv => ⟨v, rfl, s7, tv⟩
      rcases List.mem_append.mp hp with hp | hp
      · exact gt p hp
      · rw [List.mem_singleton.mp hp]
        exact ⟨_, rfl, t6⟩
    rintro σ H7 ⟨v7, rfl, s7, t7⟩
    -- last
    refine ⟨fun σ H8 => ∃ v, σ = [some (.ref a.s), some (.str abc), some (.ref L), some (.int (m : Int)), some (.ref T), some (.str z0), some (.str z1), some (.str z2), some (.str z3), some (.str z4), some v5, some v6, some v7, some v, none, none, none, none] ∧ Same H7 H8 ∧ TrAt K H8 v (laG Z.l), ?_, ?_⟩
    · refine r8 Z _ _ _ (fun p hp => ?_) fun v H8 s8 tv => ⟨v, rfl, s8, tv⟩
      have hp : p ∈ LG Z ++ [] := hp
      rw [List.append_nil] at hp
      exact gt p hp
    rintro σ H8 ⟨v8, rfl, s8, t8⟩
    -- params
    refine ⟨fun σ H9 => ∃ v, σ = [some (.ref a.s), some (.str abc), some (.ref L), some (.int (m : Int)), some (.ref T), some (.str z0), some (.str z1), some (.str z2), some (.str z3), some (.str z4), some v5, some v6, some v7, some v8, some v, none, none, none] ∧ Same H8 H9 ∧ TrAt K H9 v (paG Z.l), ?_, ?_⟩
    · refine r9 Z _ _ _ (fun p hp => ?_) fun v H9 s9 tv => ⟨v, rfl, s9, tv⟩
      have hp : p ∈ LG Z ++ [] := hp
      rw [List.append_nil] at hp
      exact gt p hp
    rintro σ H9 ⟨v9, rfl, s9, t9⟩
    rw [zl] at t7 t8 t9
    have s39 : Same H3 H9 := ((((s4.trans s5).trans s6).trans s7).trans s8).trans s9
    have t7 := t7.same (s8.trans s9)
    have t8 := t8.same s9
    have eT9 := s39 _ _ eT
    have hz : ∀ z ∈ [z0, z1, z2, z3, z4, z5, z6, z7, z8], z.length ≤ sizeLine := fun z hz => Nat.le_trans (ts z hz) (by decide)
    refine ⟨_, rfl, _, rfl, T, _, rfl, SqL.of eT9, fun p1 n1 => ⟨p1, _, rfl, .inl ⟨SqL.of upd_same, fun q1 nq1 => ?_⟩⟩⟩
    have sa := (same_new (o := .lst (cutV ([z0, z1, z2, z3, z4, z5, z6, z7, z8].map V.str) none (some 3))) n1).trans (same_new (o := .tup (cutV ([z0, z1, z2, z3, z4, z5, z6, z7, z8].map V.str) none (some 3))) nq1)
    have eq1 : (upd (upd H9 p1 (.lst (cutV ([z0, z1, z2, z3, z4, z5, z6, z7, z8].map V.str) none (some 3)))) q1 (.tup (cutV ([z0, z1, z2, z3, z4, z5, z6, z7, z8].map V.str) none (some 3)))) q1 = some (.tup ([z0, z1, z2].map V.str)) := upd_same
    generalize upd (upd H9 p1 (.lst (cutV ([z0, z1, z2, z3, z4, z5, z6, z7, z8].map V.str) none (some 3)))) q1 (.tup (cutV ([z0, z1, z2, z3, z4, z5, z6, z7, z8].map V.str) none (some 3))) = Ha at sa eq1 ⊢
    refine ⟨_, rfl, _, rfl, T, _, rfl, SqL.of (sa _ _ eT9), fun p2 n2 => ?_⟩
    have sb := same_new (o := .lst (cutV ([z0, z1, z2, z3, z4, z5, z6, z7, z8].map V.str) none (some 6))) n2
    have ep2 : (upd Ha p2 (.lst (cutV ([z0, z1, z2, z3, z4, z5, z6, z7, z8].map V.str) none (some 6)))) p2 = some (.lst ([z0, z1, z2, z3, z4, z5].map V.str)) := upd_same
    refine ⟨p2, rfl, ⟨_, SqL.of ep2⟩, ?_⟩
    generalize upd Ha p2 (.lst (cutV ([z0, z1, z2, z3, z4, z5, z6, z7, z8].map V.str) none (some 6))) = Hb at sb ep2 ⊢
    intro D nD
    have sab := sa.trans sb
    have eq1 := sb _ _ eq1
    have t7 := t7.same sab
    have t8 := t8.same sab
    have t9 := t9.same sab
    refine lc_it (walk_list (K := K) (a := p2) (xs := [z0, z1, z2, z3, z4, z5].map V.str)) (fun i H4 => Same Hb H4 ∧ ∃ us, H4 D = some (.lst us) ∧ TrAll K H4 us (([z0, z1, z2, z3, z4, z5].take i).map (piG [z0, z1, z2, z3, z4, z5, z6, z7, z8])))
      ⟨same_new nD, [], upd_same, .nil⟩ (fun i H4 _ ⟨s, _⟩ => SqL.of (s _ _ ep2)) ?_ ?_
    · rintro i y Hx H4 hi ⟨s4', us, eD, tus⟩ ⟨rfl, hy⟩
      obtain ⟨x, hx, rfl⟩ := str_at hy
      have ul := tus.len
      rw [List.length_map, List.length_take] at ul
      have zx : x.length ≤ sizeLine := hz x (by
        have := List.mem_of_getElem? hx
        simp only [List.mem_cons, List.not_mem_nil, or_false] at this ⊢
        rcases this with h | h | h | h | h | h <;> simp [h])
      refine ⟨rfl, tyes ?_⟩
      refine ⟨_, rfl, _, rfl, _, rfl, _, rfl, one', fun f1 nf1 => ⟨three', fun f2 nf2 => ⟨three', fun f3 nf3 => ?_⟩⟩⟩
      have sf1 := same_new (o := .tup [.str "fail"]) nf1
      have sf2 := same_new (o := .tup [v7, v8, .ref f1]) nf2
      have sf3 := same_new (o := .tup [.str x, v9, .ref f2]) nf3
      have sf := (sf1.trans sf2).trans sf3
      have e1 := sf3 _ _ (sf2 _ _ (upd_same (H := H4) (a := f1) (o := .tup [.str "fail"])))
      have e2 := sf3 _ _ (upd_same (a := f2) (o := .tup [v7, v8, .ref f1]))
      have tv : TrAt K _ (.ref f3) (piG [z0, z1, z2, z3, z4, z5, z6, z7, z8] x) := .tup (SqT.of (upd_same (a := f3) (o := .tup [.str x, v9, .ref f2]))) (.cons (.str x zx) (.cons (t9.same (s4'.trans sf)) (.cons (.tup (SqT.of e2) (.cons (t7.same (s4'.trans sf)) (.cons (t8.same (s4'.trans sf)) (.cons (.tup (SqT.of e1) (.cons (.str "fail" (by decide)) .nil)) .nil)))) .nil)))
      have eD7 := sf _ _ eD
      have l6 : us.length ≤ 6 := by
        rw [ul]
        exact Nat.min_le_right _ _
      refine ⟨us, eD7, by omega, fun b o e => ?_, us ++ [.ref f3], upd_same, ?_⟩
      · rw [upd_ne (ne_of_none e nD)]
        exact sf _ _ (s4' _ _ e)
      · have ex : [z0, z1, z2, z3, z4, z5].take (i + 1) = [z0, z1, z2, z3, z4, z5].take i ++ [x] := by rw [List.take_add_one, hx]; rfl
        rw [ex, List.map_append]
        exact ((tus.same sf).updL eD7).app (.cons (tv.updL eD7) .nil)
    · rintro H4 ⟨s4', us, eD, tus⟩
      refine ⟨D, _, rfl, .inl ⟨SqL.of eD, fun q2 nq2 => ⟨two', fun q3 nq3 => ?_⟩⟩⟩
      have sc := same_new (o := .tup us) nq2
      have sd := same_new (o := .tup [.ref q1, .ref q2]) nq3
      refine k _ _ hm (((R2.same (s3.trans s39)).same sab).same (s4'.trans (sc.trans sd))) (b2.trans (Same.but (((s3.trans s39).trans sab).trans (s4'.trans (sc.trans sd))))) ?_
      refine .tup (SqT.of upd_same) (.cons (.tup (SqT.of (sd _ _ (sc _ _ (s4' _ _ eq1)))) (tall_str fun z h => ts z ?_)) (.cons (.tup (SqT.of (sd _ _ upd_same)) (tus.same (sc.trans sd))) .nil))
      simp only [List.mem_cons, List.not_mem_nil, or_false] at h ⊢
      rcases h with h | h | h <;> simp [h]
end
end BK

set_option Elab.async false
set_option maxRecDepth 100000
set_option maxHeartbeats 8000000
set_option linter.unusedVariables false
/-! the law -/
namespace BK
open PySem PySem.Spec PyProof.Rows L2 SW DU RZ ET
abbrev sLaw : Stmt := top 80
abbrev nLaw : List Str := ["script", "state", "turn", "many", "most", "example"]
theorem scLaw : FnScope nLaw ["script"] (defScope sLaw) := ⟨rfl, rfl, rfl, by decide +kernel, rfl, by decide +kernel, by decide +kernel⟩
def spLaw (K : PySem.W.Frag) : Sp := fun vs H Q _ => ∃ (x : Addr) (ns : List Int), vs = [.ref x] ∧ SqL K H x (ns.map V.int) ∧ ns.length ≤ 63 ∧ ∀ H', Q (.bl true) H'
theorem int_at {ns : List Nat} {i : Nat} {v : V} (h : (ns.map fun n : Nat => V.int (n : Int))[i]? = some v) : ∃ n, n ∈ ns ∧ v = .int (n : Int) := by
  rw [List.getElem?_map] at h
  cases e : ns[i]? with
  | none => rw [e] at h; cases h
  | some x => rw [e] at h; exact ⟨x, List.mem_of_getElem? e, (Option.some.inj h).symm⟩
section
variable {P : Program} {w : World} {K : PySem.W.Frag} {mg : Str → Option Value} {base : Heap}
theorem ok_law {f fA fO fB fR fT fRb fE fG CB : Addr} {fdA fdO fdB fdR fdT fdRb fdE fdG : FuncData} {oc kV doc pm ct cdv : Value} {od an : Option Addr} {osl : Array (Option Value)} (lk : K.lookup f = some ⟨oc, od, .func (PySem.W.fnOf "law" "law" (defArgs sLaw) (defBody sLaw) (defScope sLaw) .none kV doc pm an cdv ct), osl⟩)
    (hcd : PySem.W.codeIn K cdv "law" = true) (mG : mg "range" = none) (mP : mg "repr" = none)
    (GA : FnOk P w K mg base CX0 1 fA fdA ["script"] (spBegin K)) (bA : Binds K fdA ["script"] []) (gA : mg "_law_begin" = some (.ref fA)) (kA : PySem.W.keepIn K (.ref fA) = true)
    (GO : FnOk P w K mg base CX0 3 fO fdO ["state", "some"] (spOfL K)) (bO : Binds K fdO ["state", "some"] []) (gO : mg "_law_of" = some (.ref fO)) (kO : PySem.W.keepIn K (.ref fO) = true)
    (GB : FnOk P w K mg base CX0 17 fB fdB ["state", "many", "most"] (spLBk K)) (bB : Binds K fdB ["state", "many", "most"] []) (gB : mg "_law_book" = some (.ref fB)) (kB : PySem.W.keepIn K (.ref fB) = true)
    (GR : FnG P w K mg base 29 fR fdR ["state", "book"] (spLRt K)) (bR : Binds K fdR ["state", "book"] []) (gR : mg "_law_right" = some (.ref fR)) (kR : PySem.W.keepIn K (.ref fR) = true)
    (GT : FnOk P w K mg base (L2.CX P w) 18 fT fdT ["book"] (spText K CB)) (bT : Binds K fdT ["book"] []) (gT : mg "book_text" = some (.ref fT)) (kT : PySem.W.keepIn K (.ref fT) = true)
    (GRb : FnOk P w K mg base (L2.CX P w) 28 fRb fdRb ["text"] (spRb K)) (bRb : Binds K fdRb ["text"] []) (gRb : mg "read_book" = some (.ref fRb)) (kRb : PySem.W.keepIn K (.ref fRb) = true)
    (GE : FnOk P w K mg base CX0 1 fE fdE [] (spLEx K)) (bE : Binds K fdE [] []) (gE : mg "_law_example" = some (.ref fE)) (kE : PySem.W.keepIn K (.ref fE) = true)
    (GG : FnOk P w K mg base CX0 3 fG fdG ["state"] (spLGr K)) (bG : Binds K fdG ["state"] []) (gG : mg "_law_great" = some (.ref fG)) (kG : PySem.W.keepIn K (.ref fG) = true) :
    FnG P w K mg base 30 f (PySem.W.fnOf "law" "law" (defArgs sLaw) (defBody sLaw) (defScope sLaw) .none kV doc pm an cdv ct) ["script"] (spLaw K) := by
  refine fng_of lk hcd scLaw (fun vs H Q E h => ?_) (fun A outer s0 H vs Q E gd hr h => ?_)
  · obtain ⟨x, ns, rfl, _⟩ := h
    rfl
  · obtain ⟨xs, ns, rfl, hS, hl, k⟩ := h
    have gd' : (A.deeper (envOfC "law" (defScope sLaw) s0.heap.objs.size f cdv)).guards = some [] := gd
    have hr0 : Room 0 _ := hr.mono (by decide)
    have hr1 : Room 1 _ := hr.mono (by decide)
    have hr3 : Room 3 _ := hr.mono (by decide)
    have hr17 : Room 17 _ := hr.mono (by decide)
    have hr18 : Room 18 _ := hr.mono (by decide)
    have hr28 : Room 28 _ := hr.mono (by decide)
    have five' : 5 ≤ sizeLine := by decide
    have four' : 4 ≤ sizeLine := by decide
    refine ⟨_, C8.pss_cut (ps_set (i := 1) scLaw.nd rfl (Or.inl rfl) (pe_call GA hr1 rfl gA kA bA .nil pass0 (pa_cons (pv 0) pa_nil)))
      (C8.pss_cut (ps_for PassesOwn.never rfl (pi_range1 rfl mG (pa_cons pe_int pa_nil)) (pg_name (i := 2) scLaw.nd rfl (Or.inl rfl))
        (C8.pss_cut (ps_par (i := 3) (j := 4) rfl scLaw.nd rfl rfl (by decide) rfl rfl (pa_cons (pe_call GO hr3 rfl gO kO bO .nil pass0 (pa_cons (pv 1) (pa_cons (pe_lst (pa_cons pe_int (pa_cons pe_int (pa_cons pe_int (pa_cons pe_int (pa_cons pe_int pa_nil)))))) pa_nil)))
            (pa_cons (pe_call GO hr3 rfl gO kO bO .nil pass0 (pa_cons (pv 1) (pa_cons (pe_lst (pa_cons pe_int (pa_cons pe_int (pa_cons pe_int (pa_cons pe_int pa_nil))))) pa_nil))) pa_nil)) (by rfl))
        (pss_one (ps_if (pt_not (pt_val (pe_callG GR gd' hr rfl gR kR bR (pa_cons (pv 1) (pa_cons (pe_call GB hr17 rfl gB kB bB .nil pass0 (pa_cons (pv 1) (pa_cons (pv 3) (pa_cons (pv 4) pa_nil)))) pa_nil))))) (pss_one (ps_ret pe_bl)) pss_nil))))
      (C8.pss_cut (ps_set (i := 5) scLaw.nd rfl (Or.inl rfl) pe_str)
      (C8.pss_cut (ps_if (PW.pt (pw_or (pt_cmpR op_ne (pe_callS GT hr18 rfl gT kT bT (fun σ => passAt LamX.takes0 σ) (pa_cons (pe_call0 GE hr1 (by rfl) gE kE bE .nil pass0) pa_nil)) (pv 5) (nomark _))
          (pw_or1 (pt_cmpR op_ne (pe_callB (call_reprD gd' hr0) (by rfl) mP boot_repr (pa_cons (pe_callS GRb hr28 rfl gRb kRb bRb (fun σ => passAt LamX.takes0 σ) (pa_cons (pv 5) pa_nil)) pa_nil)) (pe_callB (call_reprD gd' hr0) (by rfl) mP boot_repr (pa_cons (pe_call0 GE hr1 (by rfl) gE kE bE .nil pass0) pa_nil)) (nomark _))))) (pss_one (ps_ret pe_bl)) pss_nil)
      (pss_one (ps_ret (pe_callG GR gd' hr rfl gR kR bR (pa_cons (pv 1) (pa_cons (pe_call GG hr3 rfl gG kG bG .nil pass0 (pa_cons (pv 1) pa_nil)) pa_nil)))))))), ?_⟩
    refine ⟨fun σ H1 => ∃ a : RA, σ = [some (.ref xs), some (.ref a.s), none, none, none, none] ∧ Rnd H1 a 0, ?_, ?_⟩
    · exact ⟨_, rfl, xs, ns, rfl, hS, hl, fun a H1 s1 _ _ R1 => ⟨a, rfl, R1⟩⟩
    rintro σ H1 ⟨a, rfl, R1⟩
    refine ⟨fun σ H2 => ∃ (a : RA) (v2 v3 v4 : Option V) (n : Nat), σ = [some (.ref xs), some (.ref a.s), v2, v3, v4, none] ∧ Rnd H2 a n ∧ n ≤ 30000, ?_, ?_⟩
    · refine ⟨2, rfl, by decide, by decide, for_range (lo := 0) (n := 2) (fun i σ H2 => ∃ (a : RA) (v2 v3 v4 : Option V) (n : Nat), σ = [some (.ref xs), some (.ref a.s), v2, v3, v4, none] ∧ Rnd H2 a n ∧ n ≤ 15000 * i)
        ⟨a, none, none, none, 0, rfl, R1, by omega⟩ ?_ (fun σ H2 ⟨a, v2, v3, v4, n, e, R, hn⟩ => ⟨a, v2, v3, v4, n, e, R, by omega⟩)⟩
      clear R1 a H1
      rintro i σ H2 hi ⟨a, v2, v3, v4, n, rfl, R2, hn⟩
      have hi2 : i < 2 := hi
      -- many, most
      refine ⟨fun σ H3 => ∃ many most : Nat, σ = [some (.ref xs), some (.ref a.s), some (.int (0 + (i : Int))), some (.int (many : Int)), some (.int (most : Int)), none] ∧ many ≤ 6 ∧ most ≤ 16 ∧ Rnd H3 a (n + 2), ?_, ?_⟩
      · refine ⟨_, rfl, five', fun L nL => ?_⟩
        have sL := same_new (o := .lst [.int 2, .int 6, .int 1, .int 3, .int 0]) nL
        refine ⟨a, n, L, _, rfl, R2.same sL, by omega, R2.off nL, upd_same, by decide, by decide, fun v j H3 hv R3 b3 => ?_⟩
        obtain ⟨many, hm, rfl⟩ := int_at (ns := [2, 6, 1, 3, 0]) hv
        refine ⟨_, rfl, four', fun M nM => ?_⟩
        have sM := same_new (o := .lst [.int 16, .int 5, .int 16, .int 1]) nM
        refine ⟨a, n + 1, M, _, rfl, R3.same sM, by omega, R3.off nM, upd_same, by decide, by decide, fun v j H4 hv R4 b4 => ?_⟩
        obtain ⟨most, hmo, rfl⟩ := int_at (ns := [16, 5, 16, 1]) hv
        refine ⟨_, _, rfl, many, most, rfl, ?_, ?_, R4⟩
        · have all : ∀ n ∈ [2, 6, 1, 3, 0], n ≤ 6 := by decide
          exact all many hm
        · have all : ∀ n ∈ [16, 5, 16, 1], n ≤ 16 := by decide
          exact all most hmo
      rintro σ H3 ⟨many, most, rfl, hm, hmo, R3⟩
      refine ⟨_, rfl, _, rfl, _, rfl, _, rfl, a, n + 2, many, most, rfl, R3, by omega, hm, hmo, fun v vars ps n' r' H' hB hlen tv hn' R' b' => ?_⟩
      refine ⟨a.rm r', n', v, vars, ps, rfl, R', by omega, tv.at, hB.fault hmo (by omega), fun n5 H5 h5 R5 => ⟨_, rfl, ?_⟩⟩
      exact iteF ⟨a.rm r', _, _, _, n5, rfl, R5, by omega⟩
    clear R1 a H1
    rintro σ H2 ⟨a, v2, v3, v4, n, rfl, R2, hn⟩
    -- the example
    refine ⟨fun σ H3 => σ = [some (.ref xs), some (.ref a.s), v2, v3, v4, some (.str exT)] ∧ H2 = H3, ⟨rfl, rfl⟩, ?_⟩
    rintro σ _ ⟨rfl, rfl⟩
    have rb := rt_of ex_fault
    obtain ⟨f1, f2, f3, f4⟩ := repr_bk (right_repr ex_fault)
    have no : ∀ {p : Place} {X : Prop}, faultT (bookT ["x"] exP) = some p → X := fun e => by rw [ex_fault] at e; cases e
    refine ⟨fun σ H3 => σ = [some (.ref xs), some (.ref a.s), v2, v3, v4, some (.str exT)] ∧ Same H2 H3, ?_, ?_⟩
    · refine ⟨rfl, fun v H3 s3 tv => ?_⟩
      refine ⟨v, bookT ["x"] exP, rfl, tv, fun _ H4 s4 => ?_, fun p ep => no ep⟩
      rw [ex_text]
      refine ⟨_, rfl, rfl, _, rfl, ?_⟩
      rw [decide_eq_true rfl]
      refine iteF ⟨_, rfl, exT, ["x"], exP, rfl, by decide +kernel, ex_words, Nat.le_trans rb.wl (by decide), rb.vn, fun p h => ⟨(rb.hp p h).1, (rb.hp p h).2.1⟩, ex_fault, fun u H5 s5 tu => ?_⟩
      have tu : TrAt K H5 u (bookT ["x"] exP) := tu
      obtain ⟨ua, _, _, rfl, _, _, _⟩ := tr_pair tu
      refine ⟨ua, _, rfl, tu.dp (right_repr ex_fault).da, f1, f2, f3, f4, rfl, fun x H6 s6 tx => ?_⟩
      obtain ⟨xa, _, _, rfl, _, _, _⟩ := tr_pair tx
      refine ⟨xa, _, rfl, tx.dp (right_repr ex_fault).da, f1, f2, f3, f4, rfl, _, rfl, ?_⟩
      rw [decide_eq_true rfl]
      exact iteF ⟨rfl, (s3.trans s4).trans (s5.trans s6)⟩
    rintro σ H3 ⟨rfl, s3⟩
    refine ⟨_, rfl, _, rfl, a, n, rfl, R2.same s3, by omega, fun m v H4 hm R4 b4 tv => ?_⟩
    exact ⟨a, n + 1, v, _, _, rfl, R4, by omega, tv, great_none ⟨m, hm⟩, fun n5 H5 _ _ => k H5⟩
end
end BK

set_option Elab.async false
set_option maxRecDepth 100000
set_option maxHeartbeats 2000000
/-! The law is called where nothing runs: the script alone is told. -/
namespace BK
open PySem PySem.Spec PyProof.Rows L2
abbrev listOf (us : List Value) : Obj := { cls := .type "list", data := .seq us.toArray }
section
variable {P : Program} {w : World} {K : PySem.W.Frag} {mg mb : Str → Option Value} {s : Shared} {us : List Value} {ns : List Int} {sc : Addr}
theorem first_hp (hs : s.heap.get? sc = some (listOf us)) (KX : K.In s.heap) (inz : IntsAre us ns) (few : ns.length ≤ sizeLine) :
    ∃ H : Hp, SqL K H sc (ns.map V.int) ∧ HOk P w H s.heap ∧ ∀ b u, H b = some u → (b = sc ∧ K.lookup sc = none ∧ ∃ o xs, u = .frz o (.lst xs)) := by
  have vi := vals_ints inz
  have li := inz.length
  cases kl : K.lookup sc with
  | some o =>
    have eo : o = listOf us := Option.some.inj ((KX sc o kl).symm.trans hs)
    refine ⟨fun _ => none, .inr ⟨o, us.toArray, 0, kl, by rw [eo], by rw [eo], by rw [eo], by rw [List.size_toArray, li]; exact few, by simpa using vi⟩, fun b u e => ?_, fun b u e => ?_⟩
    · cases e
    · cases e
  | none =>
    refine ⟨upd (fun _ => none) sc (.frz (listOf us) (.lst (ns.map V.int))), .inl (.inr ⟨listOf us, upd_same⟩), fun b u e => ?_, fun b u e => ?_⟩
    · by_cases hb : b = sc
      · rw [hb, upd_same] at e
        cases e
        rw [hb]
        exact ⟨hs, by rw [List.length_map]; exact few, us, 0, vi, hs⟩
      · rw [upd_ne hb] at e
        cases e
    · by_cases hb : b = sc
      · rw [hb, upd_same] at e
        cases e
        exact ⟨hb, rfl, _, _, rfl⟩
      · rw [upd_ne hb] at e
        cases e
theorem call_law {k : Nat} {fa : Addr} {fd : FuncData} {x : Str} {sp : Sp} (KX : K.In s.heap) (gl : s.heap.Ns mainGlobals mg) (bl : s.heap.Ns builtinsNs mb) (bb : ∀ x : Str, x ≠ "__name__" → mb x = bootBuiltins x) (nl : s.heap.NoLimit) (ge : s.gens = #[])
    (hs : s.heap.get? sc = some (listOf us)) (inz : IntsAre us ns) (few : ns.length ≤ sizeLine) (hr : Room k callerA)
    (F : ∀ base : Heap, K.In base → base.Ns mainGlobals mg → FnG P w K mg base k fa fd [x] sp) (bd : ∀ (s : Shared) (u : Value), BindsTo s fd ⟨[u], []⟩ [(x, u)])
    (pr : ∀ H : Hp, SqL K H sc (ns.map V.int) → sp [.ref sc] H (fun v _ => v = .bl true) fun _ _ _ => False) :
    codeAny (model P w) callerA (.call (.ref fa) ⟨[.ref sc], []⟩) (fun r s' => r = .ok (.ret (.bool true)) ∧ OldK s.heap s'.heap ∧ s'.os = s.os ∧ AllBare s'.gens) s := by
  obtain ⟨H, hS, ok, only⟩ := first_hp (P := P) (w := w) hs KX inz few
  have stays : ∀ {b : Addr} {o : Obj}, s.heap.get? b = some o → (b = sc → K.lookup sc = none → False) → (hidT s.heap H).get? b = some o := fun {b o} e h2 => hidT_get e (by
    cases q : H b with
    | none => rfl
    | some u =>
      obtain ⟨z, z2, _⟩ := only b u q
      exact (h2 z z2).elim)
  have other : ∀ {b : Addr} {o : Obj}, s.heap.get? b = some o → o ≠ listOf us → (hidT s.heap H).get? b = some o := fun {b o} e h2 =>
    stays e (fun z _ => h2 (Option.some.inj ((by rw [← e, z]; exact hs))))
  have kb : K.In (hidT s.heap H) := fun b o e => stays (KX b o e) fun z z2 => by rw [z, z2] at e; cases e
  have dict_ : ∀ {b : Addr} {m : Str → Option Value}, s.heap.Ns b m → (hidT s.heap H).Ns b m := fun {b m} h => by
    obtain ⟨o, es, ep, e, d, r⟩ := h
    exact ⟨o, es, ep, other e (fun z => by rw [z] at d; cases d), d, r⟩
  have md : L2.Mod K mg (hidT s.heap H) := by
    obtain ⟨mc, q1, q2⟩ := nl
    exact ⟨kb, dict_ gl, ⟨mb, dict_ bl, bb⟩, mc, dict_ q1, q2⟩
  have e0 : Env0 P w K mg (hidT s.heap H) callerA [] s H := ⟨rfl, md, fun b o e => of_hidT e, Nat.le_of_eq (hidT_size _ _), trivial, (fun b hb => by cases hb), ok, .of_eq ge⟩
  refine codeAny_mono ((F _ kb (dict_ gl)).run callerA [] s H [.ref sc] [.ref sc] _ _ rfl hr e0 (bd s (.ref sc)) (.cons rfl .nil) (pr H hS)) fun r s' h => ?_
  match r, h with
  | .ok (.ret u), ⟨v, H', os, bare, un, ok', rv, q⟩ =>
    have ev : v = .bl true := q
    rw [ev] at rv
    have eu : u = Value.bool true := rv
    have old : ∀ b o, s.heap.get? b = some o → s'.heap.get? b = some o := fun b o e => by
      cases q : H b with
      | none => exact un.keep b o e q (by intro z; cases z) (by simp)
      | some u =>
        obtain ⟨_, _, o2, xs, z⟩ := only b u q
        rw [z] at q
        have a1 := (ok b _ q).1
        have a2 := (ok' b _ (un.frzs b o2 _ q)).1
        rw [e] at a1
        cases a1
        exact a2
    exact ⟨by rw [eu], ⟨fun b o e => .inl (old b o e), fun b o e => ⟨o, old b o e⟩⟩, os, bare⟩
end
/-! the dict of the forms -/
def litKeys (es : List DictEntry) : Bool := es.all fun e => match e.key with
  | .str k _ => (kindsOf k).isSome
  | _ => false
theorem no_of {K : PySem.W.Frag} {p : Addr} {es : Array DictEntry} {n : Nat} (hl : K.lookup p = some ⟨.type "dict", none, .dict es n, #[]⟩) (hk : litKeys es.toList = true) (x : Str) (hx : kindsOf x = none) : PySem.W.nsIn K p x = some none := by
  have e1 : es.toList.find? (·.key.isStr x) = none := by
    rw [List.find?_eq_none]
    intro e he
    have q := List.all_eq_true.mp hk e he
    cases ek : e.key with
    | str k t =>
      rw [ek] at q
      intro z
      have z2 : Value.isStrOf x (.str k t) = true := by rw [← PySem.W.isStr_of]; exact z
      have e2 : k = x := by
        unfold Value.isStrOf at z2
        simpa using z2
      have q2 : (kindsOf k).isSome = true := q
      rw [e2, hx] at q2
      cases q2
    | _ => rw [ek] at q; cases q
  have e2 : es.toList.any (·.refKey) = false := by
    rw [List.any_eq_false]
    intro e he
    have q := List.all_eq_true.mp hk e he
    cases ek : e.key with
    | str k t =>
      unfold DictEntry.refKey
      rw [ek]
      simp
    | _ => rw [ek] at q; cases q
  unfold PySem.W.nsIn
  rw [hl]
  show (match es.toList.find? (·.key.isStr x) with
      | some e => some (some e.val)
      | none => if es.toList.any (·.refKey) then none else some none) = some none
  rw [e1, e2]
  rfl
theorem kinds_mem {x : Str} {ks : List Str} (h : kindsOf x = some ks) : (x, ks) ∈ kindTab := by
  unfold kindsOf at h
  cases e : kindTab.find? fun e => decide (e.1 = x) with
  | none => rw [e] at h; cases h
  | some p =>
    rw [e] at h
    have q : p.2 = ks := Option.some.inj h
    have q0 : (fun e : Str × List Str => decide (e.1 = x)) p = true := List.find?_some (p := fun e : Str × List Str => decide (e.1 = x)) e
    have q1 : p.1 = x := of_decide_eq_true q0
    have m := List.mem_of_find?_eq_some e
    rw [← q, ← q1]
    exact m
end BK


set_option Elab.async false
set_option maxRecDepth 100000
set_option maxHeartbeats 4000000
/-! What the top has written, and the claim. -/
namespace BK
open PySem PySem.Spec PyProof.Rows L2 SW
theorem exm_own {K : PySem.W.Frag} {S : Addr} (h1 : PySem.W.subIn K (.ref S) (.type "BaseException") = some true) (h2 : PySem.W.isClsIn K S = true) (h3 : PySem.W.typeIn K (.ref S) = some (.type "type")) (h4 : PySem.W.subIn K (.ref S) (.ref S) = some true) : PySem.W.exmOne K (.ref S) (.ref S) = some true := by
  have a : (PySem.W.subIn K (.ref S) (.type "BaseException") == some true) = true := by rw [h1] <;> rfl
  have b : ((PySem.W.clsIn K S).isSome && PySem.W.typeIn K (.ref S) == some (.type "type")) = true := by
    have c : (PySem.W.clsIn K S).isSome = true := h2
    rw [c, h3] <;> rfl
  unfold PySem.W.exmOne
  rw [if_pos a]
  unfold PySem.W.kitCls
  exact (if_pos b).trans h4
theorem sz4 {n : Nat} (h : n ≤ 4) : n ≤ sizeLine := by
  rw [sizeLine_eq]
  omega
theorem walkG {l : PySem.W.OpenLaw} {q : Program} {loose : List Str} {XP : (Str → Option Value) → Heap → Prop} {YP : World → Heap → Prop} {d : DefRec} {K : Params → PySem.W.Frag} (hn : l.most = some 63) (hdf : d.params.defaults = [])
    (hY : ∀ (w : World) (h : Heap), YP w h → (K w.params).In h)
    (F : ∀ (w : World) (mg : Str → Option Value) (fa : Addr) (h : Heap), (K w.params).In h → h.Ns mainGlobals mg → mg d.name = some (.ref fa) →
      ∃ (fd : FuncData), (∀ (s : Shared) (u : Value), BindsTo s fd ⟨[u], []⟩ [("script", u)]) ∧ ∀ base : Heap, (K w.params).In base → base.Ns mainGlobals mg → FnG l.prog w (K w.params) mg base 30 fa fd ["script"] (spLaw (K w.params))) :
    PySem.W.WalkO q loose XP YP l.row.toRowW d [] (fun f vs => PySem.call f vs) := by
  refine Att.attach_callB hn hdf fun w s0 s mg mb fa o pm cd doc a vs ns G Y _ _ _ hmg obj inz few _ ge => ?_
  have KX := hY w _ Y
  obtain ⟨fd, bd, GF⟩ := F w mg fa _ KX G.T.g hmg
  exact call_law KX G.T.g G.T.b G.T.builtins G.T.nolimit ge obj inz (Nat.le_trans few (by decide)) ⟨rfl, by decide, by decide⟩ GF bd
    fun H h2 => ⟨a, ns, rfl, h2, few, fun _ => rfl⟩
theorem all_mk {P : Program} {w : World} {K : PySem.W.Frag} {h : Heap} {mg : Str → Option Value} {fa C CB CR : Addr} (X : K.In h) (G : h.Ns mainGlobals mg) (hfa : mg "law" = some (.ref fa))
    {fcin : Addr} {odcin ancin : Option Addr} {slcin : Array (Option Value)} {occin kVcin dccin pmcin cdcin ctcin : Value}
    {ftak : Addr} {odtak antak : Option Addr} {sltak : Array (Option Value)} {octak kVtak dctak pmtak cdtak cttak : Value}
    {fknw : Addr} {odknw anknw : Option Addr} {slknw : Array (Option Value)} {ocknw kVknw dcknw pmknw cdknw ctknw : Value}
    {ffin : Addr} {odfin anfin : Option Addr} {slfin : Array (Option Value)} {ocfin kVfin dcfin pmfin cdfin ctfin : Value}
    {fbin : Addr} {odbin anbin : Option Addr} {slbin : Array (Option Value)} {ocbin kVbin dcbin pmbin cdbin ctbin : Value}
    {frin : Addr} {odrin anrin : Option Addr} {slrin : Array (Option Value)} {ocrin kVrin dcrin pmrin cdrin ctrin : Value}
    {fpek : Addr} {odpek anpek : Option Addr} {slpek : Array (Option Value)} {ocpek kVpek dcpek pmpek cdpek ctpek : Value}
    {ftke : Addr} {odtke antke : Option Addr} {sltke : Array (Option Value)} {octke kVtke dctke pmtke cdtke cttke : Value}
    {ftkw : Addr} {odtkw antkw : Option Addr} {sltkw : Array (Option Value)} {octkw kVtkw dctkw pmtkw cdtkw cttkw : Value}
    {ftkn : Addr} {odtkn antkn : Option Addr} {sltkn : Array (Option Value)} {octkn kVtkn dctkn pmtkn cdtkn cttkn : Value}
    {ftks : Addr} {odtks antks : Option Addr} {sltks : Array (Option Value)} {octks kVtks dctks pmtks cdtks cttks : Value}
    {fsee : Addr} {odsee ansee : Option Addr} {slsee : Array (Option Value)} {ocsee kVsee dcsee pmsee cdsee ctsee : Value}
    {ftki : Addr} {odtki antki : Option Addr} {sltki : Array (Option Value)} {octki kVtki dctki pmtki cdtki cttki : Value}
    {frbl : Addr} {odrbl anrbl : Option Addr} {slrbl : Array (Option Value)} {ocrbl kVrbl dcrbl pmrbl cdrbl ctrbl : Value}
    {frrs : Addr} {odrrs anrrs : Option Addr} {slrrs : Array (Option Value)} {ocrrs kVrrs dcrrs pmrrs cdrrs ctrrs : Value}
    {frrw : Addr} {odrrw anrrw : Option Addr} {slrrw : Array (Option Value)} {ocrrw kVrrw dcrrw pmrrw cdrrw ctrrw : Value}
    {frpt : Addr} {odrpt anrpt : Option Addr} {slrpt : Array (Option Value)} {ocrpt kVrpt dcrpt pmrpt cdrpt ctrpt : Value}
    {fisn : Addr} {odisn anisn : Option Addr} {slisn : Array (Option Value)} {ocisn kVisn dcisn pmisn cdisn ctisn : Value}
    {farn : Addr} {odarn anarn : Option Addr} {slarn : Array (Option Value)} {ocarn kVarn dcarn pmarn cdarn ctarn : Value}
    {fitg : Addr} {oditg anitg : Option Addr} {slitg : Array (Option Value)} {ocitg kVitg dcitg pmitg cditg ctitg : Value}
    {fnum : Addr} {odnum annum : Option Addr} {slnum : Array (Option Value)} {ocnum kVnum dcnum pmnum cdnum ctnum : Value}
    {ftup : Addr} {odtup antup : Option Addr} {sltup : Array (Option Value)} {octup kVtup dctup pmtup cdtup cttup : Value}
    {fdif : Addr} {oddif andif : Option Addr} {sldif : Array (Option Value)} {ocdif kVdif dcdif pmdif cddif ctdif : Value}
    {fprt : Addr} {odprt anprt : Option Addr} {slprt : Array (Option Value)} {ocprt kVprt dcprt pmprt cdprt ctprt : Value}
    {fwrd : Addr} {odwrd anwrd : Option Addr} {slwrd : Array (Option Value)} {ocwrd kVwrd dcwrd pmwrd cdwrd ctwrd : Value}
    {ffit : Addr} {odfit anfit : Option Addr} {slfit : Array (Option Value)} {ocfit kVfit dcfit pmfit cdfit ctfit : Value}
    {ffrm : Addr} {odfrm anfrm : Option Addr} {slfrm : Array (Option Value)} {ocfrm kVfrm dcfrm pmfrm cdfrm ctfrm : Value}
    {fpts : Addr} {odpts anpts : Option Addr} {slpts : Array (Option Value)} {ocpts kVpts dcpts pmpts cdpts ctpts : Value}
    {fblk : Addr} {odblk anblk : Option Addr} {slblk : Array (Option Value)} {ocblk kVblk dcblk pmblk cdblk ctblk : Value}
    {fcan : Addr} {odcan ancan : Option Addr} {slcan : Array (Option Value)} {occan kVcan dccan pmcan cdcan ctcan : Value}
    {fhyi : Addr} {odhyi anhyi : Option Addr} {slhyi : Array (Option Value)} {ochyi kVhyi dchyi pmhyi cdhyi cthyi : Value}
    {fknd : Addr} {odknd anknd : Option Addr} {slknd : Array (Option Value)} {ocknd kVknd dcknd pmknd cdknd ctknd : Value}
    {fprm : Addr} {odprm anprm : Option Addr} {slprm : Array (Option Value)} {ocprm kVprm dcprm pmprm cdprm ctprm : Value}
    {ftrp : Addr} {odtrp antrp : Option Addr} {sltrp : Array (Option Value)} {octrp kVtrp dctrp pmtrp cdtrp cttrp : Value}
    {ffpc : Addr} {odfpc anfpc : Option Addr} {slfpc : Array (Option Value)} {ocfpc kVfpc dcfpc pmfpc cdfpc ctfpc : Value}
    {fflt : Addr} {odflt anflt : Option Addr} {slflt : Array (Option Value)} {ocflt kVflt dcflt pmflt cdflt ctflt : Value}
    {fnee : Addr} {odnee annee : Option Addr} {slnee : Array (Option Value)} {ocnee kVnee dcnee pmnee cdnee ctnee : Value}
    {fwof : Addr} {odwof anwof : Option Addr} {slwof : Array (Option Value)} {ocwof kVwof dcwof pmwof cdwof ctwof : Value}
    {fwob : Addr} {odwob anwob : Option Addr} {slwob : Array (Option Value)} {ocwob kVwob dcwob pmwob cdwob ctwob : Value}
    {fwop : Addr} {odwop anwop : Option Addr} {slwop : Array (Option Value)} {ocwop kVwop dcwop pmwop cdwop ctwop : Value}
    {fdig : Addr} {oddig andig : Option Addr} {sldig : Array (Option Value)} {ocdig kVdig dcdig pmdig cddig ctdig : Value}
    {fwpi : Addr} {odwpi anwpi : Option Addr} {slwpi : Array (Option Value)} {ocwpi kVwpi dcwpi pmwpi cdwpi ctwpi : Value}
    {ftxt : Addr} {odtxt antxt : Option Addr} {sltxt : Array (Option Value)} {octxt kVtxt dctxt pmtxt cdtxt cttxt : Value}
    {ftpr : Addr} {odtpr antpr : Option Addr} {sltpr : Array (Option Value)} {octpr kVtpr dctpr pmtpr cdtpr cttpr : Value}
    {ftpi : Addr} {odtpi antpi : Option Addr} {sltpi : Array (Option Value)} {octpi kVtpi dctpi pmtpi cdtpi cttpi : Value}
    {ftbk : Addr} {odtbk antbk : Option Addr} {sltbk : Array (Option Value)} {octbk kVtbk dctbk pmtbk cdtbk cttbk : Value}
    {frbk : Addr} {odrbk anrbk : Option Addr} {slrbk : Array (Option Value)} {ocrbk kVrbk dcrbk pmrbk cdrbk ctrbk : Value}
    {fmix : Addr} {odmix anmix : Option Addr} {slmix : Array (Option Value)} {ocmix kVmix dcmix pmmix cdmix ctmix : Value}
    {fbeg : Addr} {odbeg anbeg : Option Addr} {slbeg : Array (Option Value)} {ocbeg kVbeg dcbeg pmbeg cdbeg ctbeg : Value}
    {fdrw : Addr} {oddrw andrw : Option Addr} {sldrw : Array (Option Value)} {ocdrw kVdrw dcdrw pmdrw cddrw ctdrw : Value}
    {flof : Addr} {odlof anlof : Option Addr} {sllof : Array (Option Value)} {oclof kVlof dclof pmlof cdlof ctlof : Value}
    {fnam : Addr} {odnam annam : Option Addr} {slnam : Array (Option Value)} {ocnam kVnam dcnam pmnam cdnam ctnam : Value}
    {fnms : Addr} {odnms annms : Option Addr} {slnms : Array (Option Value)} {ocnms kVnms dcnms pmnms cdnms ctnms : Value}
    {flfr : Addr} {odlfr anlfr : Option Addr} {sllfr : Array (Option Value)} {oclfr kVlfr dclfr pmlfr cdlfr ctlfr : Value}
    {flef : Addr} {odlef anlef : Option Addr} {sllef : Array (Option Value)} {oclef kVlef dclef pmlef cdlef ctlef : Value}
    {flst : Addr} {odlst anlst : Option Addr} {sllst : Array (Option Value)} {oclst kVlst dclst pmlst cdlst ctlst : Value}
    {flbl : Addr} {odlbl anlbl : Option Addr} {sllbl : Array (Option Value)} {oclbl kVlbl dclbl pmlbl cdlbl ctlbl : Value}
    {flpi : Addr} {odlpi anlpi : Option Addr} {sllpi : Array (Option Value)} {oclpi kVlpi dclpi pmlpi cdlpi ctlpi : Value}
    {flbk : Addr} {odlbk anlbk : Option Addr} {sllbk : Array (Option Value)} {oclbk kVlbk dclbk pmlbk cdlbk ctlbk : Value}
    {flbw : Addr} {odlbw anlbw : Option Addr} {sllbw : Array (Option Value)} {oclbw kVlbw dclbw pmlbw cdlbw ctlbw : Value}
    {flkw : Addr} {odlkw anlkw : Option Addr} {sllkw : Array (Option Value)} {oclkw kVlkw dclkw pmlkw cdlkw ctlkw : Value}
    {flsi : Addr} {odlsi anlsi : Option Addr} {sllsi : Array (Option Value)} {oclsi kVlsi dclsi pmlsi cdlsi ctlsi : Value}
    {flti : Addr} {odlti anlti : Option Addr} {sllti : Array (Option Value)} {oclti kVlti dclti pmlti cdlti ctlti : Value}
    {flsp : Addr} {odlsp anlsp : Option Addr} {sllsp : Array (Option Value)} {oclsp kVlsp dclsp pmlsp cdlsp ctlsp : Value}
    {flrt : Addr} {odlrt anlrt : Option Addr} {sllrt : Array (Option Value)} {oclrt kVlrt dclrt pmlrt cdlrt ctlrt : Value}
    {flex : Addr} {odlex anlex : Option Addr} {sllex : Array (Option Value)} {oclex kVlex dclex pmlex cdlex ctlex : Value}
    {flgr : Addr} {odlgr anlgr : Option Addr} {sllgr : Array (Option Value)} {oclgr kVlgr dclgr pmlgr cdlgr ctlgr : Value}
    {flaw : Addr} {odlaw anlaw : Option Addr} {sllaw : Array (Option Value)} {oclaw kVlaw dclaw pmlaw cdlaw ctlaw : Value}
    {t_MOST_LETTERS : Tok} {t_MOST_NUMBER : Tok} {t_MOST_VALUE : Tok} {t_MOST_PIECES : Tok} {t_MOST_VARS : Tok} {t_MOST_PARAMS : Tok} {t_MOST_STATEMENTS : Tok} {t_MOST_AROUND : Tok} {t_MOST_SIGNS : Tok} {t_MOST_OPEN : Tok} {t_MOST_DIGITS : Tok} {t_LETTERS : Tok} {t_RUN_SIGNS : Tok} {t_BLANKS : Tok} {t_DIGITS : Tok}
    {aKD pP : Addr} {odKD : Option Addr} {nKD nP : Nat} {slKD : Array (Option Value)} {tKD1 tKD2 : Tok} {es : Array DictEntry}
    {p0 : Addr} {odp0 : Option Addr} {np0 : Nat} {slp0 : Array (Option Value)} {q0_0 q0_1 : Tok}
    {p1 : Addr} {odp1 : Option Addr} {np1 : Nat} {slp1 : Array (Option Value)} {q1_0 q1_1 q1_2 : Tok}
    {p2 : Addr} {odp2 : Option Addr} {np2 : Nat} {slp2 : Array (Option Value)} {q2_0 : Tok}
    {p3 : Addr} {odp3 : Option Addr} {np3 : Nat} {slp3 : Array (Option Value)} {q3_0 : Tok}
    {p4 : Addr} {odp4 : Option Addr} {np4 : Nat} {slp4 : Array (Option Value)} {q4_0 : Tok}
    {p5 : Addr} {odp5 : Option Addr} {np5 : Nat} {slp5 : Array (Option Value)} {q5_0 : Tok}
    {p6 : Addr} {odp6 : Option Addr} {np6 : Nat} {slp6 : Array (Option Value)} {q6_0 q6_1 : Tok}
    {p7 : Addr} {odp7 : Option Addr} {np7 : Nat} {slp7 : Array (Option Value)} {q7_0 q7_1 q7_2 q7_3 : Tok}
    {p8 : Addr} {odp8 : Option Addr} {np8 : Nat} {slp8 : Array (Option Value)} {q8_0 q8_1 q8_2 : Tok}
    {p9 : Addr} {odp9 : Option Addr} {np9 : Nat} {slp9 : Array (Option Value)} {q9_0 q9_1 : Tok}
    {p10 : Addr} {odp10 : Option Addr} {np10 : Nat} {slp10 : Array (Option Value)} {q10_0 : Tok}
    {p11 : Addr} {odp11 : Option Addr} {np11 : Nat} {slp11 : Array (Option Value)}
    {p12 : Addr} {odp12 : Option Addr} {np12 : Nat} {slp12 : Array (Option Value)}
    {p13 : Addr} {odp13 : Option Addr} {np13 : Nat} {slp13 : Array (Option Value)}
    {nmB qB : Str} {NB : Addr} {bsB bmB : List Value} {snB : List Str} {subB : List Value} {abbB : Bool} {colB : Option Bool} {ddB : Option Addr} {m0B m1B m2B m3B m5B : Option Value}
    (aC : PySem.W.nsIn K mainGlobals "Check" = some (some (.ref C)))
    (aCB : PySem.W.nsIn K mainGlobals "BadBook" = some (some (.ref CB)))
    (aCR : PySem.W.nsIn K mainGlobals "Reader" = some (some (.ref CR)))
    (acin : PySem.W.findIn K (.ref C) "__init__" = some (some (.ref fcin)))
    (icin : PySem.W.isFn K (.ref fcin) = true)
    (lcin : K.lookup fcin = some ⟨occin, odcin, .func (PySem.W.fnOf "__init__" "Check.__init__" (defArgs sCInit) (defBody sCInit) (defScope sCInit) .none kVcin dccin pmcin ancin cdcin ctcin), slcin⟩)
    (ccin : PySem.W.codeIn K cdcin "Check.__init__" = true)
    (kcin : PySem.W.keepIn K (.ref fcin) = true)
    (atak : PySem.W.findIn K (.ref C) "takes" = some (some (.ref ftak)))
    (itak : PySem.W.isFn K (.ref ftak) = true)
    (ltak : K.lookup ftak = some ⟨octak, odtak, .func (PySem.W.fnOf "takes" "Check.takes" (defArgs sTakes) (defBody sTakes) (defScope sTakes) .none kVtak dctak pmtak antak cdtak cttak), sltak⟩)
    (ctak : PySem.W.codeIn K cdtak "Check.takes" = true)
    (ktak : PySem.W.keepIn K (.ref ftak) = true)
    (aknw : PySem.W.findIn K (.ref C) "knows" = some (some (.ref fknw)))
    (iknw : PySem.W.isFn K (.ref fknw) = true)
    (lknw : K.lookup fknw = some ⟨ocknw, odknw, .func (PySem.W.fnOf "knows" "Check.knows" (defArgs sKnows) (defBody sKnows) (defScope sKnows) .none kVknw dcknw pmknw anknw cdknw ctknw), slknw⟩)
    (cknw : PySem.W.codeIn K cdknw "Check.knows" = true)
    (kknw : PySem.W.keepIn K (.ref fknw) = true)
    (afin : PySem.W.findIn K (.ref C) "fault_in" = some (some (.ref ffin)))
    (ifin : PySem.W.isFn K (.ref ffin) = true)
    (lfin : K.lookup ffin = some ⟨ocfin, odfin, .func (PySem.W.fnOf "fault_in" "Check.fault_in" (defArgs sFault) (defBody sFault) (defScope sFault) .none kVfin dcfin pmfin anfin cdfin ctfin), slfin⟩)
    (cfin : PySem.W.codeIn K cdfin "Check.fault_in" = true)
    (kfin : PySem.W.keepIn K (.ref ffin) = true)
    (abin : PySem.W.findIn K (.ref CB) "__init__" = some (some (.ref fbin)))
    (ibin : PySem.W.isFn K (.ref fbin) = true)
    (lbin : K.lookup fbin = some ⟨ocbin, odbin, .func (PySem.W.fnOf "__init__" "BadBook.__init__" (defArgs sBadInit) (defBody sBadInit) (defScope sBadInit) .none kVbin dcbin pmbin anbin cdbin ctbin), slbin⟩)
    (cbin : PySem.W.codeIn K cdbin "BadBook.__init__" = true)
    (kbin : PySem.W.keepIn K (.ref fbin) = true)
    (arin : PySem.W.findIn K (.ref CR) "__init__" = some (some (.ref frin)))
    (irin : PySem.W.isFn K (.ref frin) = true)
    (lrin : K.lookup frin = some ⟨ocrin, odrin, .func (PySem.W.fnOf "__init__" "Reader.__init__" (defArgs sRIni) (defBody sRIni) (defScope sRIni) .none kVrin dcrin pmrin anrin cdrin ctrin), slrin⟩)
    (crin : PySem.W.codeIn K cdrin "Reader.__init__" = true)
    (krin : PySem.W.keepIn K (.ref frin) = true)
    (apek : PySem.W.findIn K (.ref CR) "peek" = some (some (.ref fpek)))
    (ipek : PySem.W.isFn K (.ref fpek) = true)
    (lpek : K.lookup fpek = some ⟨ocpek, odpek, .func (PySem.W.fnOf "peek" "Reader.peek" (defArgs sPeek) (defBody sPeek) (defScope sPeek) .none kVpek dcpek pmpek anpek cdpek ctpek), slpek⟩)
    (cpek : PySem.W.codeIn K cdpek "Reader.peek" = true)
    (kpek : PySem.W.keepIn K (.ref fpek) = true)
    (atke : PySem.W.findIn K (.ref CR) "take" = some (some (.ref ftke)))
    (itke : PySem.W.isFn K (.ref ftke) = true)
    (ltke : K.lookup ftke = some ⟨octke, odtke, .func (PySem.W.fnOf "take" "Reader.take" (defArgs sTake) (defBody sTake) (defScope sTake) .none kVtke dctke pmtke antke cdtke cttke), sltke⟩)
    (ctke : PySem.W.codeIn K cdtke "Reader.take" = true)
    (ktke : PySem.W.keepIn K (.ref ftke) = true)
    (atkw : PySem.W.findIn K (.ref CR) "take_word" = some (some (.ref ftkw)))
    (itkw : PySem.W.isFn K (.ref ftkw) = true)
    (ltkw : K.lookup ftkw = some ⟨octkw, odtkw, .func (PySem.W.fnOf "take_word" "Reader.take_word" (defArgs sTakeW) (defBody sTakeW) (defScope sTakeW) .none kVtkw dctkw pmtkw antkw cdtkw cttkw), sltkw⟩)
    (ctkw : PySem.W.codeIn K cdtkw "Reader.take_word" = true)
    (ktkw : PySem.W.keepIn K (.ref ftkw) = true)
    (atkn : PySem.W.findIn K (.ref CR) "take_name" = some (some (.ref ftkn)))
    (itkn : PySem.W.isFn K (.ref ftkn) = true)
    (ltkn : K.lookup ftkn = some ⟨octkn, odtkn, .func (PySem.W.fnOf "take_name" "Reader.take_name" (defArgs sTakeN) (defBody sTakeN) (defScope sTakeN) .none kVtkn dctkn pmtkn antkn cdtkn cttkn), sltkn⟩)
    (ctkn : PySem.W.codeIn K cdtkn "Reader.take_name" = true)
    (ktkn : PySem.W.keepIn K (.ref ftkn) = true)
    (atks : PySem.W.findIn K (.ref CR) "take_names" = some (some (.ref ftks)))
    (itks : PySem.W.isFn K (.ref ftks) = true)
    (ltks : K.lookup ftks = some ⟨octks, odtks, .func (PySem.W.fnOf "take_names" "Reader.take_names" (defArgs sTkN) (defBody sTkN) (defScope sTkN) .none kVtks dctks pmtks antks cdtks cttks), sltks⟩)
    (ctks : PySem.W.codeIn K cdtks "Reader.take_names" = true)
    (ktks : PySem.W.keepIn K (.ref ftks) = true)
    (asee : PySem.W.findIn K (.ref CR) "sees_number" = some (some (.ref fsee)))
    (isee : PySem.W.isFn K (.ref fsee) = true)
    (lsee : K.lookup fsee = some ⟨ocsee, odsee, .func (PySem.W.fnOf "sees_number" "Reader.sees_number" (defArgs sSees) (defBody sSees) (defScope sSees) .none kVsee dcsee pmsee ansee cdsee ctsee), slsee⟩)
    (csee : PySem.W.codeIn K cdsee "Reader.sees_number" = true)
    (ksee : PySem.W.keepIn K (.ref fsee) = true)
    (atki : PySem.W.findIn K (.ref CR) "take_number" = some (some (.ref ftki)))
    (itki : PySem.W.isFn K (.ref ftki) = true)
    (ltki : K.lookup ftki = some ⟨octki, odtki, .func (PySem.W.fnOf "take_number" "Reader.take_number" (defArgs sTakeI) (defBody sTakeI) (defScope sTakeI) .none kVtki dctki pmtki antki cdtki cttki), sltki⟩)
    (ctki : PySem.W.codeIn K cdtki "Reader.take_number" = true)
    (ktki : PySem.W.keepIn K (.ref ftki) = true)
    (arbl : PySem.W.findIn K (.ref CR) "take_block" = some (some (.ref frbl)))
    (irbl : PySem.W.isFn K (.ref frbl) = true)
    (lrbl : K.lookup frbl = some ⟨ocrbl, odrbl, .func (PySem.W.fnOf "take_block" "Reader.take_block" (defArgs sTkB) (defBody sTkB) (defScope sTkB) .none kVrbl dcrbl pmrbl anrbl cdrbl ctrbl), slrbl⟩)
    (crbl : PySem.W.codeIn K cdrbl "Reader.take_block" = true)
    (krbl : PySem.W.keepIn K (.ref frbl) = true)
    (arrs : PySem.W.findIn K (.ref CR) "take_rows" = some (some (.ref frrs)))
    (irrs : PySem.W.isFn K (.ref frrs) = true)
    (lrrs : K.lookup frrs = some ⟨ocrrs, odrrs, .func (PySem.W.fnOf "take_rows" "Reader.take_rows" (defArgs sTkR) (defBody sTkR) (defScope sTkR) .none kVrrs dcrrs pmrrs anrrs cdrrs ctrrs), slrrs⟩)
    (crrs : PySem.W.codeIn K cdrrs "Reader.take_rows" = true)
    (krrs : PySem.W.keepIn K (.ref frrs) = true)
    (arrw : PySem.W.findIn K (.ref CR) "take_row" = some (some (.ref frrw)))
    (irrw : PySem.W.isFn K (.ref frrw) = true)
    (lrrw : K.lookup frrw = some ⟨ocrrw, odrrw, .func (PySem.W.fnOf "take_row" "Reader.take_row" (defArgs sTkS) (defBody sTkS) (defScope sTkS) .none kVrrw dcrrw pmrrw anrrw cdrrw ctrrw), slrrw⟩)
    (crrw : PySem.W.codeIn K cdrrw "Reader.take_row" = true)
    (krrw : PySem.W.keepIn K (.ref frrw) = true)
    (arpt : PySem.W.findIn K (.ref CR) "take_part" = some (some (.ref frpt)))
    (irpt : PySem.W.isFn K (.ref frpt) = true)
    (lrpt : K.lookup frpt = some ⟨ocrpt, odrpt, .func (PySem.W.fnOf "take_part" "Reader.take_part" (defArgs sTkP) (defBody sTkP) (defScope sTkP) .none kVrpt dcrpt pmrpt anrpt cdrpt ctrpt), slrpt⟩)
    (crpt : PySem.W.codeIn K cdrpt "Reader.take_part" = true)
    (krpt : PySem.W.keepIn K (.ref frpt) = true)
    (aisn : PySem.W.nsIn K mainGlobals "is_name" = some (some (.ref fisn)))
    (lisn : K.lookup fisn = some ⟨ocisn, odisn, .func (PySem.W.fnOf "is_name" "is_name" (defArgs BK.sName) (defBody BK.sName) (defScope BK.sName) .none kVisn dcisn pmisn anisn cdisn ctisn), slisn⟩)
    (cisn : PySem.W.codeIn K cdisn "is_name" = true)
    (kisn : PySem.W.keepIn K (.ref fisn) = true)
    (aarn : PySem.W.nsIn K mainGlobals "are_names" = some (some (.ref farn)))
    (larn : K.lookup farn = some ⟨ocarn, odarn, .func (PySem.W.fnOf "are_names" "are_names" (defArgs sAreNames) (defBody sAreNames) (defScope sAreNames) .none kVarn dcarn pmarn anarn cdarn ctarn), slarn⟩)
    (carn : PySem.W.codeIn K cdarn "are_names" = true)
    (karn : PySem.W.keepIn K (.ref farn) = true)
    (aitg : PySem.W.nsIn K mainGlobals "is_integer" = some (some (.ref fitg)))
    (litg : K.lookup fitg = some ⟨ocitg, oditg, .func (PySem.W.fnOf "is_integer" "is_integer" (defArgs sInteger) (defBody sInteger) (defScope sInteger) .none kVitg dcitg pmitg anitg cditg ctitg), slitg⟩)
    (citg : PySem.W.codeIn K cditg "is_integer" = true)
    (kitg : PySem.W.keepIn K (.ref fitg) = true)
    (anum : PySem.W.nsIn K mainGlobals "is_number" = some (some (.ref fnum)))
    (lnum : K.lookup fnum = some ⟨ocnum, odnum, .func (PySem.W.fnOf "is_number" "is_number" (defArgs sNumber) (defBody sNumber) (defScope sNumber) .none kVnum dcnum pmnum annum cdnum ctnum), slnum⟩)
    (cnum : PySem.W.codeIn K cdnum "is_number" = true)
    (knum : PySem.W.keepIn K (.ref fnum) = true)
    (atup : PySem.W.nsIn K mainGlobals "is_tuple" = some (some (.ref ftup)))
    (ltup : K.lookup ftup = some ⟨octup, odtup, .func (PySem.W.fnOf "is_tuple" "is_tuple" (defArgs sTuple) (defBody sTuple) (defScope sTuple) .none kVtup dctup pmtup antup cdtup cttup), sltup⟩)
    (ctup : PySem.W.codeIn K cdtup "is_tuple" = true)
    (ktup : PySem.W.keepIn K (.ref ftup) = true)
    (adif : PySem.W.nsIn K mainGlobals "are_different_names" = some (some (.ref fdif)))
    (ldif : K.lookup fdif = some ⟨ocdif, oddif, .func (PySem.W.fnOf "are_different_names" "are_different_names" (defArgs sDiff) (defBody sDiff) (defScope sDiff) .none kVdif dcdif pmdif andif cddif ctdif), sldif⟩)
    (cdif : PySem.W.codeIn K cddif "are_different_names" = true)
    (kdif : PySem.W.keepIn K (.ref fdif) = true)
    (aprt : PySem.W.nsIn K mainGlobals "is_part" = some (some (.ref fprt)))
    (lprt : K.lookup fprt = some ⟨ocprt, odprt, .func (PySem.W.fnOf "is_part" "is_part" (defArgs sPart) (defBody sPart) (defScope sPart) .none kVprt dcprt pmprt anprt cdprt ctprt), slprt⟩)
    (cprt : PySem.W.codeIn K cdprt "is_part" = true)
    (kprt : PySem.W.keepIn K (.ref fprt) = true)
    (awrd : PySem.W.nsIn K mainGlobals "word_of" = some (some (.ref fwrd)))
    (lwrd : K.lookup fwrd = some ⟨ocwrd, odwrd, .func (PySem.W.fnOf "word_of" "word_of" (defArgs sWord) (defBody sWord) (defScope sWord) .none kVwrd dcwrd pmwrd anwrd cdwrd ctwrd), slwrd⟩)
    (cwrd : PySem.W.codeIn K cdwrd "word_of" = true)
    (kwrd : PySem.W.keepIn K (.ref fwrd) = true)
    (afit : PySem.W.nsIn K mainGlobals "fits" = some (some (.ref ffit)))
    (lfit : K.lookup ffit = some ⟨ocfit, odfit, .func (PySem.W.fnOf "fits" "fits" (defArgs sFits) (defBody sFits) (defScope sFits) .none kVfit dcfit pmfit anfit cdfit ctfit), slfit⟩)
    (cfit : PySem.W.codeIn K cdfit "fits" = true)
    (kfit : PySem.W.keepIn K (.ref ffit) = true)
    (afrm : PySem.W.nsIn K mainGlobals "has_form" = some (some (.ref ffrm)))
    (lfrm : K.lookup ffrm = some ⟨ocfrm, odfrm, .func (PySem.W.fnOf "has_form" "has_form" (defArgs sForm) (defBody sForm) (defScope sForm) .none kVfrm dcfrm pmfrm anfrm cdfrm ctfrm), slfrm⟩)
    (cfrm : PySem.W.codeIn K cdfrm "has_form" = true)
    (kfrm : PySem.W.keepIn K (.ref ffrm) = true)
    (apts : PySem.W.nsIn K mainGlobals "parts_of" = some (some (.ref fpts)))
    (lpts : K.lookup fpts = some ⟨ocpts, odpts, .func (PySem.W.fnOf "parts_of" "parts_of" (defArgs sParts) (defBody sParts) (defScope sParts) .none kVpts dcpts pmpts anpts cdpts ctpts), slpts⟩)
    (cpts : PySem.W.codeIn K cdpts "parts_of" = true)
    (kpts : PySem.W.keepIn K (.ref fpts) = true)
    (ablk : PySem.W.nsIn K mainGlobals "blocks_of" = some (some (.ref fblk)))
    (lblk : K.lookup fblk = some ⟨ocblk, odblk, .func (PySem.W.fnOf "blocks_of" "blocks_of" (defArgs sBlocks) (defBody sBlocks) (defScope sBlocks) .none kVblk dcblk pmblk anblk cdblk ctblk), slblk⟩)
    (cblk : PySem.W.codeIn K cdblk "blocks_of" = true)
    (kblk : PySem.W.keepIn K (.ref fblk) = true)
    (acan : PySem.W.nsIn K mainGlobals "can_stand" = some (some (.ref fcan)))
    (lcan : K.lookup fcan = some ⟨occan, odcan, .func (PySem.W.fnOf "can_stand" "can_stand" (defArgs sCan) (defBody sCan) (defScope sCan) .none kVcan dccan pmcan ancan cdcan ctcan), slcan⟩)
    (ccan : PySem.W.codeIn K cdcan "can_stand" = true)
    (kcan : PySem.W.keepIn K (.ref fcan) = true)
    (ahyi : PySem.W.nsIn K mainGlobals "has_yield" = some (some (.ref fhyi)))
    (lhyi : K.lookup fhyi = some ⟨ochyi, odhyi, .func (PySem.W.fnOf "has_yield" "has_yield" (defArgs sYield) (defBody sYield) (defScope sYield) .none kVhyi dchyi pmhyi anhyi cdhyi cthyi), slhyi⟩)
    (chyi : PySem.W.codeIn K cdhyi "has_yield" = true)
    (khyi : PySem.W.keepIn K (.ref fhyi) = true)
    (aknd : PySem.W.nsIn K mainGlobals "is_kind" = some (some (.ref fknd)))
    (lknd : K.lookup fknd = some ⟨ocknd, odknd, .func (PySem.W.fnOf "is_kind" "is_kind" (defArgs sKind) (defBody sKind) (defScope sKind) .none kVknd dcknd pmknd anknd cdknd ctknd), slknd⟩)
    (cknd : PySem.W.codeIn K cdknd "is_kind" = true)
    (kknd : PySem.W.keepIn K (.ref fknd) = true)
    (aprm : PySem.W.nsIn K mainGlobals "are_params" = some (some (.ref fprm)))
    (lprm : K.lookup fprm = some ⟨ocprm, odprm, .func (PySem.W.fnOf "are_params" "are_params" (defArgs sParams) (defBody sParams) (defScope sParams) .none kVprm dcprm pmprm anprm cdprm ctprm), slprm⟩)
    (cprm : PySem.W.codeIn K cdprm "are_params" = true)
    (kprm : PySem.W.keepIn K (.ref fprm) = true)
    (atrp : PySem.W.nsIn K mainGlobals "is_triple" = some (some (.ref ftrp)))
    (ltrp : K.lookup ftrp = some ⟨octrp, odtrp, .func (PySem.W.fnOf "is_triple" "is_triple" (defArgs sTriple) (defBody sTriple) (defScope sTriple) .none kVtrp dctrp pmtrp antrp cdtrp cttrp), sltrp⟩)
    (ctrp : PySem.W.codeIn K cdtrp "is_triple" = true)
    (ktrp : PySem.W.keepIn K (.ref ftrp) = true)
    (afpc : PySem.W.nsIn K mainGlobals "fault_of_pieces" = some (some (.ref ffpc)))
    (lfpc : K.lookup ffpc = some ⟨ocfpc, odfpc, .func (PySem.W.fnOf "fault_of_pieces" "fault_of_pieces" (defArgs sPieces) (defBody sPieces) (defScope sPieces) .none kVfpc dcfpc pmfpc anfpc cdfpc ctfpc), slfpc⟩)
    (cfpc : PySem.W.codeIn K cdfpc "fault_of_pieces" = true)
    (kfpc : PySem.W.keepIn K (.ref ffpc) = true)
    (aflt : PySem.W.nsIn K mainGlobals "fault_of" = some (some (.ref fflt)))
    (lflt : K.lookup fflt = some ⟨ocflt, odflt, .func (PySem.W.fnOf "fault_of" "fault_of" (defArgs sFaultOf) (defBody sFaultOf) (defScope sFaultOf) .none kVflt dcflt pmflt anflt cdflt ctflt), slflt⟩)
    (cflt : PySem.W.codeIn K cdflt "fault_of" = true)
    (kflt : PySem.W.keepIn K (.ref fflt) = true)
    (anee : PySem.W.nsIn K mainGlobals "need_book" = some (some (.ref fnee)))
    (lnee : K.lookup fnee = some ⟨ocnee, odnee, .func (PySem.W.fnOf "need_book" "need_book" (defArgs sNeed) (defBody sNeed) (defScope sNeed) .none kVnee dcnee pmnee annee cdnee ctnee), slnee⟩)
    (cnee : PySem.W.codeIn K cdnee "need_book" = true)
    (knee : PySem.W.keepIn K (.ref fnee) = true)
    (awof : PySem.W.nsIn K mainGlobals "words_of" = some (some (.ref fwof)))
    (lwof : K.lookup fwof = some ⟨ocwof, odwof, .func (PySem.W.fnOf "words_of" "words_of" (defArgs sWo) (defBody sWo) (defScope sWo) .none kVwof dcwof pmwof anwof cdwof ctwof), slwof⟩)
    (cwof : PySem.W.codeIn K cdwof "words_of" = true)
    (kwof : PySem.W.keepIn K (.ref fwof) = true)
    (awob : PySem.W.nsIn K mainGlobals "words_of_block" = some (some (.ref fwob)))
    (lwob : K.lookup fwob = some ⟨ocwob, odwob, .func (PySem.W.fnOf "words_of_block" "words_of_block" (defArgs sBw) (defBody sBw) (defScope sBw) .none kVwob dcwob pmwob anwob cdwob ctwob), slwob⟩)
    (cwob : PySem.W.codeIn K cdwob "words_of_block" = true)
    (kwob : PySem.W.keepIn K (.ref fwob) = true)
    (awop : PySem.W.nsIn K mainGlobals "words_of_part" = some (some (.ref fwop)))
    (lwop : K.lookup fwop = some ⟨ocwop, odwop, .func (PySem.W.fnOf "words_of_part" "words_of_part" (defArgs sPw) (defBody sPw) (defScope sPw) .none kVwop dcwop pmwop anwop cdwop ctwop), slwop⟩)
    (cwop : PySem.W.codeIn K cdwop "words_of_part" = true)
    (kwop : PySem.W.keepIn K (.ref fwop) = true)
    (adig : PySem.W.nsIn K mainGlobals "is_digits" = some (some (.ref fdig)))
    (ldig : K.lookup fdig = some ⟨ocdig, oddig, .func (PySem.W.fnOf "is_digits" "is_digits" (defArgs sDig) (defBody sDig) (defScope sDig) .none kVdig dcdig pmdig andig cddig ctdig), sldig⟩)
    (cdig : PySem.W.codeIn K cddig "is_digits" = true)
    (kdig : PySem.W.keepIn K (.ref fdig) = true)
    (awpi : PySem.W.nsIn K mainGlobals "words_of_piece" = some (some (.ref fwpi)))
    (lwpi : K.lookup fwpi = some ⟨ocwpi, odwpi, .func (PySem.W.fnOf "words_of_piece" "words_of_piece" (defArgs sPiece) (defBody sPiece) (defScope sPiece) .none kVwpi dcwpi pmwpi anwpi cdwpi ctwpi), slwpi⟩)
    (cwpi : PySem.W.codeIn K cdwpi "words_of_piece" = true)
    (kwpi : PySem.W.keepIn K (.ref fwpi) = true)
    (atxt : PySem.W.nsIn K mainGlobals "book_text" = some (some (.ref ftxt)))
    (ltxt : K.lookup ftxt = some ⟨octxt, odtxt, .func (PySem.W.fnOf "book_text" "book_text" (defArgs sText) (defBody sText) (defScope sText) .none kVtxt dctxt pmtxt antxt cdtxt cttxt), sltxt⟩)
    (ctxt : PySem.W.codeIn K cdtxt "book_text" = true)
    (ktxt : PySem.W.keepIn K (.ref ftxt) = true)
    (atpr : PySem.W.nsIn K mainGlobals "take_params" = some (some (.ref ftpr)))
    (ltpr : K.lookup ftpr = some ⟨octpr, odtpr, .func (PySem.W.fnOf "take_params" "take_params" (defArgs sTPar) (defBody sTPar) (defScope sTPar) .none kVtpr dctpr pmtpr antpr cdtpr cttpr), sltpr⟩)
    (ctpr : PySem.W.codeIn K cdtpr "take_params" = true)
    (ktpr : PySem.W.keepIn K (.ref ftpr) = true)
    (atpi : PySem.W.nsIn K mainGlobals "take_piece" = some (some (.ref ftpi)))
    (ltpi : K.lookup ftpi = some ⟨octpi, odtpi, .func (PySem.W.fnOf "take_piece" "take_piece" (defArgs sTPie) (defBody sTPie) (defScope sTPie) .none kVtpi dctpi pmtpi antpi cdtpi cttpi), sltpi⟩)
    (ctpi : PySem.W.codeIn K cdtpi "take_piece" = true)
    (ktpi : PySem.W.keepIn K (.ref ftpi) = true)
    (atbk : PySem.W.nsIn K mainGlobals "take_book" = some (some (.ref ftbk)))
    (ltbk : K.lookup ftbk = some ⟨octbk, odtbk, .func (PySem.W.fnOf "take_book" "take_book" (defArgs sTBk) (defBody sTBk) (defScope sTBk) .none kVtbk dctbk pmtbk antbk cdtbk cttbk), sltbk⟩)
    (ctbk : PySem.W.codeIn K cdtbk "take_book" = true)
    (ktbk : PySem.W.keepIn K (.ref ftbk) = true)
    (arbk : PySem.W.nsIn K mainGlobals "read_book" = some (some (.ref frbk)))
    (lrbk : K.lookup frbk = some ⟨ocrbk, odrbk, .func (PySem.W.fnOf "read_book" "read_book" (defArgs sRb) (defBody sRb) (defScope sRb) .none kVrbk dcrbk pmrbk anrbk cdrbk ctrbk), slrbk⟩)
    (crbk : PySem.W.codeIn K cdrbk "read_book" = true)
    (krbk : PySem.W.keepIn K (.ref frbk) = true)
    (amix : PySem.W.nsIn K mainGlobals "_law_mixed" = some (some (.ref fmix)))
    (lmix : K.lookup fmix = some ⟨ocmix, odmix, .func (PySem.W.fnOf "_law_mixed" "_law_mixed" (defArgs SW.sMixed) (defBody SW.sMixed) (defScope SW.sMixed) .none kVmix dcmix pmmix anmix cdmix ctmix), slmix⟩)
    (cmix : PySem.W.codeIn K cdmix "_law_mixed" = true)
    (kmix : PySem.W.keepIn K (.ref fmix) = true)
    (abeg : PySem.W.nsIn K mainGlobals "_law_begin" = some (some (.ref fbeg)))
    (lbeg : K.lookup fbeg = some ⟨ocbeg, odbeg, .func (PySem.W.fnOf "_law_begin" "_law_begin" (defArgs SW.sBegin) (defBody SW.sBegin) (defScope SW.sBegin) .none kVbeg dcbeg pmbeg anbeg cdbeg ctbeg), slbeg⟩)
    (cbeg : PySem.W.codeIn K cdbeg "_law_begin" = true)
    (kbeg : PySem.W.keepIn K (.ref fbeg) = true)
    (adrw : PySem.W.nsIn K mainGlobals "_law_draw" = some (some (.ref fdrw)))
    (ldrw : K.lookup fdrw = some ⟨ocdrw, oddrw, .func (PySem.W.fnOf "_law_draw" "_law_draw" (defArgs SW.sDraw) (defBody SW.sDraw) (defScope SW.sDraw) .none kVdrw dcdrw pmdrw andrw cddrw ctdrw), sldrw⟩)
    (cdrw : PySem.W.codeIn K cddrw "_law_draw" = true)
    (kdrw : PySem.W.keepIn K (.ref fdrw) = true)
    (alof : PySem.W.nsIn K mainGlobals "_law_of" = some (some (.ref flof)))
    (llof : K.lookup flof = some ⟨oclof, odlof, .func (PySem.W.fnOf "_law_of" "_law_of" (defArgs SW.sOf) (defBody SW.sOf) (defScope SW.sOf) .none kVlof dclof pmlof anlof cdlof ctlof), sllof⟩)
    (clof : PySem.W.codeIn K cdlof "_law_of" = true)
    (klof : PySem.W.keepIn K (.ref flof) = true)
    (anam : PySem.W.nsIn K mainGlobals "_law_name" = some (some (.ref fnam)))
    (lnam : K.lookup fnam = some ⟨ocnam, odnam, .func (PySem.W.fnOf "_law_name" "_law_name" (defArgs SW.sName) (defBody SW.sName) (defScope SW.sName) .none kVnam dcnam pmnam annam cdnam ctnam), slnam⟩)
    (cnam : PySem.W.codeIn K cdnam "_law_name" = true)
    (knam : PySem.W.keepIn K (.ref fnam) = true)
    (anms : PySem.W.nsIn K mainGlobals "_law_names" = some (some (.ref fnms)))
    (lnms : K.lookup fnms = some ⟨ocnms, odnms, .func (PySem.W.fnOf "_law_names" "_law_names" (defArgs SW.sNames) (defBody SW.sNames) (defScope SW.sNames) .none kVnms dcnms pmnms annms cdnms ctnms), slnms⟩)
    (cnms : PySem.W.codeIn K cdnms "_law_names" = true)
    (knms : PySem.W.keepIn K (.ref fnms) = true)
    (alfr : PySem.W.nsIn K mainGlobals "_law_from" = some (some (.ref flfr)))
    (llfr : K.lookup flfr = some ⟨oclfr, odlfr, .func (PySem.W.fnOf "_law_from" "_law_from" (defArgs sFrom) (defBody sFrom) (defScope sFrom) .none kVlfr dclfr pmlfr anlfr cdlfr ctlfr), sllfr⟩)
    (clfr : PySem.W.codeIn K cdlfr "_law_from" = true)
    (klfr : PySem.W.keepIn K (.ref flfr) = true)
    (alef : PySem.W.nsIn K mainGlobals "_law_leaf" = some (some (.ref flef)))
    (llef : K.lookup flef = some ⟨oclef, odlef, .func (PySem.W.fnOf "_law_leaf" "_law_leaf" (defArgs sLeaf) (defBody sLeaf) (defScope sLeaf) .none kVlef dclef pmlef anlef cdlef ctlef), sllef⟩)
    (clef : PySem.W.codeIn K cdlef "_law_leaf" = true)
    (klef : PySem.W.keepIn K (.ref flef) = true)
    (alst : PySem.W.nsIn K mainGlobals "_law_statement" = some (some (.ref flst)))
    (llst : K.lookup flst = some ⟨oclst, odlst, .func (PySem.W.fnOf "_law_statement" "_law_statement" (defArgs sStA) (defBody sStA) (defScope sStA) .none kVlst dclst pmlst anlst cdlst ctlst), sllst⟩)
    (clst : PySem.W.codeIn K cdlst "_law_statement" = true)
    (klst : PySem.W.keepIn K (.ref flst) = true)
    (albl : PySem.W.nsIn K mainGlobals "_law_block" = some (some (.ref flbl)))
    (llbl : K.lookup flbl = some ⟨oclbl, odlbl, .func (PySem.W.fnOf "_law_block" "_law_block" (defArgs sBlA) (defBody sBlA) (defScope sBlA) .none kVlbl dclbl pmlbl anlbl cdlbl ctlbl), sllbl⟩)
    (clbl : PySem.W.codeIn K cdlbl "_law_block" = true)
    (klbl : PySem.W.keepIn K (.ref flbl) = true)
    (alpi : PySem.W.nsIn K mainGlobals "_law_piece" = some (some (.ref flpi)))
    (llpi : K.lookup flpi = some ⟨oclpi, odlpi, .func (PySem.W.fnOf "_law_piece" "_law_piece" (defArgs sPie) (defBody sPie) (defScope sPie) .none kVlpi dclpi pmlpi anlpi cdlpi ctlpi), sllpi⟩)
    (clpi : PySem.W.codeIn K cdlpi "_law_piece" = true)
    (klpi : PySem.W.keepIn K (.ref flpi) = true)
    (albk : PySem.W.nsIn K mainGlobals "_law_book" = some (some (.ref flbk)))
    (llbk : K.lookup flbk = some ⟨oclbk, odlbk, .func (PySem.W.fnOf "_law_book" "_law_book" (defArgs sLBk) (defBody sLBk) (defScope sLBk) .none kVlbk dclbk pmlbk anlbk cdlbk ctlbk), sllbk⟩)
    (clbk : PySem.W.codeIn K cdlbk "_law_book" = true)
    (klbk : PySem.W.keepIn K (.ref flbk) = true)
    (albw : PySem.W.nsIn K mainGlobals "_law_block_words" = some (some (.ref flbw)))
    (llbw : K.lookup flbw = some ⟨oclbw, odlbw, .func (PySem.W.fnOf "_law_block_words" "_law_block_words" (defArgs sLBW) (defBody sLBW) (defScope sLBW) .none kVlbw dclbw pmlbw anlbw cdlbw ctlbw), sllbw⟩)
    (clbw : PySem.W.codeIn K cdlbw "_law_block_words" = true)
    (klbw : PySem.W.keepIn K (.ref flbw) = true)
    (alkw : PySem.W.nsIn K mainGlobals "_law_book_words" = some (some (.ref flkw)))
    (llkw : K.lookup flkw = some ⟨oclkw, odlkw, .func (PySem.W.fnOf "_law_book_words" "_law_book_words" (defArgs sLKW) (defBody sLKW) (defScope sLKW) .none kVlkw dclkw pmlkw anlkw cdlkw ctlkw), sllkw⟩)
    (clkw : PySem.W.codeIn K cdlkw "_law_book_words" = true)
    (klkw : PySem.W.keepIn K (.ref flkw) = true)
    (alsi : PySem.W.nsIn K mainGlobals "_law_is_sign" = some (some (.ref flsi)))
    (llsi : K.lookup flsi = some ⟨oclsi, odlsi, .func (PySem.W.fnOf "_law_is_sign" "_law_is_sign" (defArgs sLSi) (defBody sLSi) (defScope sLSi) .none kVlsi dclsi pmlsi anlsi cdlsi ctlsi), sllsi⟩)
    (clsi : PySem.W.codeIn K cdlsi "_law_is_sign" = true)
    (klsi : PySem.W.keepIn K (.ref flsi) = true)
    (alti : PySem.W.nsIn K mainGlobals "_law_tight" = some (some (.ref flti)))
    (llti : K.lookup flti = some ⟨oclti, odlti, .func (PySem.W.fnOf "_law_tight" "_law_tight" (defArgs sLTi) (defBody sLTi) (defScope sLTi) .none kVlti dclti pmlti anlti cdlti ctlti), sllti⟩)
    (clti : PySem.W.codeIn K cdlti "_law_tight" = true)
    (klti : PySem.W.keepIn K (.ref flti) = true)
    (alsp : PySem.W.nsIn K mainGlobals "_law_spread" = some (some (.ref flsp)))
    (llsp : K.lookup flsp = some ⟨oclsp, odlsp, .func (PySem.W.fnOf "_law_spread" "_law_spread" (defArgs sLSp) (defBody sLSp) (defScope sLSp) .none kVlsp dclsp pmlsp anlsp cdlsp ctlsp), sllsp⟩)
    (clsp : PySem.W.codeIn K cdlsp "_law_spread" = true)
    (klsp : PySem.W.keepIn K (.ref flsp) = true)
    (alrt : PySem.W.nsIn K mainGlobals "_law_right" = some (some (.ref flrt)))
    (llrt : K.lookup flrt = some ⟨oclrt, odlrt, .func (PySem.W.fnOf "_law_right" "_law_right" (defArgs sLRt) (defBody sLRt) (defScope sLRt) .none kVlrt dclrt pmlrt anlrt cdlrt ctlrt), sllrt⟩)
    (clrt : PySem.W.codeIn K cdlrt "_law_right" = true)
    (klrt : PySem.W.keepIn K (.ref flrt) = true)
    (alex : PySem.W.nsIn K mainGlobals "_law_example" = some (some (.ref flex)))
    (llex : K.lookup flex = some ⟨oclex, odlex, .func (PySem.W.fnOf "_law_example" "_law_example" (defArgs sLEx) (defBody sLEx) (defScope sLEx) .none kVlex dclex pmlex anlex cdlex ctlex), sllex⟩)
    (clex : PySem.W.codeIn K cdlex "_law_example" = true)
    (klex : PySem.W.keepIn K (.ref flex) = true)
    (algr : PySem.W.nsIn K mainGlobals "_law_great" = some (some (.ref flgr)))
    (llgr : K.lookup flgr = some ⟨oclgr, odlgr, .func (PySem.W.fnOf "_law_great" "_law_great" (defArgs sLGr) (defBody sLGr) (defScope sLGr) .none kVlgr dclgr pmlgr anlgr cdlgr ctlgr), sllgr⟩)
    (clgr : PySem.W.codeIn K cdlgr "_law_great" = true)
    (klgr : PySem.W.keepIn K (.ref flgr) = true)
    (alaw : PySem.W.nsIn K mainGlobals "law" = some (some (.ref flaw)))
    (llaw : K.lookup flaw = some ⟨oclaw, odlaw, .func (PySem.W.fnOf "law" "law" (defArgs sLaw) (defBody sLaw) (defScope sLaw) .none kVlaw dclaw pmlaw anlaw cdlaw ctlaw), sllaw⟩)
    (claw : PySem.W.codeIn K cdlaw "law" = true)
    (klaw : PySem.W.keepIn K (.ref flaw) = true)
    (v_LETTERS : PySem.W.nsIn K mainGlobals "LETTERS" = some (some (.str "abcdefghijklmnopqrstuvwxyz" t_LETTERS)))
    (v_RUN_SIGNS : PySem.W.nsIn K mainGlobals "RUN_SIGNS" = some (some (.str "abcdefghijklmnopqrstuvwxyz0123456789" t_RUN_SIGNS)))
    (v_BLANKS : PySem.W.nsIn K mainGlobals "BLANKS" = some (some (.str " \n" t_BLANKS)))
    (v_DIGITS : PySem.W.nsIn K mainGlobals "DIGITS" = some (some (.str "0123456789" t_DIGITS)))
    (v_MOST_LETTERS : PySem.W.nsIn K mainGlobals "MOST_LETTERS" = some (some (.int 8 t_MOST_LETTERS)))
    (v_MOST_NUMBER : PySem.W.nsIn K mainGlobals "MOST_NUMBER" = some (some (.int 99 t_MOST_NUMBER)))
    (v_MOST_VALUE : PySem.W.nsIn K mainGlobals "MOST_VALUE" = some (some (.int 9999 t_MOST_VALUE)))
    (v_MOST_PIECES : PySem.W.nsIn K mainGlobals "MOST_PIECES" = some (some (.int 6 t_MOST_PIECES)))
    (v_MOST_VARS : PySem.W.nsIn K mainGlobals "MOST_VARS" = some (some (.int 3 t_MOST_VARS)))
    (v_MOST_PARAMS : PySem.W.nsIn K mainGlobals "MOST_PARAMS" = some (some (.int 2 t_MOST_PARAMS)))
    (v_MOST_STATEMENTS : PySem.W.nsIn K mainGlobals "MOST_STATEMENTS" = some (some (.int 16 t_MOST_STATEMENTS)))
    (v_MOST_AROUND : PySem.W.nsIn K mainGlobals "MOST_AROUND" = some (some (.int 4 t_MOST_AROUND)))
    (v_MOST_SIGNS : PySem.W.nsIn K mainGlobals "MOST_SIGNS" = some (some (.int 300000 t_MOST_SIGNS)))
    (v_MOST_OPEN : PySem.W.nsIn K mainGlobals "MOST_OPEN" = some (some (.int 40 t_MOST_OPEN)))
    (v_MOST_DIGITS : PySem.W.nsIn K mainGlobals "MOST_DIGITS" = some (some (.int 2 t_MOST_DIGITS)))
    (vKD : PySem.W.nsIn K mainGlobals "KINDS" = some (some (.ref aKD)))
    (lKD : K.lookup aKD = some ⟨.type "tuple", odKD, .seq #[.str "context" tKD1, .str "token" tKD2] nKD, slKD⟩)
    (vPP : PySem.W.nsIn K mainGlobals "PARTS" = some (some (.ref pP)))
    (lPP : K.lookup pP = some ⟨.type "dict", none, .dict es nP, #[]⟩)
    (litP : PySem.W.KeysLit w.params es.toList)
    (keyP : litKeys es.toList = true)
    (rfE : refsE es.toList = true)
    (ndE : decide ((es.toList.map keyE).Nodup) = true)
    (lnE : decide (es.toList.length ≤ 1000) = true)
    (lowP : (pP == sysModules) = false)
    (nP0 : PySem.W.nsIn K pP "set" = some (some (.ref p0)))
    (lP0 : K.lookup p0 = some ⟨.type "tuple", odp0, .seq #[.str "variable" q0_0, .str "source" q0_1] np0, slp0⟩)
    (nP1 : PySem.W.nsIn K pP "hold" = some (some (.ref p1)))
    (lP1 : K.lookup p1 = some ⟨.type "tuple", odp1, .seq #[.str "token" q1_0, .str "variable" q1_1, .str "source" q1_2] np1, slp1⟩)
    (nP2 : PySem.W.nsIn K pP "reset" = some (some (.ref p2)))
    (lP2 : K.lookup p2 = some ⟨.type "tuple", odp2, .seq #[.str "token" q2_0] np2, slp2⟩)
    (nP3 : PySem.W.nsIn K pP "drop" = some (some (.ref p3)))
    (lP3 : K.lookup p3 = some ⟨.type "tuple", odp3, .seq #[.str "variable" q3_0] np3, slp3⟩)
    (nP4 : PySem.W.nsIn K pP "show" = some (some (.ref p4)))
    (lP4 : K.lookup p4 = some ⟨.type "tuple", odp4, .seq #[.str "variable" q4_0] np4, slp4⟩)
    (nP5 : PySem.W.nsIn K pP "copy" = some (some (.ref p5)))
    (lP5 : K.lookup p5 = some ⟨.type "tuple", odp5, .seq #[.str "context" q5_0] np5, slp5⟩)
    (nP6 : PySem.W.nsIn K pP "within" = some (some (.ref p6)))
    (lP6 : K.lookup p6 = some ⟨.type "tuple", odp6, .seq #[.str "context" q6_0, .str "block" q6_1] np6, slp6⟩)
    (nP7 : PySem.W.nsIn K pP "if" = some (some (.ref p7)))
    (lP7 : K.lookup p7 = some ⟨.type "tuple", odp7, .seq #[.str "variable" q7_0, .str "integer" q7_1, .str "block" q7_2, .str "block" q7_3] np7, slp7⟩)
    (nP8 : PySem.W.nsIn K pP "with" = some (some (.ref p8)))
    (lP8 : K.lookup p8 = some ⟨.type "tuple", odp8, .seq #[.str "variable" q8_0, .str "source" q8_1, .str "block" q8_2] np8, slp8⟩)
    (nP9 : PySem.W.nsIn K pP "guard" = some (some (.ref p9)))
    (lP9 : K.lookup p9 = some ⟨.type "tuple", odp9, .seq #[.str "block" q9_0, .str "block" q9_1] np9, slp9⟩)
    (nP10 : PySem.W.nsIn K pP "loop" = some (some (.ref p10)))
    (lP10 : K.lookup p10 = some ⟨.type "tuple", odp10, .seq #[.str "block" q10_0] np10, slp10⟩)
    (nP11 : PySem.W.nsIn K pP "leave" = some (some (.ref p11)))
    (lP11 : K.lookup p11 = some ⟨.type "tuple", odp11, .seq #[] np11, slp11⟩)
    (nP12 : PySem.W.nsIn K pP "yield" = some (some (.ref p12)))
    (lP12 : K.lookup p12 = some ⟨.type "tuple", odp12, .seq #[] np12, slp12⟩)
    (nP13 : PySem.W.nsIn K pP "fail" = some (some (.ref p13)))
    (lP13 : K.lookup p13 = some ⟨.type "tuple", odp13, .seq #[] np13, slp13⟩)
    (pg : PySem.W.plainGet K C Str.empty = true)
    (hd : PySem.W.hasDictIn K C = true)
    (po : PySem.W.plainOver K C = true)
    (sa : PySem.W.findIn K (.ref C) "__setattr__" = some (some (.builtin "object.__setattr__")))
    (mk : PySem.W.makesIn K C = true)
    (kc : PySem.W.keepIn K (.ref C) = true)
    (nV : PySem.W.findIn K (.ref C) "variables" = some none)
    (nK : PySem.W.findIn K (.ref C) "kinds" = some none)
    (nM : PySem.W.findIn K (.ref C) "met" = some none)
    (pgR : PySem.W.plainGet K CR Str.empty = true)
    (hdR : PySem.W.hasDictIn K CR = true)
    (poR : PySem.W.plainOver K CR = true)
    (saR : PySem.W.findIn K (.ref CR) "__setattr__" = some (some (.builtin "object.__setattr__")))
    (mkR : PySem.W.makesIn K CR = true)
    (kcR : PySem.W.keepIn K (.ref CR) = true)
    (nRw : PySem.W.findIn K (.ref CR) "words" = some none)
    (nRa : PySem.W.findIn K (.ref CR) "at" = some none)
    (nRo : PySem.W.findIn K (.ref CR) "open_braces" = some none)
    (nRf : PySem.W.findIn K (.ref CR) "forms" = some none)
    (nRd : PySem.W.findIn K (.ref CR) "digits" = some none)
    (xL_B : K.lookup CB = some (excClassObj nmB qB CB NB bsB bmB true snB subB abbB colB ddB m0B m1B m2B m3B m5B "ValueError.__new__"))
    (xV_B : HandSPX.refsVE bmB = true)
    (sa_B : PySem.W.findIn K (.ref CB) "__setattr__" = some (some (.builtin "object.__setattr__")))
    (ty_B : PySem.W.typeIn K (.ref fbin) = some (.type "function"))
    (nb_B : PySem.W.findIn K (.ref CB) "place" = some none)
    (k_B : PySem.W.keepIn K (.ref CB) = true)
    (e_B : PySem.W.subIn K (.ref CB) (.type "BaseException") = some true)
    (t_B : PySem.W.typeIn K (.ref CB) = some (.type "type"))
    (z_isinstance : PySem.W.nsIn K mainGlobals "isinstance" = some none)
    (z_str : PySem.W.nsIn K mainGlobals "str" = some none)
    (z_int : PySem.W.nsIn K mainGlobals "int" = some none)
    (z_bool : PySem.W.nsIn K mainGlobals "bool" = some none)
    (z_tuple : PySem.W.nsIn K mainGlobals "tuple" = some none)
    (z_len : PySem.W.nsIn K mainGlobals "len" = some none)
    (z_all : PySem.W.nsIn K mainGlobals "all" = some none)
    (z_set : PySem.W.nsIn K mainGlobals "set" = some none)
    (z_zip : PySem.W.nsIn K mainGlobals "zip" = some none)
    (z_list : PySem.W.nsIn K mainGlobals "list" = some none)
    (z_enumerate : PySem.W.nsIn K mainGlobals "enumerate" = some none)
    (z_repr : PySem.W.nsIn K mainGlobals "repr" = some none)
    (z_range : PySem.W.nsIn K mainGlobals "range" = some none)
    (z_dict : PySem.W.nsIn K mainGlobals "dict" = some none) :
    ∃ (fd : FuncData), (∀ (s : Shared) (u : Value), BindsTo s fd ⟨[u], []⟩ [("script", u)]) ∧ ∀ base : Heap, K.In base → base.Ns mainGlobals mg → FnG P w K mg base 30 fa fd ["script"] (spLaw K) := by
  have e := hfa.symm.trans (PySem.W.mg_of X G alaw)
  cases e
  have m_isinstance := PySem.W.mg_none_of X G z_isinstance
  have m_str := PySem.W.mg_none_of X G z_str
  have m_int := PySem.W.mg_none_of X G z_int
  have m_bool := PySem.W.mg_none_of X G z_bool
  have m_tuple := PySem.W.mg_none_of X G z_tuple
  have m_len := PySem.W.mg_none_of X G z_len
  have m_all := PySem.W.mg_none_of X G z_all
  have m_set := PySem.W.mg_none_of X G z_set
  have m_zip := PySem.W.mg_none_of X G z_zip
  have m_list := PySem.W.mg_none_of X G z_list
  have m_enumerate := PySem.W.mg_none_of X G z_enumerate
  have m_repr := PySem.W.mg_none_of X G z_repr
  have m_range := PySem.W.mg_none_of X G z_range
  have m_dict := PySem.W.mg_none_of X G z_dict
  have gC := PySem.W.mg_of X G aC
  have gCB := PySem.W.mg_of X G aCB
  have gCR := PySem.W.mg_of X G aCR
  have gisn := PySem.W.mg_of X G aisn
  have Fisn := fun_mk (st := BK.sName) lisn cisn kisn
  have bisn := Fisn.binds (ps := ["thing"]) fun _ _ _ _ _ _ us hl => match us, hl with | [_], _ => rfl
  have garn := PySem.W.mg_of X G aarn
  have Farn := fun_mk (st := sAreNames) larn carn karn
  have barn := Farn.binds (ps := ["thing"]) fun _ _ _ _ _ _ us hl => match us, hl with | [_], _ => rfl
  have gitg := PySem.W.mg_of X G aitg
  have Fitg := fun_mk (st := sInteger) litg citg kitg
  have bitg := Fitg.binds (ps := ["thing"]) fun _ _ _ _ _ _ us hl => match us, hl with | [_], _ => rfl
  have gnum := PySem.W.mg_of X G anum
  have Fnum := fun_mk (st := sNumber) lnum cnum knum
  have bnum := Fnum.binds (ps := ["thing", "most"]) fun _ _ _ _ _ _ us hl => match us, hl with | [_, _], _ => rfl
  have gtup := PySem.W.mg_of X G atup
  have Ftup := fun_mk (st := sTuple) ltup ctup ktup
  have btup := Ftup.binds (ps := ["thing", "count"]) fun _ _ _ _ _ _ us hl => match us, hl with | [_, _], _ => rfl
  have gdif := PySem.W.mg_of X G adif
  have Fdif := fun_mk (st := sDiff) ldif cdif kdif
  have bdif := Fdif.binds (ps := ["things"]) fun _ _ _ _ _ _ us hl => match us, hl with | [_], _ => rfl
  have gprt := PySem.W.mg_of X G aprt
  have Fprt := fun_mk (st := sPart) lprt cprt kprt
  have bprt := Fprt.binds (ps := ["thing", "kind"]) fun _ _ _ _ _ _ us hl => match us, hl with | [_, _], _ => rfl
  have gwrd := PySem.W.mg_of X G awrd
  have Fwrd := fun_mk (st := sWord) lwrd cwrd kwrd
  have bwrd := Fwrd.binds (ps := ["thing"]) fun _ _ _ _ _ _ us hl => match us, hl with | [_], _ => rfl
  have gfit := PySem.W.mg_of X G afit
  have Ffit := fun_mk (st := sFits) lfit cfit kfit
  have bfit := Ffit.binds (ps := ["thing", "kinds"]) fun _ _ _ _ _ _ us hl => match us, hl with | [_, _], _ => rfl
  have gfrm := PySem.W.mg_of X G afrm
  have Ffrm := fun_mk (st := sForm) lfrm cfrm kfrm
  have bfrm := Ffrm.binds (ps := ["thing"]) fun _ _ _ _ _ _ us hl => match us, hl with | [_], _ => rfl
  have gpts := PySem.W.mg_of X G apts
  have Fpts := fun_mk (st := sParts) lpts cpts kpts
  have bpts := Fpts.binds (ps := ["statement"]) fun _ _ _ _ _ _ us hl => match us, hl with | [_], _ => rfl
  have gblk := PySem.W.mg_of X G ablk
  have Fblk := fun_mk (st := sBlocks) lblk cblk kblk
  have bblk := Fblk.binds (ps := ["statement"]) fun _ _ _ _ _ _ us hl => match us, hl with | [_], _ => rfl
  have gcan := PySem.W.mg_of X G acan
  have Fcan := fun_mk (st := sCan) lcan ccan kcan
  have bcan := Fcan.binds (ps := ["statement", "around"]) fun _ _ _ _ _ _ us hl => match us, hl with | [_, _], _ => rfl
  have ghyi := PySem.W.mg_of X G ahyi
  have Fhyi := fun_mk (st := sYield) lhyi chyi khyi
  have bhyi := Fhyi.binds (ps := ["block"]) fun _ _ _ _ _ _ us hl => match us, hl with | [_], _ => rfl
  have gknd := PySem.W.mg_of X G aknd
  have Fknd := fun_mk (st := sKind) lknd cknd kknd
  have bknd := Fknd.binds (ps := ["thing"]) fun _ _ _ _ _ _ us hl => match us, hl with | [_], _ => rfl
  have gprm := PySem.W.mg_of X G aprm
  have Fprm := fun_mk (st := sParams) lprm cprm kprm
  have bprm := Fprm.binds (ps := ["thing"]) fun _ _ _ _ _ _ us hl => match us, hl with | [_], _ => rfl
  have gtrp := PySem.W.mg_of X G atrp
  have Ftrp := fun_mk (st := sTriple) ltrp ctrp ktrp
  have btrp := Ftrp.binds (ps := ["thing"]) fun _ _ _ _ _ _ us hl => match us, hl with | [_], _ => rfl
  have gfpc := PySem.W.mg_of X G afpc
  have Ffpc := fun_mk (st := sPieces) lfpc cfpc kfpc
  have bfpc := Ffpc.binds (ps := ["variables", "pieces"]) fun _ _ _ _ _ _ us hl => match us, hl with | [_, _], _ => rfl
  have gflt := PySem.W.mg_of X G aflt
  have Fflt := fun_mk (st := sFaultOf) lflt cflt kflt
  have bflt := Fflt.binds (ps := ["thing"]) fun _ _ _ _ _ _ us hl => match us, hl with | [_], _ => rfl
  have gnee := PySem.W.mg_of X G anee
  have Fnee := fun_mk (st := sNeed) lnee cnee knee
  have bnee := Fnee.binds (ps := ["thing"]) fun _ _ _ _ _ _ us hl => match us, hl with | [_], _ => rfl
  have gwof := PySem.W.mg_of X G awof
  have Fwof := fun_mk (st := sWo) lwof cwof kwof
  have bwof := Fwof.binds (ps := ["text"]) fun _ _ _ _ _ _ us hl => match us, hl with | [_], _ => rfl
  have gwob := PySem.W.mg_of X G awob
  have Fwob := fun_mk (st := sBw) lwob cwob kwob
  have bwob := Fwob.binds (ps := ["block", "forms"]) fun _ _ _ _ _ _ us hl => match us, hl with | [_, _], _ => rfl
  have gwop := PySem.W.mg_of X G awop
  have Fwop := fun_mk (st := sPw) lwop cwop kwop
  have bwop := Fwop.binds (ps := ["part", "kind", "forms"]) fun _ _ _ _ _ _ us hl => match us, hl with | [_, _, _], _ => rfl
  have gdig := PySem.W.mg_of X G adig
  have Fdig := fun_mk (st := sDig) ldig cdig kdig
  have bdig := Fdig.binds (ps := ["word", "most"]) fun _ _ _ _ _ _ us hl => match us, hl with | [_, _], _ => rfl
  have gwpi := PySem.W.mg_of X G awpi
  have Fwpi := fun_mk (st := sPiece) lwpi cwpi kwpi
  have bwpi := Fwpi.binds (ps := ["piece"]) fun _ _ _ _ _ _ us hl => match us, hl with | [_], _ => rfl
  have gtxt := PySem.W.mg_of X G atxt
  have Ftxt := fun_mk (st := sText) ltxt ctxt ktxt
  have btxt := Ftxt.binds (ps := ["book"]) fun _ _ _ _ _ _ us hl => match us, hl with | [_], _ => rfl
  have gtpr := PySem.W.mg_of X G atpr
  have Ftpr := fun_mk (st := sTPar) ltpr ctpr ktpr
  have btpr := Ftpr.binds (ps := ["reader"]) fun _ _ _ _ _ _ us hl => match us, hl with | [_], _ => rfl
  have gtpi := PySem.W.mg_of X G atpi
  have Ftpi := fun_mk (st := sTPie) ltpi ctpi ktpi
  have btpi := Ftpi.binds (ps := ["reader"]) fun _ _ _ _ _ _ us hl => match us, hl with | [_], _ => rfl
  have gtbk := PySem.W.mg_of X G atbk
  have Ftbk := fun_mk (st := sTBk) ltbk ctbk ktbk
  have btbk := Ftbk.binds (ps := ["reader"]) fun _ _ _ _ _ _ us hl => match us, hl with | [_], _ => rfl
  have grbk := PySem.W.mg_of X G arbk
  have Frbk := fun_mk (st := sRb) lrbk crbk krbk
  have brbk := Frbk.binds (ps := ["text"]) fun _ _ _ _ _ _ us hl => match us, hl with | [_], _ => rfl
  have gmix := PySem.W.mg_of X G amix
  have Fmix := fun_mk (st := SW.sMixed) lmix cmix kmix
  have bmix := Fmix.binds (ps := ["cell", "k"]) fun _ _ _ _ _ _ us hl => match us, hl with | [_, _], _ => rfl
  have gbeg := PySem.W.mg_of X G abeg
  have Fbeg := fun_mk (st := SW.sBegin) lbeg cbeg kbeg
  have bbeg := Fbeg.binds (ps := ["script"]) fun _ _ _ _ _ _ us hl => match us, hl with | [_], _ => rfl
  have gdrw := PySem.W.mg_of X G adrw
  have Fdrw := fun_mk (st := SW.sDraw) ldrw cdrw kdrw
  have bdrw := Fdrw.binds (ps := ["state", "many"]) fun _ _ _ _ _ _ us hl => match us, hl with | [_, _], _ => rfl
  have glof := PySem.W.mg_of X G alof
  have Flof := fun_mk (st := SW.sOf) llof clof klof
  have blof := Flof.binds (ps := ["state", "some"]) fun _ _ _ _ _ _ us hl => match us, hl with | [_, _], _ => rfl
  have gnam := PySem.W.mg_of X G anam
  have Fnam := fun_mk (st := SW.sName) lnam cnam knam
  have bnam := Fnam.binds (ps := ["state"]) fun _ _ _ _ _ _ us hl => match us, hl with | [_], _ => rfl
  have gnms := PySem.W.mg_of X G anms
  have Fnms := fun_mk (st := SW.sNames) lnms cnms knms
  have bnms := Fnms.binds (ps := ["state", "many"]) fun _ _ _ _ _ _ us hl => match us, hl with | [_, _], _ => rfl
  have glfr := PySem.W.mg_of X G alfr
  have Flfr := fun_mk (st := sFrom) llfr clfr klfr
  have blfr := Flfr.binds (ps := ["state", "own"]) fun _ _ _ _ _ _ us hl => match us, hl with | [_, _], _ => rfl
  have glef := PySem.W.mg_of X G alef
  have Flef := fun_mk (st := sLeaf) llef clef klef
  have blef := Flef.binds (ps := ["state", "own", "is_free", "is_loop"]) fun _ _ _ _ _ _ us hl => match us, hl with | [_, _, _, _], _ => rfl
  have glst := PySem.W.mg_of X G alst
  have Flst := fun_mk (st := sStA) llst clst klst
  have blst := Flst.binds (ps := ["state", "own", "deep", "is_free", "is_loop"]) fun _ _ _ _ _ _ us hl => match us, hl with | [_, _, _, _, _], _ => rfl
  have glbl := PySem.W.mg_of X G albl
  have Flbl := fun_mk (st := sBlA) llbl clbl klbl
  have blbl := Flbl.binds (ps := ["state", "own", "deep", "is_free", "is_loop"]) fun _ _ _ _ _ _ us hl => match us, hl with | [_, _, _, _, _], _ => rfl
  have glpi := PySem.W.mg_of X G alpi
  have Flpi := fun_mk (st := sPie) llpi clpi klpi
  have blpi := Flpi.binds (ps := ["state", "own", "name", "most"]) fun _ _ _ _ _ _ us hl => match us, hl with | [_, _, _, _], _ => rfl
  have glbk := PySem.W.mg_of X G albk
  have Flbk := fun_mk (st := sLBk) llbk clbk klbk
  have blbk := Flbk.binds (ps := ["state", "many", "most"]) fun _ _ _ _ _ _ us hl => match us, hl with | [_, _, _], _ => rfl
  have glbw := PySem.W.mg_of X G albw
  have Flbw := fun_mk (st := sLBW) llbw clbw klbw
  have blbw := Flbw.binds (ps := ["block"]) fun _ _ _ _ _ _ us hl => match us, hl with | [_], _ => rfl
  have glkw := PySem.W.mg_of X G alkw
  have Flkw := fun_mk (st := sLKW) llkw clkw klkw
  have blkw := Flkw.binds (ps := ["book"]) fun _ _ _ _ _ _ us hl => match us, hl with | [_], _ => rfl
  have glsi := PySem.W.mg_of X G alsi
  have Flsi := fun_mk (st := sLSi) llsi clsi klsi
  have blsi := Flsi.binds (ps := ["word"]) fun _ _ _ _ _ _ us hl => match us, hl with | [_], _ => rfl
  have glti := PySem.W.mg_of X G alti
  have Flti := fun_mk (st := sLTi) llti clti klti
  have blti := Flti.binds (ps := ["words"]) fun _ _ _ _ _ _ us hl => match us, hl with | [_], _ => rfl
  have glsp := PySem.W.mg_of X G alsp
  have Flsp := fun_mk (st := sLSp) llsp clsp klsp
  have blsp := Flsp.binds (ps := ["state", "words"]) fun _ _ _ _ _ _ us hl => match us, hl with | [_, _], _ => rfl
  have glrt := PySem.W.mg_of X G alrt
  have blrt : Binds K (PySem.W.fnOf "_law_right" "_law_right" (defArgs sLRt) (defBody sLRt) (defScope sLRt) .none kVlrt dclrt pmlrt anlrt cdlrt ctlrt) ["state", "book"] [] := .all fun us hl => match us, hl with | [_, _], _ => rfl
  have glex := PySem.W.mg_of X G alex
  have Flex := fun_mk (st := sLEx) llex clex klex
  have blex := Flex.binds (ps := []) fun _ _ _ _ _ _ us hl => match us, hl with | [], _ => rfl
  have glgr := PySem.W.mg_of X G algr
  have Flgr := fun_mk (st := sLGr) llgr clgr klgr
  have blgr := Flgr.binds (ps := ["state"]) fun _ _ _ _ _ _ us hl => match us, hl with | [_], _ => rfl
  have glaw := PySem.W.mg_of X G alaw
  have blaw : Binds K (PySem.W.fnOf "law" "law" (defArgs sLaw) (defBody sLaw) (defScope sLaw) .none kVlaw dclaw pmlaw anlaw cdlaw ctlaw) ["script"] [] := .all fun us hl => match us, hl with | [_], _ => rfl
  have Fcin := fun_mk (st := sCInit) lcin ccin kcin
  have bcin := Fcin.binds (ps := ["self", "variables", "params"]) fun _ _ _ _ _ _ us hl => match us, hl with | [_, _, _], _ => rfl
  have Ftak := fun_mk (st := sTakes) ltak ctak ktak
  have btak := Ftak.binds (ps := ["self", "statement", "around"]) fun _ _ _ _ _ _ us hl => match us, hl with | [_, _, _], _ => rfl
  have Fknw := fun_mk (st := sKnows) lknw cknw kknw
  have bknw := Fknw.binds (ps := ["self", "statement"]) fun _ _ _ _ _ _ us hl => match us, hl with | [_, _], _ => rfl
  have Ffin := fun_mk (st := sFault) lfin cfin kfin
  have bfin := Ffin.binds (ps := ["self", "block", "way", "around"]) fun _ _ _ _ _ _ us hl => match us, hl with | [_, _, _, _], _ => rfl
  have Fbin := fun_mk (st := sBadInit) lbin cbin kbin
  have bbin := Fbin.binds (ps := ["self", "place"]) fun _ _ _ _ _ _ us hl => match us, hl with | [_, _], _ => rfl
  have Frin := fun_mk (st := sRIni) lrin crin krin
  have brin := Frin.binds (ps := ["self", "text", "forms", "digits"]) fun _ _ _ _ _ _ us hl => match us, hl with | [_, _, _, _], _ => rfl
  have Fpek := fun_mk (st := sPeek) lpek cpek kpek
  have bpek := Fpek.binds (ps := ["self"]) fun _ _ _ _ _ _ us hl => match us, hl with | [_], _ => rfl
  have Ftke := fun_mk (st := sTake) ltke ctke ktke
  have btke := Ftke.binds (ps := ["self", "can_stand"]) fun _ _ _ _ _ _ us hl => match us, hl with | [_, _], _ => rfl
  have Ftkw := fun_mk (st := sTakeW) ltkw ctkw ktkw
  have btkw := Ftkw.binds (ps := ["self", "word"]) fun _ _ _ _ _ _ us hl => match us, hl with | [_, _], _ => rfl
  have Ftkn := fun_mk (st := sTakeN) ltkn ctkn ktkn
  have btkn := Ftkn.binds (ps := ["self"]) fun _ _ _ _ _ _ us hl => match us, hl with | [_], _ => rfl
  have Ftks := fun_mk (st := sTkN) ltks ctks ktks
  have btks := Ftks.binds (ps := ["self"]) fun _ _ _ _ _ _ us hl => match us, hl with | [_], _ => rfl
  have Fsee := fun_mk (st := sSees) lsee csee ksee
  have bsee := Fsee.binds (ps := ["self"]) fun _ _ _ _ _ _ us hl => match us, hl with | [_], _ => rfl
  have Ftki := fun_mk (st := sTakeI) ltki ctki ktki
  have btki := Ftki.binds (ps := ["self"]) fun _ _ _ _ _ _ us hl => match us, hl with | [_], _ => rfl
  have Frbl := fun_mk (st := sTkB) lrbl crbl krbl
  have brbl := Frbl.binds (ps := ["self"]) fun _ _ _ _ _ _ us hl => match us, hl with | [_], _ => rfl
  have Frrs := fun_mk (st := sTkR) lrrs crrs krrs
  have brrs := Frrs.binds (ps := ["self"]) fun _ _ _ _ _ _ us hl => match us, hl with | [_], _ => rfl
  have Frrw := fun_mk (st := sTkS) lrrw crrw krrw
  have brrw := Frrw.binds (ps := ["self"]) fun _ _ _ _ _ _ us hl => match us, hl with | [_], _ => rfl
  have Frpt := fun_mk (st := sTkP) lrpt crpt krpt
  have brpt := Frpt.binds (ps := ["self", "kind"]) fun _ _ _ _ _ _ us hl => match us, hl with | [_, _], _ => rfl
  have T : Forms mg := ⟨⟨_, PySem.W.mg_of X G v_LETTERS⟩, ⟨_, PySem.W.mg_of X G v_MOST_LETTERS⟩, ⟨_, PySem.W.mg_of X G v_MOST_NUMBER⟩, m_isinstance, m_str, m_int, m_bool, m_tuple, m_len, m_all⟩
  have Kd : BK.Kinds K mg := ⟨⟨aKD, PySem.W.mg_of X G vKD, fun H => .inr ⟨_, _, _, lKD, rfl, rfl, sz4 (Nat.le_of_ble_eq_true rfl), .cons ⟨_, rfl⟩ (.cons ⟨_, rfl⟩ .nil)⟩⟩, ⟨_, PySem.W.mg_of X G v_MOST_PARAMS⟩⟩
  have Mo : BK.Most mg := ⟨⟨_, PySem.W.mg_of X G v_MOST_STATEMENTS⟩, ⟨_, PySem.W.mg_of X G v_MOST_AROUND⟩⟩
  have Mb : MostB mg := ⟨⟨_, PySem.W.mg_of X G v_MOST_PIECES⟩, ⟨_, PySem.W.mg_of X G v_MOST_VARS⟩⟩
  have D : PartsD K mg w pP es nP :=
    { d := ⟨lPP, litP, lowP⟩, g := PySem.W.mg_of X G vPP, no := no_of lPP keyP,
      at_ := fun x ks e => by
        have m := kinds_mem e
        simp only [kindTab, List.mem_cons, List.not_mem_nil, or_false, Prod.mk.injEq] at m
        rcases m with ⟨rfl, rfl⟩ | ⟨rfl, rfl⟩ | ⟨rfl, rfl⟩ | ⟨rfl, rfl⟩ | ⟨rfl, rfl⟩ | ⟨rfl, rfl⟩ | ⟨rfl, rfl⟩ | ⟨rfl, rfl⟩ | ⟨rfl, rfl⟩ | ⟨rfl, rfl⟩ | ⟨rfl, rfl⟩ | ⟨rfl, rfl⟩ | ⟨rfl, rfl⟩ | ⟨rfl, rfl⟩
        · exact ⟨p0, nP0, fun H => .inr ⟨_, _, _, lP0, rfl, rfl, sz4 (Nat.le_of_ble_eq_true rfl), (.cons ⟨_, rfl⟩ (.cons ⟨_, rfl⟩ .nil))⟩⟩
        · exact ⟨p1, nP1, fun H => .inr ⟨_, _, _, lP1, rfl, rfl, sz4 (Nat.le_of_ble_eq_true rfl), (.cons ⟨_, rfl⟩ (.cons ⟨_, rfl⟩ (.cons ⟨_, rfl⟩ .nil)))⟩⟩
        · exact ⟨p2, nP2, fun H => .inr ⟨_, _, _, lP2, rfl, rfl, sz4 (Nat.le_of_ble_eq_true rfl), (.cons ⟨_, rfl⟩ .nil)⟩⟩
        · exact ⟨p3, nP3, fun H => .inr ⟨_, _, _, lP3, rfl, rfl, sz4 (Nat.le_of_ble_eq_true rfl), (.cons ⟨_, rfl⟩ .nil)⟩⟩
        · exact ⟨p4, nP4, fun H => .inr ⟨_, _, _, lP4, rfl, rfl, sz4 (Nat.le_of_ble_eq_true rfl), (.cons ⟨_, rfl⟩ .nil)⟩⟩
        · exact ⟨p5, nP5, fun H => .inr ⟨_, _, _, lP5, rfl, rfl, sz4 (Nat.le_of_ble_eq_true rfl), (.cons ⟨_, rfl⟩ .nil)⟩⟩
        · exact ⟨p6, nP6, fun H => .inr ⟨_, _, _, lP6, rfl, rfl, sz4 (Nat.le_of_ble_eq_true rfl), (.cons ⟨_, rfl⟩ (.cons ⟨_, rfl⟩ .nil))⟩⟩
        · exact ⟨p7, nP7, fun H => .inr ⟨_, _, _, lP7, rfl, rfl, sz4 (Nat.le_of_ble_eq_true rfl), (.cons ⟨_, rfl⟩ (.cons ⟨_, rfl⟩ (.cons ⟨_, rfl⟩ (.cons ⟨_, rfl⟩ .nil))))⟩⟩
        · exact ⟨p8, nP8, fun H => .inr ⟨_, _, _, lP8, rfl, rfl, sz4 (Nat.le_of_ble_eq_true rfl), (.cons ⟨_, rfl⟩ (.cons ⟨_, rfl⟩ (.cons ⟨_, rfl⟩ .nil)))⟩⟩
        · exact ⟨p9, nP9, fun H => .inr ⟨_, _, _, lP9, rfl, rfl, sz4 (Nat.le_of_ble_eq_true rfl), (.cons ⟨_, rfl⟩ (.cons ⟨_, rfl⟩ .nil))⟩⟩
        · exact ⟨p10, nP10, fun H => .inr ⟨_, _, _, lP10, rfl, rfl, sz4 (Nat.le_of_ble_eq_true rfl), (.cons ⟨_, rfl⟩ .nil)⟩⟩
        · exact ⟨p11, nP11, fun H => .inr ⟨_, _, _, lP11, rfl, rfl, sz4 (Nat.le_of_ble_eq_true rfl), .nil⟩⟩
        · exact ⟨p12, nP12, fun H => .inr ⟨_, _, _, lP12, rfl, rfl, sz4 (Nat.le_of_ble_eq_true rfl), .nil⟩⟩
        · exact ⟨p13, nP13, fun H => .inr ⟨_, _, _, lP13, rfl, rfl, sz4 (Nat.le_of_ble_eq_true rfl), .nil⟩⟩ }
  have Tx : TxK K mg C := ⟨⟨pg, hd, po, sa⟩, nV, nK, nM, gC⟩
  have M : Mk K C fcin := ⟨mk, acin, icin, kc⟩
  have Mt : Meth K C "takes" ftak := ⟨atak, itak, ktak⟩
  have Mn : Meth K C "knows" fknw := ⟨aknw, iknw, kknw⟩
  have Mf : Meth K C "fault_in" ffin := ⟨afin, ifin, kfin⟩
  have OxB : OexC K CB := ⟨⟨nmB, qB, NB, bsB, bmB, snB, subB, abbB, colB, ddB, m0B, m1B, m2B, m3B, m5B, xL_B, xV_B⟩, sa_B, e_B, t_B, k_B⟩
  have Pc : PartsC es := ⟨rfE, of_decide_eq_true ndE, of_decide_eq_true lnE⟩
  have TR : TxR K CR := ⟨⟨pgR, hdR, poR, saR⟩, nRw, nRa, nRo, nRf, nRd⟩
  have MR : Mk K CR frin := ⟨mkR, arin, irin, kcR⟩
  have Mpek : Meth K CR "peek" fpek := ⟨apek, ipek, kpek⟩
  have Mtke : Meth K CR "take" ftke := ⟨atke, itke, ktke⟩
  have Mtkw : Meth K CR "take_word" ftkw := ⟨atkw, itkw, ktkw⟩
  have Mtkn : Meth K CR "take_name" ftkn := ⟨atkn, itkn, ktkn⟩
  have Mtks : Meth K CR "take_names" ftks := ⟨atks, itks, ktks⟩
  have Msee : Meth K CR "sees_number" fsee := ⟨asee, isee, ksee⟩
  have Mtki : Meth K CR "take_number" ftki := ⟨atki, itki, ktki⟩
  have Mrbl : Meth K CR "take_block" frbl := ⟨arbl, irbl, krbl⟩
  have Mrrs : Meth K CR "take_rows" frrs := ⟨arrs, irrs, krrs⟩
  have Mrrw : Meth K CR "take_row" frrw := ⟨arrw, irrw, krrw⟩
  have Mrpt : Meth K CR "take_part" frpt := ⟨arpt, irpt, krpt⟩
  refine ⟨(PySem.W.fnOf "law" "law" (defArgs sLaw) (defBody sLaw) (defScope sLaw) .none kVlaw dclaw pmlaw anlaw cdlaw ctlaw), fun s u => .of_eq rfl, fun base _ _ => ?_⟩
  have Gisn := BK.ok_name (P := P) (w := w) (base := base) (mg := mg) Fisn T
  have Garn := ok_areNames (P := P) (w := w) (base := base) (mg := mg) Farn T Gisn bisn gisn kisn
  have Gitg := ok_integer (P := P) (w := w) (base := base) (mg := mg) Fitg T
  have Gnum := ok_number (P := P) (w := w) (base := base) (mg := mg) Fnum Gitg bitg gitg kitg
  have Gtup := ok_tuple (P := P) (w := w) (base := base) (mg := mg) Ftup T
  have Gdif := ok_diff (P := P) (w := w) (base := base) (mg := mg) Fdif T m_set Gisn bisn gisn kisn
  have Gprt := ok_part (P := P) (w := w) (base := base) (mg := mg) Fprt T ⟨_, PySem.W.mg_of X G v_MOST_VALUE⟩ Gisn bisn gisn kisn Gnum bnum gnum knum Garn barn garn karn
  have Gwrd := ok_word (P := P) (w := w) (base := base) (mg := mg) Fwrd T
  have Gfit := ok_fits (P := P) (w := w) (base := base) (mg := mg) Ffit T m_zip Gprt bprt gprt kprt
  have Gfrm := ok_form (P := P) (w := w) (base := base) (mg := mg) Ffrm D Gwrd bwrd gwrd kwrd Gfit bfit gfit kfit
  have Gpts := ok_parts (P := P) (w := w) (base := base) (mg := mg) Fpts D.parts m_list m_zip
  have Gblk := ok_blocks (P := P) (w := w) (base := base) (mg := mg) Fblk T
  have Ghyi := ok_yield (P := P) (w := w) (base := base) (mg := mg) Fhyi Gfrm bfrm gfrm kfrm
  have Gcan := ok_can (P := P) (w := w) (base := base) (mg := mg) Fcan Ghyi bhyi ghyi khyi
  have Gknd := ok_kind (P := P) (w := w) (base := base) (mg := mg) Fknd T Kd
  have Gprm := ok_params (P := P) (w := w) (base := base) (mg := mg) Fprm T Kd Gtup btup gtup ktup Gknd bknd gknd kknd Gdif bdif gdif kdif
  have Gtrp := ok_triple (P := P) (w := w) (base := base) (mg := mg) Ftrp T Gtup btup gtup ktup Gisn bisn gisn kisn Gprm bprm gprm kprm
  have Gcin := ok_cinit (P := P) (w := w) (base := base) (mg := mg) Fcin Tx
  have Gknw := ok_knows (P := P) (w := w) (base := base) (mg := mg) Fknw T Kd Tx Gpts bpts gpts kpts
  have Gtak := ok_takes (P := P) (w := w) (base := base) (mg := mg) Ftak T Mo Tx Gfrm bfrm gfrm kfrm Gknw bknw Mn Gcan bcan gcan kcan
  have Gfin := ok_fault (P := P) (w := w) (base := base) (mg := mg) Ffin Tx m_enumerate Gtak btak Mt Gblk bblk gblk kblk bfin Mf 5
  have Gfpc := ok_pieces (P := P) (w := w) (base := base) (mg := mg) Ffpc Tx m_enumerate Gtrp btrp gtrp ktrp M Gcin bcin Gfin bfin Mf
  have Gflt := ok_faultOf (P := P) (w := w) (base := base) (mg := mg) Fflt T Mb Gtup btup gtup ktup Gdif bdif gdif kdif Gfpc bfpc gfpc kfpc
  have Gbin := ok_badInit (P := P) (w := w) (base := base) (mg := mg) Fbin OxB nb_B
  have Gnee := ok_need (P := P) (w := w) (base := base) (mg := mg) Fnee Gflt bflt gflt kflt OxB gCB abin ty_B Gbin bbin
  have GW := ok_words (P := P) (w := w) (base := base) (mg := mg) Fwob Fwop m_enumerate m_zip m_list m_str bwop gwop kwop bwob gwob kwob 5
  have Gwpi := ok_piece (P := P) (w := w) (base := base) (mg := mg) Fwpi D Pc m_dict GW.1 bwob gwob kwob
  have Gtxt := ok_text (P := P) (w := w) (base := base) (mg := mg) Ftxt Gnee bnee gnee knee Gwpi bwpi gwpi kwpi
  have Gpek := ok_peek (P := P) (w := w) (base := base) (mg := mg) Fpek TR m_len
  have Gtke := ok_take (P := P) (w := w) (base := base) (mg := mg) Ftke TR Gpek bpek Mpek
  have Gtkw := ok_takeW (P := P) (w := w) (base := base) (mg := mg) Ftkw TR Gpek bpek Mpek Gtke btke Mtke
  have Gtkn := ok_takeN (P := P) (w := w) (base := base) (mg := mg) Ftkn TR Gpek bpek Mpek Gtke btke Mtke Gisn bisn gisn kisn
  have Gdig := ok_dig (P := P) (w := w) (base := base) (mg := mg) Fdig T (PySem.W.mg_of X G v_DIGITS)
  have Gsee := ok_sees (P := P) (w := w) (base := base) (mg := mg) Fsee TR Gpek bpek Mpek Gdig bdig gdig kdig
  have Gtki := ok_takeI (P := P) (w := w) (base := base) (mg := mg) Ftki TR m_int Gsee bsee Msee Gtke btke Mtke
  have GRD := ok_rd (P := P) (w := w) (base := base) (mg := mg) TR (PySem.W.mg_of X G v_MOST_OPEN) m_tuple Frrs Frbl Frpt Frrw Gpek bpek Mpek Gtke btke Mtke Gtkw btkw Mtkw Gtkn btkn Mtkn Gsee bsee Msee Gtki btki Mtki brrs Mrrs brbl Mrbl brpt Mrpt brrw Mrrw 5
  have Gtks := ok_tkN (P := P) (w := w) (base := base) (mg := mg) Ftks TR m_tuple Gpek bpek Mpek Gtke btke Mtke Gisn bisn gisn kisn
  have Gtpr := ok_tPar (P := P) (w := w) (base := base) (mg := mg) Ftpr TR Kd m_tuple Gpek bpek Mpek Gtke btke Mtke Gtkn btkn Mtkn
  have Gtpi := ok_tPie (P := P) (w := w) (base := base) (mg := mg) Ftpi TR Gtkw btkw Mtkw Gtkn btkn Mtkn Gtpr btpr gtpr ktpr GRD.2.1 brbl Mrbl
  have Gtbk := ok_tBk (P := P) (w := w) (base := base) (mg := mg) Ftbk TR m_tuple Gpek bpek Mpek Gtkw btkw Mtkw Gtks btks Mtks Gtpi btpi gtpi ktpi
  have Gwof := ok_wo (P := P) (w := w) (base := base) (mg := mg) (K := K) Fwof m_enumerate (PySem.W.mg_of X G v_RUN_SIGNS) (PySem.W.mg_of X G v_BLANKS)
  have Grin := ok_rIni (P := P) (w := w) (base := base) (mg := mg) Frin TR T (PySem.W.mg_of X G v_MOST_SIGNS) Gwof bwof gwof kwof
  have Grbk := ok_rb (P := P) (w := w) (base := base) (mg := mg) Frbk TR gCR D Pc m_dict (PySem.W.mg_of X G v_MOST_DIGITS) Gnee bnee gnee knee Gtbk btbk gtbk ktbk MR Grin brin
  have Gmix := ok_mixed (P := P) (w := w) (base := base) (mg := mg) Fmix m_int
  have Gbeg := ok_begin (P := P) (w := w) (base := base) (mg := mg) Fbeg m_list
  have Gdrw := ok_draw (P := P) (w := w) (base := base) (mg := mg) Fdrw Gmix bmix gmix kmix m_int m_len
  have Gnam := SW.ok_name (P := P) (w := w) (base := base) (mg := mg) Fnam Gdrw bdrw gdrw kdrw m_range
  have Gnms := ok_names (P := P) (w := w) (base := base) (mg := mg) Fnms Gnam bnam gnam knam m_range m_len
  have Glof := ok_of (P := P) (w := w) (base := base) (mg := mg) (K := K) Flof m_len Gdrw bdrw gdrw kdrw
  have Glfr := ok_from (P := P) (w := w) (base := base) (mg := mg) Flfr Gdrw bdrw gdrw kdrw Glof blof glof klof
  have Glef := ok_leaf (P := P) (w := w) (base := base) (mg := mg) Flef Gdrw bdrw gdrw kdrw Glof blof glof klof Glfr blfr glfr klfr
  have Glst := ok_gen (P := P) (w := w) (base := base) (mg := mg) Flst Flbl m_len m_range m_tuple Gdrw bdrw gdrw kdrw Glof blof glof klof Glfr blfr glfr klfr Glef blef glef klef blst glst klst blbl glbl klbl 5
  have Glbl := ok_blA (P := P) (w := w) (base := base) (mg := mg) (e := 5) Flbl m_range m_tuple Gdrw bdrw gdrw kdrw Glst blst glst klst
  have Glpi := ok_pie (P := P) (w := w) (base := base) (mg := mg) Flpi m_zip m_tuple Gnms bnms gnms knms Gdrw bdrw gdrw kdrw Glbl blbl glbl klbl
  have Glbk := ok_lbk (P := P) (w := w) (base := base) (mg := mg) Flbk m_tuple Gnms bnms gnms knms Gdrw bdrw gdrw kdrw Glpi blpi glpi klpi
  have Glbw := ok_lbw (P := P) (w := w) (base := base) (mg := mg) Flbw T blbw glbw klbw 5
  have Glkw := ok_lkw (P := P) (w := w) (base := base) (mg := mg) Flkw m_list Glbw blbw glbw klbw
  have Glsi := ok_lsi (P := P) (w := w) (base := base) (mg := mg) (K := K) Flsi
  have Glti := ok_lti (P := P) (w := w) (base := base) (mg := mg) Flti m_enumerate Glsi blsi glsi klsi
  have Glsp := ok_lsp (P := P) (w := w) (base := base) (mg := mg) Flsp m_enumerate Glsi blsi glsi klsi Glof blof glof klof
  have Glrt := ok_lrt (P := P) (w := w) (base := base) (mg := mg) llrt clrt m_repr m_range Glkw blkw glkw klkw Gtxt btxt gtxt ktxt Grbk brbk grbk krbk Glti blti glti klti Glsp blsp glsp klsp
  have Glex := ok_lex (P := P) (w := w) (base := base) (mg := mg) Flex
  have Glgr := ok_lgr (P := P) (w := w) (base := base) (mg := mg) Flgr m_range m_int m_tuple Gdrw bdrw gdrw kdrw
  exact ok_law (P := P) (w := w) (base := base) (mg := mg) llaw claw m_range m_repr Gbeg bbeg gbeg kbeg Glof blof glof klof Glbk blbk glbk klbk Glrt blrt glrt klrt Gtxt btxt gtxt ktxt Grbk brbk grbk krbk Glex blex glex klex Glgr blgr glgr klgr
end BK

set_option Elab.async false
open PySem PySem.W PyProof.Rows
set_option maxRecDepth 100000 in
set_option maxHeartbeats 0 in
theorem PySem.Challenge.cw_stepwhere_k09_whole_books_as_texts_holds : PySem.Challenge.rw_stepwhere_k09_whole_books_as_texts.Holds := by
  w_on; o_law; k_head; (case hw => w_witness2)
  k_fill
  refine BK.walkG (l := PySem.Challenge.rw_stepwhere_k09_whole_books_as_texts) rfl rfl (fun w h Y => PySem.W.kIn_of Y) ?F
  case F =>
    intro w mg fa h KX G hmg
    refine' BK.all_mk KX G hmg ?aC ?aCB ?aCR ?acin ?icin ?lcin ?ccin ?kcin ?atak ?itak ?ltak ?ctak ?ktak ?aknw ?iknw ?lknw ?cknw ?kknw ?afin ?ifin ?lfin ?cfin ?kfin ?abin ?ibin ?lbin ?cbin ?kbin ?arin ?irin ?lrin ?crin ?krin ?apek ?ipek ?lpek ?cpek ?kpek ?atke ?itke ?ltke ?ctke ?ktke ?atkw ?itkw ?ltkw ?ctkw ?ktkw ?atkn ?itkn ?ltkn ?ctkn ?ktkn ?atks ?itks ?ltks ?ctks ?ktks ?asee ?isee ?lsee ?csee ?ksee ?atki ?itki ?ltki ?ctki ?ktki ?arbl ?irbl ?lrbl ?crbl ?krbl ?arrs ?irrs ?lrrs ?crrs ?krrs ?arrw ?irrw ?lrrw ?crrw ?krrw ?arpt ?irpt ?lrpt ?crpt ?krpt ?aisn ?lisn ?cisn ?kisn ?aarn ?larn ?carn ?karn ?aitg ?litg ?citg ?kitg ?anum ?lnum ?cnum ?knum ?atup ?ltup ?ctup ?ktup ?adif ?ldif ?cdif ?kdif ?aprt ?lprt ?cprt ?kprt ?awrd ?lwrd ?cwrd ?kwrd ?afit ?lfit ?cfit ?kfit ?afrm ?lfrm ?cfrm ?kfrm ?apts ?lpts ?cpts ?kpts ?ablk ?lblk ?cblk ?kblk ?acan ?lcan ?ccan ?kcan ?ahyi ?lhyi ?chyi ?khyi ?aknd ?lknd ?cknd ?kknd ?aprm ?lprm ?cprm ?kprm ?atrp ?ltrp ?ctrp ?ktrp ?afpc ?lfpc ?cfpc ?kfpc ?aflt ?lflt ?cflt ?kflt ?anee ?lnee ?cnee ?knee ?awof ?lwof ?cwof ?kwof ?awob ?lwob ?cwob ?kwob ?awop ?lwop ?cwop ?kwop ?adig ?ldig ?cdig ?kdig ?awpi ?lwpi ?cwpi ?kwpi ?atxt ?ltxt ?ctxt ?ktxt ?atpr ?ltpr ?ctpr ?ktpr ?atpi ?ltpi ?ctpi ?ktpi ?atbk ?ltbk ?ctbk ?ktbk ?arbk ?lrbk ?crbk ?krbk ?amix ?lmix ?cmix ?kmix ?abeg ?lbeg ?cbeg ?kbeg ?adrw ?ldrw ?cdrw ?kdrw ?alof ?llof ?clof ?klof ?anam ?lnam ?cnam ?knam ?anms ?lnms ?cnms ?knms ?alfr ?llfr ?clfr ?klfr ?alef ?llef ?clef ?klef ?alst ?llst ?clst ?klst ?albl ?llbl ?clbl ?klbl ?alpi ?llpi ?clpi ?klpi ?albk ?llbk ?clbk ?klbk ?albw ?llbw ?clbw ?klbw ?alkw ?llkw ?clkw ?klkw ?alsi ?llsi ?clsi ?klsi ?alti ?llti ?clti ?klti ?alsp ?llsp ?clsp ?klsp ?alrt ?llrt ?clrt ?klrt ?alex ?llex ?clex ?klex ?algr ?llgr ?clgr ?klgr ?alaw ?llaw ?claw ?klaw ?v_LETTERS ?v_RUN_SIGNS ?v_BLANKS ?v_DIGITS ?v_MOST_LETTERS ?v_MOST_NUMBER ?v_MOST_VALUE ?v_MOST_PIECES ?v_MOST_VARS ?v_MOST_PARAMS ?v_MOST_STATEMENTS ?v_MOST_AROUND ?v_MOST_SIGNS ?v_MOST_OPEN ?v_MOST_DIGITS ?vKD ?lKD ?vPP ?lPP ?litP ?keyP ?rfE ?ndE ?lnE ?lowP ?nP0 ?lP0 ?nP1 ?lP1 ?nP2 ?lP2 ?nP3 ?lP3 ?nP4 ?lP4 ?nP5 ?lP5 ?nP6 ?lP6 ?nP7 ?lP7 ?nP8 ?lP8 ?nP9 ?lP9 ?nP10 ?lP10 ?nP11 ?lP11 ?nP12 ?lP12 ?nP13 ?lP13 ?pg ?hd ?po ?sa ?mk ?kc ?nV ?nK ?nM ?pgR ?hdR ?poR ?saR ?mkR ?kcR ?nRw ?nRa ?nRo ?nRf ?nRd ?xL_B ?xV_B ?sa_B ?ty_B ?nb_B ?k_B ?e_B ?t_B ?z_isinstance ?z_str ?z_int ?z_bool ?z_tuple ?z_len ?z_all ?z_set ?z_zip ?z_list ?z_enumerate ?z_repr ?z_range ?z_dict
    (case aC => k_is); (case aCB => k_is); (case aCR => k_is); (case acin => k_is); (case icin => k_is); (case lcin => k_is)
    (case ccin => k_is); (case kcin => k_is); (case atak => k_is); (case itak => k_is); (case ltak => k_is); (case ctak => k_is)
    (case ktak => k_is); (case aknw => k_is); (case iknw => k_is); (case lknw => k_is); (case cknw => k_is); (case kknw => k_is)
    (case afin => k_is); (case ifin => k_is); (case lfin => k_is); (case cfin => k_is); (case kfin => k_is); (case abin => k_is)
    (case ibin => k_is); (case lbin => k_is); (case cbin => k_is); (case kbin => k_is); (case arin => k_is); (case irin => k_is)
    (case lrin => k_is); (case crin => k_is); (case krin => k_is); (case apek => k_is); (case ipek => k_is); (case lpek => k_is)
    (case cpek => k_is); (case kpek => k_is); (case atke => k_is); (case itke => k_is); (case ltke => k_is); (case ctke => k_is)
    (case ktke => k_is); (case atkw => k_is); (case itkw => k_is); (case ltkw => k_is); (case ctkw => k_is); (case ktkw => k_is)
    (case atkn => k_is); (case itkn => k_is); (case ltkn => k_is); (case ctkn => k_is); (case ktkn => k_is); (case atks => k_is)
    (case itks => k_is); (case ltks => k_is); (case ctks => k_is); (case ktks => k_is); (case asee => k_is); (case isee => k_is)
    (case lsee => k_is); (case csee => k_is); (case ksee => k_is); (case atki => k_is); (case itki => k_is); (case ltki => k_is)
    (case ctki => k_is); (case ktki => k_is); (case arbl => k_is); (case irbl => k_is); (case lrbl => k_is); (case crbl => k_is)
    (case krbl => k_is); (case arrs => k_is); (case irrs => k_is); (case lrrs => k_is); (case crrs => k_is); (case krrs => k_is)
    (case arrw => k_is); (case irrw => k_is); (case lrrw => k_is); (case crrw => k_is); (case krrw => k_is); (case arpt => k_is)
    (case irpt => k_is); (case lrpt => k_is); (case crpt => k_is); (case krpt => k_is); (case aisn => k_is); (case lisn => k_is)
    (case cisn => k_is); (case kisn => k_is); (case aarn => k_is); (case larn => k_is); (case carn => k_is); (case karn => k_is)
    (case aitg => k_is); (case litg => k_is); (case citg => k_is); (case kitg => k_is); (case anum => k_is); (case lnum => k_is)
    (case cnum => k_is); (case knum => k_is); (case atup => k_is); (case ltup => k_is); (case ctup => k_is); (case ktup => k_is)
    (case adif => k_is); (case ldif => k_is); (case cdif => k_is); (case kdif => k_is); (case aprt => k_is); (case lprt => k_is)
    (case cprt => k_is); (case kprt => k_is); (case awrd => k_is); (case lwrd => k_is); (case cwrd => k_is); (case kwrd => k_is)
    (case afit => k_is); (case lfit => k_is); (case cfit => k_is); (case kfit => k_is); (case afrm => k_is); (case lfrm => k_is)
    (case cfrm => k_is); (case kfrm => k_is); (case apts => k_is); (case lpts => k_is); (case cpts => k_is); (case kpts => k_is)
    (case ablk => k_is); (case lblk => k_is); (case cblk => k_is); (case kblk => k_is); (case acan => k_is); (case lcan => k_is)
    (case ccan => k_is); (case kcan => k_is); (case ahyi => k_is); (case lhyi => k_is); (case chyi => k_is); (case khyi => k_is)
    (case aknd => k_is); (case lknd => k_is); (case cknd => k_is); (case kknd => k_is); (case aprm => k_is); (case lprm => k_is)
    (case cprm => k_is); (case kprm => k_is); (case atrp => k_is); (case ltrp => k_is); (case ctrp => k_is); (case ktrp => k_is)
    (case afpc => k_is); (case lfpc => k_is); (case cfpc => k_is); (case kfpc => k_is); (case aflt => k_is); (case lflt => k_is)
    (case cflt => k_is); (case kflt => k_is); (case anee => k_is); (case lnee => k_is); (case cnee => k_is); (case knee => k_is)
    (case awof => k_is); (case lwof => k_is); (case cwof => k_is); (case kwof => k_is); (case awob => k_is); (case lwob => k_is)
    (case cwob => k_is); (case kwob => k_is); (case awop => k_is); (case lwop => k_is); (case cwop => k_is); (case kwop => k_is)
    (case adig => k_is); (case ldig => k_is); (case cdig => k_is); (case kdig => k_is); (case awpi => k_is); (case lwpi => k_is)
    (case cwpi => k_is); (case kwpi => k_is); (case atxt => k_is); (case ltxt => k_is); (case ctxt => k_is); (case ktxt => k_is)
    (case atpr => k_is); (case ltpr => k_is); (case ctpr => k_is); (case ktpr => k_is); (case atpi => k_is); (case ltpi => k_is)
    (case ctpi => k_is); (case ktpi => k_is); (case atbk => k_is); (case ltbk => k_is); (case ctbk => k_is); (case ktbk => k_is)
    (case arbk => k_is); (case lrbk => k_is); (case crbk => k_is); (case krbk => k_is); (case amix => k_is); (case lmix => k_is)
    (case cmix => k_is); (case kmix => k_is); (case abeg => k_is); (case lbeg => k_is); (case cbeg => k_is); (case kbeg => k_is)
    (case adrw => k_is); (case ldrw => k_is); (case cdrw => k_is); (case kdrw => k_is); (case alof => k_is); (case llof => k_is)
    (case clof => k_is); (case klof => k_is); (case anam => k_is); (case lnam => k_is); (case cnam => k_is); (case knam => k_is)
    (case anms => k_is); (case lnms => k_is); (case cnms => k_is); (case knms => k_is); (case alfr => k_is); (case llfr => k_is)
    (case clfr => k_is); (case klfr => k_is); (case alef => k_is); (case llef => k_is); (case clef => k_is); (case klef => k_is)
    (case alst => k_is); (case llst => k_is); (case clst => k_is); (case klst => k_is); (case albl => k_is); (case llbl => k_is)
    (case clbl => k_is); (case klbl => k_is); (case alpi => k_is); (case llpi => k_is); (case clpi => k_is); (case klpi => k_is)
    (case albk => k_is); (case llbk => k_is); (case clbk => k_is); (case klbk => k_is); (case albw => k_is); (case llbw => k_is)
    (case clbw => k_is); (case klbw => k_is); (case alkw => k_is); (case llkw => k_is); (case clkw => k_is); (case klkw => k_is)
    (case alsi => k_is); (case llsi => k_is); (case clsi => k_is); (case klsi => k_is); (case alti => k_is); (case llti => k_is)
    (case clti => k_is); (case klti => k_is); (case alsp => k_is); (case llsp => k_is); (case clsp => k_is); (case klsp => k_is)
    (case alrt => k_is); (case llrt => k_is); (case clrt => k_is); (case klrt => k_is); (case alex => k_is); (case llex => k_is)
    (case clex => k_is); (case klex => k_is); (case algr => k_is); (case llgr => k_is); (case clgr => k_is); (case klgr => k_is)
    (case alaw => k_is); (case llaw => k_is); (case claw => k_is); (case klaw => k_is); (case v_LETTERS => k_is); (case v_RUN_SIGNS => k_is)
    (case v_BLANKS => k_is); (case v_DIGITS => k_is); (case v_MOST_LETTERS => k_is); (case v_MOST_NUMBER => k_is); (case v_MOST_VALUE => k_is); (case v_MOST_PIECES => k_is)
    (case v_MOST_VARS => k_is); (case v_MOST_PARAMS => k_is); (case v_MOST_STATEMENTS => k_is); (case v_MOST_AROUND => k_is); (case v_MOST_SIGNS => k_is); (case v_MOST_OPEN => k_is)
    (case v_MOST_DIGITS => k_is); (case vKD => k_is); (case lKD => k_is); (case vPP => k_is); (case lPP => k_is); (case litP => exact ⟨⟨_, _, rfl, rfl⟩, ⟨_, _, rfl, rfl⟩, ⟨_, _, rfl, rfl⟩, ⟨_, _, rfl, rfl⟩, ⟨_, _, rfl, rfl⟩, ⟨_, _, rfl, rfl⟩, ⟨_, _, rfl, rfl⟩, ⟨_, _, rfl, rfl⟩, ⟨_, _, rfl, rfl⟩, ⟨_, _, rfl, rfl⟩, ⟨_, _, rfl, rfl⟩, ⟨_, _, rfl, rfl⟩, ⟨_, _, rfl, rfl⟩, ⟨_, _, rfl, rfl⟩, trivial⟩)
    (case keyP => kernel_rfl); (case rfE => kernel_rfl); (case ndE => kernel_rfl); (case lnE => kernel_rfl); (case lowP => kernel_rfl); (case nP0 => k_is)
    (case lP0 => k_is); (case nP1 => k_is); (case lP1 => k_is); (case nP2 => k_is); (case lP2 => k_is); (case nP3 => k_is)
    (case lP3 => k_is); (case nP4 => k_is); (case lP4 => k_is); (case nP5 => k_is); (case lP5 => k_is); (case nP6 => k_is)
    (case lP6 => k_is); (case nP7 => k_is); (case lP7 => k_is); (case nP8 => k_is); (case lP8 => k_is); (case nP9 => k_is)
    (case lP9 => k_is); (case nP10 => k_is); (case lP10 => k_is); (case nP11 => k_is); (case lP11 => k_is); (case nP12 => k_is)
    (case lP12 => k_is); (case nP13 => k_is); (case lP13 => k_is); (case pg => k_is); (case hd => k_is); (case po => k_is)
    (case sa => k_is); (case mk => k_is); (case kc => k_is); (case nV => k_is); (case nK => k_is); (case nM => k_is)
    (case pgR => k_is); (case hdR => k_is); (case poR => k_is); (case saR => k_is); (case mkR => k_is); (case kcR => k_is)
    (case nRw => k_is); (case nRa => k_is); (case nRo => k_is); (case nRf => k_is); (case nRd => k_is); (case xL_B => k_is)
    (case xV_B => kernel_rfl); (case sa_B => k_is); (case ty_B => k_is); (case nb_B => k_is); (case k_B => k_is); (case e_B => k_is)
    (case t_B => k_is); (case z_isinstance => k_is); (case z_str => k_is); (case z_int => k_is); (case z_bool => k_is); (case z_tuple => k_is)
    (case z_len => k_is); (case z_all => k_is); (case z_set => k_is); (case z_zip => k_is); (case z_list => k_is); (case z_enumerate => k_is)
    (case z_repr => k_is); (case z_range => k_is); (case z_dict => k_is)

