import PyProof.Rows.All
import Wide.All
import OpenK.AllK
import Wide.FinOn
import HandS.EndTab
import HandS.HeadHook4
import HandS.HeadEnd
import HandS.ExcInit
import HandS.Words
import HandS.IsInst
import HandS.Head0
import HandS.Head1
import HandS.Head2
import Wide.Once
import HandS.ForMost
import HandS.Wide
import HandS.More
import HandS.Conv
import HandS.Steps
import HandS.Walk
import HandS.Iter
import HandS.Style
import HandS.Strs
import HandS.Zip
import HandS.NoneIn
import KE.KDictZip
import KE.GoesEnum
import HandS.SetKeys
import HandS.TupAny
import HandS.DictComp
import HandS.CallRecv
import HandS.ForExc
import KE.KTryMore
import KE.KExcIs
import HandS.RaiseMore
import HandS.Lambda
import HandS.Small
import HandS.TupMul
import HandS.Dict
import HandS.Star
import HandS.Text
import PyProof.StrOps2
import HandS.Defaults
import KE.KExcInit
import KE.KOpsOwn
import PyProof.InstNe
import KE.KStar
import HandS.Finally
import KE.KWithOwn
import HandS.Codes
import KE.DataEq
import HandS.MakeKwOnly
import HandS.TupLe
import PySem.Challenge.RW_stepwhere_k04_whole_rooms_kept
set_option Elab.async false
set_option linter.all false
set_option maxRecDepth 100000
set_option maxHeartbeats 2000000
/-! A head that is one kernel run: the facts of what the top has written, and the Hook that reads them. -/
namespace BK
open PySem PySem.Spec PyProof.Rows L2
/-! facts of what the top has written -/
/-- a def of no default, at a name of the module or a method -/
theorem fun_of {K : PySem.W.Frag} {x q : Str} {st : Stmt} {f : Addr} {fd : FuncData} (F : FunD K x q (defArgs st) (defBody st) (defScope st) [] [] f fd) : Fun K x q st f fd := by
  obtain ⟨⟨oc, od, dV, kV, doc, pm, an, cdv, ct, osl, e, lk, hcd, hD, _⟩, kp⟩ := F
  have ed : dV = .none := by
    rcases hD with ⟨e, _⟩ | ⟨e, _⟩
    · first | exact e | exact (by assumption)
    · exact absurd rfl e
  subst ed
  exact ⟨⟨oc, od, kV, doc, pm, an, cdv, ct, osl, e, lk, hcd⟩, kp⟩
/-- one that makes lambdas: its code object -/
theorem lam_of {K : PySem.W.Frag} {q : Str} {st : Stmt} {p : He.Defn} {fd : FuncData} (F : Fun K q q st (He.fAd K p) fd) :
    ∃ oc od kV doc pm an ct osl, K.lookup (He.fAd K p) = some ⟨oc, od, .func (PySem.W.fnOf q q (defArgs st) (defBody st) (defScope st) .none kV doc pm an (.ref (He.codeOf K p)) ct), osl⟩ ∧ PySem.W.codeIn K (.ref (He.codeOf K p)) q = true ∧ fd = PySem.W.fnOf q q (defArgs st) (defBody st) (defScope st) .none kV doc pm an (.ref (He.codeOf K p)) ct := by
  obtain ⟨oc, od, kV, doc, pm, an, cdv, ct, osl, e, lk, hcd⟩ := F.ex
  obtain ⟨c, rfl⟩ := He.codeIn_ref hcd
  have ec : He.codeOf K p = c := He.codeOf_eq lk (by rw [e] <;> rfl)
  rw [ec]
  rw [e] at lk
  exact ⟨oc, od, kV, doc, pm, an, ct, osl, lk, hcd, e⟩
/-- the same without a table in mind -/
theorem fun_ex {K : PySem.W.Frag} {q : Str} {st : Stmt} {f : Addr} {fd : FuncData} (F : Fun K q q st f fd) :
    ∃ oc od kV doc pm an cdv ct osl, K.lookup f = some ⟨oc, od, .func (PySem.W.fnOf q q (defArgs st) (defBody st) (defScope st) .none kV doc pm an cdv ct), osl⟩ ∧ PySem.W.codeIn K cdv q = true ∧ fd = PySem.W.fnOf q q (defArgs st) (defBody st) (defScope st) .none kV doc pm an cdv ct := by
  obtain ⟨oc, od, kV, doc, pm, an, cdv, ct, osl, e, lk, hcd⟩ := F.ex
  rw [e] at lk
  exact ⟨oc, od, kV, doc, pm, an, cdv, ct, osl, lk, hcd, e⟩
/-- an own error's class, made by id -/
def excB (K : PySem.W.Frag) (C : Addr) (id : String) : Bool := match K.lookup C with
  | some ⟨.type t, _, .cls cd, sl⟩ => decide (t = "type") && (cd.hasDict && (!cd.hasDel && ((match cd.mro with
    | .ref C' :: bm => decide (C' = C) && PySem.HandSPX.refsVE bm
    | _ => false) && (match sl.toList with
    | [_, _, _, _, some (.builtin n), _] => decide (n = id)
    | _ => false))))
  | _ => false
theorem excB_ok {K : PySem.W.Frag} {C : Addr} {id : String} (h : excB K C id = true) : ∃ nm q N bs bm sn sub ab col dd k0 k1 k2 k3 k5, K.lookup C = some (excClassObj nm q C N bs bm true sn sub ab col dd k0 k1 k2 k3 k5 id) ∧ PySem.HandSPX.refsVE bm = true := by
  unfold excB at h
  split at h
  · rename_i t dd cd sl e
    obtain ⟨h1, h⟩ := Bool.and_eq_true_iff.mp h
    obtain ⟨h2, h⟩ := Bool.and_eq_true_iff.mp h
    obtain ⟨h3, h⟩ := Bool.and_eq_true_iff.mp h
    obtain ⟨h4, h5⟩ := Bool.and_eq_true_iff.mp h
    obtain ⟨nm, bs, mro, N, q, hd, sn, sub, ab, col, hdel⟩ := cd
    have h1 := of_decide_eq_true h1
    subst h1
    have h2 : hd = true := h2
    subst h2
    have h3 : hdel = false := by
      cases hdel with
      | false => rfl
      | true => cases h3
    subst h3
    split at h4
    · rename_i C' bm em
      obtain ⟨h6, h7⟩ := Bool.and_eq_true_iff.mp h4
      have h6 := of_decide_eq_true h6
      subst h6
      have em : mro = .ref C' :: bm := em
      subst em
      split at h5
      · rename_i k0 k1 k2 k3 n k5 es
        have h5 := of_decide_eq_true h5
        subst h5
        have es2 : sl = #[k0, k1, k2, k3, some (.builtin n), k5] := by
          rw [← Array.toList_inj, es]
        subst es2
        exact ⟨nm, q, N, bs, bm, sn, sub, ab, col, dd, k0, k1, k2, k3, k5, e, h7⟩
      · cases h5
    · cases h4
  · cases h
/-- a table whose values are tuples of texts -/
def tupsB (K : PySem.W.Frag) (a : Addr) (kvs : List (Str × List Str)) : Bool := kvs.all fun q => match PySem.W.nsIn K a q.1 with
  | some (some (.ref t)) => (match K.lookup t with
    | some ⟨.type c, _, .seq its _, _⟩ => decide (c = "tuple") && (decide (its.size ≤ sizeLine) && He.relAll (q.2.map V.str) its.toList)
    | _ => false)
  | _ => false
theorem tupsB_ok {K : PySem.W.Frag} {a : Addr} {kvs : List (Str × List Str)} (h : tupsB K a kvs = true) {x : Str} {ks : List Str} (hm : (x, ks) ∈ kvs) : ∃ t, PySem.W.nsIn K a x = some (some (.ref t)) ∧ ∀ H, SqT K H t (ks.map V.str) := by
  have h1 := List.all_eq_true.mp h (x, ks) hm
  dsimp only at h1
  split at h1
  · rename_i t e
    refine ⟨t, e, fun H => ?_⟩
    split at h1
    · rename_i c dd its n sl el
      obtain ⟨h2, h3⟩ := Bool.and_eq_true_iff.mp h1
      obtain ⟨h4, h5⟩ := Bool.and_eq_true_iff.mp h3
      have h2 := of_decide_eq_true h2
      subst h2
      exact .inr ⟨_, its, n, el, rfl, rfl, of_decide_eq_true h4, He.relAll_ok h5⟩
    · cases h1
  · cases h1
/-- what isinstance asks -/
def isFB (K : PySem.W.Frag) (C : Addr) : Bool := PySem.W.isClsIn K C && (He.eqO (PySem.W.findIn K (.ref C) "__class__") (some (some (.builtin "object.__class__"))) && (He.eqO (PySem.W.specialIn K (.builtin "object.__class__") "__get__") (some (some (.builtin "getset_descriptor.__get__"))) && (decide (PySem.W.takesIn K (.builtin "object.__class__") = some true) && decide (PySem.W.mroIn K C (.type "object") = some true))))
/-- all of a list of Bools -/
def allB : List Bool → Bool
  | [] => true
  | b :: r => b && allB r
theorem allB_at : ∀ {l : List Bool} {i : Nat}, allB l = true → i < l.length → l.getD i false = true
  | [], _, _, h => absurd h (Nat.not_lt_zero _)
  | b :: r, 0, h, _ => (Bool.and_eq_true_iff.mp h).1
  | b :: r, i + 1, h, hi => allB_at (l := r) (Bool.and_eq_true_iff.mp h).2 (Nat.lt_of_succ_lt_succ hi)
/-! the Hook: all objects below N, empty tables left out, each read once -/
def forceK {β : Type} : List (Addr × Obj) → (List (Addr × Obj) → β) → β
  | [], k => k []
  | p :: r, k => forceK r fun r' => k (p :: r')
theorem forceK_eq {β : Type} : ∀ (l : List (Addr × Obj)) (k : List (Addr × Obj) → β), forceK l k = k l
  | [], k => rfl
  | p :: r, k => forceK_eq r fun r' => k (p :: r')
def obsR (N : Nat) (fa : List He.Fa) (fn : List He.DefD) (ts : List He.Tab) (tf : List He.Defn) (ex : PySem.W.Frag → Bool) (g : Addr → Option Obj) : He.AlX := forceK (He.frT g (List.range N)) fun K => (He.obsT fa fn ts K, ex K && He.tabsB g tf K)
theorem saysR_of {N : Nat} {fa : List He.Fa} {fn : List He.DefD} {ts : List He.Tab} {tf : List He.Defn} {ex : PySem.W.Frag → Bool} {w : World} {h : Heap} (e : obsR N fa fn ts tf ex h.get? = He.valX fn ts w) : He.SaysX fa fn ts tf ex w h (He.frT h.get? (List.range N)) := by
  unfold obsR at e
  rw [forceK_eq] at e
  have e1 : He.obsT fa fn ts (He.frT h.get? (List.range N)) = He.valT fn ts w := congrArg (fun z : He.AlX => z.1) e
  have e2 : (ex (He.frT h.get? (List.range N)) && He.tabsB h.get? tf (He.frT h.get? (List.range N))) = true := congrArg (fun z : He.AlX => z.2) e
  obtain ⟨h1, h2⟩ := Bool.and_eq_true_iff.mp e2
  have key : ∀ p ∈ tf, PySem.W.codeHdIn (He.frT h.get? (List.range N)) (He.cT (He.frT h.get? (List.range N)) p).1 (He.cT (He.frT h.get? (List.range N)) p).2 = true ∧ ∃ o, h.get? (He.cT (He.frT h.get? (List.range N)) p).2 = some o ∧ He.emptyTab o = true := fun p hp => by
    obtain ⟨h3, h4⟩ := Bool.and_eq_true_iff.mp (List.all_eq_true.mp h2 p hp)
    refine ⟨h3, ?_⟩
    cases q : h.get? (He.cT (He.frT h.get? (List.range N)) p).2 with
    | none =>
      rw [q] at h4
      cases h4
    | some o =>
      rw [q] at h4
      exact ⟨o, rfl, h4⟩
  exact ⟨e1, h1, fun p hp => (key p hp).1, fun p hp => by
    obtain ⟨_, o, q, z⟩ := key p hp
    exact He.frT_none q z, fun p hp => by
    obtain ⟨_, o, q, z⟩ := key p hp
    rw [q, He.emptyTab_eq z]⟩
def hookR (N : Nat) (fa : List He.Fa) (fn : List He.DefD) (ts : List He.Tab) (tf : List He.Defn) (ex : PySem.W.Frag → Bool) : PySem.W.Hook where
  α := He.AlX
  obs := fun s => obsR N fa fn ts tf ex s.heap.get?
  val := fun w => He.valX fn ts w
  says := fun w h => ∃ K : PySem.W.Frag, K.In h ∧ He.SaysX fa fn ts tf ex w h K
  of := fun _ _ e => ⟨_, He.frT_in, saysR_of e⟩
  keeps := fun _ _ _ ⟨K, hK, c⟩ k => ⟨K, PySem.W.Frag.In.keeps hK k, ⟨c.t, c.more, c.hd, c.out, fun p hp => k _ _ (c.empty p hp)⟩⟩
theorem obsR_eq {N : Nat} {fa : List He.Fa} {fn : List He.DefD} {ts : List He.Tab} {tf : List He.Defn} {ex : PySem.W.Frag → Bool} {g : Addr → Option Obj} {s : Shared} (h : ∀ a, g a = s.heap.get? a) : obsR N fa fn ts tf ex g = (hookR N fa fn ts tf ex).obs s := by
  have e : g = s.heap.get? := funext h
  rw [e] <;> rfl
/-! the keys of a dict of the top -/
def keyX (e : DictEntry) : Str := match e.key with
  | .str k _ => k
  | _ => Str.empty
def refX : Value → Bool
  | .ref _ => true
  | _ => false
def tabKB (names : List Str) (l : List DictEntry) : Bool := l.all fun e => match e.key with
  | .str k _ => decide (k ∈ names)
  | _ => false
def tabX (K : PySem.W.Frag) (a : Addr) (names : List Str) : Bool := match K.lookup a with
  | some ⟨_, _, .dict es _, _⟩ => tabKB names es.toList && ((es.toList.all fun e => refX e.val) && (decide ((es.toList.map keyX).Nodup) && decide (es.toList.length ≤ 1000)))
  | _ => false
theorem tabX_ok {K : PySem.W.Frag} {a : Addr} {names : List Str} (h : tabX K a names = true) {oc : Value} {od : Option Addr} {es : Array DictEntry} {n : Nat} {sl : Array (Option Value)} (e : K.lookup a = some ⟨oc, od, .dict es n, sl⟩) : tabKB names es.toList = true ∧ (es.toList.all fun e => refX e.val) = true ∧ (es.toList.map keyX).Nodup ∧ es.toList.length ≤ 1000 := by
  unfold tabX at h
  rw [e] at h
  obtain ⟨h1, h⟩ := Bool.and_eq_true_iff.mp h
  obtain ⟨h2, h⟩ := Bool.and_eq_true_iff.mp h
  obtain ⟨h3, h4⟩ := Bool.and_eq_true_iff.mp h
  exact ⟨h1, h2, of_decide_eq_true h3, of_decide_eq_true h4⟩
theorem noKey {K : PySem.W.Frag} {p : Addr} {names : List Str} {oc : Value} {od : Option Addr} {es : Array DictEntry} {n : Nat} {sl : Array (Option Value)} (hl : K.lookup p = some ⟨oc, od, .dict es n, sl⟩) (hk : tabKB names es.toList = true) (x : Str) (hx : x ∉ names) : PySem.W.nsIn K p x = some none := by
  have e1 : es.toList.find? (·.key.isStr x) = none := by
    rw [List.find?_eq_none]
    intro e he
    have q := List.all_eq_true.mp hk e he
    cases ek : e.key with
    | str k t =>
      rw [ek] at q
      intro z
      have z2 : Value.isStrOf x (.str k t) = true := by rw [← PySem.W.isStr_of]; exact z
      have e2 : k = x := by
        unfold Value.isStrOf at z2
        simpa using z2
      have q2 : k ∈ names := of_decide_eq_true q
      rw [e2] at q2
      exact hx q2
    | _ => rw [ek] at q; cases q
  have e2 : es.toList.any (·.refKey) = false := by
    rw [List.any_eq_false]
    intro e he
    have q := List.all_eq_true.mp hk e he
    cases ek : e.key with
    | str k t =>
      unfold DictEntry.refKey
      rw [ek]
      simp
    | _ => rw [ek] at q; cases q
  unfold PySem.W.nsIn
  rw [hl]
  show (match es.toList.find? (·.key.isStr x) with
      | some e => some (some e.val)
      | none => if es.toList.any (·.refKey) then none else some none) = some none
  rw [e1, e2]
  rfl
end BK

set_option Elab.async false
set_option maxRecDepth 100000
set_option maxHeartbeats 1000000
/-! Trees of data; names, numbers, tuples. -/
namespace BK
open PySem PySem.Spec PyProof.Rows L2
def top (i : Nat) : Stmt := PySem.Challenge.pw_stepwhere_k04_whole_rooms_kept.main.body.getD i (.Pass ⟨0, 0, 0, 0⟩)
theorem same_new {H : Hp} {p : Addr} {o : HO} (h : H p = none) : Same H (upd H p o) := fun b u e => by
  rw [upd_ne (ne_of_none e h)]
  exact e
theorem sqt_same {K : PySem.W.Frag} {H H' : Hp} {q : Addr} {xs : List V} (e : Same H H') (h : SqT K H q xs) : SqT K H' q xs := by
  rcases h with (h | ⟨o, h⟩) | h
  · exact .inl (.inl (e _ _ h))
  · exact .inl (.inr ⟨o, e _ _ h⟩)
  · exact .inr h
theorem sqt_ty {K : PySem.W.Frag} {H : Hp} {t : Addr} {xs : List V} (h : SqT K H t xs) : TyX K H (.ref t) (.type "tuple") := by
  rcases h with (h | ⟨o2, h⟩) | ⟨o2, its, n, h1, h2, _⟩
  · exact .base (.tup h)
  · exact .fTuple h
  · exact .kTuple h1 h2
theorem sql_ty {K : PySem.W.Frag} {H : Hp} {t : Addr} {xs : List V} (h : SqL K H t xs) : TyX K H (.ref t) (.type "list") := by
  rcases h with (h | ⟨o2, h⟩) | ⟨o2, its, n, h1, h2, _⟩
  · exact .base (.lst h)
  · exact .base (.frz h)
  · exact .kList h1 h2
theorem tyes {σ : L2.St} {H : Hp} {f g : Hp → Prop} (h : f H) : tYes σ H fun b H3 => if b = true then f H3 else g H3 := by
  show (if true = true then f H else g H)
  exact iteT h
/-- a tree of data; of lists and dicts only that they are such -/
inductive Tr where
  | non
  | bl (b : Bool)
  | int (i : Int)
  | str (s : Str)
  | lst
  | dct
  | tup (ts : List Tr)
mutual
inductive TrAt (K : PySem.W.Frag) (H : Hp) : V → Tr → Prop
  | non : TrAt K H .non .non
  | bl (b : Bool) : TrAt K H (.bl b) (.bl b)
  | int (i : Int) : TrAt K H (.int i) (.int i)
  | str (s : Str) (h : s.length ≤ sizeLine) : TrAt K H (.str s) (.str s)
  | lst {a : Addr} {xs : List V} (h : SqL K H a xs) : TrAt K H (.ref a) .lst
  | dct {a : Addr} {kvs : List (Key × V)} (h : H a = some (.dK kvs)) : TrAt K H (.ref a) .dct
  | tup {a : Addr} {xs : List V} {ts : List Tr} (h : SqT K H a xs) (k : TrAll K H xs ts) : TrAt K H (.ref a) (.tup ts)
inductive TrAll (K : PySem.W.Frag) (H : Hp) : List V → List Tr → Prop
  | nil : TrAll K H [] []
  | cons {v : V} {vs : List V} {t : Tr} {ts : List Tr} (h : TrAt K H v t) (k : TrAll K H vs ts) : TrAll K H (v :: vs) (t :: ts)
end
section
variable {K : PySem.W.Frag} {H H' : Hp}
mutual
theorem TrAt.same (e : Same H H') : ∀ {v : V} {t : Tr}, TrAt K H v t → TrAt K H' v t
  | _, _, .non => .non
  | _, _, .bl b => .bl b
  | _, _, .int i => .int i
  | _, _, .str s h => .str s h
  | _, _, .lst h => .lst (e.seq h)
  | _, _, .dct h => .dct (e _ _ h)
  | _, _, .tup h k => .tup (sqt_same e h) (TrAll.same e k)
theorem TrAll.same (e : Same H H') : ∀ {vs : List V} {ts : List Tr}, TrAll K H vs ts → TrAll K H' vs ts
  | _, _, .nil => .nil
  | _, _, .cons h k => .cons (h.same e) (k.same e)
end
theorem TrAll.len : ∀ {vs : List V} {ts : List Tr}, TrAll K H vs ts → vs.length = ts.length
  | _, _, .nil => rfl
  | _, _, .cons _ k => congrArg (· + 1) k.len
theorem TrAll.get : ∀ {vs : List V} {ts : List Tr} {i : Nat} {v : V}, TrAll K H vs ts → vs[i]? = some v → ∃ t, ts[i]? = some t ∧ TrAt K H v t
  | _, _, _, _, .nil, h => by simp at h
  | _, _, 0, _, .cons h k, e => by
    rw [List.getElem?_cons_zero] at e
    cases e
    exact ⟨_, rfl, h⟩
  | _, _, i + 1, _, .cons h k, e => by
    rw [List.getElem?_cons_succ] at e
    obtain ⟨t, h1, h2⟩ := k.get e
    exact ⟨t, by rw [List.getElem?_cons_succ]; exact h1, h2⟩
theorem TrAll.get' : ∀ {vs : List V} {ts : List Tr} {i : Nat} {t : Tr}, TrAll K H vs ts → ts[i]? = some t → ∃ v, vs[i]? = some v ∧ TrAt K H v t
  | _, _, _, _, .nil, h => by simp at h
  | _, _, 0, _, .cons h k, e => by
    rw [List.getElem?_cons_zero] at e
    cases e
    exact ⟨_, rfl, h⟩
  | _, _, i + 1, _, .cons h k, e => by
    rw [List.getElem?_cons_succ] at e
    obtain ⟨t, h1, h2⟩ := k.get' e
    exact ⟨t, by rw [List.getElem?_cons_succ]; exact h1, h2⟩
/-- a list is written -/
theorem sqt_updL {D : Addr} {ys ys' xs : List V} {a : Addr} (e : H D = some (.lst ys)) (h : SqT K H a xs) : SqT K (upd H D (.lst ys')) a xs := by
  rcases h with (h | ⟨o, h⟩) | h
  · exact .inl (.inl (by rw [upd_ne (ne_of h e (by intro z; cases z))]; exact h))
  · exact .inl (.inr ⟨o, by rw [upd_ne (ne_of h e (by intro z; cases z))]; exact h⟩)
  · exact .inr h
mutual
theorem TrAt.updL {D : Addr} {ys ys' : List V} (e : H D = some (.lst ys)) : ∀ {v : V} {t : Tr}, TrAt K H v t → TrAt K (upd H D (.lst ys')) v t
  | _, _, .non => .non
  | _, _, .bl b => .bl b
  | _, _, .int i => .int i
  | _, _, .str s h => .str s h
  | _, _, .lst (a := a) (xs := xs) h => by
    by_cases z : a = D
    · rw [z]
      exact .lst (SqL.of upd_same)
    · refine .lst (xs := xs) ?_
      rcases h with (h | ⟨o, h⟩) | h
      · exact .inl (.inl (by rw [upd_ne z]; exact h))
      · exact .inl (.inr ⟨o, by rw [upd_ne z]; exact h⟩)
      · exact .inr h
  | _, _, .dct h => .dct (by rw [upd_ne (ne_of h e (by intro z; cases z))]; exact h)
  | _, _, .tup h k => .tup (sqt_updL e h) (TrAll.updL e k)
theorem TrAll.updL {D : Addr} {ys ys' : List V} (e : H D = some (.lst ys)) : ∀ {vs : List V} {ts : List Tr}, TrAll K H vs ts → TrAll K (upd H D (.lst ys')) vs ts
  | _, _, .nil => .nil
  | _, _, .cons h k => .cons (h.updL e) (k.updL e)
end
def tyT : Tr → String
  | .non => "NoneType"
  | .bl _ => "bool"
  | .int _ => "int"
  | .str _ => "str"
  | .lst => "list"
  | .dct => "dict"
  | .tup _ => "tuple"
theorem TrAt.ty {v : V} {t : Tr} (h : TrAt K H v t) : TyX K H v (.type (tyT t)) := by
  cases h with
  | non => exact .base .non
  | bl b => exact .base (.bl b)
  | int i => exact .base (.int i)
  | str s h => exact .base (.str s)
  | lst h => exact sql_ty h
  | dct h => exact .base (.dK h)
  | tup h k => exact sqt_ty h
end
def isStr : Tr → Bool
  | .str _ => true
  | _ => false
def isInt : Tr → Bool
  | .int _ => true
  | .bl _ => true
  | _ => false
def isBl : Tr → Bool
  | .bl _ => true
  | _ => false
def isTup : Tr → Bool
  | .tup _ => true
  | _ => false
theorem k_str (K : PySem.W.Frag) (t : Tr) : PySem.W.kitOne K (.type (tyT t)) (.type "str") = some (isStr t) := by
  cases t <;> exact kit_ty (by simp only [tyT, isStr]; decide +kernel)
theorem k_int (K : PySem.W.Frag) (t : Tr) : PySem.W.kitOne K (.type (tyT t)) (.type "int") = some (isInt t) := by
  cases t <;> exact kit_ty (by simp only [tyT, isInt]; decide +kernel)
theorem k_bl (K : PySem.W.Frag) (t : Tr) : PySem.W.kitOne K (.type (tyT t)) (.type "bool") = some (isBl t) := by
  cases t <;> exact kit_ty (by simp only [tyT, isBl]; decide +kernel)
theorem k_tup (K : PySem.W.Frag) (t : Tr) : PySem.W.kitOne K (.type (tyT t)) (.type "tuple") = some (isTup t) := by
  cases t <;> exact kit_ty (by simp only [tyT, isTup]; decide +kernel)
def alpha : Str := "abcdefghijklmnopqrstuvwxyz"
/-- a word of 1 to 8 letters -/
def nameS (s : Str) : Bool := decide (1 ≤ s.length) && decide (s.length ≤ 8) && s.cps.toList.all fun c => decide (c ∈ alpha.cps.toList)
def nameT : Tr → Bool
  | .str s => nameS s
  | _ => false
def numT (most : Int) : Tr → Bool
  | .int i => decide (0 ≤ i) && decide (i ≤ most)
  | _ => false
def tupT (n : Nat) : Tr → Bool
  | .tup ts => ts.length == n
  | _ => false
/-- what the top has written of the forms -/
structure Forms (mg : Str → Option Value) : Prop where
  le : ∃ t, mg "LETTERS" = some (.str alpha t)
  ml : ∃ t, mg "MOST_LETTERS" = some (.int 8 t)
  mn : ∃ t, mg "MOST_NUMBER" = some (.int 99 t)
  isi : mg "isinstance" = none
  str : mg "str" = none
  int : mg "int" = none
  bool : mg "bool" = none
  tuple : mg "tuple" = none
  len : mg "len" = none
  all : mg "all" = none
def spOf (f : Tr → Bool) (K : PySem.W.Frag) : Sp := fun vs H Q _ => ∃ v t, vs = [v] ∧ TrAt K H v t ∧ ∀ H', Same H H' → Q (.bl (f t)) H'
section
variable {P : Program} {w : World} {K : PySem.W.Frag} {mg : Str → Option Value} {base : Heap}
abbrev sName : Stmt := top 14
abbrev sInteger : Stmt := top 16
abbrev sNumber : Stmt := top 17
abbrev sTuple : Stmt := top 18
theorem scName : FnScope ["thing", "letter"] ["thing"] (defScope sName) := ⟨rfl, rfl, rfl, by decide +kernel, rfl, by decide +kernel, by decide +kernel⟩
theorem ok_name {f : Addr} {fd : FuncData} (F : Fun K "is_name" "is_name" sName f fd) (T : Forms mg) : FnOk P w K mg base CX0 1 f fd ["thing"] (spOf nameT K) := by
  refine F.ok scName (fun vs H Q E h => ?_) (fun cdv A outer s H vs Q E hr h => ?_)
  · obtain ⟨v, t, rfl, _⟩ := h
    rfl
  · obtain ⟨v, t, rfl, ht, k⟩ := h
    obtain ⟨t1, gL⟩ := T.le
    obtain ⟨t2, gM⟩ := T.ml
    refine ⟨_, pss_cons (ps_if (PW.pt (pw_or (pt_not (pt_val (pe_callB call_isi (by rfl) T.isi boot_isinstance (pa_cons (pv 0) (pa_cons (pe_bltn (v := .ty "str") (u := .type "str") (by rfl) T.str (by decide +kernel) rfl) pa_nil)))))
        (pw_or1 (pt_not (pt_chain op_le op_le pe_int (pe_callB call_len_str (by rfl) T.len boot_len (pa_cons (pv 0) pa_nil)) (pe_glob (v := .int 8) rfl gM ⟨_, rfl⟩)))))) (pss_one (ps_ret pe_bl)) pss_nil)
      (pss_one (ps_ret (pe_callB (cr_all rfl) (by rfl) T.all (by decide +kernel) (pa_cons (pe_lc (own := [("letter", 1)]) (g := gName 1) (tt := tYes) rfl scName.nd (pi_str (pv 0))
          (blkOk_by (N := ["thing", "letter"]) (sc := defScope sName) (by decide +kernel)) (fun _ _ _ _ _ => pg_name (i := 1) scName.nd rfl (Or.inl rfl)) (fun _ _ _ _ _ => pts_nil)
          (fun _ _ _ _ _ => pe_cmpR op_inS (pv 1) (pe_glob (v := .str alpha) rfl gL ⟨_, rfl⟩) rfl)) pa_nil)))), ?_⟩
    refine ⟨_, rfl, v, .ty "str", .type (tyT t), .type "str", isStr t, rfl, .ty "str", ht.ty, k_str K t, _, rfl, ?_⟩
    cases ht with
    | str z hz =>
      refine iteF ?_
      have fin : ∀ b : Bool, b = nameS z → ∀ H', Same H H' → Q (.bl b) H' := fun b e H' s' => by
        rw [e]
        exact k H' s'
      refine ⟨_, rfl, z, rfl, hz, _, _, rfl, rfl, _, rfl, ?_⟩
      refine ite2 (fun h1 => ?_) (fun h1 => ?_)
      · refine ⟨_, _, rfl, rfl, _, rfl, ?_⟩
        refine ite2 (fun h2 => ?_) (fun h2 => ?_)
        · refine fin false ?_ H fun _ _ e => e
          have h : ¬ ((z.length : Int) ≤ 8) := by simpa using h2
          have h' : ¬ (z.length ≤ 8) := by omega
          unfold nameS
          rw [decide_eq_false h', Bool.and_false, Bool.false_and]
        · have h : (z.length : Int) ≤ 8 := by simpa using h2
          have hl : z.length ≤ 8 := by omega
          have hl1 : 1 ≤ z.length := by
            have q : (1 : Int) ≤ (z.length : Int) := of_decide_eq_true h1
            omega
          refine ⟨_, rfl, z, rfl, fun D nD => ?_⟩
          refine lc_it (walk_str (z := z)) (fun i H2 => Same H H2 ∧ H2 D = some (.lst (((z.cps.toList.take i).map fun c => decide (c ∈ alpha.cps.toList)).map V.bl))) ⟨same_new nD, upd_same⟩ (fun _ _ _ _ => True.intro) ?_ ?_
          · rintro i x H2 H3 hi ⟨s2, e2⟩ ⟨rfl, c, hc, rfl⟩
            refine ⟨rfl, ?_⟩
            refine tyes ?_
            refine ⟨_, rfl, c, alpha, rfl, rfl, _, e2, small1000 (by rw [List.length_map, List.length_map, List.length_take, Array.length_toList]; have : z.cps.size ≤ 8 := hl; omega), fun b o e => ?_, ?_⟩
            · rw [upd_ne (ne_of_none e nD)]
              exact s2 b o e
            · have hc' : z.cps.toList[i]? = some c := by rw [Array.getElem?_toList]; exact hc
              rw [upd_same, List.take_add_one, hc', List.map_append, List.map_append]
              rfl
          · rintro H2 ⟨s2, e2⟩
            refine ⟨D, _, rfl, SqL.of e2, fin _ ?_ H2 s2⟩
            have et : z.cps.toList.take z.cps.size = z.cps.toList := by rw [← Array.length_toList, List.take_length]
            unfold nameS
            rw [decide_eq_true hl, decide_eq_true hl1, et, List.all_map]
            simp [Function.comp]
      · refine ⟨_, rfl, iteT (fin false ?_ H fun _ _ e => e)⟩
        have h : ¬ ((1 : Int) ≤ (z.length : Int)) := fun q => h1 (decide_eq_true q)
        have h' : ¬ (1 ≤ z.length) := by omega
        unfold nameS
        rw [decide_eq_false h', Bool.false_and, Bool.false_and]
    | non => exact iteT (k H fun _ _ e => e)
    | bl b => exact iteT (k H fun _ _ e => e)
    | int i => exact iteT (k H fun _ _ e => e)
    | lst h => exact iteT (k H fun _ _ e => e)
    | dct h => exact iteT (k H fun _ _ e => e)
    | tup h q => exact iteT (k H fun _ _ e => e)
/-! numbers, tuples -/
def spNumber (K : PySem.W.Frag) : Sp := fun vs H Q _ => ∃ v t most, vs = [v, .int most] ∧ TrAt K H v t ∧ Q (.bl (numT most t)) H
def spTuple (K : PySem.W.Frag) : Sp := fun vs H Q _ => ∃ v t n, vs = [v, .int n] ∧ TrAt K H v t ∧ Q (.bl (match t with | .tup ts => decide ((ts.length : Int) = n) | _ => false)) H
def spInteger (K : PySem.W.Frag) : Sp := fun vs H Q _ => ∃ v t, vs = [v] ∧ TrAt K H v t ∧ Q (.bl (isInt t && !isBl t)) H
theorem scInteger : FnScope ["thing"] ["thing"] (defScope sInteger) := ⟨rfl, rfl, rfl, by decide +kernel, rfl, by decide +kernel, by decide +kernel⟩
theorem ok_integer {f : Addr} {fd : FuncData} (F : Fun K "is_integer" "is_integer" sInteger f fd) (T : Forms mg) : FnOk P w K mg base CX0 1 f fd ["thing"] (spInteger K) := by
  refine F.ok scInteger (fun vs H Q E h => ?_) (fun cdv A outer s H vs Q E hr h => ?_)
  · obtain ⟨v, t, rfl, _⟩ := h
    rfl
  · obtain ⟨v, t, rfl, ht, k⟩ := h
    refine ⟨_, pss_one (ps_ret (pe_and (pe_callB call_isi (by rfl) T.isi boot_isinstance (pa_cons (pv 0) (pa_cons (pe_bltn (v := .ty "int") (u := .type "int") (by rfl) T.int (by decide +kernel) rfl) pa_nil)))
      (pe_one (pe_not (pe_callB call_isi (by rfl) T.isi boot_isinstance (pa_cons (pv 0) (pa_cons (pe_bltn (v := .ty "bool") (u := .type "bool") (by rfl) T.bool (by decide +kernel) rfl) pa_nil))))))), ?_⟩
    refine ⟨_, rfl, v, .ty "int", .type (tyT t), .type "int", isInt t, rfl, .ty "int", ht.ty, k_int K t, _, rfl, ?_⟩
    have two := ht.ty
    cases ht with
    | int i => exact iteT ⟨_, rfl, _, .ty "bool", .type (tyT (.int i)), .type "bool", isBl (.int i), rfl, .ty "bool", two, k_bl K _, _, rfl, k⟩
    | bl b => exact iteT ⟨_, rfl, _, .ty "bool", .type (tyT (.bl b)), .type "bool", isBl (.bl b), rfl, .ty "bool", two, k_bl K _, _, rfl, k⟩
    | str z hz => exact iteF k
    | non => exact iteF k
    | lst h => exact iteF k
    | dct h => exact iteF k
    | tup h q => exact iteF k
theorem scNumber : FnScope ["thing", "most"] ["thing", "most"] (defScope sNumber) := ⟨rfl, rfl, rfl, by decide +kernel, rfl, by decide +kernel, by decide +kernel⟩
theorem ok_number {f fI : Addr} {fd fdI : FuncData} (F : Fun K "is_number" "is_number" sNumber f fd)
    (GI : FnOk P w K mg base CX0 1 fI fdI ["thing"] (spInteger K)) (bI : Binds K fdI ["thing"] []) (gI : mg "is_integer" = some (.ref fI)) (kI : PySem.W.keepIn K (.ref fI) = true) : FnOk P w K mg base CX0 2 f fd ["thing", "most"] (spNumber K) := by
  refine F.ok scNumber (fun vs H Q E h => ?_) (fun cdv A outer s H vs Q E hr h => ?_)
  · obtain ⟨v, t, most, rfl, _⟩ := h
    rfl
  · obtain ⟨v, t, most, rfl, ht, k⟩ := h
    refine ⟨_, pss_one (ps_ret (pe_and (pe_call GI hr rfl gI kI bI .nil pass0 (pa_cons (pv 0) pa_nil))
      (pe_one (pe_chain op_le op_le pe_int (pv 0) (pv 1))))), ?_⟩
    refine ⟨_, rfl, v, t, rfl, ht, _, rfl, ?_⟩
    cases ht with
    | int i =>
      refine iteT ⟨_, rfl, _, _, rfl, rfl, _, rfl, ?_⟩
      refine ite2 (fun h => ?_) (fun h => ?_)
      · have h' : decide ((0 : Int) ≤ i) = true := h
        have e : numT most (.int i) = decide (i ≤ most) := by
          show (decide (0 ≤ i) && decide (i ≤ most)) = _
          rw [h', Bool.true_and]
        rw [e] at k
        exact ⟨_, rfl, _, _, rfl, rfl, k⟩
      · have h' : decide ((0 : Int) ≤ i) = false := by simpa using h
        have e : numT most (.int i) = false := by
          show (decide (0 ≤ i) && decide (i ≤ most)) = _
          rw [h', Bool.false_and]
        rw [e] at k
        exact k
    | bl b => exact iteF k
    | str z hz => exact iteF k
    | non => exact iteF k
    | lst h => exact iteF k
    | dct h => exact iteF k
    | tup h q => exact iteF k
theorem scTuple : FnScope ["thing", "count"] ["thing", "count"] (defScope sTuple) := ⟨rfl, rfl, rfl, by decide +kernel, rfl, by decide +kernel, by decide +kernel⟩
theorem ok_tuple {f : Addr} {fd : FuncData} (F : Fun K "is_tuple" "is_tuple" sTuple f fd) (T : Forms mg) : FnOk P w K mg base CX0 1 f fd ["thing", "count"] (spTuple K) := by
  refine F.ok scTuple (fun vs H Q E h => ?_) (fun cdv A outer s H vs Q E hr h => ?_)
  · obtain ⟨v, t, n, rfl, _⟩ := h
    rfl
  · obtain ⟨v, t, n, rfl, ht, k⟩ := h
    refine ⟨_, pss_one (ps_ret (pe_and (pe_callB call_isi (by rfl) T.isi boot_isinstance (pa_cons (pv 0) (pa_cons (pe_bltn (v := .ty "tuple") (u := .type "tuple") (by rfl) T.tuple (by decide +kernel) rfl) pa_nil)))
      (pe_one (pe_cmpR op_eq (pe_callB call_len_seq (by rfl) T.len boot_len (pa_cons (pv 0) pa_nil)) (pv 1) (nomark _))))), ?_⟩
    refine ⟨_, rfl, v, .ty "tuple", .type (tyT t), .type "tuple", isTup t, rfl, .ty "tuple", ht.ty, k_tup K t, _, rfl, ?_⟩
    cases ht with
    | @tup a xs ts h q =>
      refine iteT ⟨_, rfl, a, xs, rfl, .inr h, _, rfl, rfl, ?_⟩
      have e : decide (V.int (xs.length : Int) = V.int n) = decide ((ts.length : Int) = n) := by
        rw [dec_int, q.len]
        by_cases z : (ts.length : Int) = n
        · rw [z]
          simp
        · rw [decide_eq_false z, beq_eq_false_iff_ne]
          exact z
      rw [e]
      exact k
    | int i => exact iteF k
    | bl b => exact iteF k
    | str z hz => exact iteF k
    | non => exact iteF k
    | lst h => exact iteF k
    | dct h => exact iteF k
/-! the parts of a statement that are blocks -/
abbrev sBlocks : Stmt := top 25
def spBlocks (K : PySem.W.Frag) : Sp := fun vs H Q _ => ∃ v ts, vs = [v] ∧ TrAt K H v (.tup ts) ∧ ts.length ≤ 1000 ∧ ∀ (D : Addr) (bs : List V) (H' : Hp), Same H H' → H D = none → H' D = some (.lst bs) → TrAll K H' bs (ts.filter isTup) → Q (.ref D) H'
theorem scBlocks : FnScope ["statement", "part"] ["statement"] (defScope sBlocks) := ⟨rfl, rfl, rfl, by decide +kernel, rfl, by decide +kernel, by decide +kernel⟩
theorem TrAll.snoc {H : Hp} : ∀ {vs : List V} {ts : List Tr} {v : V} {t : Tr}, TrAll K H vs ts → TrAt K H v t → TrAll K H (vs ++ [v]) (ts ++ [t])
  | _, _, _, _, .nil, h => .cons h .nil
  | _, _, _, _, .cons a k, h => .cons a (k.snoc h)
theorem ok_blocks {f : Addr} {fd : FuncData} (F : Fun K "blocks_of" "blocks_of" sBlocks f fd) (T : Forms mg) : FnOk P w K mg base CX0 1 f fd ["statement"] (spBlocks K) := by
  refine F.ok scBlocks (fun vs H Q E h => ?_) (fun cdv A outer s H vs Q E hr h => ?_)
  · obtain ⟨v, ts, rfl, _⟩ := h
    rfl
  · obtain ⟨v, ts, rfl, ht, hl, k⟩ := h
    cases ht with
    | @tup a xs ts h q =>
    refine ⟨_, pss_one (ps_ret (pe_lc (own := [("part", 1)]) (g := gName 1) (tt := tB (tCB (rIsi K) (tCons (tVar 1) (tCons (tC (.ty "tuple")) tNil)))) (te := tVar 1) rfl scBlocks.nd (pi_tup (pv 0))
        (blkOk_by (N := ["statement", "part"]) (sc := defScope sBlocks) (by decide +kernel)) (fun _ _ _ _ _ => pg_name (i := 1) scBlocks.nd rfl (Or.inl rfl))
        (fun _ _ _ _ _ => pts_one (pt_val (by exact pe_callB call_isi (by rfl) T.isi boot_isinstance (pa_cons (pv 1) (pa_cons (pe_bltn (v := .ty "tuple") (u := .type "tuple") (by rfl) T.tuple (by decide +kernel) rfl) pa_nil)))))
        (fun _ _ _ _ _ => pv 1))), ?_⟩
    refine ⟨_, rfl, a, rfl, ⟨_, h⟩, fun D nD => ?_⟩
    refine lc_it (walk_tup (K := K) (a := a) (xs := xs)) (fun i H2 => Same H H2 ∧ ∃ bs, H2 D = some (.lst bs) ∧ TrAll K H2 bs ((ts.take i).filter isTup)) ⟨same_new nD, [], upd_same, .nil⟩ (fun i H2 _ ⟨s2, _⟩ => sqt_same s2 h) ?_ ?_
    · rintro i x H2 H3 hi ⟨s2, bs, e2, b2⟩ ⟨rfl, hx⟩
      obtain ⟨t, ht, tx⟩ := (q.same s2).get hx
      have et : ts.take (i + 1) = ts.take i ++ [t] := by rw [List.take_add_one, ht]; rfl
      refine ⟨rfl, _, rfl, x, .ty "tuple", .type (tyT t), .type "tuple", isTup t, rfl, .ty "tuple", tx.ty, k_tup K t, _, rfl, ?_⟩
      have s3 : ∀ o, Same H (upd H3 D o) := fun o b u e => by
        rw [upd_ne (ne_of_none e nD)]
        exact s2 b u e
      cases e : isTup t with
      | true =>
        refine iteT ⟨_, rfl, bs, e2, small1000 ?_, s3 _, _, upd_same, ?_⟩
        · rw [b2.len]
          exact Nat.le_trans (List.length_filter_le _ _) (by rw [List.length_take]; omega)
        · rw [et, List.filter_append]
          have e' : [t].filter isTup = [t] := by simp [List.filter, e]
          rw [e']
          exact (b2.updL e2).snoc (tx.updL e2)
      | false =>
        refine iteF ⟨s2, bs, e2, ?_⟩
        rw [et, List.filter_append]
        have e' : [t].filter isTup = [] := by simp [List.filter, e]
        rw [e', List.append_nil]
        exact b2
    · rintro H2 ⟨s2, bs, e2, b2⟩
      have e : ts.take xs.length = ts := by rw [q.len, List.take_length]
      rw [e] at b2
      exact k D bs H2 s2 nD e2 b2
end
end BK



set_option Elab.async false
set_option linter.all false
set_option maxRecDepth 100000
set_option maxHeartbeats 4000000
/-! A set of texts, of any number below 4000; its length. -/
namespace BS
open PySem PySem.Spec PyProof.Rows
/-- how many different ones among the first i -/
def cnt (xs : List Str) : Nat → Nat
  | 0 => 0
  | i + 1 => if ((xs.take i).any (· == xs.getD i Str.empty)) = true then cnt xs i else cnt xs i + 1
theorem cnt_le (xs : List Str) : ∀ i, cnt xs i ≤ i
  | 0 => Nat.le_refl 0
  | i + 1 => by
    have := cnt_le xs i
    unfold cnt
    split <;> omega
theorem take_get {xs : List Str} {i : Nat} (h : i < xs.length) : xs.take (i + 1) = xs.take i ++ [xs.getD i Str.empty] := by
  rw [List.take_add_one, List.getElem?_eq_getElem h]
  simp [List.getD, List.getElem?_eq_getElem h]
abbrev freshSet (led : Bool) : Obj := { cls := .type "set", dict := none, data := .set #[] 0 (.fresh 0 0 led) }
/-- the texts among the first i -/
abbrev met (xs : List Str) (i : Nat) : Str → Bool := fun y => (xs.take i).any (· == y)
section
variable {prog : Program} {w : World} {A : Around} {R : Result → Shared → Prop} {it : Addr} {fs ws : List Addr} {G : Array GenState → Array GenState → Prop} {n : Nat} {P : Nat → Value → Prop} {St : Nat → Shared → Prop}
theorem turns (W : WalksS prog w A.in1 it fs ws G n P St) (a : Addr) (na : a ∉ fs) (xs : List Str) (len : xs.length = n) (few : n + 1 < scanBound) (val : ∀ i v, P i v → ∃ t, v = .str (xs.getD i Str.empty) t) (d : Nat) :
    ∀ (i : Nat) (s : Shared), i + d = n → St i s → s.heap.SetOf (PySem.strKind prog w) a (met xs i) (cnt xs i) →
      (∀ s', Moved (a :: ws) G s s' → s'.heap.SetOf (PySem.strKind prog w) a (met xs n) (cnt xs n) → R (.ok (.ret .none)) s') → codeAny (model prog w) A (.builtin "set.update.loop" ⟨[.ref a, .ref it], []⟩) R s := by
  have nw : a ∉ ws := fun z => na (W.sub _ z)
  have wider : ∀ b ∈ ws, b ∈ a :: ws := fun b z => List.mem_cons_of_mem _ z
  have moved : ∀ {s s' : Shared} {S : Str → Bool} {m : Nat}, Moved ws G s s' → s.heap.SetOf (PySem.strKind prog w) a S m → s'.heap.SetOf (PySem.strKind prog w) a S m := fun mv ⟨o, es, ep, t, q, rest⟩ => ⟨o, es, ep, t, mv.heap a _ nw q, rest⟩
  induction d with
  | zero =>
    intro i s e st here then_
    obtain rfl : i = n := e
    refine codeAny_builtin PyProof.Rows.F.entry_set_update_loop ?_
    rw [Around.under_plainId PyProof.Rows.F.plain_set_update_loop _]
    show wpAny _ A.in1 (pyNext (.ref it) >>= _) _ _ s
    refine wpAny_bind (W.done s _ _ st fun s' mv => ?_)
    exact wpAny_pure (then_ s' (mv.mono wider) (moved mv here))
  | succ d ih =>
    intro i s e st here then_
    have lt : i < n := by omega
    refine codeAny_builtin PyProof.Rows.F.entry_set_update_loop ?_
    rw [Around.under_plainId PyProof.Rows.F.plain_set_update_loop _]
    show wpAny _ A.in1 (pyNext (.ref it) >>= _) _ _ s
    refine wpAny_bind (W.item i s _ _ lt st fun v s' pv st' mv => ?_)
    obtain ⟨t, rfl⟩ := val i v pv
    have here' := moved mv here
    have room : cnt xs i + 1 < scanBound := by have := cnt_le xs i; omega
    show wpAny _ A.in1 (holding [Value.str (xs.getD i Str.empty) t] (setAdd a (.str (xs.getD i Str.empty) t)) >>= _) _ _ s'
    refine wpAny_bind (wpAny_holding ?_)
    unfold setAdd
    refine wpAny_holding (wpAny_bind ((PySem.strKind prog w).pyHash (k := xs.getD i Str.empty) (strKind_is _ _ _ _) ?_))
    refine wpAny_setAddHashed_of (knd := PySem.strKind prog w) (s := { s' with toks := s'.toks + 1 }) (strKind_is _ _ _ _) rfl here' room fun h' but there => ?_
    have next : h'.SetOf (PySem.strKind prog w) a (met xs (i + 1)) (cnt xs (i + 1)) := by
      refine SetOf_congr there (fun y => ?_) rfl
      show ((xs.take i).any (· == y) || decide (y = xs.getD i Str.empty)) = (xs.take (i + 1)).any (· == y)
      rw [take_get (by omega), List.any_append]
      have one : ∀ x : Str, decide (y = x) = [x].any (· == y) := fun x => by
        by_cases z : y = x
        · simp [z]
        · have z' : ¬ x = y := fun q => z q.symm
          simp [z, z']
      rw [one]
    have keep : ∀ b, b ≠ a → h'.get? b = s'.heap.get? b := fun b nb => but.2 b nb
    refine wpAny_pure ⟨plainId_quiet PyProof.Rows.F.plain_set_update_loop _, ih (i + 1) _ (by omega) (W.frame _ s' _ _ st' (Nat.le_succ _) fun b z o q => ?_) next fun s'' mv2 done => ?_⟩
    · rw [keep b fun q => na (by rw [← q]; exact z)]
      exact q
    · refine then_ s'' (Moved.trans W.gtrans ((mv.mono wider).then_heap (Nat.le_succ _) fun b o z q => ?_) mv2) done
      rw [keep b fun q => z (by rw [q]; exact List.mem_cons_self)]
      exact q
end
section
variable {prog : Program} {w : World} {A : Around} {E : Value → Shared → Prop} {s : Shared}
/-- set(xs) of a list of texts -/
theorem set_list {l : Addr} {its : Array Value} {xs : List Str} {Q : Value → Shared → Prop} (calm : A.handled = none) (ml : s.heap.IsList l its) (tx : StrsAre its.toList xs) (few : xs.length + 1 < scanBound)
    (q : ∀ (h' : Heap) (tk : Nat), h'.SetOf (PySem.strKind prog w) s.heap.objs.size (met xs xs.length) (cnt xs xs.length) → (∀ b o, b < s.heap.objs.size → s.heap.get? b = some o → h'.get? b = some o) → Q (.ref s.heap.objs.size) { s with heap := h', toks := tk }) :
    wpAny (model prog w) A (call (.type "set") [.ref l]) Q E s := by
  have len : xs.length = its.size := by rw [← StrsAre.len_eq tx, Array.length_toList]
  obtain ⟨c, tl, hmro⟩ := PySem.F.called_set.mro
  have f1 := PySem.F.called_set.made
  have f2 := PySem.F.called_set.sub
  refine wpAny_call (codeAny_of_tree ?_)
  show wpAny _ _ (callAny (.type "set") _) _ _ _
  refine wpAny_pure ⟨Code.quiet_builtin _ (by decide +kernel), codeAny_builtin PySem.F.entry_type_call ?_⟩
  rw [Around.under_plain (weight_type_call_type "set" [.ref l] []) rfl]
  have f3 := PySem.F.called_set.notType
  have f4 := PySem.F.called_set.canCreate
  have f5 := PySem.F.typeCall_set_1 (.ref l)
  repeat (any_goals (first | assumption | wp_step))
  refine codeAny_mono (code_set_new_1 (.ref l) (E := E) (Q₁ := fun obj s₁ => ∃ led : Bool, obj = .ref s.heap.objs.size ∧ s₁ = { s with heap := s.heap.push (freshSet led) }) fun led => ⟨led, rfl, rfl⟩) fun r s₁ hr => ?_
  match r, hr with
  | .error e, hr => exact hr
  | .ok (.ret obj), hr =>
    obtain ⟨led, rfl, rfl⟩ := hr
    have at0 : (s.heap.push (freshSet led)).get? s.heap.objs.size = some (freshSet led) := Heap.get?_push_size _ rfl
    have ty0 : Shared.TypeIs { s with heap := s.heap.push (freshSet led) } (.ref s.heap.objs.size) "set" := ⟨_, at0, rfl⟩
    have f6 := PySem.F.called_set.init.lookup
    have f7 := PySem.F.called_set.init.bind (.ref s.heap.objs.size)
    repeat (any_goals (first | assumption | wp_step))
    refine codeAny_mono (codeAny_call_builtin (R := wants (fun r s₂ => r = .none ∧ ∃ h' tk, s₂ = { s with heap := h', toks := tk } ∧ h'.SetOf (PySem.strKind prog w) s.heap.objs.size (met xs xs.length) (cnt xs xs.length) ∧
        ∀ b o, b < s.heap.objs.size → s.heap.get? b = some o → h'.get? b = some o) E) PySem.F.called_set.init.plain PySem.F.entry_set_init (check_set_init_1 ty0 ?_)) fun r₂ s₂ hr₂ => ?_
    · obtain ⟨⟨oc, od, odt, osl⟩, gl, e1, nl, e2⟩ := ml
      simp only at e1 e2
      subst e1
      subst e2
      have gl' : (s.heap.push (freshSet led)).get? l = some { cls := .type "list", dict := od, data := .seq its nl, slots := osl } := Heap.get?_push_of_some _ gl
      have g1 := PySem.F.sub_list_set
      have g2 := PySem.F.sub_list_frozenset
      have g3 : (Value.type "list" == Value.type "dict") = false := by decide
      have ml' : (s.heap.push (freshSet led)).IsList l its := ⟨_, gl', rfl, nl, rfl⟩
      unfold Builtin.«set.__init__» noKeywords Builtin.Frozenset.updateFrom
      generalize eP : pyIter = PI
      wp_walk
      subst eP
      refine wpAny_pyIter_list ml' (wpAny_bind (wpAny_runValue ?_))
      have ll : l < s.heap.objs.size := Heap.lt_size gl
      have sz : (s.heap.push (freshSet led)).objs.size = s.heap.objs.size + 1 := Heap.size_push ..
      have ni : l ≠ (s.heap.push (freshSet led)).objs.size := sz ▸ Nat.ne_of_lt (Nat.lt_succ_of_lt ll)
      have nm : s.heap.objs.size ∉ [(s.heap.push (freshSet led)).objs.size, l] := by
        simp only [List.mem_cons, List.not_mem_nil, or_false, not_or, sz]
        exact ⟨Nat.ne_of_lt (Nat.lt_succ_self _), Nat.ne_of_gt ll⟩
      refine turns ((Walks.list (show A.in1.in1.in1.handled = none by simp [calm]) _ l ni its).toS) s.heap.objs.size nm xs len (by rw [← len]; exact few) (fun i v e => SS.strs_at tx i v (by rw [Array.getElem?_toList]; exact e)) its.size 0 _ (by omega)
        ⟨⟨_, Heap.get?_push_size _ rfl, rfl, rfl⟩, ml'.push _⟩ ?z0 ?z1
      case z0 =>
        refine SetOf_congr ((setObjOf_fresh (knd := PySem.strKind prog w) led).setOf (Heap.get?_push_of_some _ at0) (by unfold scanBound; omega)) (fun _ => rfl) rfl
      case z1 =>
        rintro ⟨h', g', d', tk', os'⟩ mv done
        obtain rfl : g' = s.gens := mv.gens
        obtain rfl : d' = s.drawn := mv.drawn
        obtain rfl : os' = s.os := mv.os
        rw [← len] at done
        show wpAny _ _ _ _ _ _
        refine wpAny_pure ?_
        show wpAny _ _ (ret Value.none) _ _ _
        refine wpAny_pure ⟨rfl, h', tk', rfl, done, fun b o z e => ?_⟩
        refine mv.heap b o ?_ (Heap.get?_push_of_some _ (Heap.get?_push_of_some _ e))
        simp only [List.mem_cons, List.not_mem_nil, or_false, not_or, sz]
        exact ⟨Nat.ne_of_lt z, Nat.ne_of_lt (Nat.lt_succ_of_lt z)⟩
    · match r₂, hr₂ with
      | .error e, hr₂ => exact hr₂
      | .ok (.ret r), hr₂ =>
        obtain ⟨rfl, h', tk, rfl, done, kp⟩ := hr₂
        repeat (any_goals (first | assumption | wp_step))
        exact q _ _ done kp
/-- set(xs) of a tuple of texts -/
theorem set_tuple {l : Addr} {its : Array Value} {xs : List Str} {Q : Value → Shared → Prop} (calm : A.handled = none) (ml : s.heap.IsTuple l its) (tx : StrsAre its.toList xs) (few : xs.length + 1 < scanBound)
    (q : ∀ (h' : Heap) (tk : Nat), h'.SetOf (PySem.strKind prog w) s.heap.objs.size (met xs xs.length) (cnt xs xs.length) → (∀ b o, b < s.heap.objs.size → s.heap.get? b = some o → h'.get? b = some o) → Q (.ref s.heap.objs.size) { s with heap := h', toks := tk }) :
    wpAny (model prog w) A (call (.type "set") [.ref l]) Q E s := by
  have len : xs.length = its.size := by rw [← StrsAre.len_eq tx, Array.length_toList]
  obtain ⟨c, tl, hmro⟩ := PySem.F.called_set.mro
  have f1 := PySem.F.called_set.made
  have f2 := PySem.F.called_set.sub
  refine wpAny_call (codeAny_of_tree ?_)
  show wpAny _ _ (callAny (.type "set") _) _ _ _
  refine wpAny_pure ⟨Code.quiet_builtin _ (by decide +kernel), codeAny_builtin PySem.F.entry_type_call ?_⟩
  rw [Around.under_plain (weight_type_call_type "set" [.ref l] []) rfl]
  have f3 := PySem.F.called_set.notType
  have f4 := PySem.F.called_set.canCreate
  have f5 := PySem.F.typeCall_set_1 (.ref l)
  repeat (any_goals (first | assumption | wp_step))
  refine codeAny_mono (code_set_new_1 (.ref l) (E := E) (Q₁ := fun obj s₁ => ∃ led : Bool, obj = .ref s.heap.objs.size ∧ s₁ = { s with heap := s.heap.push (freshSet led) }) fun led => ⟨led, rfl, rfl⟩) fun r s₁ hr => ?_
  match r, hr with
  | .error e, hr => exact hr
  | .ok (.ret obj), hr =>
    obtain ⟨led, rfl, rfl⟩ := hr
    have at0 : (s.heap.push (freshSet led)).get? s.heap.objs.size = some (freshSet led) := Heap.get?_push_size _ rfl
    have ty0 : Shared.TypeIs { s with heap := s.heap.push (freshSet led) } (.ref s.heap.objs.size) "set" := ⟨_, at0, rfl⟩
    have f6 := PySem.F.called_set.init.lookup
    have f7 := PySem.F.called_set.init.bind (.ref s.heap.objs.size)
    repeat (any_goals (first | assumption | wp_step))
    refine codeAny_mono (codeAny_call_builtin (R := wants (fun r s₂ => r = .none ∧ ∃ h' tk, s₂ = { s with heap := h', toks := tk } ∧ h'.SetOf (PySem.strKind prog w) s.heap.objs.size (met xs xs.length) (cnt xs xs.length) ∧
        ∀ b o, b < s.heap.objs.size → s.heap.get? b = some o → h'.get? b = some o) E) PySem.F.called_set.init.plain PySem.F.entry_set_init (check_set_init_1 ty0 ?_)) fun r₂ s₂ hr₂ => ?_
    · obtain ⟨⟨oc, od, odt, osl⟩, gl, e1, nl, e2⟩ := ml
      simp only at e1 e2
      subst e1
      subst e2
      have gl' : (s.heap.push (freshSet led)).get? l = some { cls := .type "tuple", dict := od, data := .seq its nl, slots := osl } := Heap.get?_push_of_some _ gl
      have g1 := PySem.F.sub_tuple_set
      have g2 := PySem.F.sub_tuple_frozenset
      have g3 : (Value.type "tuple" == Value.type "dict") = false := by decide
      have ml' : (s.heap.push (freshSet led)).IsTuple l its := ⟨_, gl', rfl, nl, rfl⟩
      unfold Builtin.«set.__init__» noKeywords Builtin.Frozenset.updateFrom
      generalize eP : pyIter = PI
      wp_walk
      subst eP
      refine wpAny_pyIter_tuple ml' (wpAny_bind (wpAny_runValue ?_))
      have ll : l < s.heap.objs.size := Heap.lt_size gl
      have sz : (s.heap.push (freshSet led)).objs.size = s.heap.objs.size + 1 := Heap.size_push ..
      have ni : l ≠ (s.heap.push (freshSet led)).objs.size := sz ▸ Nat.ne_of_lt (Nat.lt_succ_of_lt ll)
      have nm : s.heap.objs.size ∉ [(s.heap.push (freshSet led)).objs.size, l] := by
        simp only [List.mem_cons, List.not_mem_nil, or_false, not_or, sz]
        exact ⟨Nat.ne_of_lt (Nat.lt_succ_self _), Nat.ne_of_gt ll⟩
      refine turns ((Walks.tuple (show A.in1.in1.in1.handled = none by simp [calm]) _ l ni its).toS) s.heap.objs.size nm xs len (by rw [← len]; exact few) (fun i v e => SS.strs_at tx i v (by rw [Array.getElem?_toList]; exact e)) its.size 0 _ (by omega)
        ⟨⟨_, Heap.get?_push_size _ rfl, rfl, rfl⟩, ml'.push _⟩ ?z0 ?z1
      case z0 =>
        refine SetOf_congr ((setObjOf_fresh (knd := PySem.strKind prog w) led).setOf (Heap.get?_push_of_some _ at0) (by unfold scanBound; omega)) (fun _ => rfl) rfl
      case z1 =>
        rintro ⟨h', g', d', tk', os'⟩ mv done
        obtain rfl : g' = s.gens := mv.gens
        obtain rfl : d' = s.drawn := mv.drawn
        obtain rfl : os' = s.os := mv.os
        rw [← len] at done
        show wpAny _ _ _ _ _ _
        refine wpAny_pure ?_
        show wpAny _ _ (ret Value.none) _ _ _
        refine wpAny_pure ⟨rfl, h', tk', rfl, done, fun b o z e => ?_⟩
        refine mv.heap b o ?_ (Heap.get?_push_of_some _ (Heap.get?_push_of_some _ e))
        simp only [List.mem_cons, List.not_mem_nil, or_false, not_or, sz]
        exact ⟨Nat.ne_of_lt z, Nat.ne_of_lt (Nat.lt_succ_of_lt z)⟩
    · match r₂, hr₂ with
      | .error e, hr₂ => exact hr₂
      | .ok (.ret r), hr₂ =>
        obtain ⟨rfl, h', tk, rfl, done, kp⟩ := hr₂
        repeat (any_goals (first | assumption | wp_step))
        exact q _ _ done kp
end
end BS



set_option Elab.async false
set_option linter.all false
set_option maxRecDepth 100000
set_option maxHeartbeats 2000000
/-! len(set(texts)); different names. -/
namespace BK
open PySem PySem.Spec PyProof.Rows L2 BS
def tLenTexts (K : PySem.W.Frag) (ta : TE) : TE := fun σ H Q => ta σ H fun x H1 => ∃ l, ∃ xs : List Str, x = .ref l ∧ (SqL K H1 l (xs.map V.str) ∨ SqT K H1 l (xs.map V.str)) ∧ xs.length ≤ 4000 ∧ Q (.int (cnt xs xs.length)) H1
section
variable {X : Cx}
theorem pe_lenTexts {a : Expr} {ta : TE} {p p2 q pos : Pos} (hc : X.calm = true) (g1 : Gl X "len") (m1 : X.mg "len" = none) (g2 : Gl X "set") (m2 : X.mg "set" = none) (ha : PE X a ta)
    (na : starEach [a] X.env = (false, eval a X.env) :: starEach [] X.env := by rfl) : PE X (.Call (.Name "len" p) [.Call (.Name "set" p2) [a] [] q] [] pos) (tLenTexts X.K ta) := by
  refine ⟨fun pins s σ H Q I h => Call_ (ld_blt I g1 m1 boot_len (PyProof.Rows.callWith_builtin1 (PyProof.Rows.args_cons ?_ rfl) rfl rfl))⟩
  refine Call_ (ld_blt I g2 m2 boot_set (PyProof.Rows.callWith_type1 (PyProof.Rows.args_cons (thn (ha.run pins s σ H _ I h) fun v s1 z => PyProof.Rows.args_nil ?_) na) na rfl))
  obtain ⟨x, H1, I1, rx, l, xs, rfl, sq, few, k⟩ := z
  obtain rfl : v = Value.ref l := rx
  have room : xs.length + 1 < scanBound := by unfold scanBound; omega
  have after : ∀ (h' : Heap) (tk : Nat), h'.SetOf (PySem.strKind X.prog X.w) s1.heap.objs.size (met xs xs.length) (cnt xs xs.length) → (∀ b o, b < s1.heap.objs.size → s1.heap.get? b = some o → h'.get? b = some o) →
      wpAny (model X.prog X.w) X.A (spliced (backTo pos (starEach [] X.env))) (fun vs s₂ => wpAny (model X.prog X.w) X.A (call (.builtin "len") (Value.ref s1.heap.objs.size :: vs)) (EP X pins σ Q) X.xe s₂) X.xe { s1 with heap := h', toks := tk } := fun h' tk so kp => by
    have I2 : Inv X pins σ H1 { s1 with heap := h', toks := tk } := I1.kept fun b o e => kp b o (Heap.lt_size e) e
    obtain ⟨o, es, ep, t, e1, e2, e3, _, _, _, e4, e5⟩ := so
    have le := cnt_le xs xs.length
    exact PyProof.Rows.args_nil (call_len_set e1 e2 e3 e4 (by rw [e5]; omega) ⟨.int (cnt xs xs.length), H1, I2.tok _, ⟨_, by rw [e5]⟩, k⟩)
  rcases sq with sq | sq
  · obtain ⟨its, r, pl, _⟩ := I1.list sq
    exact set_list (I1.ok.hd hc) pl.isList (by simpa using strsAre_of r) room after
  · obtain ⟨its, r, pl, _⟩ := I1.tuple sq
    exact set_tuple (I1.ok.hd hc) pl (by simpa using strsAre_of r) room after
end
/-- all different: as many as there are -/
theorem cnt_all {xs : List Str} (h : xs.Nodup) : ∀ i, i ≤ xs.length → cnt xs i = i
  | 0, _ => rfl
  | i + 1, hi => by
    have ih := cnt_all h i (by omega)
    unfold BS.cnt
    rw [ih, if_neg]
    intro z
    rw [List.any_eq_true] at z
    obtain ⟨y, hy, e⟩ := z
    obtain ⟨j, hj⟩ := List.getElem?_of_mem hy
    have jl : j < i := by
      have := (List.getElem?_eq_some_iff.mp hj).1
      rw [List.length_take] at this
      omega
    rw [List.getElem?_take_of_lt jl] at hj
    have hi' : xs[i]? = some y := by
      have e' : y = xs.getD i Str.empty := by simpa using e
      rw [e']
      simp [List.getD, List.getElem?_eq_getElem (show i < xs.length by omega)]
    have := L2.nd_ix h hj hi'
    omega
theorem cnt_lt {xs : List Str} : ∀ i, i ≤ xs.length → cnt xs i = i → (xs.take i).Nodup
  | 0, _, _ => by simp
  | i + 1, hi, e => by
    have le := cnt_le xs i
    unfold BS.cnt at e
    by_cases z : ((xs.take i).any (· == xs.getD i Str.empty)) = true
    · rw [if_pos z] at e
      omega
    · rw [if_neg z] at e
      have ih := cnt_lt (xs := xs) i (by omega) (by omega)
      rw [take_get (xs := xs) (i := i) (by omega)]
      refine nd_snoc ih fun m => z ?_
      rw [List.any_eq_true]
      exact ⟨_, m, by simp⟩
theorem cnt_nodup (xs : List Str) : (cnt xs xs.length = xs.length) ↔ xs.Nodup :=
  ⟨fun h => by have := cnt_lt xs.length (Nat.le_refl _) h; rwa [List.take_length] at this, fun h => cnt_all h _ (Nat.le_refl _)⟩
end BK



set_option Elab.async false
set_option maxRecDepth 100000
set_option maxHeartbeats 1000000
/-! are_different_names. -/
namespace BK
open PySem PySem.Spec PyProof.Rows L2
theorem pi_two {X : Cx} {tg e : Expr} {u t : TI} (h1 : PI X tg e u) (h2 : PI X tg e t) : PI X tg e (fun σ H R => u σ H R ∨ t σ H R) := by
  refine ⟨fun pins s σ H R I h => ?_⟩
  rcases h with h | h
  · exact h1.run pins s σ H R I h
  · exact h2.run pins s σ H R I h
/-- a list or a tuple -/
def SqA (K : PySem.W.Frag) (H : Hp) (a : Addr) (xs : List V) : Prop := SqL K H a xs ∨ SqT K H a xs
theorem SqA.same {K : PySem.W.Frag} {H H' : Hp} {a : Addr} {xs : List V} (e : Same H H') (h : SqA K H a xs) : SqA K H' a xs := h.elim (fun h => .inl (e.seq h)) fun h => .inr (sqt_same e h)
def texts : List Tr → List Str
  | [] => []
  | .str s :: r => s :: texts r
  | _ :: r => texts r
def diffT (ts : List Tr) : Bool := ts.all nameT && decide (texts ts).Nodup
def spDiff (K : PySem.W.Frag) : Sp := fun vs H Q _ => ∃ a xs ts, vs = [.ref a] ∧ SqA K H a xs ∧ TrAll K H xs ts ∧ ts.length ≤ 1000 ∧ ∀ H', Same H H' → Q (.bl (diffT ts)) H'
theorem names_texts {K : PySem.W.Frag} {H : Hp} : ∀ {xs : List V} {ts : List Tr}, TrAll K H xs ts → ts.all nameT = true → xs = (texts ts).map V.str
  | _, _, .nil, _ => rfl
  | _, _, .cons (t := t) h k, e => by
    rw [List.all_cons, Bool.and_eq_true] at e
    cases h with
    | str s hs => exact congrArg (V.str s :: ·) (names_texts k e.2)
    | non => exact absurd e.1 (by simp [nameT])
    | bl b => exact absurd e.1 (by simp [nameT])
    | int i => exact absurd e.1 (by simp [nameT])
    | lst h => exact absurd e.1 (by simp [nameT])
    | dct h => exact absurd e.1 (by simp [nameT])
    | tup h q => exact absurd e.1 (by simp [nameT])
section
variable {P : Program} {w : World} {K : PySem.W.Frag} {mg : Str → Option Value} {base : Heap}
abbrev sDiff : Stmt := top 19
theorem scDiff : FnScope ["things", "thing"] ["things"] (defScope sDiff) := ⟨rfl, rfl, rfl, by decide +kernel, rfl, by decide +kernel, by decide +kernel⟩
theorem ok_diff {f fN : Addr} {fd fdN : FuncData} (F : Fun K "are_different_names" "are_different_names" sDiff f fd) (T : Forms mg) (mS : mg "set" = none) (GN : FnOk P w K mg base CX0 1 fN fdN ["thing"] (spOf nameT K)) (bN : Binds K fdN ["thing"] []) (gN : mg "is_name" = some (.ref fN))
    (kN : PySem.W.keepIn K (.ref fN) = true) : FnOk P w K mg base CX0 2 f fd ["things"] (spDiff K) := by
  refine F.ok scDiff (fun vs H Q E h => ?_) (fun cdv A outer s H vs Q E hr h => ?_)
  · obtain ⟨a, xs, ts, rfl, _⟩ := h
    rfl
  · obtain ⟨a, xs, ts, rfl, sq, tr, tl, k⟩ := h
    refine ⟨_, pss_one (ps_ret (pe_and (pe_callB (cr_all rfl) (by rfl) T.all (by decide +kernel) (pa_cons (pe_lc (own := [("thing", 1)]) (g := gName 1) (tt := tYes) (te := tCall (spOf nameT K) [] E0 (tCons (tVar 1) tNil)) rfl scDiff.nd (pi_two (pi_list (pv 0)) (pi_tup (pv 0)))
          (blkOk_by (N := ["things", "thing"]) (sc := defScope sDiff) (by decide +kernel)) (fun _ _ _ _ _ => pg_name (i := 1) scDiff.nd rfl (Or.inl rfl)) (fun _ _ _ _ _ => pts_nil)
          (fun _ _ _ _ _ => by exact pe_call GN hr rfl gN kN bN .nil pass0 (pa_cons (pv 1) pa_nil))) pa_nil))
        (pe_one (pe_cmpR op_eq (pe_lenTexts rfl rfl T.len rfl mS (pv 0)) (pe_callB call_len_seq (by rfl) T.len boot_len (pa_cons (pv 0) pa_nil)) rfl)))), ?_⟩
    -- the walk, by either road
    have step : ∀ (D : Addr) (i : Nat) (x : V) (H2 : Hp), H D = none → xs[i]? = some x → Same H H2 → H2 D = some (.lst (((ts.take i).map nameT).map V.bl)) → ∀ vs : List V, vs = [x] ++ [] → ∃ v t, vs = [v] ∧ TrAt K H2 v t ∧ ∀ H', Same H2 H' → 
        ∃ acc, H' D = some (.lst acc) ∧ acc.length < sizeLine ∧ (Same H (upd H' D (.lst (acc ++ [.bl (nameT t)]))) ∧ (upd H' D (.lst (acc ++ [.bl (nameT t)]))) D = some (.lst (((ts.take (i + 1)).map nameT).map V.bl))) := by
      intro D i x H2 nD hx s2 e2 vs ev
      obtain ⟨t, ht, tx⟩ := (tr.same s2).get hx
      have il : i < ts.length := (List.getElem?_eq_some_iff.mp ht).1
      refine ⟨x, t, by rw [ev]; rfl, tx, fun H' s' => ⟨_, s' _ _ e2, small1000 (by rw [List.length_map, List.length_map, List.length_take]; omega), fun b o e => ?_, ?_⟩⟩
      · rw [upd_ne (ne_of_none e nD)]
        exact s' _ _ (s2 b o e)
      · rw [upd_same, List.take_add_one, ht, List.map_append, List.map_append]
        rfl
    rcases sq with sq | sq
    · refine Or.inl ⟨_, rfl, a, rfl, ⟨xs, sq⟩, fun D nD => ?_⟩
      refine lc_it (walk_list (K := K) (a := a) (xs := xs)) (fun i H2 => Same H H2 ∧ H2 D = some (.lst (((ts.take i).map nameT).map V.bl))) ⟨same_new nD, upd_same⟩ (fun i H2 _ ⟨s2, _⟩ => s2.seq sq) ?_ ?_
      · rintro i x H2 H3 hi ⟨s2, e2⟩ ⟨rfl, hx⟩
        obtain ⟨v, t, ev, tv, more⟩ := step D i x H3 nD hx s2 e2 _ rfl
        refine ⟨rfl, ?_⟩
        refine tyes ?_
        exact ⟨_, rfl, v, t, ev, tv, more⟩
      · rintro H2 ⟨s2, e2⟩
        have et : ts.take xs.length = ts := by rw [tr.len, List.take_length]
        rw [et] at e2
        refine ⟨D, _, rfl, SqL.of e2, _, rfl, ?_⟩
        have ea : (ts.map nameT).all id = ts.all nameT := by rw [List.all_map]; rfl
        rw [ea]
        refine ite2 (fun h => ?_) (fun h => ?_)
        · have ex := names_texts tr h
          have el : (texts ts).length = ts.length := by rw [← tr.len, ex, List.length_map]
          refine ⟨_, rfl, a, texts ts, rfl, (by rw [← ex]; exact (.inl (s2.seq sq))), by omega, _, rfl, a, xs, rfl, (.inl (s2.seq sq)), rfl, ?_⟩
          have e : decide (V.int (BS.cnt (texts ts) (texts ts).length : Nat) = V.int (xs.length : Nat)) = decide (texts ts).Nodup := by
            rw [dec_int, tr.len, ← el]
            by_cases z : (texts ts).Nodup
            · rw [(cnt_nodup _).mpr z, decide_eq_true z]
              simp
            · rw [decide_eq_false z, beq_eq_false_iff_ne]
              intro q
              exact z ((cnt_nodup _).mp (by omega))
          rw [e]
          have q := k H2 s2
          unfold diffT at q
          rw [h, Bool.true_and] at q
          exact q
        · have q := k H2 s2
          unfold diffT at q
          rw [show ts.all nameT = false by simpa using h, Bool.false_and] at q
          exact q
    · refine Or.inr ⟨_, rfl, a, rfl, ⟨xs, sq⟩, fun D nD => ?_⟩
      refine lc_it (walk_tup (K := K) (a := a) (xs := xs)) (fun i H2 => Same H H2 ∧ H2 D = some (.lst (((ts.take i).map nameT).map V.bl))) ⟨same_new nD, upd_same⟩ (fun i H2 _ ⟨s2, _⟩ => sqt_same s2 sq) ?_ ?_
      · rintro i x H2 H3 hi ⟨s2, e2⟩ ⟨rfl, hx⟩
        obtain ⟨v, t, ev, tv, more⟩ := step D i x H3 nD hx s2 e2 _ rfl
        refine ⟨rfl, ?_⟩
        refine tyes ?_
        exact ⟨_, rfl, v, t, ev, tv, more⟩
      · rintro H2 ⟨s2, e2⟩
        have et : ts.take xs.length = ts := by rw [tr.len, List.take_length]
        rw [et] at e2
        refine ⟨D, _, rfl, SqL.of e2, _, rfl, ?_⟩
        have ea : (ts.map nameT).all id = ts.all nameT := by rw [List.all_map]; rfl
        rw [ea]
        refine ite2 (fun h => ?_) (fun h => ?_)
        · have ex := names_texts tr h
          have el : (texts ts).length = ts.length := by rw [← tr.len, ex, List.length_map]
          refine ⟨_, rfl, a, texts ts, rfl, (by rw [← ex]; exact (.inr (sqt_same s2 sq))), by omega, _, rfl, a, xs, rfl, (.inr (sqt_same s2 sq)), rfl, ?_⟩
          have e : decide (V.int (BS.cnt (texts ts) (texts ts).length : Nat) = V.int (xs.length : Nat)) = decide (texts ts).Nodup := by
            rw [dec_int, tr.len, ← el]
            by_cases z : (texts ts).Nodup
            · rw [(cnt_nodup _).mpr z, decide_eq_true z]
              simp
            · rw [decide_eq_false z, beq_eq_false_iff_ne]
              intro q
              exact z ((cnt_nodup _).mp (by omega))
          rw [e]
          have q := k H2 s2
          unfold diffT at q
          rw [h, Bool.true_and] at q
          exact q
        · have q := k H2 s2
          unfold diffT at q
          rw [show ts.all nameT = false by simpa using h, Bool.false_and] at q
          exact q
end
end BK



set_option Elab.async false
set_option maxRecDepth 100000
set_option maxHeartbeats 1000000
/-! are_names, is_part; None in a written dict. -/
namespace BK
open PySem PySem.Spec PyProof.Rows L2
def argsT : Tr → Bool
  | .tup ts => ts.all nameT
  | _ => false
def partT (t : Tr) (k : Str) : Bool := if k = "block" then isTup t else if k = "args" then argsT t else if k = "integer" then numT 99 t else if k = "value" then numT 9999 t else if k = "source" ∧ numT 99 t = true then true else nameT t
def spPart (K : PySem.W.Frag) : Sp := fun vs H Q _ => ∃ v t k, vs = [v, .str k] ∧ TrAt K H v t ∧ (k = "args" → ∀ ts, t = .tup ts → ts.length ≤ 4000000) ∧ ∀ H', Same H H' → Q (.bl (partT t k)) H'
abbrev sAreNames : Stmt := top 15
abbrev sPart : Stmt := top 20
theorem scAreNames : FnScope ["thing", "part"] ["thing"] (defScope sAreNames) := ⟨rfl, rfl, rfl, by decide +kernel, rfl, by decide +kernel, by decide +kernel⟩
theorem scPart : FnScope ["thing", "kind"] ["thing", "kind"] (defScope sPart) := ⟨rfl, rfl, rfl, by decide +kernel, rfl, by decide +kernel, by decide +kernel⟩
theorem eq_txt (a b : Str) : decide (V.str a = V.str b) = decide (a = b) := by
  by_cases h : a = b
  · simp [h]
  · rw [decide_eq_false h, decide_eq_false fun e => h (V.str.inj e)]
def spArgs (K : PySem.W.Frag) : Sp := fun vs H Q _ => ∃ v t, vs = [v] ∧ TrAt K H v t ∧ (∀ ts, t = .tup ts → ts.length ≤ 4000000) ∧ ∀ H', Same H H' → Q (.bl (argsT t)) H'
section
variable {P : Program} {w : World} {K : PySem.W.Frag} {mg : Str → Option Value} {base : Heap}
theorem ok_areNames {f fN : Addr} {fd fdN : FuncData} (F : Fun K "are_names" "are_names" sAreNames f fd) (T : Forms mg) (GN : FnOk P w K mg base CX0 1 fN fdN ["thing"] (spOf nameT K)) (bN : Binds K fdN ["thing"] []) (gN : mg "is_name" = some (.ref fN)) (kN : PySem.W.keepIn K (.ref fN) = true) :
    FnOk P w K mg base CX0 2 f fd ["thing"] (spArgs K) := by
  refine F.ok scAreNames (fun vs H Q E h => ?_) (fun cdv A outer s H vs Q E hr h => ?_)
  · obtain ⟨v, t, rfl, _⟩ := h
    rfl
  · obtain ⟨v, t, rfl, ht, hl, k⟩ := h
    refine ⟨_, pss_one (ps_ret (pe_and (pe_callB call_isi (by rfl) T.isi boot_isinstance (pa_cons (pv 0) (pa_cons (pe_bltn (v := .ty "tuple") (u := .type "tuple") (by rfl) T.tuple (by decide +kernel) rfl) pa_nil)))
      (pe_one (pe_callB (cr_all rfl) (by rfl) T.all (by decide +kernel) (pa_cons (pe_lc (own := [("part", 1)]) (g := gName 1) (tt := tYes) (te := tCall (spOf nameT K) [] E0 (tCons (tVar 1) tNil)) rfl scAreNames.nd (pi_tup (pv 0))
          (blkOk_by (N := ["thing", "part"]) (sc := defScope sAreNames) (by decide +kernel)) (fun _ _ _ _ _ => pg_name (i := 1) scAreNames.nd rfl (Or.inl rfl)) (fun _ _ _ _ _ => pts_nil)
          (fun _ _ _ _ _ => by exact pe_call GN hr rfl gN kN bN .nil pass0 (pa_cons (pv 1) pa_nil))) pa_nil))))), ?_⟩
    refine ⟨_, rfl, v, .ty "tuple", .type (tyT t), .type "tuple", isTup t, rfl, .ty "tuple", ht.ty, k_tup K t, _, rfl, ?_⟩
    have q0 := k H fun _ _ e => e
    cases ht with
    | int i => exact iteF q0
    | bl b => exact iteF q0
    | str z hz => exact iteF q0
    | non => exact iteF q0
    | lst h => exact iteF q0
    | dct h => exact iteF q0
    | @tup a xs ts h tr =>
    have el := tr.len
    have few : ts.length ≤ 4000000 := hl ts rfl
    refine iteT ⟨_, rfl, a, rfl, ⟨xs, h⟩, fun D nD => ?_⟩
    refine lc_it (walk_tup (K := K) (a := a) (xs := xs)) (fun i H2 => Same H H2 ∧ H2 D = some (.lst (((ts.take i).map nameT).map V.bl))) ⟨same_new nD, upd_same⟩ (fun i H2 _ ⟨s2, _⟩ => sqt_same s2 h) ?_ ?_
    · rintro i x H2 H3 hi ⟨s2, e2⟩ ⟨rfl, hx⟩
      obtain ⟨t, ht, tx⟩ := (tr.same s2).get hx
      have il : i < ts.length := (List.getElem?_eq_some_iff.mp ht).1
      refine ⟨rfl, ?_⟩
      refine tyes ?_
      refine ⟨_, rfl, x, t, rfl, tx, fun H' s' => ⟨_, s' _ _ e2, ?_, fun b o e => ?_, ?_⟩⟩
      · have : sizeLine = 16777216 := sizeLine_eq
        rw [List.length_map, List.length_map, List.length_take]; omega
      · rw [upd_ne (ne_of_none e nD)]
        exact s' _ _ (s2 b o e)
      · rw [upd_same, List.take_add_one, ht, List.map_append, List.map_append]
        rfl
    · rintro H2 ⟨s2, e2⟩
      have et : ts.take xs.length = ts := by rw [el, List.take_length]
      rw [et] at e2
      refine ⟨D, _, rfl, SqL.of e2, ?_⟩
      have ea : (ts.map nameT).all id = ts.all nameT := by rw [List.all_map]; rfl
      rw [ea]
      exact k H2 s2
theorem ok_part {f fN fM fA : Addr} {fd fdN fdM fdA : FuncData} (F : Fun K "is_part" "is_part" sPart f fd) (T : Forms mg) (mV : ∃ t, mg "MOST_VALUE" = some (.int 9999 t)) (GN : FnOk P w K mg base CX0 1 fN fdN ["thing"] (spOf nameT K)) (bN : Binds K fdN ["thing"] []) (gN : mg "is_name" = some (.ref fN)) (kN : PySem.W.keepIn K (.ref fN) = true)
    (GM : FnOk P w K mg base CX0 2 fM fdM ["thing", "most"] (spNumber K)) (bM : Binds K fdM ["thing", "most"] []) (gM : mg "is_number" = some (.ref fM)) (kM : PySem.W.keepIn K (.ref fM) = true)
    (GA : FnOk P w K mg base CX0 2 fA fdA ["thing"] (spArgs K)) (bA : Binds K fdA ["thing"] []) (gA : mg "are_names" = some (.ref fA)) (kA : PySem.W.keepIn K (.ref fA) = true) : FnOk P w K mg base CX0 3 f fd ["thing", "kind"] (spPart K) := by
  refine F.ok scPart (fun vs H Q E h => ?_) (fun cdv A outer s H vs Q E hr h => ?_)
  · obtain ⟨v, t, k, rfl, _⟩ := h
    rfl
  · obtain ⟨v, t, kd, rfl, tv, hl, k⟩ := h
    obtain ⟨t2, gX⟩ := T.mn
    obtain ⟨t3, gY⟩ := mV
    have hr1 : Room 1 _ := hr.mono (by decide)
    refine ⟨_, pss_cons (ps_if (pt_cmpR op_eq (pv 1) pe_str (nomark _)) (pss_one (ps_ret (pe_callB call_isi (by rfl) T.isi boot_isinstance (pa_cons (pv 0) (pa_cons (pe_bltn (v := .ty "tuple") (u := .type "tuple") (by rfl) T.tuple (by decide +kernel) rfl) pa_nil))))) pss_nil)
      (pss_cons (ps_if (pt_cmpR op_eq (pv 1) pe_str (nomark _)) (pss_one (ps_ret (pe_call GA hr rfl gA kA bA .nil pass0 (pa_cons (pv 0) pa_nil)))) pss_nil)
      (pss_cons (ps_if (pt_cmpR op_eq (pv 1) pe_str (nomark _)) (pss_one (ps_ret (pe_call GM hr rfl gM kM bM .nil pass0 (pa_cons (pv 0) (pa_cons (pe_glob (v := .int 99) rfl gX ⟨_, rfl⟩) pa_nil))))) pss_nil)
      (pss_cons (ps_if (pt_cmpR op_eq (pv 1) pe_str (nomark _)) (pss_one (ps_ret (pe_call GM hr rfl gM kM bM .nil pass0 (pa_cons (pv 0) (pa_cons (pe_glob (v := .int 9999) rfl gY ⟨_, rfl⟩) pa_nil))))) pss_nil)
      (pss_cons (ps_if (PW.pt (pw_and (pt_cmpR op_eq (pv 1) pe_str (nomark _)) (pw_and1 (pt_val (pe_call GM hr rfl gM kM bM .nil pass0 (pa_cons (pv 0) (pa_cons (pe_glob (v := .int 99) rfl gX ⟨_, rfl⟩) pa_nil))))))) (pss_one (ps_ret pe_bl)) pss_nil)
      (pss_one (ps_ret (pe_call GN hr1 rfl gN kN bN .nil pass0 (pa_cons (pv 0) pa_nil)))))))), ?_⟩
    refine ⟨_, rfl, rfl, _, rfl, ?_⟩
    rw [eq_txt]
    refine ite2 (fun h => ?_) (fun h => ?_)
    · have h1 : kd = "block" := of_decide_eq_true h
      refine ⟨_, rfl, v, .ty "tuple", .type (tyT t), .type "tuple", isTup t, rfl, .ty "tuple", tv.ty, k_tup K t, ?_⟩
      have q := k H fun _ _ e => e
      unfold partT at q
      rw [if_pos h1] at q
      exact q
    have h1 : ¬ kd = "block" := fun e => h (decide_eq_true e)
    refine ⟨_, rfl, rfl, _, rfl, ?_⟩
    rw [eq_txt]
    refine ite2 (fun h => ?_) (fun h => ?_)
    · have h2 : kd = "args" := of_decide_eq_true h
      refine ⟨_, rfl, v, t, rfl, tv, hl h2, fun H' s' => ?_⟩
      have q := k H' s'
      unfold partT at q
      rw [if_neg h1, if_pos h2] at q
      exact q
    have h2 : ¬ kd = "args" := fun e => h (decide_eq_true e)
    refine ⟨_, rfl, rfl, _, rfl, ?_⟩
    rw [eq_txt]
    refine ite2 (fun h => ?_) (fun h => ?_)
    · have h3 : kd = "integer" := of_decide_eq_true h
      refine ⟨_, rfl, v, t, 99, rfl, tv, ?_⟩
      have q := k H fun _ _ e => e
      unfold partT at q
      rw [if_neg h1, if_neg h2, if_pos h3] at q
      exact q
    have h3 : ¬ kd = "integer" := fun e => h (decide_eq_true e)
    refine ⟨_, rfl, rfl, _, rfl, ?_⟩
    rw [eq_txt]
    refine ite2 (fun h => ?_) (fun h => ?_)
    · have h4 : kd = "value" := of_decide_eq_true h
      refine ⟨_, rfl, v, t, 9999, rfl, tv, ?_⟩
      have q := k H fun _ _ e => e
      unfold partT at q
      rw [if_neg h1, if_neg h2, if_neg h3, if_pos h4] at q
      exact q
    have h4 : ¬ kd = "value" := fun e => h (decide_eq_true e)
    have last : ¬ (kd = "source" ∧ numT 99 t = true) → spOf nameT K [v] H Q E0 := fun h5 => ⟨v, t, rfl, tv, fun H' s' => by
      have q := k H' s'
      unfold partT at q
      rw [if_neg h1, if_neg h2, if_neg h3, if_neg h4, if_neg h5] at q
      exact q⟩
    refine ⟨_, rfl, rfl, _, rfl, ?_⟩
    rw [eq_txt]
    refine ite2 (fun h => ?_) (fun h => ?_)
    · have h5 : kd = "source" := of_decide_eq_true h
      refine ⟨_, rfl, v, t, 99, rfl, tv, _, rfl, ?_⟩
      cases e : numT 99 t with
      | true =>
        have q := k H fun _ _ e => e
        unfold partT at q
        rw [if_neg h1, if_neg h2, if_neg h3, if_neg h4, if_pos ⟨h5, e⟩] at q
        exact iteT q
      | false => exact iteF ⟨_, rfl, last fun z => by rw [e] at z; exact Bool.noConfusion z.2⟩
    · exact iteF ⟨_, rfl, last fun z => h (decide_eq_true z.1)⟩
end
/-! None in a dict of the module -/
section
variable {X : Cx} {d : Addr} {es : Array DictEntry} {n : Nat}
theorem kd_none {P : Program} {w : World} {h : Heap} {f : Str → Option Value} (m : h.MapOf (PySem.strKind P w) d f) : ∃ g, h.MapOf (noneKind P w) d g ∧ g none = none := by
  obtain ⟨o, es, ep, ho, hx, hdt, hk, hf⟩ := m
  refine ⟨fun k => findBy (noneKind P w).is es k, ⟨o, es, ep, ho, hx, hdt, fun e he => ?_, fun k => rfl⟩, ?_⟩
  · obtain ⟨k, h1, h2⟩ := hk e he
    exact ⟨some (.inr k), h1, h2⟩
  · have q : (es.find? fun e => nkIs none e.key) = none := by
      rw [Array.find?_eq_none]
      intro e he hq
      obtain ⟨k, h1, _⟩ := hk e he
      have e1 : keyIs (.inr k) e.key = true := h1
      rw [nk_none hq] at e1
      exact keyIs_none (.inr k) e1
    show (es.find? fun e => nkIs none e.key).map (·.val) = none
    rw [q] <;> rfl
/-- None or a text in a dict of the module -/
theorem op_in_kdN (D : KDict X.K X.w d es n) : OpR X (compareOp .In) (fun x y H Q => y = .ref d ∧ ((x = .non ∧ Q (.bl false) H) ∨ ∃ (z : Str) (r : Option Value), x = .str z ∧ PySem.W.nsIn X.K d z = some r ∧ Q (.bl r.isSome) H)) := by
  intro pins s σ H x y v u Q I rx ry h
  obtain ⟨rfl, ⟨rfl, q⟩ | ⟨z, r, rfl, e, q⟩⟩ := h
  · cases ry
    obtain rfl : v = Value.none := rx
    obtain ⟨g, m, e⟩ := kd_none (PySem.W.mapOf_K (prog := X.prog) I.kIn D.at_ D.lit)
    refine wpAny_in_of (show (noneKind X.prog X.w).is none .none = true from rfl) D.low m ?_
    rw [e]
    exact ⟨.bl false, H, I.tok _, rfl, q⟩
  · exact op_in_kd D pins s σ H _ _ _ _ Q I rx ry ⟨z, r, rfl, rfl, e, q⟩
end
end BK



set_option Elab.async false
set_option maxRecDepth 100000
set_option maxHeartbeats 1000000
/-! is_kind, are_params, is_triple. -/
namespace BK
open PySem PySem.Spec PyProof.Rows L2
def kindT : Tr → Bool
  | .str s => decide (s = "context") || decide (s = "token")
  | _ => false
def paramT : Tr → Bool
  | .tup [_, k] => kindT k
  | _ => false
def firstT : Tr → Tr
  | .tup (s :: _) => s
  | t => t
def paramsT : Tr → Bool
  | .tup ts => decide (ts.length ≤ 2) && ts.all paramT && diffT (ts.map firstT)
  | _ => false
def tripleT : Tr → Bool
  | .tup [n, p, b] => nameT n && paramsT p && isTup b
  | _ => false
/-- the kinds, the greatest number of params -/
structure Kinds (K : PySem.W.Frag) (mg : Str → Option Value) : Prop where
  kd : ∃ a, mg "KINDS" = some (.ref a) ∧ ∀ H, SqT K H a [.str "context", .str "token"]
  mp : ∃ t, mg "MOST_PARAMS" = some (.int 2 t)
section
variable {P : Program} {w : World} {K : PySem.W.Frag} {mg : Str → Option Value} {base : Heap}
abbrev sKind : Stmt := top 59
abbrev sParams : Stmt := top 60
abbrev sTriple : Stmt := top 61
theorem scKind : FnScope ["thing"] ["thing"] (defScope sKind) := ⟨rfl, rfl, rfl, by decide +kernel, rfl, by decide +kernel, by decide +kernel⟩
theorem ok_kind {f : Addr} {fd : FuncData} (F : Fun K "is_kind" "is_kind" sKind f fd) (T : Forms mg) (U : Kinds K mg) : FnOk P w K mg base CX0 1 f fd ["thing"] (spOf kindT K) := by
  refine F.ok scKind (fun vs H Q E h => ?_) (fun cdv A outer s H vs Q E hr h => ?_)
  · obtain ⟨v, t, rfl, _⟩ := h
    rfl
  · obtain ⟨v, t, rfl, ht, k⟩ := h
    obtain ⟨a, gK, sK⟩ := U.kd
    refine ⟨_, pss_one (ps_ret (pe_and (pe_callB call_isi (by rfl) T.isi boot_isinstance (pa_cons (pv 0) (pa_cons (pe_bltn (v := .ty "str") (u := .type "str") (by rfl) T.str (by decide +kernel) rfl) pa_nil)))
      (pe_one (pe_cmpR op_in_seq (pv 0) (pe_glob (v := .ref a) rfl gK rfl) rfl)))), ?_⟩
    refine ⟨_, rfl, v, .ty "str", .type (tyT t), .type "str", isStr t, rfl, .ty "str", ht.ty, k_str K t, _, rfl, ?_⟩
    have q := k H fun _ _ e => e
    cases ht with
    | str z hz =>
      refine iteT ⟨_, rfl, a, _, rfl, .inr (sK _), rfl, rfl, ?_⟩
      have e : inV (.str z) [.str "context", .str "token"] = kindT (.str z) := by
        show (eqV (.str "context") (.str z) || (eqV (.str "token") (.str z) || false)) = (decide (z = "context") || decide (z = "token"))
        rw [Bool.or_false]
        congr 1
        · show (("context" : Str) == z) = _
          by_cases e : z = "context"
          · simp [e]
          · have e' : ¬ ("context" : Str) = z := fun w => e w.symm
            simp [e, e']
        · show (("token" : Str) == z) = _
          by_cases e : z = "token"
          · simp [e]
          · have e' : ¬ ("token" : Str) = z := fun w => e w.symm
            simp [e, e']
      rw [e]
      exact q
    | int i => exact iteF q
    | bl b => exact iteF q
    | non => exact iteF q
    | lst h => exact iteF q
    | dct h => exact iteF q
    | tup h r => exact iteF q
theorem scParams : FnScope ["thing", "param", "slot", "kind"] ["thing"] (defScope sParams) := ⟨rfl, rfl, rfl, by decide +kernel, rfl, by decide +kernel, by decide +kernel⟩
theorem params_tup (ts : List Tr) : paramsT (.tup ts) = (decide (ts.length ≤ 2) && ts.all paramT && diffT (ts.map firstT)) := rfl
theorem param_not {ts : List Tr} (h : ¬ ts.length = 2) : paramT (.tup ts) = false := by
  match ts, h with
  | [], _ => rfl
  | [_], _ => rfl
  | [_, _], h => exact absurd rfl h
  | _ :: _ :: _ :: _, _ => rfl
theorem param_two : ∀ {t : Tr}, paramT t = true → ∃ s k, t = .tup [s, k]
  | .tup [s, k], _ => ⟨s, k, rfl⟩
theorem ok_params {f fT fK fD : Addr} {fd fdT fdK fdD : FuncData} (F : Fun K "are_params" "are_params" sParams f fd) (T : Forms mg) (U : Kinds K mg)
    (GT : FnOk P w K mg base CX0 1 fT fdT ["thing", "count"] (spTuple K)) (bT : Binds K fdT ["thing", "count"] []) (gT : mg "is_tuple" = some (.ref fT)) (kT : PySem.W.keepIn K (.ref fT) = true)
    (GK : FnOk P w K mg base CX0 1 fK fdK ["thing"] (spOf kindT K)) (bK : Binds K fdK ["thing"] []) (gK : mg "is_kind" = some (.ref fK)) (kK : PySem.W.keepIn K (.ref fK) = true)
    (GD : FnOk P w K mg base CX0 2 fD fdD ["things"] (spDiff K)) (bD : Binds K fdD ["things"] []) (gD : mg "are_different_names" = some (.ref fD)) (kD : PySem.W.keepIn K (.ref fD) = true) : FnOk P w K mg base CX0 3 f fd ["thing"] (spOf paramsT K) := by
  refine F.ok scParams (fun vs H Q E h => ?_) (fun cdv A outer s H vs Q E hr h => ?_)
  · obtain ⟨v, t, rfl, _⟩ := h
    rfl
  · obtain ⟨v, t, rfl, ht, k⟩ := h
    obtain ⟨t2, gM⟩ := U.mp
    have hr1 : Room 1 _ := hr.mono (by decide)
    refine ⟨_, pss_cons (ps_if (PW.pt (pw_or (pt_not (pt_val (pe_callB call_isi (by rfl) T.isi boot_isinstance (pa_cons (pv 0) (pa_cons (pe_bltn (v := .ty "tuple") (u := .type "tuple") (by rfl) T.tuple (by decide +kernel) rfl) pa_nil)))))
        (pw_or1 (pt_cmpR op_gt (pe_callB call_len_seq (by rfl) T.len boot_len (pa_cons (pv 0) pa_nil)) (pe_glob (v := .int 2) rfl gM ⟨_, rfl⟩) rfl)))) (pss_one (ps_ret pe_bl)) pss_nil)
      (pss_cons (ps_if (pt_not (pt_val (pe_callB (cr_all rfl) (by rfl) T.all (by decide +kernel) (pa_cons (pe_lc (own := [("param", 1)]) (g := gName 1) (tt := tYes)
          (te := tAndV (tCall (spTuple K) [] E0 (tCons (tVar 1) (tCons (tC (.int 2)) tNil))) (tCall (spOf kindT K) [] E0 (tCons (tOp (rIxT K) (tVar 1) (tC (.int 1))) tNil))) rfl scParams.nd (pi_tup (pv 0))
          (blkOk_by (N := ["thing", "param", "slot", "kind"]) (sc := defScope sParams) (by decide +kernel)) (fun _ _ _ _ _ => pg_name (i := 1) scParams.nd rfl (Or.inl rfl)) (fun _ _ _ _ _ => pts_nil)
          (fun _ _ _ _ _ => pe_and (by exact pe_call GT hr1 rfl gT kT bT .nil pass0 (pa_cons (pv 1) (pa_cons pe_int pa_nil))) (pe_one (by exact pe_call GK hr1 rfl gK kK bK .nil pass0 (pa_cons (pe_ix ix_tup (pv 1) pe_int (fun _ _ => rfl)) pa_nil))))) pa_nil)))) (pss_one (ps_ret pe_bl)) pss_nil)
      (pss_one (ps_ret (pe_call GD hr rfl gD kD bD .nil pass0 (pa_cons (pe_lc (own := [("slot", 2), ("kind", 3)]) (g := gTup K 2 (gCons (gName 2) (gCons (gName 3) gNil))) (tt := tYes) (te := tVar 2) rfl scParams.nd (pi_tup (pv 0))
          (blkOk_by (N := ["thing", "param", "slot", "kind"]) (sc := defScope sParams) (by decide +kernel))
          (fun _ _ _ _ _ => by exact pg_tup rfl (pgs_cons (pg_name (i := 2) scParams.nd rfl (Or.inl rfl)) (pgs_cons (pg_name (i := 3) scParams.nd rfl (Or.inl rfl)) pgs_nil))) (fun _ _ _ _ _ => pts_nil)
          (fun _ _ _ _ _ => pv 2)) pa_nil))))), ?_⟩
    refine ⟨_, rfl, v, .ty "tuple", .type (tyT t), .type "tuple", isTup t, rfl, .ty "tuple", ht.ty, k_tup K t, _, rfl, ?_⟩
    have q0 := k H fun _ _ e => e
    cases ht with
    | int i => exact iteT (iteT q0)
    | bl b => exact iteT (iteT q0)
    | str z hz => exact iteT (iteT q0)
    | non => exact iteT (iteT q0)
    | lst h => exact iteT (iteT q0)
    | dct h => exact iteT (iteT q0)
    | @tup a xs ts h tr =>
    refine iteF ⟨_, rfl, a, xs, rfl, .inr h, _, _, rfl, rfl, _, rfl, ?_⟩
    have el := tr.len
    refine ite2 (fun hgt => ?_) (fun hgt => ?_)
    · have hl : ¬ ts.length ≤ 2 := by
        have := of_decide_eq_true hgt
        omega
      have e : paramsT (.tup ts) = false := by
        rw [params_tup, decide_eq_false hl, Bool.false_and, Bool.false_and]
      rw [e] at q0
      exact q0
    have hl : ts.length ≤ 2 := by
      have : ¬ ((xs.length : Int) > 2) := fun z => hgt (decide_eq_true z)
      omega
    -- all([..])
    refine ⟨_, rfl, a, rfl, ⟨xs, h⟩, fun D nD => ?_⟩
    refine lc_it (walk_tup (K := K) (a := a) (xs := xs)) (fun i H2 => Same H H2 ∧ H2 D = some (.lst (((ts.take i).map paramT).map V.bl))) ⟨same_new nD, upd_same⟩ (fun i H2 _ ⟨s2, _⟩ => sqt_same s2 h) ?_ ?_
    · rintro i x H2 H3 hi ⟨s2, e2⟩ ⟨rfl, hx⟩
      obtain ⟨t, ht, tx⟩ := (tr.same s2).get hx
      have put : ∀ (b : Bool) (H' : Hp), b = paramT t → Same H3 H' → ∃ acc, H' D = some (.lst acc) ∧ acc.length < sizeLine ∧ Same H (upd H' D (.lst (acc ++ [.bl b]))) ∧ (upd H' D (.lst (acc ++ [.bl b]))) D = some (.lst (((ts.take (i + 1)).map paramT).map V.bl)) := by
        intro b H' eb s'
        refine ⟨_, s' _ _ e2, small1000 (by rw [List.length_map, List.length_map, List.length_take]; omega), fun b o e => ?_, ?_⟩
        · rw [upd_ne (ne_of_none e nD)]
          exact s' _ _ (s2 b o e)
        · rw [upd_same, List.take_add_one, ht, List.map_append, List.map_append, eb]
          rfl
      refine ⟨rfl, ?_⟩
      refine tyes ?_
      refine ⟨_, rfl, x, t, 2, rfl, tx, ?_⟩
      cases tx with
      | int i => exact ⟨_, rfl, iteF (put false _ rfl fun _ _ e => e)⟩
      | bl b => exact ⟨_, rfl, iteF (put false _ rfl fun _ _ e => e)⟩
      | str z hz => exact ⟨_, rfl, iteF (put false _ rfl fun _ _ e => e)⟩
      | non => exact ⟨_, rfl, iteF (put false _ rfl fun _ _ e => e)⟩
      | lst h => exact ⟨_, rfl, iteF (put false _ rfl fun _ _ e => e)⟩
      | dct h => exact ⟨_, rfl, iteF (put false _ rfl fun _ _ e => e)⟩
      | @tup b ys us hu tu =>
        refine ⟨_, rfl, ?_⟩
        refine ite2 (fun h2 => ?_) (fun h2 => ?_)
        · have l2 : us.length = 2 := by
            have := of_decide_eq_true h2
            omega
          obtain ⟨s0, k0, rfl⟩ : ∃ s0 k0, us = [s0, k0] := by
            match us, l2 with
            | [s0, k0], _ => exact ⟨s0, k0, rfl⟩
          obtain ⟨w, hw, tw⟩ := tu.get' (i := 1) (t := k0) rfl
          exact ⟨_, rfl, b, ys, 1, w, rfl, rfl, hu, at_of (j := 1) rfl hw, w, k0, rfl, tw, fun H' s' => put (kindT k0) H' rfl s'⟩
        · have l2 : ¬ us.length = 2 := fun z => h2 (decide_eq_true (by omega))
          exact put false _ (param_not l2).symm fun _ _ e => e
    rintro H2 ⟨s2, e2⟩
    have et : ts.take xs.length = ts := by rw [el, List.take_length]
    rw [et] at e2
    refine ⟨D, _, rfl, SqL.of e2, _, rfl, ?_⟩
    have ea : (ts.map paramT).all id = ts.all paramT := by rw [List.all_map]; rfl
    rw [ea]
    cases hp : ts.all paramT with
    | false =>
      have e : paramsT (.tup ts) = false := by rw [params_tup, hp, Bool.and_false, Bool.false_and]
      have q2 := k H2 s2
      rw [e] at q2
      exact iteT q2
    | true =>
    refine iteF ?_
    have e : paramsT (.tup ts) = diffT (ts.map firstT) := by rw [params_tup, hp, decide_eq_true hl, Bool.true_and, Bool.true_and]
    refine ⟨_, rfl, a, rfl, ⟨xs, sqt_same s2 h⟩, fun D2 nD2 => ?_⟩
    refine lc_it (walk_tup (K := K) (a := a) (xs := xs)) (fun i H3 => Same H2 H3 ∧ ∃ bs, H3 D2 = some (.lst bs) ∧ TrAll K H3 bs ((ts.take i).map firstT)) ⟨same_new nD2, [], upd_same, .nil⟩ (fun i H3 _ ⟨s3, _⟩ => sqt_same (s2.trans s3) h) ?_ ?_
    · rintro i x H3 H4 hi ⟨s3, bs, e3, b3⟩ ⟨rfl, hx⟩
      obtain ⟨t, ht, tx⟩ := (tr.same (s2.trans s3)).get hx
      have pt : paramT t = true := List.all_eq_true.mp hp t (List.mem_of_getElem? ht)
      obtain ⟨s0, k0, rfl⟩ := param_two pt
      cases tx with
      | @tup b ys us hu tu =>
        have l2 := tu.len
        obtain ⟨y0, y1, rfl⟩ : ∃ y0 y1, ys = [y0, y1] := by
          match ys, l2 with
          | [y0, y1], _ => exact ⟨y0, y1, rfl⟩
        obtain ⟨w, hw, tw⟩ := tu.get' (i := 0) (t := s0) rfl
        obtain rfl : y0 = w := Option.some.inj hw
        refine ⟨b, _, rfl, hu, rfl, _, _, rfl, _, _, rfl, rfl, rfl, ?_⟩
        refine tyes ?_
        refine ⟨_, rfl, bs, e3, small1000 (by rw [b3.len, List.length_map, List.length_take]; omega), fun b o e => ?_, _, upd_same, ?_⟩
        · rw [upd_ne (ne_of_none e nD2)]
          exact s3 b o e
        · rw [List.take_add_one, ht, List.map_append]
          exact (b3.updL e3).snoc (tw.updL e3)
    · rintro H3 ⟨s3, bs, e3, b3⟩
      rw [et] at b3
      refine ⟨D2, bs, ts.map firstT, rfl, .inl (SqL.of e3), b3, by rw [List.length_map]; omega, fun H4 s4 => ?_⟩
      have q2 := k H4 ((s2.trans s3).trans s4)
      rw [e] at q2
      exact q2
end
end BK



set_option Elab.async false
set_option maxRecDepth 100000
set_option maxHeartbeats 1000000
/-! is_triple. -/
namespace BK
open PySem PySem.Spec PyProof.Rows L2
section
variable {P : Program} {w : World} {K : PySem.W.Frag} {mg : Str → Option Value} {base : Heap}
theorem scTriple : FnScope ["thing"] ["thing"] (defScope sTriple) := ⟨rfl, rfl, rfl, by decide +kernel, rfl, by decide +kernel, by decide +kernel⟩
theorem triple_not {ts : List Tr} (h : ¬ ts.length = 3) : tripleT (.tup ts) = false := by
  match ts, h with
  | [], _ => rfl
  | [_], _ => rfl
  | [_, _], _ => rfl
  | [_, _, _], h => exact absurd rfl h
  | _ :: _ :: _ :: _ :: _, _ => rfl
theorem ok_triple {f fT fN fP : Addr} {fd fdT fdN fdP : FuncData} (F : Fun K "is_triple" "is_triple" sTriple f fd) (T : Forms mg)
    (GT : FnOk P w K mg base CX0 1 fT fdT ["thing", "count"] (spTuple K)) (bT : Binds K fdT ["thing", "count"] []) (gT : mg "is_tuple" = some (.ref fT)) (kT : PySem.W.keepIn K (.ref fT) = true)
    (GN : FnOk P w K mg base CX0 1 fN fdN ["thing"] (spOf nameT K)) (bN : Binds K fdN ["thing"] []) (gN : mg "is_name" = some (.ref fN)) (kN : PySem.W.keepIn K (.ref fN) = true)
    (GP : FnOk P w K mg base CX0 3 fP fdP ["thing"] (spOf paramsT K)) (bP : Binds K fdP ["thing"] []) (gP : mg "are_params" = some (.ref fP)) (kP : PySem.W.keepIn K (.ref fP) = true) : FnOk P w K mg base CX0 4 f fd ["thing"] (spOf tripleT K) := by
  refine F.ok scTriple (fun vs H Q E h => ?_) (fun cdv A outer s H vs Q E hr h => ?_)
  · obtain ⟨v, t, rfl, _⟩ := h
    rfl
  · obtain ⟨v, t, rfl, ht, k⟩ := h
    have hr1 : Room 1 _ := hr.mono (by decide)
    refine ⟨_, pss_one (ps_ret (pe_and (pe_call GT hr1 rfl gT kT bT .nil pass0 (pa_cons (pv 0) (pa_cons pe_int pa_nil)))
      (pe_and (pe_call GN hr1 rfl gN kN bN .nil pass0 (pa_cons (pe_ix ix_tup (pv 0) pe_int (fun _ _ => rfl)) pa_nil))
      (pe_and (pe_call GP hr rfl gP kP bP .nil pass0 (pa_cons (pe_ix ix_tup (pv 0) pe_int (fun _ _ => rfl)) pa_nil))
      (pe_one (pe_callB call_isi (by rfl) T.isi boot_isinstance (pa_cons (pe_ix ix_tup (pv 0) pe_int (fun _ _ => rfl)) (pa_cons (pe_bltn (v := .ty "tuple") (u := .type "tuple") (by rfl) T.tuple (by decide +kernel) rfl) pa_nil)))))))), ?_⟩
    refine ⟨_, rfl, v, t, 3, rfl, ht, _, rfl, ?_⟩
    have q0 := k H fun _ _ e => e
    cases ht with
    | int i => exact iteF q0
    | bl b => exact iteF q0
    | str z hz => exact iteF q0
    | non => exact iteF q0
    | lst h => exact iteF q0
    | dct h => exact iteF q0
    | @tup a xs ts h tr =>
      refine ite2 (fun h3 => ?_) (fun h3 => ?_)
      · have l3 : ts.length = 3 := by
          have := of_decide_eq_true h3
          omega
        obtain ⟨n, p, b, rfl⟩ : ∃ n p b, ts = [n, p, b] := by
          match ts, l3 with
          | [n, p, b], _ => exact ⟨n, p, b, rfl⟩
        have e : tripleT (.tup [n, p, b]) = (nameT n && paramsT p && isTup b) := rfl
        rw [e] at k
        obtain ⟨v0, g0, t0⟩ := tr.get' (i := 0) (t := n) rfl
        obtain ⟨v1, g1, t1⟩ := tr.get' (i := 1) (t := p) rfl
        obtain ⟨v2, g2, t2⟩ := tr.get' (i := 2) (t := b) rfl
        refine ⟨_, rfl, a, xs, 0, v0, rfl, rfl, h, at_of (j := 0) rfl g0, v0, n, rfl, t0, fun H1 s1 => ⟨_, rfl, ?_⟩⟩
        cases en : nameT n with
        | false =>
          have q := k H1 s1
          rw [en, Bool.false_and, Bool.false_and] at q
          exact iteF q
        | true =>
        refine iteT ⟨_, rfl, a, xs, 1, v1, rfl, rfl, sqt_same s1 h, at_of (j := 1) rfl g1, v1, p, rfl, t1.same s1, fun H2 s2 => ⟨_, rfl, ?_⟩⟩
        have s12 := s1.trans s2
        cases ep : paramsT p with
        | false =>
          have q := k H2 s12
          rw [en, ep, Bool.and_false, Bool.false_and] at q
          exact iteF q
        | true =>
        refine iteT ⟨_, rfl, a, xs, 2, v2, rfl, rfl, sqt_same s12 h, at_of (j := 2) rfl g2, v2, .ty "tuple", .type (tyT b), .type "tuple", isTup b, rfl, .ty "tuple", (t2.same s12).ty, k_tup K b, ?_⟩
        have q := k H2 s12
        rw [en, ep, Bool.true_and, Bool.true_and] at q
        exact q
      · have l3 : ¬ ts.length = 3 := fun z => h3 (decide_eq_true (by omega))
        rw [triple_not l3] at q0
        exact q0
end
end BK



set_option Elab.async false
set_option linter.all false
set_option maxRecDepth 100000
set_option maxHeartbeats 4000000
/-! list(zip(t, u)) of two tuples: a list of new pairs. -/
namespace LZ
open PySem PySem.Spec PyProof.Rows
section
variable {prog : Program} {w : World} {A : Around} {E : Value → Shared → Prop} {s : Shared}
/-- the next pair, the one ahead of it kept by somebody -/
theorem next_kept {z TI TO T i1 i2 a b : Addr} {f : Bool} {oT : Obj} {k : Nat} {xs ys : Array Value} {x y : Value} {Q : Option Value → Shared → Prop} (D : ZipApart z TI TO i1 i2 a b) (hz : IsZipHeld s.heap z TI TO T f) (hT : s.heap.get? T = some oT)
    (hp : IsPair s.heap TI (.ref i1) (.ref i2)) (h1 : s.heap.IsTupleIter i1 a k) (h2 : s.heap.IsTupleIter i2 b k) (ta : s.heap.IsTuple a xs) (tb : s.heap.IsTuple b ys) (hx : xs[k]? = some x) (hy : ys[k]? = some y)
    (q : ∀ h', IsZipHeld h' z TI TO T true → h'.IsTupleIter i1 a (k + 1) → h'.IsTupleIter i2 b (k + 1) → IsPair h' s.heap.objs.size x y → (∀ c o, c ≠ z → c ≠ i1 → c ≠ i2 → s.heap.get? c = some o → h'.get? c = some o) → Q (some (.ref s.heap.objs.size)) { s with heap := h' }) :
    wpAny (model prog w) A (pyNext (.ref z)) Q E s := by
  have ty : s.TypeIs (.ref z) "zip" := ⟨_, hz, rfl⟩
  unfold pyNext
  refine wpAny_bind (wpAny_attempt (wpAny_callSpecial?_slot (name := Str.ofString "__next__") ty F.slot_zip_next (wpAny_call_entry F.slot_zip_next ty F.entry_zip_next ?_ (F.args_zip_next_1 _))))
  show wpAny _ _ (field (.ref z) 2 >>= _) _ _ _
  refine wpAny_bind (wpAny_field hz rfl (x := .bool false) rfl ?_)
  show wpAny _ _ (field (.ref z) 3 >>= _) _ _ _
  refine wpAny_bind (wpAny_field hz rfl (x := .ref TI) rfl (wpAny_bind (wpAny_seqItems hp rfl ?_)))
  show wpAny _ _ (Builtin.SmallTypes.ownedTupleIsFree (.ref z) >>= _) _ _ _
  refine wpAny_bind (wpAny_tupleHeld_zip hz hT fun g₁ z₁ s₁ => ?_)
  simp only [Bool.false_eq_true, if_false]
  refine wpAny_bind ?_
  rw [← Array.forIn_toList]
  simp only [List.forIn_cons, List.forIn_nil]
  refine wpAny_bind (wpAny_bind (wpAny_holding ?_))
  show wpAny _ _ (Builtin.SmallTypes.nextOf (.ref i1) >>= _) _ _ _
  refine wpAny_bind (RZ.nextOf_tuple_item (s := { s with heap := g₁ }) (h1.extBut s₁.extBut D.i1z) (ta.extBut s₁.extBut D.l1z) hx fun g₂ n₁ s₂ => wpAny_pure (wpAny_pure ?_))
  refine wpAny_bind (wpAny_bind (wpAny_holding ?_))
  show wpAny _ _ (Builtin.SmallTypes.nextOf (.ref i2) >>= _) _ _ _
  refine wpAny_bind (RZ.nextOf_tuple_item (s := { s with heap := g₂ }) ((h2.extBut s₁.extBut D.i2z).extBut s₂.extBut D.i12.symm) ((tb.extBut s₁.extBut D.l2z).extBut s₂.extBut D.l2i1) hy fun g₃ n₂ s₃ => wpAny_pure (wpAny_pure (wpAny_pure ?_)))
  show wpAny _ _ (newTuple [x, y] >>= _) _ _ _
  refine wpAny_bind (wpAny_newTuple (wpAny_pure ?_))
  have sz : g₃.objs.size = s.heap.objs.size := by rw [s₃.1, s₂.1, s₁.1]
  have z₃ : IsZipHeld g₃ z TI TO T true := s₃.extBut _ _ D.i2z.symm (s₂.extBut _ _ D.i1z.symm z₁)
  have kp : ∀ c o, c ≠ z → c ≠ i1 → c ≠ i2 → s.heap.get? c = some o → g₃.get? c = some o := fun c o c1 c2 c3 e => s₃.extBut _ _ c3 (s₂.extBut _ _ c2 (s₁.extBut _ _ c1 e))
  have n₃ : g₃.IsTupleIter i1 a (k + 1) := n₁.extBut s₃.extBut D.i12
  have np : IsPair (g₃.push { cls := .type "tuple", data := .seq #[x, y] }) g₃.objs.size x y := Heap.get?_push_size _ rfl
  refine ⟨_, rfl, ?_⟩
  show wpAny _ _ (pure _) _ _ _
  refine wpAny_pure ?_
  show Q (some (.ref g₃.objs.size)) _
  rw [sz] at np ⊢
  exact q _ (Heap.get?_push_of_some _ z₃) (n₃.at fun o e => Heap.get?_push_of_some _ e) (n₂.at fun o e => Heap.get?_push_of_some _ e) np fun c o c1 c2 c3 e => Heap.get?_push_of_some _ (kp c o c1 c2 c3 e)
/-- no more -/
theorem end_kept {z TI TO T i1 i2 a b : Addr} {f : Bool} {oT : Obj} {k : Nat} {xs : Array Value} {Q : Option Value → Shared → Prop} (calm : A.handled = none) (D : ZipApart z TI TO i1 i2 a b) (hz : IsZipHeld s.heap z TI TO T f) (hT : s.heap.get? T = some oT)
    (hp : IsPair s.heap TI (.ref i1) (.ref i2)) (h1 : s.heap.IsTupleIter i1 a k) (ta : s.heap.IsTuple a xs) (hx : xs[k]? = none) (q : ∀ h', (∀ c o, c ≠ z → c ≠ i1 → s.heap.get? c = some o → h'.get? c = some o) → Q none { s with heap := h' }) :
    wpAny (model prog w) A (pyNext (.ref z)) Q E s := by
  have ty : s.TypeIs (.ref z) "zip" := ⟨_, hz, rfl⟩
  unfold pyNext
  refine wpAny_bind (wpAny_attempt (wpAny_callSpecial?_slot (name := Str.ofString "__next__") ty F.slot_zip_next (wpAny_call_entry F.slot_zip_next ty F.entry_zip_next ?_ (F.args_zip_next_1 _))))
  show wpAny _ _ (field (.ref z) 2 >>= _) _ _ _
  refine wpAny_bind (wpAny_field hz rfl (x := .bool false) rfl ?_)
  show wpAny _ _ (field (.ref z) 3 >>= _) _ _ _
  refine wpAny_bind (wpAny_field hz rfl (x := .ref TI) rfl (wpAny_bind (wpAny_seqItems hp rfl ?_)))
  show wpAny _ _ (Builtin.SmallTypes.ownedTupleIsFree (.ref z) >>= _) _ _ _
  refine wpAny_bind (wpAny_tupleHeld_zip hz hT fun g₁ z₁ s₁ => ?_)
  simp only [Bool.false_eq_true, if_false]
  refine wpAny_bind ?_
  rw [← Array.forIn_toList]
  simp only [List.forIn_cons, List.forIn_nil]
  refine wpAny_bind (wpAny_bind (wpAny_holding ?_))
  show wpAny _ _ (Builtin.SmallTypes.nextOf (.ref i1) >>= _) _ _ _
  refine wpAny_bind (RZ.nextOf_tuple_end (s := { s with heap := g₁ }) calm (h1.extBut s₁.extBut D.i1z) (ta.extBut s₁.extBut D.l1z) hx fun g₂ e s₂ he => ?_)
  obtain ⟨o, ho, hc⟩ := he
  refine wpAny_bind (wpAny_isInstance (T := "StopIteration") (b := true) ⟨o, ho, hc⟩ isSubtype_stop ?_)
  exact wpAny_pure (q _ fun c o c1 c2 x => s₂ _ _ c2 (s₁.extBut _ _ c1 x))
end
end LZ



set_option Elab.async false
set_option linter.all false
set_option maxRecDepth 100000
set_option maxHeartbeats 4000000
namespace LZ
open PySem PySem.Spec PyProof.Rows
theorem cls_ne {h : Heap} {c : Addr} {o o' : Obj} (e : h.get? c = some o) (e' : h.get? c = some o') (n : o.cls ≠ o'.cls) : False := n (congrArg Obj.cls (Option.some.inj (e.symm.trans e')))
abbrev lstO (vs : List Value) (c : Nat) : Obj := { cls := .type "list", dict := none, data := .seq vs.toArray c, slots := #[] }
/-- the zip at its turn i -/
structure ZS (h : Heap) (z TI TO i1 i2 a b : Addr) (xs ys : Array Value) (i : Nat) : Prop where
  p : IsPair h TI (.ref i1) (.ref i2)
  o : ∃ x y, IsPair h TO x y
  n1 : h.IsTupleIter i1 a i
  n2 : h.IsTupleIter i2 b i
  ta : h.IsTuple a xs
  tb : h.IsTuple b ys
  zz : (i = 0 ∧ IsZip h z TI TO .none) ∨ ∃ T f x y, IsZipHeld h z TI TO T f ∧ IsPair h T x y
section
variable {prog : Program} {w : World} {A : Around} {E : Value → Shared → Prop} {s : Shared} {z TI TO i1 i2 a b S : Addr} {xs ys : Array Value} {h h' : Heap} {i : Nat}
/-- only the list at S is written -/
theorem ZS.keep (Z : ZS h z TI TO i1 i2 a b xs ys i) {vs : List Value} {c : Nat} (hS : h.get? S = some (lstO vs c)) (k : ∀ c o, c ≠ S → h.get? c = some o → h'.get? c = some o) : ZS h' z TI TO i1 i2 a b xs ys i := by
  have ne : ∀ {c : Addr} {o : Obj}, h.get? c = some o → o.cls ≠ .type "list" → c ≠ S := fun e ho q => by
    rw [q, hS] at e
    cases e
    exact ho rfl
  have pr : ∀ {T : Addr} {x y : Value}, IsPair h T x y → IsPair h' T x y := fun e => k _ _ (ne e (by simp)) e
  obtain ⟨x0, y0, o0⟩ := Z.o
  obtain ⟨o1, e1, c1, d1⟩ := Z.n1
  obtain ⟨o2, e2, c2, d2⟩ := Z.n2
  obtain ⟨o3, e3, c3, n3, d3⟩ := Z.ta
  obtain ⟨o4, e4, c4, n4, d4⟩ := Z.tb
  refine ⟨pr Z.p, ⟨x0, y0, pr o0⟩, ⟨o1, k _ _ (ne e1 (by rw [c1]; simp)) e1, c1, d1⟩, ⟨o2, k _ _ (ne e2 (by rw [c2]; simp)) e2, c2, d2⟩, ⟨o3, k _ _ (ne e3 (by rw [c3]; simp)) e3, c3, n3, d3⟩, ⟨o4, k _ _ (ne e4 (by rw [c4]; simp)) e4, c4, n4, d4⟩, ?_⟩
  rcases Z.zz with ⟨e, q⟩ | ⟨T, f, x, y, q, t⟩
  · exact .inl ⟨e, k _ _ (ne q (by simp)) q⟩
  · exact .inr ⟨T, f, x, y, k _ _ (ne q (by simp)) q, pr t⟩
theorem ZS.zip (Z : ZS h z TI TO i1 i2 a b xs ys i) : ∃ f0 f1 : Value, h.get? z = some { cls := .type "zip", dict := none, data := .fields #[f0, f1, .bool false, .ref TI, .ref TO], slots := #[] } := by
  rcases Z.zz with ⟨e, q⟩ | ⟨T, f, x, y, q, t⟩
  · exact ⟨_, _, q⟩
  · exact ⟨_, _, q⟩
/-- one turn -/
theorem ZS.next (Z : ZS s.heap z TI TO i1 i2 a b xs ys i) (D : ZipApart z TI TO i1 i2 a b) {x y : Value} (hx : xs[i]? = some x) (hy : ys[i]? = some y) {Q : Option Value → Shared → Prop}
    (q : ∀ h', ZS h' z TI TO i1 i2 a b xs ys (i + 1) → IsPair h' s.heap.objs.size x y → (∀ c o, c ≠ z → c ≠ TO → c ≠ i1 → c ≠ i2 → s.heap.get? c = some o → h'.get? c = some o) → Q (some (.ref s.heap.objs.size)) { s with heap := h' }) :
    wpAny (model prog w) A (pyNext (.ref z)) Q E s := by
  obtain ⟨x0, y0, o0⟩ := Z.o
  rcases Z.zz with ⟨e, g⟩ | ⟨T, f, xT, yT, g, t⟩
  · refine RZ.pyNext_zipT_item D g Z.p o0 Z.n1 Z.n2 Z.ta Z.tb hx hy fun h' a1 a2 a3 a4 a5 a6 a7 => ?_
    have lt : ∀ {c o}, s.heap.get? c = some o → s.heap.objs.size ≠ c := fun e => Nat.ne_of_gt (Heap.lt_size e)
    exact q h' ⟨a7 _ _ D.TIz D.TITO D.TIi1 D.TIi2 Z.p, ⟨_, _, a2⟩, a3, a4, Z.ta.at fun o e => a7 _ o D.l1z D.l1TO D.l1i1 D.l1i2 e, Z.tb.at fun o e => a7 _ o D.l2z D.l2TO D.l2i1 D.l2i2 e, .inr ⟨_, false, x, y, a1, a5⟩⟩ a5 a7
  · refine next_kept D g t Z.p Z.n1 Z.n2 Z.ta Z.tb hx hy fun h' a1 a3 a4 a5 a7 => ?_
    have kp : ∀ c o, c ≠ z → c ≠ TO → c ≠ i1 → c ≠ i2 → s.heap.get? c = some o → h'.get? c = some o := fun c o c1 _ c3 c4 e => a7 c o c1 c3 c4 e
    have nz : T ≠ z := fun e => by
      rw [e] at t
      exact cls_ne t g (by simp)
    have n1 : T ≠ i1 := fun e => by
      obtain ⟨o, e1, e2, _⟩ := Z.n1
      rw [e] at t
      exact cls_ne t e1 (by rw [e2]; simp)
    have n2 : T ≠ i2 := fun e => by
      obtain ⟨o, e1, e2, _⟩ := Z.n2
      rw [e] at t
      exact cls_ne t e1 (by rw [e2]; simp)
    exact q h' ⟨kp _ _ D.TIz D.TITO D.TIi1 D.TIi2 Z.p, ⟨_, _, a7 _ _ D.TOz D.TOi1 D.TOi2 o0⟩, a3, a4, Z.ta.at fun o e => kp _ o D.l1z D.l1TO D.l1i1 D.l1i2 e, Z.tb.at fun o e => kp _ o D.l2z D.l2TO D.l2i1 D.l2i2 e, .inr ⟨T, true, _, _, a1, a7 _ _ nz n1 n2 t⟩⟩ a5 kp
theorem ZS.fin (Z : ZS s.heap z TI TO i1 i2 a b xs ys i) (D : ZipApart z TI TO i1 i2 a b) (calm : A.handled = none) (hx : xs[i]? = none) {Q : Option Value → Shared → Prop}
    (q : ∀ h', (∀ c o, c ≠ z → c ≠ TO → c ≠ i1 → c ≠ i2 → s.heap.get? c = some o → h'.get? c = some o) → Q none { s with heap := h' }) : wpAny (model prog w) A (pyNext (.ref z)) Q E s := by
  obtain ⟨x0, y0, o0⟩ := Z.o
  rcases Z.zz with ⟨e, g⟩ | ⟨T, f, xT, yT, g, t⟩
  · exact RZ.pyNext_zipT_end calm D g Z.p o0 Z.n1 Z.n2 Z.ta Z.tb (.inl hx) q
  · exact end_kept calm D g t Z.p Z.n1 Z.ta hx fun h' k => q h' fun c o c1 _ c3 _ e => k c o c1 c3 e
/-- the pairs made so far -/
def Made (h : Heap) (xs ys : Array Value) (ts : List Addr) : Prop := ∀ (j : Nat) (T : Addr), ts[j]? = some T → ∃ x y, xs[j]? = some x ∧ ys[j]? = some y ∧ IsPair h T x y
theorem loop {n N : Nat} {res : Value} {R : Result → Shared → Prop} (D : ZipApart z TI TO i1 i2 a b) (calm : A.handled = none) (lx : xs.size = n) (ly : ys.size = n) (few : n ≤ 1000) (lz : z < N) (lO : TO < N) (l1 : i1 < N) (l2 : i2 < N) (lS : S < N) (d : Nat) :
    ∀ (i : Nat) (s : Shared) (ts : List Addr) (c : Nat), i + d = n → ts.length = i → ZS s.heap z TI TO i1 i2 a b xs ys i → s.heap.get? S = some (lstO (ts.map Value.ref) c) → Made s.heap xs ys ts → ts.Nodup → (∀ T ∈ ts, N ≤ T) → N ≤ s.heap.objs.size →
      (∀ h' ts' c', ts'.length = n → h'.get? S = some (lstO (ts'.map Value.ref) c') → Made h' xs ys ts' → ts'.Nodup → (∀ T ∈ ts', N ≤ T) → (∀ c o, c ≠ S → c ≠ z → c ≠ TO → c ≠ i1 → c ≠ i2 → s.heap.get? c = some o → h'.get? c = some o) → R (.ok (.ret res)) { s with heap := h' }) →
      codeAny (model prog w) A (.builtin "list.extend.loop" ⟨[.ref S, .ref z, res], []⟩) R s := by
  have sz : sizeLine = 16777216 := sizeLine_eq
  induction d with
  | zero =>
    intro i s ts c e el Z hS mk nd ge le then_
    obtain rfl : i = n := e
    refine codeAny_builtin F.entry_extend_loop ?_
    rw [Around.under_plainId F.plain_extend_loop _]
    show wpAny _ A.in1 (pyNext (.ref z) >>= _) _ _ s
    refine wpAny_bind (Z.fin D (show A.in1.handled = none by simp [calm]) (by rw [Array.getElem?_eq_none_iff]; omega) fun h' k => ?_)
    have big : ∀ {c T : Nat}, c < N → N ≤ T → T ≠ c := fun h1 h2 => by omega
    have nS : S ≠ z ∧ S ≠ TO ∧ S ≠ i1 ∧ S ≠ i2 := by
      obtain ⟨f0, f1, gz⟩ := Z.zip
      obtain ⟨x0, y0, o0⟩ := Z.o
      obtain ⟨o1, e1, c1, _⟩ := Z.n1
      obtain ⟨o2, e2, c2, _⟩ := Z.n2
      refine ⟨fun q => ?_, fun q => ?_, fun q => ?_, fun q => ?_⟩
      · rw [q] at hS; exact cls_ne hS gz (by simp)
      · rw [q] at hS; exact cls_ne hS o0 (by simp)
      · rw [q] at hS; exact cls_ne hS e1 (by rw [c1]; simp)
      · rw [q] at hS; exact cls_ne hS e2 (by rw [c2]; simp)
    refine wpAny_pure (then_ h' ts c el (k _ _ nS.1 nS.2.1 nS.2.2.1 nS.2.2.2 hS) (fun j T hj => ?_) nd ge fun c o _ c1 c2 c3 c4 e => k c o c1 c2 c3 c4 e)
    obtain ⟨x, y, p1, p2, p3⟩ := mk j T hj
    have gT := ge T (List.mem_of_getElem? hj)
    exact ⟨x, y, p1, p2, k _ _ (big lz gT) (big lO gT) (big l1 gT) (big l2 gT) p3⟩
  | succ d ih =>
    intro i s ts c e el Z hS mk nd ge le then_
    have lt : i < n := by omega
    obtain ⟨x, hx⟩ : ∃ x, xs[i]? = some x := ⟨_, Array.getElem?_eq_getElem (by omega)⟩
    obtain ⟨y, hy⟩ : ∃ y, ys[i]? = some y := ⟨_, Array.getElem?_eq_getElem (by omega)⟩
    refine codeAny_builtin F.entry_extend_loop ?_
    rw [Around.under_plainId F.plain_extend_loop _]
    show wpAny _ A.in1 (pyNext (.ref z) >>= _) _ _ s
    refine wpAny_bind (Z.next D hx hy fun h' Z' np k => ?_)
    have big : ∀ {c T : Nat}, c < N → N ≤ T → T ≠ c := fun h1 h2 => by omega
    have nS : S ≠ z ∧ S ≠ TO ∧ S ≠ i1 ∧ S ≠ i2 := by
      obtain ⟨f0, f1, gz⟩ := Z.zip
      obtain ⟨x0, y0, o0⟩ := Z.o
      obtain ⟨o1, e1, c1, _⟩ := Z.n1
      obtain ⟨o2, e2, c2, _⟩ := Z.n2
      refine ⟨fun q => ?_, fun q => ?_, fun q => ?_, fun q => ?_⟩
      · rw [q] at hS; exact cls_ne hS gz (by simp)
      · rw [q] at hS; exact cls_ne hS o0 (by simp)
      · rw [q] at hS; exact cls_ne hS e1 (by rw [c1]; simp)
      · rw [q] at hS; exact cls_ne hS e2 (by rw [c2]; simp)
    have hS' := k _ _ nS.1 nS.2.1 nS.2.2.1 nS.2.2.2 hS
    show wpAny _ A.in1 (updateSeq S (·.push (.ref s.heap.objs.size)) >>= _) _ _ _
    have sm : ((ts.map Value.ref).toArray).size ≤ sizeLine := by rw [List.size_toArray, List.length_map]; omega
    refine wpAny_bind (wpAny_updateSeq hS' rfl ?_ sm (by show (((ts.map Value.ref).toArray).push _).size ≤ sizeLine + 1; rw [Array.size_push]; omega))
    have hS2 := Heap.get?_update_self (Obj.mapSeq (·.push (.ref s.heap.objs.size))) hS' rfl
    have oth : ∀ c o, c ≠ S → h'.get? c = some o → (h'.update S (Obj.mapSeq (·.push (.ref s.heap.objs.size)))).get? c = some o := fun c o nc e => (Heap.get?_update_other _ _ (Ne.symm nc)).trans e
    obtain ⟨c2, eS⟩ : ∃ c2, Obj.mapSeq (·.push (.ref s.heap.objs.size)) (lstO (ts.map Value.ref) c) = lstO ((ts ++ [s.heap.objs.size]).map Value.ref) c2 := by
      simp [Obj.mapSeq]
    rw [eS] at hS2
    have Z2 := Z'.keep hS' oth
    have nTS : s.heap.objs.size ≠ S := Nat.ne_of_gt (Heap.lt_size hS)
    have mk2 : Made (h'.update S (Obj.mapSeq (·.push (.ref s.heap.objs.size)))) xs ys (ts ++ [s.heap.objs.size]) := fun j T hj => by
      by_cases hj2 : j < ts.length
      · rw [List.getElem?_append_left hj2] at hj
        obtain ⟨x', y', p1, p2, p3⟩ := mk j T hj
        have gT := ge T (List.mem_of_getElem? hj)
        exact ⟨x', y', p1, p2, oth _ _ (big lS gT) (k _ _ (big lz gT) (big lO gT) (big l1 gT) (big l2 gT) p3)⟩
      · rw [List.getElem?_append_right (by omega)] at hj
        have j0 : j = ts.length := by
          have := (List.getElem?_eq_some_iff.mp hj).1
          simp at this
          omega
        subst j0
        rw [Nat.sub_self, List.getElem?_cons_zero] at hj
        obtain rfl : s.heap.objs.size = T := Option.some.inj hj
        rw [el]
        exact ⟨x, y, hx, hy, oth _ _ nTS np⟩
    have fresh : s.heap.objs.size ∉ ts := fun m => by
      obtain ⟨j, hj⟩ := List.getElem?_of_mem m
      obtain ⟨x', y', _, _, p3⟩ := mk j _ hj
      exact Nat.lt_irrefl _ (Heap.lt_size p3)
    refine wpAny_pure ⟨plainId_quiet F.plain_extend_loop _, ih (i + 1) _ (ts ++ [s.heap.objs.size]) c2 (by omega) (by rw [List.length_append, el]; rfl) Z2 hS2 mk2 (L2.nd_snoc nd fresh) (fun T hT => ?_) ?_ fun h2 ts' c' a1 a2 a3 a4 a5 a6 => ?_⟩
    · rcases List.mem_append.mp hT with q | q
      · exact ge T q
      · rw [List.mem_singleton.mp q]
        exact le
    · exact Nat.le_trans le (Nat.le_of_lt (Heap.lt_size (oth _ _ nTS np)))
    · exact then_ h2 ts' c' a1 a2 a3 a4 a5 fun c o c0 c1 c2 c3 c4 e => a6 c o c0 c1 c2 c3 c4 (oth _ _ c0 (k _ _ c1 c2 c3 c4 e))
end
end LZ



set_option Elab.async false
set_option linter.all false
set_option maxRecDepth 100000
set_option maxHeartbeats 4000000
namespace LZ
open PySem PySem.Spec PyProof.Rows
theorem zip_len : typeLookup (.type "zip") "__len__" = pure none := am_miss_of_fast (by decide +kernel)
theorem zip_hint : typeLookup (.type "zip") "__length_hint__" = pure none := am_miss_of_fast (by decide +kernel)
section
variable {prog : Program} {w : World} {A : Around} {E : Value → Shared → Prop} {s : Shared} {z TI TO i1 i2 a b : Addr} {xs ys : Array Value}
theorem ZS.mono {h h' : Heap} {i : Nat} (Z : ZS h z TI TO i1 i2 a b xs ys i) (k : ∀ c o, h.get? c = some o → h'.get? c = some o) : ZS h' z TI TO i1 i2 a b xs ys i := by
  obtain ⟨x0, y0, o0⟩ := Z.o
  refine ⟨k _ _ Z.p, ⟨x0, y0, k _ _ o0⟩, Z.n1.at fun o e => k _ o e, Z.n2.at fun o e => k _ o e, Z.ta.at fun o e => k _ o e, Z.tb.at fun o e => k _ o e, ?_⟩
  rcases Z.zz with ⟨e, q⟩ | ⟨T, f, x, y, q, t⟩
  · exact .inl ⟨e, k _ _ q⟩
  · exact .inr ⟨T, f, x, y, k _ _ q, k _ _ t⟩
/-- list(z), z a zip of two tuples of one length that nobody has asked -/
theorem list_zip {n : Nat} {Q : Value → Shared → Prop} (D : ZipApart z TI TO i1 i2 a b) (calm : A.handled = none) (Z : ZS s.heap z TI TO i1 i2 a b xs ys 0) (gz0 : IsZip s.heap z TI TO .none) (lx : xs.size = n) (ly : ys.size = n) (few : n ≤ 1000)
    (q : ∀ h' ts c, ts.length = n → h'.get? s.heap.objs.size = some (lstO (ts.map Value.ref) c) → Made h' xs ys ts → ts.Nodup → (∀ T ∈ ts, s.heap.objs.size < T) → (∀ c o, c ≠ z → c ≠ TO → c ≠ i1 → c ≠ i2 → s.heap.get? c = some o → h'.get? c = some o) →
      Q (.ref s.heap.objs.size) { s with heap := h' }) : wpAny (model prog w) A (call (.type "list") [.ref z]) Q E s := by
  obtain ⟨f0, f1, gz⟩ := Z.zip
  obtain ⟨x0, y0, gO⟩ := Z.o
  obtain ⟨o1, g1, _⟩ := id Z.n1
  obtain ⟨o2, g2, _⟩ := id Z.n2
  have lz : z < s.heap.objs.size := Heap.lt_size gz
  refine callType_codes (Q₁ := fun obj s₁ => obj = .ref s.heap.objs.size ∧ s₁ = { s with heap := s.heap.push (lstO [] 0) }) F.called_list (F.typeCall_list_1 _) F.entry_list_init (code_list_new _ ⟨rfl, rfl⟩) fun obj s₁ e => ?_
  obtain ⟨rfl, rfl⟩ := e
  have gS : (s.heap.push (lstO [] 0)).get? s.heap.objs.size = some (lstO [] 0) := Heap.get?_push_size _ rfl
  refine ⟨⟨_, gS, rfl⟩, F.args_list_init_2 _ _, ?_⟩
  show wpAny _ A.in1.in1 (do let old ← Builtin.List.listItems (.ref s.heap.objs.size); Builtin.List.listUpdate (.ref s.heap.objs.size) (fun _ => #[]); letGo old.toList.reverse; Builtin.List.listExtendWith (.ref s.heap.objs.size) (.ref z) .none) _ _ _
  refine wpAny_bind ?_
  unfold Builtin.List.listItems
  refine wpAny_bind (wpAny_seqItems gS rfl (wpAny_pure ?_))
  show wpAny _ A.in1.in1 (updateSeq s.heap.objs.size (fun _ => #[]) >>= fun _ => letGo (#[] : Array Value).toList.reverse >>= fun _ => Builtin.List.listExtendWith (.ref s.heap.objs.size) (.ref z) .none) _ _ _
  refine wpAny_bind (wpAny_updateSeq gS rfl ?_)
  have gS2 := Heap.get?_update_self (Obj.mapSeq (fun _ => (#[] : Array Value))) gS rfl
  refine wpAny_bind (wpAny_letGo ?_)
  have oth2 : ∀ c o, c ≠ s.heap.objs.size → (s.heap.push (lstO [] 0)).get? c = some o → ((s.heap.push (lstO [] 0)).update s.heap.objs.size (Obj.mapSeq (fun _ => (#[] : Array Value)))).get? c = some o := fun c o nc e => (Heap.get?_update_other _ _ (Ne.symm nc)).trans e
  have nzS : z ≠ s.heap.objs.size := Nat.ne_of_lt lz
  have gz2 : IsZip ((s.heap.push (lstO [] 0)).update s.heap.objs.size (Obj.mapSeq (fun _ => (#[] : Array Value)))) z TI TO .none := oth2 _ _ nzS (Heap.get?_push_of_some _ gz0)
  have ty : ∀ {h : Heap} {g d t os}, IsZip h z TI TO .none → Shared.TypeIs ⟨h, g, d, t, os⟩ (.ref z) "zip" := fun e => ⟨_, e, rfl⟩
  unfold Builtin.List.listExtendWith
  refine wpAny_bind (wpAny_typeOf (ty gz2) ?_)
  have c1 : Builtin.List.listSameRef (.ref s.heap.objs.size) (.ref z) = false := by simp [Builtin.List.listSameRef, Ne.symm nzS]
  have c2 : (Value.type "zip" == Value.type "list") = false := by decide
  have c3 : (Value.type "zip" == Value.type "tuple") = false := by decide
  simp only [c1, c2, c3, Bool.or_false, Bool.false_eq_true, if_false]
  refine wpAny_bind (wpAny_pyIter_zip gz2 (wpAny_bind (wpAny_holding ?_)))
  unfold Builtin.List.listLengthHint
  refine wpAny_bind (wpAny_specialOf (ty gz2) zip_len ?_)
  show wpAny _ A.in1.in1 (specialOf (Value.ref z) (Str.ofString "__length_hint__") >>= _) _ _ _
  refine wpAny_bind (wpAny_specialOf (ty gz2) zip_hint (wpAny_pure ?_))
  show wpAny _ A.in1.in1 (rule "list.extend.makes-room" >>= fun _ => Builtin.List.listTouch (.ref s.heap.objs.size) >>= fun _ => again (.builtin "list.extend.loop" ⟨[.ref s.heap.objs.size, .ref z, .none], []⟩)) _ _ _
  refine wpAny_bind (wpAny_rule (wpAny_bind ?_))
  show wpAny _ A.in1.in1 (updateSeq s.heap.objs.size (·.push .none) >>= fun _ => updateSeq s.heap.objs.size (·.pop)) _ _ _
  refine wpAny_bind (wpAny_updateSeq gS2 rfl ?_)
  have gS3 := Heap.get?_update_self (Obj.mapSeq (·.push Value.none)) gS2 rfl
  refine wpAny_updateSeq (hz := by seq_fits) gS3 rfl ?_
  have gS4 := Heap.get?_update_self (Obj.mapSeq (·.pop)) gS3 rfl
  have oth4 : ∀ c o, c ≠ s.heap.objs.size → (s.heap.push (lstO [] 0)).get? c = some o → ((((s.heap.push (lstO [] 0)).update s.heap.objs.size (Obj.mapSeq (fun _ => (#[] : Array Value)))).update s.heap.objs.size (Obj.mapSeq (·.push Value.none))).update s.heap.objs.size (Obj.mapSeq (·.pop))).get? c = some o :=
    fun c o nc e => (Heap.get?_update_other _ _ (Ne.symm nc)).trans ((Heap.get?_update_other _ _ (Ne.symm nc)).trans (oth2 c o nc e))
  obtain ⟨c4, e4⟩ : ∃ c4, Obj.mapSeq (·.pop) (Obj.mapSeq (·.push Value.none) (Obj.mapSeq (fun _ => (#[] : Array Value)) (lstO [] 0))) = lstO (([] : List Addr).map Value.ref) c4 := ⟨_, rfl⟩
  rw [e4] at gS4
  have Z4 := (Z.mono fun c o e => Heap.get?_push_of_some _ e).keep gS oth4
  have big : s.heap.objs.size + 1 ≤ ((((s.heap.push (lstO [] 0)).update s.heap.objs.size (Obj.mapSeq (fun _ => (#[] : Array Value)))).update s.heap.objs.size (Obj.mapSeq (·.push Value.none))).update s.heap.objs.size (Obj.mapSeq (·.pop))).objs.size := Nat.succ_le_of_lt (Heap.lt_size gS4)
  refine wpAny_pure ⟨plainId_quiet F.plain_extend_loop _, loop (N := s.heap.objs.size + 1) D (show A.in1.handled = none by simp [calm]) lx ly few (Nat.lt_succ_of_lt lz) (Nat.lt_succ_of_lt (Heap.lt_size gO)) (Nat.lt_succ_of_lt (Heap.lt_size g1)) (Nat.lt_succ_of_lt (Heap.lt_size g2)) (Nat.lt_succ_self _) n 0 _ [] c4 (by omega) rfl Z4 gS4
    (fun j T hj => by simp at hj) List.nodup_nil (fun T hT => by simp at hT) big fun h' ts c a1 a2 a3 a4 a5 a6 => ?_⟩
  exact ⟨rfl, q h' ts c a1 a2 a3 a4 a5 fun c o k1 k2 k3 k4 e => a6 c o (Nat.ne_of_lt (Heap.lt_size e)) k1 k2 k3 k4 (oth4 _ _ (Nat.ne_of_lt (Heap.lt_size e)) (Heap.get?_push_of_some _ e))⟩
end
end LZ



set_option Elab.async false
set_option linter.all false
set_option maxRecDepth 100000
set_option maxHeartbeats 2000000
/-! list(zip(t, u)): the rule. -/
namespace BK
open PySem PySem.Spec PyProof.Rows L2
section
variable {X : Cx} {pins : List (Addr × Obj)} {σ : L2.St} {H : Hp} {s : Shared}
/-- nothing knows of the place a -/
structure Fr (X : Cx) (pins : List (Addr × Obj)) (a : Addr) : Prop where
  n0 : ∀ u, X.s_0.heap.get? a = some u → a ∈ X.ex ∨ X.H_0 a ≠ none
  nL : a ≠ X.env.locals
  nC : ∀ x c, X.env.cells.lookup x = some c → c ≠ a
  nP : ∀ p ∈ X.pn ++ pins, p.1 ≠ a
/-- a place above the heap -/
theorem Fr.of (I : Inv X pins σ H s) {a : Addr} (h : s.heap.objs.size ≤ a) : Fr X pins a := by
  have no : ∀ o, s.heap.get? a = some o → False := fun o e => Nat.lt_irrefl _ (Nat.lt_of_lt_of_le (Heap.lt_size e) h)
  refine ⟨fun u e => ?_, fun e => ?_, fun x c e z => ?_, fun p hp z => ?_⟩
  · by_cases hx : a ∈ X.ex
    · exact .inl hx
    · obtain ⟨o, q⟩ := I.base.there a u e hx
      exact (no o q).elim
  · obtain ⟨m, ⟨o, es, ep, q, _⟩, _⟩ := I.loc
    rw [e] at no
    exact no o q
  · obtain ⟨v, o, q, _⟩ := I.cell x c e
    rw [z] at q
    exact no o q
  · have q := (I.pin p hp).1
    rw [z] at q
    exact no _ q
theorem tell {a : Addr} {o : HO} (I : Inv X pins σ H s) (na : H a = none) (F : Fr X pins a) (ok : ObjOk X.prog X.w (upd H a o) s.heap a o) : Inv X pins σ (upd H a o) s := by
  have at_ : ∀ b u, H b = some u → upd H a o b = some u := same_new na
  refine ⟨I.ok, I.os, I.bare, ⟨I.base.keep, I.base.slot, fun b u e n hx => ?_, I.base.there, fun b xs e => at_ _ _ (I.base.tups b xs e), fun b u v e => at_ _ _ (I.base.frzs b u v e), fun b ps e => ?_⟩, I.loc, I.cell, ?_, fun x c e => ?_, fun p hp => ?_, fun b u e => ?_, I.len⟩
  · by_cases hb : b = a
    · subst hb
      exact ((F.n0 u e).elim (fun z => absurd z hx) fun z => absurd n z)
    · rw [upd_ne hb]
      exact I.base.free b u e n hx
  · obtain ⟨more, e'⟩ := I.base.tbls b ps e
    exact ⟨more, at_ _ _ e'⟩
  · rw [upd_ne F.nL.symm]
    exact I.free
  · rw [upd_ne (F.nC x c e)]
    exact I.freeC x c e
  · obtain ⟨h1, h2, h3⟩ := I.pin p hp
    exact ⟨h1, by rw [upd_ne (F.nP p hp)]; exact h2, h3⟩
  · by_cases hb : b = a
    · subst hb
      rw [upd_same] at e
      cases e
      exact ok
    · rw [upd_ne hb] at e
      exact (I.hok b u e).stay (fun _ _ _ q => q) (fun b q => at_ _ _ q) fun b xs q => at_ _ _ q
/-- new pairs are told of -/
theorem tell_pairs : ∀ (zs : List (Addr × V × V)) {H : Hp}, (zs.map (·.1)).Nodup → (∀ z ∈ zs, Fr X pins z.1 ∧ H z.1 = none ∧ ∃ u v, RelV z.2.1 u ∧ RelV z.2.2 v ∧ IsPair s.heap z.1 u v) → Inv X pins σ H s →
    ∃ H', Inv X pins σ H' s ∧ Same H H' ∧ (∀ z ∈ zs, H' z.1 = some (.tup [z.2.1, z.2.2])) ∧ ∀ a, H a = none → a ∉ zs.map (·.1) → H' a = none
  | [], H, _, _, I => ⟨H, I, fun _ _ e => e, fun _ h => by simp at h, fun _ e _ => e⟩
  | (a, x, y) :: r, H, nd, h, I => by
    rw [List.map_cons] at nd
    obtain ⟨n1, n2⟩ := List.nodup_cons.mp nd
    obtain ⟨F, na, u, v, ru, rv, hp⟩ := h _ List.mem_cons_self
    have I1 : Inv X pins σ (upd H a (.tup [x, y])) s := tell I na F ⟨(by show 2 ≤ sizeLine; decide), [u, v], .cons ru (.cons rv .nil), ⟨_, hp, rfl, _, rfl⟩⟩
    obtain ⟨H', I2, s2, at2, no2⟩ := tell_pairs r n2 (fun z hz => by
      obtain ⟨F', nz, q⟩ := h z (List.mem_cons_of_mem _ hz)
      refine ⟨F', ?_, q⟩
      have : z.1 ≠ a := fun e => n1 (by rw [← e]; exact List.mem_map.mpr ⟨z, hz, rfl⟩)
      rw [upd_ne this]
      exact nz) I1
    refine ⟨H', I2, (same_new na).trans s2, fun z hz => ?_, fun b e nb => ?_⟩
    · rcases List.mem_cons.mp hz with q | q
      · rw [q]
        exact s2 _ _ upd_same
      · exact at2 z q
    · rw [List.map_cons, List.mem_cons, not_or] at nb
      refine no2 b ?_ nb.2
      rw [upd_ne nb.1]
      exact e
end
theorem vals_refs : ∀ ts : List Addr, Vals (ts.map V.ref) (ts.map Value.ref)
  | [] => .nil
  | t :: r => .cons rfl (vals_refs r)
def tListZip (K : PySem.W.Frag) (ta : TA) : TE := fun σ H Q => ta σ H fun vs H1 => ∃ a b xs ys, vs = [.ref a, .ref b] ∧ SqT K H1 a xs ∧ SqT K H1 b ys ∧ xs.length = ys.length ∧ xs.length ≤ 1000 ∧
  ∀ (L : Addr) (ts : List Addr) (H' : Hp), Same H1 H' → H1 L = none → H' L = some (.lst (ts.map V.ref)) → ts.length = xs.length → (∀ (j : Nat) (T : Addr), ts[j]? = some T → ∃ x y, xs[j]? = some x ∧ ys[j]? = some y ∧ H' T = some (.tup [x, y])) → Q (.ref L) H'
section
variable {X : Cx}
theorem pe_listZip {e e2 : Expr} {ta : TA} {p p2 q pos : Pos} (hc : X.calm = true) (g1 : Gl X "list") (m1 : X.mg "list" = none) (g2 : Gl X "zip") (m2 : X.mg "zip" = none) (ha : PA X [e, e2] ta)
    (hs : starEach [e, e2] X.env = (false, eval e X.env) :: starEach [e2] X.env := by rfl) (hpl : (backTo q (starEach [e2] X.env)).any (·.1) = false := by rfl) : PE X (.Call (.Name "list" p) [.Call (.Name "zip" p2) [e, e2] [] q] [] pos) (tListZip X.K ta) := by
  refine ⟨fun pins s σ H Q I h => Call_ (ld_blt I g1 m1 boot_list (PyProof.Rows.callWith_type1 (PyProof.Rows.args_cons ?_ rfl) rfl rfl))⟩
  refine Call_ (ld_blt I g2 m2 PyProof.Rows.boot_zip (PyProof.Rows.callWith_type1 (thn (ha.run q pins s σ H _ I h) fun us s1 z => ?_) hs hpl))
  obtain ⟨vs, H1, I1, r1, a, b, xs, ys, rfl, sa, sb, el, few, k⟩ := z
  obtain ⟨u1, u2, rfl, ra, rb⟩ := vals2 r1
  obtain rfl : u1 = Value.ref a := ra
  obtain rfl : u2 = Value.ref b := rb
  obtain ⟨its, rx, ta, zx⟩ := I1.tuple sa
  obtain ⟨its2, ry, tb, zy⟩ := I1.tuple sb
  obtain ⟨oa, ga, _⟩ := id ta
  obtain ⟨ob, gb, _⟩ := id tb
  have lx : its.toArray.size = xs.length := by rw [List.size_toArray, rx.length]
  have ly : its2.toArray.size = xs.length := by rw [List.size_toArray, ← ry.length, el]
  refine RZ.call_zipT (show s1.heap.IsTuple a its.toArray from ta) (show s1.heap.IsTuple b its2.toArray from tb) fun h' hz hTI hTO h1 h2 hsz hk => PyProof.Rows.args_nil ?_
  have Z : LZ.ZS h' (s1.heap.objs.size + 4) (s1.heap.objs.size + 2) (s1.heap.objs.size + 3) s1.heap.objs.size (s1.heap.objs.size + 1) a b its.toArray its2.toArray 0 :=
    ⟨hTI, ⟨_, _, hTO⟩, h1, h2, (show s1.heap.IsTuple a its.toArray from ta).at fun o e => hk _ o e, (show s1.heap.IsTuple b its2.toArray from tb).at fun o e => hk _ o e, .inl ⟨rfl, hz⟩⟩
  refine LZ.list_zip (s := { s1 with heap := h' }) (PySem.W.ktu_apart s1.heap.objs.size a b (Heap.lt_size ga) (Heap.lt_size gb)) (I1.ok.hd hc) Z hz lx ly few fun h2 ts c a1 a2 a3 a4 a5 a6 => ?_
  have lt : ∀ {c : Addr} {o : Obj} (m : Nat), s1.heap.get? c = some o → c ≠ s1.heap.objs.size + m := fun m e => Nat.ne_of_lt (Nat.lt_of_lt_of_le (Heap.lt_size e) (Nat.le_add_right _ _))
  have kp : ∀ c o, s1.heap.get? c = some o → h2.get? c = some o := fun c o e => a6 c o (lt 4 e) (lt 3 e) (Nat.ne_of_lt (Heap.lt_size e)) (lt 1 e) (hk c o e)
  have I2 : Inv X pins σ H1 { s1 with heap := h2 } := I1.kept (t' := s1.toks) kp
  have up : s1.heap.objs.size ≤ h'.objs.size := by rw [hsz]; exact Nat.le_add_right _ _
  have ezs : (ts.zip (xs.zip ys)).map (·.1) = ts := by
    rw [List.map_fst_zip]
    rw [List.length_zip]
    omega
  have inz : ∀ z ∈ ts.zip (xs.zip ys), ∃ j, ts[j]? = some z.1 ∧ xs[j]? = some z.2.1 ∧ ys[j]? = some z.2.2 := fun z hz => by
    obtain ⟨j, hj⟩ := List.getElem?_of_mem hz
    obtain ⟨T, x, y⟩ := z
    obtain ⟨q1, q2⟩ := List.getElem?_zip_eq_some.mp hj
    obtain ⟨q3, q4⟩ := List.getElem?_zip_eq_some.mp q2
    exact ⟨j, q1, q3, q4⟩
  obtain ⟨H2, I3, s3, at3, no3⟩ := tell_pairs (ts.zip (xs.zip ys)) (by rw [ezs]; exact a4) (fun z hz => by
    obtain ⟨j, q1, q2, q3⟩ := inz z hz
    obtain ⟨u', v', w1, w2, w3⟩ := a3 j z.1 q1
    obtain ⟨u, w4, ru⟩ := rx.get q2
    obtain ⟨v, w5, rv⟩ := ry.get q3
    have e1 : u' = u := Option.some.inj (w1.symm.trans (by rw [List.getElem?_toArray]; exact w4))
    have e2 : v' = v := Option.some.inj (w2.symm.trans (by rw [List.getElem?_toArray]; exact w5))
    rw [e1, e2] at w3
    have le : s1.heap.objs.size ≤ z.1 := Nat.le_trans up (Nat.le_of_lt (a5 z.1 (List.mem_of_getElem? q1)))
    exact ⟨Fr.of I1 le, I1.hok.fresh le, u, v, ru, rv, w3⟩) I2
  have nL : H2 h'.objs.size = none := no3 _ (I1.hok.fresh up) (by
    rw [ezs]
    intro m
    exact Nat.lt_irrefl _ (a5 _ m))
  have I4 : Inv X pins σ (upd H2 h'.objs.size (.lst (ts.map V.ref))) { s1 with heap := h2 } := tell I3 nL (Fr.of I1 up) ⟨by rw [List.length_map, a1]; exact Nat.le_of_lt (small1000 few), ts.map Value.ref, c, vals_refs ts, a2⟩
  refine ⟨.ref h'.objs.size, _, I4, rfl, k h'.objs.size ts _ (s3.trans (same_new nL)) (I1.hok.fresh up) upd_same a1 fun j T hj => ?_⟩
  have jl : j < ts.length := (List.getElem?_eq_some_iff.mp hj).1
  have hx : xs[j]? = some xs[j] := List.getElem?_eq_getElem (by omega)
  have hy : ys[j]? = some ys[j] := List.getElem?_eq_getElem (by omega)
  have mem : (T, xs[j], ys[j]) ∈ ts.zip (xs.zip ys) := List.mem_of_getElem? (i := j) (List.getElem?_zip_eq_some.mpr ⟨hj, List.getElem?_zip_eq_some.mpr ⟨hx, hy⟩⟩)
  exact ⟨xs[j], ys[j], hx, hy, same_new nL _ _ (at3 _ mem)⟩
end
end BK



set_option Elab.async false
set_option maxRecDepth 100000
set_option maxHeartbeats 1000000
/-! parts_of. -/
namespace BK
open PySem PySem.Spec PyProof.Rows L2
/-- the words and the kinds of their parts -/
def kindTab : List (Str × List Str) := [("set", ["variable", "source"]), ("hold", ["token", "variable", "source"]), ("reset", ["token"]), ("drop", ["variable"]), ("show", ["variable"]), ("copy", ["context"]), ("within", ["context", "block"]),
  ("if", ["variable", "integer", "block", "block"]), ("with", ["variable", "source", "block"]), ("guard", ["block", "block"]), ("loop", ["block"]), ("leave", []), ("yield", []), ("fail", [])]
def kindsOf (w : Str) : Option (List Str) := (kindTab.find? fun e => decide (e.1 = w)).map (·.2)
theorem tab_few : (kindTab.all fun e => decide (e.2.length ≤ 4)) = true := by decide +kernel
theorem kinds_few {w : Str} {ks : List Str} (h : kindsOf w = some ks) : ks.length ≤ 4 := by
  unfold kindsOf at h
  cases e : kindTab.find? fun e => decide (e.1 = w) with
  | none => rw [e] at h; cases h
  | some x =>
    rw [e] at h
    have q : x.2 = ks := Option.some.inj h
    rw [← q]
    exact of_decide_eq_true (List.all_eq_true.mp tab_few x (List.mem_of_find?_eq_some e))
structure Parts (K : PySem.W.Frag) (mg : Str → Option Value) (w : World) : Prop where
  at_ : ∃ p, mg "PARTS" = some (.ref p) ∧ ∀ x ks, kindsOf x = some ks → ∃ t, KDct K w p x (.ref t) ∧ ∀ H, SqT K H t (ks.map V.str)
theorem cut1 (x : V) (r : List V) : cutV (x :: r) (some 1) none = r := by
  have e : HT.sIx (x :: r).length 0 (some 1) = 1 := by
    simp [HT.sIx]
  have e2 : HT.sIx (x :: r).length (x :: r).length none = r.length + 1 := by
    simp [HT.sIx]
  unfold cutV
  rw [e, e2]
  simp
def spParts (K : PySem.W.Frag) : Sp := fun vs H Q _ => ∃ v x rest ks, vs = [v] ∧ TrAt K H v (.tup (.str x :: rest)) ∧ kindsOf x = some ks ∧ rest.length = ks.length ∧
  ∀ (L : Addr) (ts : List Addr) (H' : Hp), Same H H' → H' L = some (.lst (ts.map V.ref)) → ts.length = ks.length → (∀ (j : Nat) (T : Addr), ts[j]? = some T → ∃ y t k, rest[j]? = some t ∧ ks[j]? = some k ∧ TrAt K H' y t ∧ H' T = some (.tup [y, .str k])) → Q (.ref L) H'
abbrev sParts : Stmt := top 24
theorem scParts : FnScope ["statement"] ["statement"] (defScope sParts) := ⟨rfl, rfl, rfl, by decide +kernel, rfl, by decide +kernel, by decide +kernel⟩
section
variable {P : Program} {w : World} {K : PySem.W.Frag} {mg : Str → Option Value} {base : Heap}
theorem ok_parts {f : Addr} {fd : FuncData} (F : Fun K "parts_of" "parts_of" sParts f fd) (U : Parts K mg w) (mL : mg "list" = none) (mZ : mg "zip" = none) : FnOk P w K mg base CX0 1 f fd ["statement"] (spParts K) := by
  refine F.ok scParts (fun vs H Q E h => ?_) (fun cdv A outer s H vs Q E hr h => ?_)
  · obtain ⟨v, x, rest, ks, rfl, _⟩ := h
    rfl
  · obtain ⟨v, x, rest, ks, rfl, tv, ek, el, k⟩ := h
    obtain ⟨p, gP, at_⟩ := U.at_
    obtain ⟨t, kd, st⟩ := at_ x ks ek
    refine ⟨_, pss_one (ps_ret (pe_listZip rfl (by rfl) mL (by rfl) mZ (pa_cons (pe_slice sl_tup (pv 0) (po_some pe_int) po_none) (pa_cons (pe_ix ix_kdict (pe_glob (v := .ref p) rfl gP rfl) (pe_ix ix_tup (pv 0) pe_int (fun _ _ => rfl)) (fun _ _ => rfl)) pa_nil)))), ?_⟩
    cases tv with
    | @tup a xs _ h tr =>
    cases tr with
    | @cons y ys _ _ hy rs =>
    cases hy with
    | str _ hx =>
    refine ⟨_, rfl, 1, rfl, a, _, rfl, h, (by rintro ⟨e, _⟩; simp [HT.sIx] at e), fun q nq => ?_⟩
    rw [cut1]
    have s1 := same_new (o := .tup ys) nq
    refine ⟨_, rfl, a, _, 0, _, rfl, rfl, sqt_same s1 h, at_of (j := 0) rfl rfl, p, x, .ref t, rfl, rfl, kd, ?_⟩
    refine ⟨q, t, ys, ks.map V.str, rfl, SqT.of upd_same, st _, by rw [rs.len, List.length_map]; exact el, by rw [rs.len, el]; have := kinds_few ek; omega, fun L ts H' s2 nL eL lt at2 => ?_⟩
    refine k L ts H' (s1.trans s2) eL (by rw [lt, rs.len]; exact el) fun j T hj => ?_
    obtain ⟨y', k', q1, q2, q3⟩ := at2 j T hj
    obtain ⟨t', q4, q5⟩ := (rs.same (s1.trans s2)).get q1
    rw [List.getElem?_map] at q2
    cases e : ks[j]? with
    | none => rw [e] at q2; cases q2
    | some kk =>
      rw [e] at q2
      obtain rfl : V.str kk = k' := Option.some.inj q2
      exact ⟨y', t', kk, q4, rfl, q5, q3⟩
end
end BK



set_option Elab.async false
set_option maxRecDepth 100000
set_option maxHeartbeats 1000000
/-! has_form. -/
namespace BK
open PySem PySem.Spec PyProof.Rows L2 RZ
def wordV : Tr → V
  | .tup (.str w :: _) => .str w
  | _ => .non
def fitsT (rest : List Tr) (ks : List Str) : Bool := decide (rest.length = ks.length) && (rest.zip ks).all fun e => partT e.1 e.2
def formT : Tr → Bool
  | .tup (.str w :: rest) => match kindsOf w with
    | some ks => fitsT rest ks
    | none => false
  | _ => false
theorem no_args {w : Str} {ks : List Str} (h : kindsOf w = some ks) : ("args" : Str) ∉ ks := by
  have all : (kindTab.all fun e => decide (("args" : Str) ∉ e.2)) = true := by decide +kernel
  unfold kindsOf at h
  cases e : kindTab.find? fun e => decide (e.1 = w) with
  | none => rw [e] at h; cases h
  | some x =>
    rw [e] at h
    have q : x.2 = ks := Option.some.inj h
    rw [← q]
    exact of_decide_eq_true (List.all_eq_true.mp all x (List.mem_of_find?_eq_some e))
theorem walk_zipT {K : PySem.W.Frag} {a b : Addr} {xs ys : List V} {n : Nat} (hn : n = min xs.length ys.length) : Walk (ItzT K a b) n (fun H => SqT K H a xs ∧ SqT K H b ys) (YPair (fun i => xs[i]?) (fun i => ys[i]?)) := by
  subst hn
  refine ⟨fun i _ hi q => ?_, fun _ q => ⟨xs, ys, q.1, q.2, by omega⟩, fun i H v H' _ q y => ?_⟩
  · have h1 : i < xs.length := by omega
    have h2 : i < ys.length := by omega
    exact ⟨xs, ys, xs[i], ys[i], q.1, q.2, by simp [h1], by simp [h2]⟩
  · obtain ⟨T, x, z, h1, h2, h3, h4, h5⟩ := y
    exact ⟨T, x, z, h1, h2, h3, h4 xs q.1, h5 ys q.2⟩
def spWord (K : PySem.W.Frag) : Sp := fun vs H Q _ => ∃ v t, vs = [v] ∧ TrAt K H v t ∧ Q (wordV t) H
def spFits (K : PySem.W.Frag) : Sp := fun vs H Q _ => ∃ v b t0 rest ks, vs = [v, .ref b] ∧ TrAt K H v (.tup (t0 :: rest)) ∧ SqT K H b (ks.map V.str) ∧ ks.length ≤ 1000 ∧ (("args" : Str) ∈ ks → ∀ t ∈ rest, ∀ ts, t = .tup ts → ts.length ≤ 4000000) ∧
  ∀ H', Same H H' → Q (.bl (fitsT rest ks)) H'
/-- the dict of the words as it is written -/
structure PartsD (K : PySem.W.Frag) (mg : Str → Option Value) (w : World) (p : Addr) (es : Array DictEntry) (n : Nat) : Prop where
  d : KDict K w p es n
  g : mg "PARTS" = some (.ref p)
  at_ : ∀ x ks, kindsOf x = some ks → ∃ t, PySem.W.nsIn K p x = some (some (.ref t)) ∧ ∀ H, SqT K H t (ks.map V.str)
  no : ∀ x, kindsOf x = none → PySem.W.nsIn K p x = some none
theorem PartsD.parts {K : PySem.W.Frag} {mg : Str → Option Value} {w : World} {p : Addr} {es : Array DictEntry} {n : Nat} (D : PartsD K mg w p es n) : Parts K mg w := ⟨p, D.g, fun x ks e => by
  obtain ⟨t, h1, h2⟩ := D.at_ x ks e
  exact ⟨t, ⟨es, n, _, D.d.at_, D.d.lit, h1, rfl⟩, h2⟩⟩
abbrev sWord : Stmt := top 21
abbrev sFits : Stmt := top 22
abbrev sForm : Stmt := top 23
theorem scWord : FnScope ["thing"] ["thing"] (defScope sWord) := ⟨rfl, rfl, rfl, by decide +kernel, rfl, by decide +kernel, by decide +kernel⟩
theorem scFits : FnScope ["thing", "kinds", "part", "kind"] ["thing", "kinds"] (defScope sFits) := ⟨rfl, rfl, rfl, by decide +kernel, rfl, by decide +kernel, by decide +kernel⟩
theorem scForm : FnScope ["thing", "word"] ["thing"] (defScope sForm) := ⟨rfl, rfl, rfl, by decide +kernel, rfl, by decide +kernel, by decide +kernel⟩
section
variable {P : Program} {w : World} {K : PySem.W.Frag} {mg : Str → Option Value} {base : Heap}
theorem ok_word {f : Addr} {fd : FuncData} (F : Fun K "word_of" "word_of" sWord f fd) (T : Forms mg) : FnOk P w K mg base CX0 1 f fd ["thing"] (spWord K) := by
  refine F.ok scWord (fun vs H Q E h => ?_) (fun cdv A outer s H vs Q E hr h => ?_)
  · obtain ⟨v, t, rfl, _⟩ := h
    rfl
  · obtain ⟨v, t, rfl, ht, k⟩ := h
    refine ⟨_, pss_cons (ps_if (PW.pt (pw_and (pt_val (pe_callB call_isi (by rfl) T.isi boot_isinstance (pa_cons (pv 0) (pa_cons (pe_bltn (v := .ty "tuple") (u := .type "tuple") (by rfl) T.tuple (by decide +kernel) rfl) pa_nil))))
        (pw_and (pt_cmpR op_gt (pe_callB call_len_seq (by rfl) T.len boot_len (pa_cons (pv 0) pa_nil)) pe_int (nomark _))
        (pw_and1 (pt_val (pe_callB call_isi (by rfl) T.isi boot_isinstance (pa_cons (pe_ix ix_tup (pv 0) pe_int (fun _ _ => rfl)) (pa_cons (pe_bltn (v := .ty "str") (u := .type "str") (by rfl) T.str (by decide +kernel) rfl) pa_nil)))))))) (pss_one (ps_ret (pe_ix ix_tup (pv 0) pe_int (fun _ _ => rfl)))) pss_nil)
      (pss_one (ps_ret pe_non)), ?_⟩
    refine ⟨_, rfl, v, .ty "tuple", .type (tyT t), .type "tuple", isTup t, rfl, .ty "tuple", ht.ty, k_tup K t, _, rfl, ?_⟩
    cases ht with
    | int i => exact iteF k
    | bl b => exact iteF k
    | str z hz => exact iteF k
    | non => exact iteF k
    | lst h => exact iteF k
    | dct h => exact iteF k
    | @tup a xs ts h tr =>
    refine iteT ⟨_, rfl, a, xs, rfl, .inr h, _, _, rfl, rfl, _, rfl, ?_⟩
    cases tr with
    | nil => exact iteF k
    | @cons y ys t0 rest hy rs =>
    refine ite2 (fun _ => ?_) (fun z => ?_)
    · refine ⟨_, rfl, a, _, 0, y, rfl, rfl, h, at_of (j := 0) rfl rfl, y, .ty "str", .type (tyT t0), .type "str", isStr t0, rfl, .ty "str", hy.ty, k_str K t0, _, rfl, ?_⟩
      cases hy with
      | int i => exact iteF k
      | bl b => exact iteF k
      | non => exact iteF k
      | lst h => exact iteF k
      | dct h => exact iteF k
      | tup h r => exact iteF k
      | str x hx => exact iteT ⟨_, rfl, a, _, 0, _, rfl, rfl, h, at_of (j := 0) rfl rfl, k⟩
    · have : ((y :: ys).length : Int) > 0 := by rw [List.length_cons]; omega
      exact absurd (decide_eq_true this) z
theorem ok_fits {f fP : Addr} {fd fdP : FuncData} (F : Fun K "fits" "fits" sFits f fd) (T : Forms mg) (mZ : mg "zip" = none)
    (GP : FnOk P w K mg base CX0 3 fP fdP ["thing", "kind"] (spPart K)) (bP : Binds K fdP ["thing", "kind"] []) (gP : mg "is_part" = some (.ref fP)) (kP : PySem.W.keepIn K (.ref fP) = true) : FnOk P w K mg base CX0 4 f fd ["thing", "kinds"] (spFits K) := by
  refine F.ok scFits (fun vs H Q E h => ?_) (fun cdv A outer s H vs Q E hr h => ?_)
  · obtain ⟨v, b, t0, rest, ks, rfl, _⟩ := h
    rfl
  · obtain ⟨v, b, t0, rest, ks, rfl, ht, sb, kl, na, k⟩ := h
    refine ⟨_, pss_cons (ps_if (pt_cmpR op_ne (pe_callB call_len_seq (by rfl) T.len boot_len (pa_cons (pv 0) pa_nil)) (pe_op op_add pe_int (pe_callB call_len_seq (by rfl) T.len boot_len (pa_cons (pv 1) pa_nil))) (nomark _)) (pss_one (ps_ret pe_bl)) pss_nil)
      (pss_one (ps_ret (pe_callB (cr_all rfl) (by rfl) T.all (by decide +kernel) (pa_cons (pe_lc (own := [("part", 2), ("kind", 3)]) (g := gTup K 2 (gCons (gName 2) (gCons (gName 3) gNil))) (tt := tYes) (te := tCall (spPart K) [] E0 (tCons (tVar 2) (tCons (tVar 3) tNil))) rfl scFits.nd
          (pi_zipA (by rfl) mZ (pa_cons (pe_slice sl_tup (pv 0) (po_some pe_int) po_none) (pa_cons (pv 1) pa_nil))) (blkOk_by (N := ["thing", "kinds", "part", "kind"]) (sc := defScope sFits) (by decide +kernel))
          (fun _ _ _ _ _ => by exact pg_tup rfl (pgs_cons (pg_name (i := 2) scFits.nd rfl (Or.inl rfl)) (pgs_cons (pg_name (i := 3) scFits.nd rfl (Or.inl rfl)) pgs_nil))) (fun _ _ _ _ _ => pts_nil)
          (fun _ _ _ _ _ => by exact pe_call GP hr rfl gP kP bP .nil pass0 (pa_cons (pv 2) (pa_cons (pv 3) pa_nil)))) pa_nil)))), ?_⟩
    have q0 := k H fun _ _ e => e
    cases ht with
    | @tup a xs _ h tr =>
    cases tr with
    | @cons y ys _ _ hy rs =>
    have rl := rs.len
    refine ⟨_, rfl, a, _, rfl, .inr h, _, rfl, b, _, rfl, .inr sb, _, _, rfl, rfl, rfl, _, rfl, ?_⟩
    have el : decide (V.int ((y :: ys).length : Nat) = V.int (1 + ((ks.map V.str).length : Nat))) = decide (rest.length = ks.length) := by
      rw [dec_int, List.length_cons, List.length_map, rl]
      by_cases z : rest.length = ks.length
      · rw [decide_eq_true z, beq_iff_eq]
        omega
      · rw [decide_eq_false z, beq_eq_false_iff_ne]
        omega
    rw [el]
    unfold fitsT at k q0
    by_cases hl : rest.length = ks.length
    · rw [decide_eq_true hl] at k ⊢
      rw [Bool.true_and] at k
      refine iteF ?_
      refine ⟨_, rfl, 1, rfl, a, _, rfl, h, (by rintro ⟨e, _⟩; simp [HT.sIx] at e), fun q nq => ?_⟩
      rw [cut1]
      have s1 := same_new (o := .tup ys) nq
      refine ⟨_, rfl, q, b, ys, ks.map V.str, rfl, .inr ⟨SqT.of upd_same, sqt_same s1 sb, fun G nG => ?_⟩⟩
      generalize eH1 : upd H q (.tup ys) = H1 at s1 nG ⊢
      have sq : SqT K H1 q ys := by rw [← eH1]; exact SqT.of upd_same
      refine lc_it (walk_zipT (K := K) (a := q) (b := b) (xs := ys) (ys := ks.map V.str) rfl) (fun i H2 => Same H1 H2 ∧ H2 G = some (.lst ((((rest.zip ks).take i).map fun e => partT e.1 e.2).map V.bl))) ⟨same_new nG, upd_same⟩ (fun i H2 _ ⟨s2, _⟩ => ⟨sqt_same s2 sq, sqt_same (s1.trans s2) sb⟩) ?_ ?_
      · rintro i z H2 H3 hi ⟨s2, e2⟩ ⟨U, y', k', rfl, nU, rfl, q1, q2⟩
        have sU := same_new (o := .tup [y', k']) nU
        obtain ⟨t', q3, ty'⟩ := (rs.same ((s1.trans s2).trans sU)).get q1
        have q2 : (ks.map V.str)[i]? = some k' := q2
        rw [List.getElem?_map] at q2
        cases eK : ks[i]? with
        | none => rw [eK] at q2; cases q2
        | some kk =>
        rw [eK] at q2
        obtain rfl : V.str kk = k' := Option.some.inj q2
        have ez : (rest.zip ks)[i]? = some (t', kk) := List.getElem?_zip_eq_some.mpr ⟨q3, eK⟩
        have il : i < ks.length := (List.getElem?_eq_some_iff.mp eK).1
        refine ⟨U, _, rfl, SqT.of upd_same, rfl, _, _, rfl, _, _, rfl, rfl, rfl, ?_⟩
        refine tyes ?_
        refine ⟨_, rfl, _, rfl, y', t', kk, rfl, ty', fun ea ts et => na (by rw [← ea]; exact List.mem_of_getElem? eK) t' (List.mem_of_getElem? q3) ts et, fun H3 s3 => ⟨_, s3 _ _ (sU _ _ e2), small1000 (by rw [List.length_map, List.length_map, List.length_take]; omega), fun b o e => ?_, ?_⟩⟩
        · rw [upd_ne (ne_of_none e nG)]
          exact s3 _ _ (sU _ _ (s2 b o e))
        · rw [upd_same, List.take_add_one, ez, List.map_append, List.map_append]
          rfl
      · rintro H2 ⟨s2, e2⟩
        have et : (rest.zip ks).take (min ys.length (ks.map V.str).length) = rest.zip ks := by
          rw [List.take_of_length_le]
          rw [List.length_zip, List.length_map]
          omega
        rw [et] at e2
        refine ⟨G, _, rfl, SqL.of e2, ?_⟩
        have ea : ((rest.zip ks).map fun e => partT e.1 e.2).all id = (rest.zip ks).all fun e => partT e.1 e.2 := by rw [List.all_map]; rfl
        rw [ea]
        exact k H2 (s1.trans s2)
    · rw [decide_eq_false hl] at q0 ⊢
      rw [Bool.false_and] at q0
      exact iteT q0
theorem ok_form {f fW fF p : Addr} {fd fdW fdF : FuncData} {es : Array DictEntry} {n : Nat} (F : Fun K "has_form" "has_form" sForm f fd) (D : PartsD K mg w p es n)
    (GW : FnOk P w K mg base CX0 1 fW fdW ["thing"] (spWord K)) (bW : Binds K fdW ["thing"] []) (gW : mg "word_of" = some (.ref fW)) (kW : PySem.W.keepIn K (.ref fW) = true)
    (GF : FnOk P w K mg base CX0 4 fF fdF ["thing", "kinds"] (spFits K)) (bF : Binds K fdF ["thing", "kinds"] []) (gF : mg "fits" = some (.ref fF)) (kF : PySem.W.keepIn K (.ref fF) = true) : FnOk P w K mg base CX0 5 f fd ["thing"] (spOf formT K) := by
  refine F.ok scForm (fun vs H Q E h => ?_) (fun cdv A outer s H vs Q E hr h => ?_)
  · obtain ⟨v, t, rfl, _⟩ := h
    rfl
  · obtain ⟨v, t, rfl, ht, k⟩ := h
    have hr1 : Room 1 _ := hr.mono (by decide)
    refine ⟨_, pss_cons (ps_set (i := 1) scForm.nd rfl (Or.inl rfl) (pe_call GW hr1 rfl gW kW bW .nil pass0 (pa_cons (pv 0) pa_nil)))
      (pss_one (ps_ret (pe_and (pe_cmpR (op_in_kdN D.d) (pv 1) (pe_glob (v := .ref p) rfl D.g rfl) rfl) (pe_one (pe_call GF hr rfl gF kF bF .nil pass0 (pa_cons (pv 0) (pa_cons (pe_ix ix_kdict (pe_glob (v := .ref p) rfl D.g rfl) (pv 1) (fun _ _ => rfl)) pa_nil))))))), ?_⟩
    refine ⟨_, rfl, v, t, rfl, ht, ?_⟩
    have q0 := k H fun _ _ e => e
    have no : wordV t = .non → formT t = false := fun e => by
      unfold wordV at e
      unfold formT
      split at e
      · cases e
      · rfl
    by_cases hw : ∃ x rest, t = .tup (.str x :: rest)
    · obtain ⟨x, rest, rfl⟩ := hw
      cases ek : kindsOf x with
      | none =>
        have e : formT (.tup (.str x :: rest)) = false := by
          show (match kindsOf x with
            | some ks => fitsT rest ks
            | none => false) = false
          rw [ek]
        rw [e] at q0
        exact ⟨_, rfl, rfl, .inr ⟨x, none, rfl, D.no x ek, _, rfl, iteF q0⟩⟩
      | some ks =>
        have e : formT (.tup (.str x :: rest)) = fitsT rest ks := by
          show (match kindsOf x with
            | some ks => fitsT rest ks
            | none => false) = fitsT rest ks
          rw [ek]
        rw [e] at k
        obtain ⟨t, nt, st⟩ := D.at_ x ks ek
        refine ⟨_, rfl, rfl, .inr ⟨x, some (.ref t), rfl, nt, _, rfl, iteT ?_⟩⟩
        refine ⟨_, rfl, _, rfl, p, x, .ref t, rfl, rfl, ⟨es, n, _, D.d.at_, D.d.lit, nt, rfl⟩, v, t, _, rest, ks, rfl, ht, st _, by have := kinds_few ek; omega, fun z => absurd z (no_args ek), k⟩
    · have e : wordV t = .non := by
        unfold wordV
        split
        · exact absurd ⟨_, _, rfl⟩ hw
        · rfl
      rw [no e] at q0
      rw [e]
      exact ⟨_, rfl, rfl, .inl ⟨rfl, _, rfl, iteF q0⟩⟩
end
end BK



set_option Elab.async false
set_option maxRecDepth 100000
set_option maxHeartbeats 1000000
/-! has_yield, can_stand. -/
namespace BK
open PySem PySem.Spec PyProof.Rows L2
def isYield : Tr → Bool
  | .tup (.str w :: rest) => formT (.tup (.str w :: rest)) && decide (w = "yield")
  | _ => false
def yieldT (ts : List Tr) : Bool := ts.any isYield
def spYield (K : PySem.W.Frag) : Sp := fun vs H Q _ => ∃ v ts, vs = [v] ∧ TrAt K H v (.tup ts) ∧ ∀ H', Same H H' → Q (.bl (yieldT ts)) H'
abbrev sYield : Stmt := top 58
theorem scYield : FnScope ["block", "thing"] ["block"] (defScope sYield) := ⟨rfl, rfl, rfl, by decide +kernel, rfl, by decide +kernel, by decide +kernel⟩
theorem form_shape : ∀ {t : Tr}, formT t = true → ∃ w r, t = .tup (.str w :: r)
  | .tup (.str w :: r), _ => ⟨w, r, rfl⟩
theorem yield_form {t : Tr} (h : formT t = false) : isYield t = false := by
  unfold isYield
  split
  · rw [h, Bool.false_and]
  · rfl
section
variable {P : Program} {w : World} {K : PySem.W.Frag} {mg : Str → Option Value} {base : Heap}
theorem ok_yield {f fF : Addr} {fd fdF : FuncData} (F : Fun K "has_yield" "has_yield" sYield f fd) (GF : FnOk P w K mg base CX0 5 fF fdF ["thing"] (spOf formT K)) (bF : Binds K fdF ["thing"] []) (gF : mg "has_form" = some (.ref fF)) (kF : PySem.W.keepIn K (.ref fF) = true) :
    FnOk P w K mg base CX0 6 f fd ["block"] (spYield K) := by
  refine F.ok scYield (fun vs H Q E h => ?_) (fun cdv A outer s H vs Q E hr h => ?_)
  · obtain ⟨v, ts, rfl, _⟩ := h
    rfl
  · obtain ⟨v, ts, rfl, ht, k⟩ := h
    cases ht with
    | @tup a xs _ h tr =>
    refine ⟨_, pss_cons (ps_for PassesOwn.never rfl (pi_tup (pv 0)) (pg_name (i := 1) scYield.nd rfl (Or.inl rfl))
        (pss_one (ps_if (PW.pt (pw_and (pt_val (pe_call GF hr rfl gF kF bF .nil pass0 (pa_cons (pv 1) pa_nil))) (pw_and1 (pt_cmpR op_eq (pe_ix ix_tup (pv 1) pe_int (fun _ _ => rfl)) pe_str (nomark _))))) (pss_one (ps_ret pe_bl)) pss_nil)))
      (pss_one (ps_ret pe_bl)), ?_⟩
    refine ⟨_, rfl, a, rfl, ⟨xs, h⟩, for_tup (K := K) (a := a) (xs := xs) (fun i σ H2 => (∃ v1, σ = [some (.ref a), v1]) ∧ Same H H2 ∧ yieldT (ts.take i) = false) ⟨⟨none, rfl⟩, fun _ _ e => e, rfl⟩ (fun i σ H2 _ ⟨_, s2, _⟩ => sqt_same s2 h) ?_ ?_⟩
    · rintro i y σ H2 hi ⟨⟨v1, rfl⟩, s2, n2⟩
      obtain ⟨t, ht, ty⟩ := (tr.same s2).get hi
      have et : ts.take (i + 1) = ts.take i ++ [t] := by rw [List.take_add_one, ht]; rfl
      have ey : yieldT (ts.take (i + 1)) = isYield t := by
        unfold yieldT at n2 ⊢
        rw [et, List.any_append, n2, Bool.false_or]
        simp
      have all : isYield t = true → yieldT ts = true := fun e => by
        unfold yieldT
        rw [List.any_eq_true]
        exact ⟨t, List.mem_of_getElem? ht, e⟩
      refine ⟨_, rfl, y, t, rfl, ty, fun H3 s3 => ⟨_, rfl, ?_⟩⟩
      cases ef : formT t with
      | false => exact iteF (iteF ⟨⟨_, rfl⟩, s2.trans s3, by rw [ey, yield_form ef]⟩)
      | true =>
        obtain ⟨wd, r, rfl⟩ := form_shape ef
        cases ty with
        | @tup b ys _ hb tb =>
        obtain ⟨w0, hw, tw⟩ := tb.get' (i := 0) (t := .str wd) rfl
        cases tw with
        | str _ hz =>
        refine iteT ⟨_, rfl, b, ys, 0, _, rfl, rfl, sqt_same s3 hb, at_of (j := 0) rfl hw, rfl, _, rfl, ?_⟩
        rw [eq_txt]
        have e : isYield (.tup (.str wd :: r)) = decide (wd = "yield") := by
          show (formT (.tup (.str wd :: r)) && decide (wd = "yield")) = _
          rw [ef, Bool.true_and]
        refine ite2 (fun z => ?_) (fun z => ?_)
        · have q := k H3 (s2.trans s3)
          rw [all (e.trans z)] at q
          exact q
        · exact ⟨⟨_, rfl⟩, s2.trans s3, by rw [ey, e]; simpa using z⟩
    · rintro σ H2 ⟨⟨v1, rfl⟩, s2, n2⟩
      have q := k H2 s2
      have et : ts.take xs.length = ts := by rw [tr.len, List.take_length]
      rw [et] at n2
      rw [n2] at q
      exact q
end
end BK



set_option Elab.async false
set_option maxRecDepth 100000
set_option maxHeartbeats 1000000
/-! can_stand. -/
namespace BK
open PySem PySem.Spec PyProof.Rows L2
theorem in_txts (z : Str) : ∀ zs : List Str, inV (.str z) (zs.map V.str) = decide (z ∈ zs)
  | [] => rfl
  | y :: r => by
    have ih := in_txts z r
    unfold inV at ih ⊢
    rw [List.map_cons, List.any_cons, ih]
    show (y == z || decide (z ∈ r)) = _
    by_cases e : y = z
    · simp [e]
    · have e' : ¬ z = y := fun q => e q.symm
      simp [e, e', List.mem_cons]
theorem flat_txts : ∀ zs : List Str, (zs.map V.str).all flatV = true
  | [] => rfl
  | y :: r => by
    rw [List.map_cons, List.all_cons, flat_txts r]
    rfl
/-- may a statement of the word x stand within the words as? -/
def canT (x : Str) (rest : List Tr) (as : List Str) : Bool :=
  if x = "yield" then !decide (("within" : Str) ∈ as) else if x = "leave" then decide (("loop" : Str) ∈ as) && !decide (("within" : Str) ∈ as) else if x = "loop" then (match rest with
    | .tup ts :: _ => yieldT ts
    | _ => false) else true
def spCan (K : PySem.W.Frag) : Sp := fun vs H Q _ => ∃ v b x rest as, vs = [v, .ref b] ∧ TrAt K H v (.tup (.str x :: rest)) ∧ SqT K H b (as.map V.str) ∧ (x = "loop" → ∃ ts r, rest = .tup ts :: r) ∧ ∀ H', Same H H' → Q (.bl (canT x rest as)) H'
abbrev sCan : Stmt := top 57
theorem scCan : FnScope ["statement", "around", "word"] ["statement", "around"] (defScope sCan) := ⟨rfl, rfl, rfl, by decide +kernel, rfl, by decide +kernel, by decide +kernel⟩
section
variable {P : Program} {w : World} {K : PySem.W.Frag} {mg : Str → Option Value} {base : Heap}
theorem ok_can {f fY : Addr} {fd fdY : FuncData} (F : Fun K "can_stand" "can_stand" sCan f fd) (GY : FnOk P w K mg base CX0 6 fY fdY ["block"] (spYield K)) (bY : Binds K fdY ["block"] []) (gY : mg "has_yield" = some (.ref fY)) (kY : PySem.W.keepIn K (.ref fY) = true) :
    FnOk P w K mg base CX0 7 f fd ["statement", "around"] (spCan K) := by
  refine F.ok scCan (fun vs H Q E h => ?_) (fun cdv A outer s H vs Q E hr h => ?_)
  · obtain ⟨v, b, x, rest, as, rfl, _⟩ := h
    rfl
  · obtain ⟨v, b, x, rest, as, rfl, tv, sb, lp, k⟩ := h
    refine ⟨_, pss_cons (ps_set (i := 2) scCan.nd rfl (Or.inl rfl) (pe_ix ix_tup (pv 0) pe_int (fun _ _ => rfl)))
      (pss_cons (ps_if (pt_cmpR op_eq (pv 2) pe_str (nomark _)) (pss_one (ps_ret (pe_cmpR op_notIn_seq pe_str (pv 1) rfl))) pss_nil)
      (pss_cons (ps_if (pt_cmpR op_eq (pv 2) pe_str (nomark _)) (pss_one (ps_ret (pe_and (pe_cmpR op_in_seq pe_str (pv 1) rfl) (pe_one (pe_cmpR op_notIn_seq pe_str (pv 1) rfl))))) pss_nil)
      (pss_cons (ps_if (pt_cmpR op_eq (pv 2) pe_str (nomark _)) (pss_one (ps_ret (pe_call GY hr rfl gY kY bY .nil pass0 (pa_cons (pe_ix ix_tup (pv 0) pe_int (fun _ _ => rfl)) pa_nil)))) pss_nil)
      (pss_one (ps_ret pe_bl))))), ?_⟩
    have q0 := k H fun _ _ e => e
    cases tv with
    | @tup a xs _ h tr =>
    cases tr with
    | @cons y ys _ _ hy rs =>
    cases hy with
    | str _ hx =>
    refine ⟨_, rfl, a, _, 0, _, rfl, rfl, h, at_of (j := 0) rfl rfl, ?_⟩
    refine ⟨_, rfl, rfl, _, rfl, ?_⟩
    rw [eq_txt]
    refine ite2 (fun z => ?_) (fun z => ?_)
    · have e1 : x = "yield" := of_decide_eq_true z
      refine ⟨_, rfl, b, _, rfl, .inr sb, rfl, flat_txts as, ?_⟩
      show Q (.bl (!inV (.str "within") (as.map V.str))) H
      rw [in_txts]
      unfold canT at q0
      rw [if_pos e1] at q0
      exact q0
    have e1 : ¬ x = "yield" := fun q => z (decide_eq_true q)
    refine ⟨_, rfl, rfl, _, rfl, ?_⟩
    rw [eq_txt]
    refine ite2 (fun z => ?_) (fun z => ?_)
    · have e2 : x = "leave" := of_decide_eq_true z
      unfold canT at q0
      rw [if_neg e1, if_pos e2] at q0
      refine ⟨_, rfl, b, _, rfl, .inr sb, rfl, flat_txts as, inV (.str "loop") (as.map V.str), rfl, ?_⟩
      rw [in_txts]
      cases e : decide (("loop" : Str) ∈ as) with
      | false =>
        rw [e, Bool.false_and] at q0
        exact iteF q0
      | true =>
        rw [e, Bool.true_and] at q0
        refine iteT ⟨_, rfl, b, _, rfl, .inr sb, rfl, flat_txts as, ?_⟩
        show Q (.bl (!inV (.str "within") (as.map V.str))) H
        rw [in_txts]
        exact q0
    have e2 : ¬ x = "leave" := fun q => z (decide_eq_true q)
    refine ⟨_, rfl, rfl, _, rfl, ?_⟩
    rw [eq_txt]
    refine ite2 (fun z => ?_) (fun z => ?_)
    · have e3 : x = "loop" := of_decide_eq_true z
      obtain ⟨ts, r, rfl⟩ := lp e3
      cases rs with
      | @cons y2 _ _ _ h2 _ =>
      refine ⟨_, rfl, a, _, 1, y2, rfl, rfl, h, at_of (j := 1) rfl rfl, y2, ts, rfl, h2, fun H' s' => ?_⟩
      have q := k H' s'
      unfold canT at q
      rw [if_neg e1, if_neg e2, if_pos e3] at q
      exact q
    · have e3 : ¬ x = "loop" := fun q => z (decide_eq_true q)
      unfold canT at q0
      rw [if_neg e1, if_neg e2, if_neg e3] at q0
      exact q0
end
end BK



set_option Elab.async false
set_option linter.all false
set_option maxRecDepth 100000
set_option maxHeartbeats 2000000
/-! enumerate(tuple). -/
namespace ET
open PySem PySem.Spec PyProof.Rows L2
theorem meets_enumT (l : Addr) (items : Array Value) :
    Meets (Builtin.«enumerate.__new__» ⟨[.type "enumerate", .ref l], []⟩) (fun _ R s => s.heap.IsTuple l items ∧
      R (.ok (.ret (.ref (s.heap.push { cls := .type "tuple_iterator", data := .fields #[.ref l, .int 0 0] }).objs.size)))
        { s with heap := (s.heap.push { cls := .type "tuple_iterator", data := .fields #[.ref l, .int 0 0] }).push { cls := .type "enumerate", data := .fields #[.none, .bool false, .ref s.heap.objs.size, rawInt 0, .none, .none] } }) :=
  .of_wp fun prog w A R s h => by
    obtain ⟨hp, g, d, tk, os⟩ := s; obtain ⟨h1, h⟩ := h
    have hsub := sub_enumerate
    have q1 : ∀ {A' : Around} {E : Value → Shared → Prop} {Q : Value → Shared → Prop}, Q (.ref hp.objs.size) ⟨hp.push { cls := .type "tuple_iterator", data := .fields #[.ref l, .int 0 0] }, g, d, tk, os⟩ → wpAny (model prog w) A' (pyIter (.ref l)) Q E ⟨hp, g, d, tk, os⟩ :=
      fun q => wpAny_pyIter_tuple h1 q
    wp_walk using q1
    refine wpAny_stack_any fun st => wpAny_pure ?_
    split
    · rename_i c _ _ _ _ _
      cases (c == Value.type "enumerate")
      · wp_walk using q1
        exact ⟨_, rfl, h⟩
      · wp_walk using q1
        exact ⟨_, rfl, h⟩
    · wp_walk using q1
      exact ⟨_, rfl, h⟩
section
variable {prog : Program} {w : World} {A : Around} {E : Value → Shared → Prop} {s : Shared}
theorem call_enumT {l : Addr} {items : Array Value} {Q : Value → Shared → Prop} (hL : s.heap.IsTuple l items)
    (h : ∀ h', IsEnum h' (s.heap.objs.size + 1) s.heap.objs.size 0 .none → h'.IsTupleIter s.heap.objs.size l 0 → h'.objs.size = s.heap.objs.size + 2 →
      (∀ b o, s.heap.get? b = some o → h'.get? b = some o) → Q (.ref (s.heap.objs.size + 1)) { s with heap := h' }) :
    wpAny (model prog w) A (call (.type "enumerate") [.ref l]) Q E s := by
  refine callType_new F.called_enumerate (by decide) (F.typeCall_enumerate_1 _) (F.newCall_enumerate_1 _) (fun obj => F.args_object_init_2 obj _) F.entry_enumerate_new
    (meets_enumT l items) ⟨hL, ?_⟩
  have hz : (s.heap.push { cls := .type "tuple_iterator", data := .fields #[.ref l, .int 0 0] }).objs.size = s.heap.objs.size + 1 := Heap.size_push ..
  show _ ∧ _
  rw [hz]
  have he : IsEnum ((s.heap.push { cls := .type "tuple_iterator", data := .fields #[.ref l, .int 0 0] }).push
      { cls := .type "enumerate", data := .fields #[.none, .bool false, .ref s.heap.objs.size, rawInt 0, .none, .none] }) (s.heap.objs.size + 1) s.heap.objs.size 0 .none := by
    have := Heap.get?_push_size (s.heap.push { cls := .type "tuple_iterator", data := .fields #[.ref l, .int 0 0] })
      (o := { cls := .type "enumerate", data := .fields #[.none, .bool false, .ref s.heap.objs.size, rawInt 0, .none, .none] }) rfl
    rw [hz] at this; exact this
  refine ⟨⟨_, he, rfl⟩, h _ he ⟨_, Heap.get?_push_of_some _ (Heap.get?_push_size _ rfl), rfl, rfl⟩ (by rw [Heap.size_push, hz]) fun b o x => Heap.get?_push_of_some _ (Heap.get?_push_of_some _ x)⟩
end
/-- the tuple at a, each item in a new pair -/
def IteT (K : PySem.W.Frag) (a : Addr) : It :=
  ⟨fun i H => ∃ (xs : List V) (x : V), SqT K H a xs ∧ xs[i]? = some x, fun i H v H' => ∃ T x, v = .ref T ∧ H T = none ∧ H' = upd H T (.tup [.int (i : Nat), x]) ∧ ∀ xs, SqT K H a xs → xs[i]? = some x, fun i H => ∃ xs : List V, SqT K H a xs ∧ xs.length ≤ i⟩
theorem turn_enumT {P : Program} {w : World} {K : PySem.W.Frag} {elts : List Expr} {kk : Nat} {tpos : Pos} (a e it : Addr) :
    Turn P w K (.Tuple elts kk tpos) (IteT K a) [e, it] e (fun i h => (∃ old, IsEnum h e it ((i : Nat) : Int) old) ∧ h.IsTupleIter it a i ∧ e ≠ it ∧ a ≠ it ∧ e ≠ a) where
  mem := by simp
  obj := fun i h st b hb => by
    obtain ⟨⟨old, he⟩, ⟨o, ho, hc, hd⟩, _⟩ := st
    have e' : b = e ∨ b = it := by simpa using hb
    rcases e' with z | z
    · rw [z]; exact ⟨_, he, fun v q => nomatch q⟩
    · rw [z]; exact ⟨o, ho, fun v q => by rw [hd] at q; cases q⟩
  keep := fun i h h' st k => let ⟨⟨old, he⟩, hi, hne⟩ := st; ⟨⟨old, k e (by simp) _ he⟩, hi.at fun o q => k it (by simp) o q, hne⟩
  item := by
    intro X hP hw hK hc i pins s σ H E I hf st hg
    subst hP hw hK
    obtain ⟨⟨old, he⟩, hit, hne, hai, hea⟩ := st
    obtain ⟨xs, x, hq, hx⟩ := hg
    obtain ⟨its, rv, p, hz⟩ := I.tuple hq
    obtain ⟨u, hu, ru⟩ := rv.get hx
    have hel : e < s.heap.objs.size := Heap.lt_size he
    have hil : it < s.heap.objs.size := by obtain ⟨_, q, _⟩ := hit; exact Heap.lt_size q
    have pt : s.heap.IsTuple a its.toArray := p
    have il : i < its.toArray.size := by
      have := (List.getElem?_eq_some_iff.mp hu).1
      simpa using this
    refine wpAny_pyNext_enum_itemD (Draws.tuple (I.ok.hd hc |> fun h => (show X.A.in1.handled = none by simpa using h)) it a hai its.toArray) he ⟨hit, pt⟩ il hne (by simp; exact ⟨hne, hea⟩) fun y h' tk hy ho hst' hT hsz hk => ?_
    have ey : y = u := Option.some.inj (hy.symm.trans (by simpa using hu))
    subst ey
    refine ⟨_, rfl, wpAny_letOwnedTupleGo_enum (s := { s with heap := h', toks := tk + 1 }) ho fun h'' he' sb => ?_⟩
    have hT2 : h''.get? s.heap.objs.size = some { cls := .type "tuple", data := .seq #[.int i tk, y] } := (sb.2 _ (Nat.ne_of_gt hel)).trans hT
    have new : ObjOk X.prog X.w (upd H s.heap.objs.size (.tup [.int (i : Nat), x])) h'' s.heap.objs.size (.tup [.int (i : Nat), x]) :=
      ⟨by show 2 ≤ sizeLine; decide, [.int i tk, y], .cons ⟨_, rfl⟩ (.cons ru .nil), ⟨_, hT2, rfl, _, rfl⟩⟩
    have I1 : Inv X pins σ (upd H s.heap.objs.size (.tup [.int (i : Nat), x])) { s with heap := h'', toks := tk + 1 } :=
      I.turnedNew (ch := [e, it]) (fun b ob hb q => (sb.2 b (fun z => hb (by simp [z]))).trans (hk b ob (fun z => hb (by simp [z])) (fun z => hb (by simp [z])) q)) hf (Nat.le_refl _) new
    refine ⟨.ref s.heap.objs.size, _, I1, rfl, ⟨_, x, rfl, I.hok.fresh (Nat.le_refl _), rfl, fun ys hy => by rw [I.tuple_inj hy hq]; exact hx⟩, ⟨⟨y, ?_⟩, hst'.1.at fun o q => (sb.2 it (Ne.symm hne)).trans q, hne, hai, hea⟩, fun b hb => ?_⟩
    · have e1 : ((i + 1 : Nat) : Int) = (i : Int) + 1 := by omega
      rw [e1]; exact he'
    · have hb' : b < s.heap.objs.size := by
        have e' : b = e ∨ b = it := by simpa using hb
        rcases e' with z | z
        · rw [z]; exact hel
        · rw [z]; exact hil
      rw [upd_ne (Nat.ne_of_lt hb')]
      exact (hf b hb).1
  done := by
    intro X hP hw hK hc i pins s σ H E I hf st hg
    subst hP hw hK
    obtain ⟨⟨old, he⟩, hit, hne, hai, hea⟩ := st
    obtain ⟨xs, hq, hx⟩ := hg
    obtain ⟨its, rv, p, hz⟩ := I.tuple hq
    obtain ⟨f0, f1, f2, f3, f4, f5⟩ := hf it (by simp)
    have hl := rv.length
    have pt : s.heap.IsTuple a its.toArray := p
    have hT : s.TypeIs (.ref e) "enumerate" := ⟨_, he, rfl⟩
    unfold pyNext
    refine wpAny_bind (wpAny_attempt (wpAny_callSpecial?_slot (name := Str.ofString "__next__") hT F.slot_enumerate_next
      (wpAny_call_entry F.slot_enumerate_next hT F.entry_enumerate_next ?_ (F.args_enumerate_next_1 _))))
    show wpAny _ _ (field (.ref e) 2 >>= _) _ _ _
    refine wpAny_bind (wpAny_field he rfl (x := .ref it) rfl ?_)
    refine wpAny_bind (RZ.nextOf_tuple_end (show X.A.in1.handled = none by simpa using I.ok.hd hc) hit pt (by simp; omega) fun h' x he' hx' => ?_)
    obtain ⟨o, ho, hc⟩ := hx'
    refine wpAny_bind (wpAny_isInstance (T := "StopIteration") (b := true) ⟨o, ho, hc⟩ isSubtype_stop ?_)
    exact wpAny_pure ⟨rfl, I.turned (t' := s.toks) (fun b o hb q => he' b o hb q) f0 f1 f3 f4 f5⟩
  self := fun A i s Q E st h => let ⟨⟨_, he⟩, _⟩ := st; wpAny_pyIter_enum he h
def iEnumT (K : PySem.W.Frag) (ta : TA) : TI := fun σ H R => ta σ H fun vs H1 => ∃ a xs, vs = [.ref a] ∧ SqT K H1 a xs ∧ R (IteT K a) H1
theorem pi_enumT {X : Cx} {e : Expr} {ta : TA} {p pos tpos : Pos} {elts : List Expr} {kk : Nat} (hg : Gl X "enumerate") (hm : X.mg "enumerate" = none) (ha : PA X [e] ta) (hs : starEach [e] X.env = [(false, eval e X.env)] := by rfl) :
    PI X (.Tuple elts kk tpos) (.Call (.Name "enumerate" p) [e] [] pos) (iEnumT X.K ta) := by
  refine ⟨fun pins s σ H R I h => ?_⟩
  refine Call_ (ld_blt I hg hm boot_enumerate (PyProof.Rows.callWith_type1 (thn (ha.run pos pins s σ H _ I h) fun us s1 ⟨vs, H1, I1, r1, q1⟩ => ?_) hs rfl))
  obtain ⟨a, xs, ex, hq, q⟩ := q1
  subst ex
  cases r1 with
  | cons r rr =>
    cases rr
    cases r
    obtain ⟨its, rv, p', hz⟩ := I1.tuple hq
    have pt : s1.heap.IsTuple a its.toArray := p'
    obtain ⟨oa, ga, _⟩ := id pt
    have la : a < s1.heap.objs.size := Heap.lt_size ga
    refine call_enumT pt fun h' he hit hsz hk => wpAny_pyIter_enum he ?_
    have I2 : Inv X pins σ H1 { s1 with heap := h' } := I1.kept (t' := s1.toks) hk
    refine ⟨s1.heap.objs.size + 1, [s1.heap.objs.size + 1, s1.heap.objs.size], _, _, H1, rfl, I2, turn_enumT a (s1.heap.objs.size + 1) s1.heap.objs.size, ⟨⟨.none, he⟩, hit, Nat.succ_ne_self _, Nat.ne_of_lt la, Nat.ne_of_gt (Nat.lt_succ_of_lt la)⟩, fun b hb => ?_, q⟩
    have e' : b = s1.heap.objs.size + 1 ∨ b = s1.heap.objs.size := by simpa using hb
    have hle : s1.heap.objs.size ≤ b := by
      rcases e' with z | z
      · rw [z]; exact Nat.le_add_right _ _
      · rw [z]; exact Nat.le_refl _
    exact I1.fpOk hle (I1.hok.fresh hle)
theorem walk_enumT {K : PySem.W.Frag} {a : Addr} {xs : List V} : Walk (IteT K a) xs.length (fun H => SqT K H a xs) (YPair (fun i => some (.int (i : Nat))) (fun i => xs[i]?)) := by
  refine ⟨fun i _ hi q => ⟨xs, xs[i], q, by simp [hi]⟩, fun _ q => ⟨xs, q, Nat.le_refl _⟩, fun i H v H' _ q y => ?_⟩
  obtain ⟨T, x, h1, h2, h3, h4⟩ := y
  exact ⟨T, .int (i : Nat), x, h1, h2, h3, rfl, h4 xs q⟩
end ET



set_option Elab.async false
set_option maxRecDepth 100000
set_option maxHeartbeats 1000000
/-! Check: what it keeps; knows. -/
namespace BK
open PySem PySem.Spec PyProof.Rows L2 RZ ET
abbrev Km := List (Str × Str)
def kk (m : Km) : List (Key × V) := m.map fun e => (.inr e.1, .str e.2)
def kget (m : Km) (s : Str) : Option Str := (m.find? fun e => decide (e.1 = s)).map (·.2)
def slotK (k : Str) : Bool := decide (k = "context") || decide (k = "token")
def varK (k : Str) : Bool := decide (k = "variable") || decide (k = "source")
/-- the parts of a statement by the kinds so far: the slots' kinds, the variables -/
def knowsT (vars : List Str) : List (Tr × Str) → Km → Bool × Km
  | [], m => (true, m)
  | (.str s, k) :: r, m => if slotK k = true then (match kget m s with
      | none => knowsT vars r (m ++ [(s, k)])
      | some k' => if k' = k then knowsT vars r m else (false, m))
    else if varK k = true then (if s ∈ vars then knowsT vars r m else (false, m)) else knowsT vars r m
  | (_, _) :: r, m => knowsT vars r m
theorem kk_len (m : Km) : (kk m).length = m.length := by unfold kk; rw [List.length_map]
theorem inrE (a b : Str) : ((Sum.inr a : Key) = Sum.inr b) = (a = b) := propext ⟨fun h => Sum.inr.inj h, fun h => congrArg _ h⟩
theorem valV_kk (k : Str) : ∀ m : Km, valV (kk m) (.inr k) = (kget m k).map V.str
  | [] => rfl
  | e :: r => by
    have ih := valV_kk k r
    unfold valV kk kget at ih ⊢
    rw [List.map_cons, List.find?_cons, List.find?_cons]
    by_cases h : e.1 = k
    · simp [h]
    · simp only [inrE, decide_eq_false h]
      exact ih
theorem putK_kk {m : Km} {s k : Str} (h : kget m s = none) : putK (kk m) (.inr s) (.str k) = kk (m ++ [(s, k)]) := by
  unfold putK
  have z : ((kk m).any fun e => decide (e.1 = (.inr s : Key))) = false := by
    unfold kk
    rw [List.any_map, List.any_eq_false]
    intro e he
    simp only [Function.comp, inrE, decide_eq_true_eq]
    intro q
    unfold kget at h
    have : m.find? (fun e => decide (e.1 = s)) = none := by
      cases e : m.find? (fun e => decide (e.1 = s)) with
      | none => rfl
      | some x => rw [e] at h; cases h
    rw [List.find?_eq_none] at this
    exact this e he (decide_eq_true q)
  rw [z, if_neg Bool.false_ne_true]
  unfold kk
  rw [List.map_append]
  rfl
theorem knows_len {vars : List Str} : ∀ (l : List (Tr × Str)) (m : Km), (knowsT vars l m).2.length ≤ m.length + l.length
  | [], m => by simp [knowsT]
  | (.str s, k) :: r, m => by
    unfold knowsT
    have h1 := knows_len (vars := vars) r m
    have h2 := knows_len (vars := vars) r (m ++ [(s, k)])
    rw [List.length_append] at h2
    simp only [List.length_cons, List.length_nil] at h2 ⊢
    split
    · split
      · omega
      · split
        · omega
        · simp only; omega
    · split
      · split
        · omega
        · simp only; omega
      · omega
  | (.non, _) :: r, m => by have h1 := knows_len (vars := vars) r m; unfold knowsT; simp only [List.length_cons]; omega
  | (.bl _, _) :: r, m => by have h1 := knows_len (vars := vars) r m; unfold knowsT; simp only [List.length_cons]; omega
  | (.int _, _) :: r, m => by have h1 := knows_len (vars := vars) r m; unfold knowsT; simp only [List.length_cons]; omega
  | (.lst, _) :: r, m => by have h1 := knows_len (vars := vars) r m; unfold knowsT; simp only [List.length_cons]; omega
  | (.dct, _) :: r, m => by have h1 := knows_len (vars := vars) r m; unfold knowsT; simp only [List.length_cons]; omega
  | (.tup _, _) :: r, m => by have h1 := knows_len (vars := vars) r m; unfold knowsT; simp only [List.length_cons]; omega
/-- where a check keeps its things -/
structure CA where
  p : Addr
  v : Addr
  d : Addr
def cfs (a : CA) (met : Nat) : List (Str × V) := [("variables", .ref a.v), ("kinds", .ref a.d), ("met", .int (met : Nat))]
structure CkAt (K : PySem.W.Frag) (C : Addr) (H : Hp) (a : CA) (vars : List Str) (m : Km) (met : Nat) : Prop where
  ob : ∃ dx, H a.p = some (.ins C dx (cfs a met))
  dc : H a.d = some (.dK (kk m))
  vs : SqT K H a.v (vars.map V.str)
/-- all stays but the check and its dict of kinds -/
def ButC (a : CA) (H H' : Hp) : Prop := ∀ b o, H b = some o → b ≠ a.p → b ≠ a.d → H' b = some o
theorem ButC.refl (a : CA) (H : Hp) : ButC a H H := fun _ _ e _ _ => e
theorem ButC.trans {a : CA} {H H1 H2 : Hp} (x : ButC a H H1) (y : ButC a H1 H2) : ButC a H H2 := fun c o e h1 h2 => y c o (x c o e h1 h2) h1 h2
theorem ButC.of {a : CA} {H H' : Hp} (e : Same H H') : ButC a H H' := fun c o h _ _ => e c o h
section
variable {K : PySem.W.Frag} {C : Addr} {H H' : Hp} {a : CA} {vars : List Str} {m m' : Km} {met met' : Nat}
theorem CkAt.same (c : CkAt K C H a vars m met) (e : Same H H') : CkAt K C H' a vars m met := by
  obtain ⟨⟨dx, ob⟩, dc, vs⟩ := c
  exact ⟨⟨dx, e _ _ ob⟩, e _ _ dc, sqt_same e vs⟩
/-- a tuple stays -/
theorem ButC.tup (b : ButC a H H') (c : CkAt K C H a vars m met) {t : Addr} {xs : List V} (h : SqT K H t xs) : SqT K H' t xs := by
  obtain ⟨⟨dx, ob⟩, dc, _⟩ := c
  rcases h with (h | ⟨o, h⟩) | h
  · exact .inl (.inl (b _ _ h (ne_of h ob (by intro z; cases z)) (ne_of h dc (by intro z; cases z))))
  · exact .inl (.inr ⟨o, b _ _ h (ne_of h ob (by intro z; cases z)) (ne_of h dc (by intro z; cases z))⟩)
  · exact .inr h
theorem ButC.lst (b : ButC a H H') (c : CkAt K C H a vars m met) {t : Addr} {xs : List V} (h : SqL K H t xs) : SqL K H' t xs := by
  obtain ⟨⟨dx, ob⟩, dc, _⟩ := c
  rcases h with (h | ⟨o, h⟩) | h
  · exact .inl (.inl (b _ _ h (ne_of h ob (by intro z; cases z)) (ne_of h dc (by intro z; cases z))))
  · exact .inl (.inr ⟨o, b _ _ h (ne_of h ob (by intro z; cases z)) (ne_of h dc (by intro z; cases z))⟩)
  · exact .inr h
mutual
theorem TrAt.but (b : ButC a H H') (c : CkAt K C H a vars m met) (c' : CkAt K C H' a vars m' met') : ∀ {v : V} {t : Tr}, TrAt K H v t → TrAt K H' v t
  | _, _, .non => .non
  | _, _, .bl b => .bl b
  | _, _, .int i => .int i
  | _, _, .str s h => .str s h
  | _, _, .lst h => .lst (b.lst c h)
  | _, _, .dct (a := x) (kvs := kvs) h => by
    by_cases z : x = a.d
    · rw [z]
      exact .dct c'.dc
    · obtain ⟨⟨dx, ob⟩, dc, _⟩ := c
      exact .dct (b _ _ h (ne_of h ob (by intro z; cases z)) z)
  | _, _, .tup h k => .tup (b.tup c h) (TrAll.but b c c' k)
theorem TrAll.but (b : ButC a H H') (c : CkAt K C H a vars m met) (c' : CkAt K C H' a vars m' met') : ∀ {vs : List V} {ts : List Tr}, TrAll K H vs ts → TrAll K H' vs ts
  | _, _, .nil => .nil
  | _, _, .cons h k => .cons (h.but b c c') (k.but b c c')
end
theorem CkAt.ne (c : CkAt K C H a vars m met) : a.p ≠ a.d := by
  obtain ⟨⟨dx, ob⟩, dc, _⟩ := c
  exact ne_of ob dc (by intro z; cases z)
end
structure TxK (K : PySem.W.Frag) (mg : Str → Option Value) (C : Addr) : Prop where
  cl : Cls K C
  nV : NoAttr K C "variables"
  nK : NoAttr K C "kinds"
  nM : NoAttr K C "met"
  mgC : mg "Check" = some (.ref C)
theorem cfs_v (a : CA) (n : Nat) : (cfs a n).lookup ("variables" : Str) = some (.ref a.v) := by rfl
theorem cfs_k (a : CA) (n : Nat) : (cfs a n).lookup ("kinds" : Str) = some (.ref a.d) := by rfl
theorem cfs_m (a : CA) (n : Nat) : (cfs a n).lookup ("met" : Str) = some (.int (n : Nat)) := by rfl
theorem put_met (a : CA) (n : Nat) : putF "met" (.int ((n : Int) + 1)) (cfs a n) = cfs a (n + 1) := by rfl
theorem cfs_no (a : CA) (n : Nat) {m : Str} (h1 : ¬ m = "variables") (h2 : ¬ m = "kinds") (h3 : ¬ m = "met") : (cfs a n).lookup m = none := by
  have e1 : (m == ("variables" : Str)) = false := beq_eq_false_iff_ne.mpr h1
  have e2 : (m == ("kinds" : Str)) = false := beq_eq_false_iff_ne.mpr h2
  have e3 : (m == ("met" : Str)) = false := beq_eq_false_iff_ne.mpr h3
  unfold cfs
  simp only [List.lookup, e1, e2, e3]
end BK



set_option Elab.async false
set_option maxRecDepth 100000
set_option maxHeartbeats 1000000
/-! knows. -/
namespace BK
open PySem PySem.Spec PyProof.Rows L2 RZ ET
abbrev cCheck : Stmt := top 56
abbrev sCInit : Stmt := inClass cCheck 0
abbrev sFault : Stmt := inClass cCheck 1
abbrev sTakes : Stmt := inClass cCheck 2
abbrev sKnows : Stmt := inClass cCheck 3
def spKnows (K : PySem.W.Frag) (C : Addr) : Sp := fun vs H Q _ => ∃ a v vars m met x rest ks, vs = [.ref a.p, v] ∧ CkAt K C H a vars m met ∧ m.length ≤ 900 ∧ TrAt K H v (.tup (.str x :: rest)) ∧ kindsOf x = some ks ∧ fitsT rest ks = true ∧
  ∀ H', CkAt K C H' a vars (knowsT vars (rest.zip ks) m).2 met → ButC a H H' → Q (.bl (knowsT vars (rest.zip ks) m).1) H'
theorem scKnows : FnScope ["self", "statement", "part", "kind", "is_variable"] ["self", "statement"] (defScope sKnows) := ⟨rfl, rfl, rfl, by decide +kernel, rfl, by decide +kernel, by decide +kernel⟩
theorem inV_two (a b z : Str) : inV (.str z) [.str a, .str b] = (decide (z = a) || decide (z = b)) := by
  have := in_txts z [a, b]
  rw [show [V.str a, V.str b] = [a, b].map V.str from rfl, this]
  simp
/-- a part of a slot's kind is a name -/
theorem slot_name {t : Tr} {k : Str} (h : partT t k = true) (s : slotK k = true) : ∃ z, t = .str z := by
  unfold slotK at s
  have e : nameT t = true := by
    rcases Bool.or_eq_true_iff.mp s with s | s
    · have e := of_decide_eq_true s
      subst e
      exact h
    · have e := of_decide_eq_true s
      subst e
      exact h
  cases t with
  | str z => exact ⟨z, rfl⟩
  | non => cases e
  | bl b => cases e
  | int i => cases e
  | lst => cases e
  | dct => cases e
  | tup ts => cases e
theorem slot_not_var {k : Str} (s : slotK k = true) : varK k = false := by
  unfold slotK at s
  rcases Bool.or_eq_true_iff.mp s with s | s
  · have e := of_decide_eq_true s
    subst e
    decide
  · have e := of_decide_eq_true s
    subst e
    decide
theorem knows_other {vars : List Str} {t : Tr} {k : Str} {r : List (Tr × Str)} {m : Km} (h : slotK k = false) (h2 : varK k = false ∨ isStr t = false) : knowsT vars ((t, k) :: r) m = knowsT vars r m := by
  cases t with
  | str s =>
    rcases h2 with h2 | h2
    · show (if slotK k = true then _ else (if varK k = true then _ else knowsT vars r m)) = knowsT vars r m
      rw [h, h2, if_neg Bool.false_ne_true, if_neg Bool.false_ne_true]
    · cases h2
  | _ => rfl
section
variable {P : Program} {w : World} {K : PySem.W.Frag} {mg : Str → Option Value} {base : Heap}
theorem ok_knows {C f fQ : Addr} {fd fdQ : FuncData} (F : Fun K "knows" "Check.knows" sKnows f fd) (T : Forms mg) (U : Kinds K mg) (X : TxK K mg C)
    (GQ : FnOk P w K mg base CX0 1 fQ fdQ ["statement"] (spParts K)) (bQ : Binds K fdQ ["statement"] []) (gQ : mg "parts_of" = some (.ref fQ)) (kQ : PySem.W.keepIn K (.ref fQ) = true) : FnOk P w K mg base CX0 2 f fd ["self", "statement"] (spKnows K C) := by
  refine F.ok scKnows (fun vs H Q E h => ?_) (fun cdv A outer s H vs Q E hr h => ?_)
  · obtain ⟨a, v, vars, m, met, x, rest, ks, rfl, _⟩ := h
    rfl
  · obtain ⟨a, v, vars, m, met, x, rest, ks, rfl, cA, ml, ht, ek, ef, k⟩ := h
    obtain ⟨aK, gK, sK⟩ := U.kd
    have hu := hu_of hr
    refine ⟨_, pss_cons (ps_for PassesOwn.never rfl (pi_list (pe_call GQ hr rfl gQ kQ bQ .nil pass0 (pa_cons (pv 1) pa_nil)))
        (pg_tup rfl (pgs_cons (pg_name (i := 2) scKnows.nd rfl (Or.inl rfl)) (pgs_cons (pg_name (i := 3) scKnows.nd rfl (Or.inl rfl)) pgs_nil)))
        (C8.pss_cut (ps_if (PW.pt (pw_and (pt_cmpR op_in_seq (pv 3) (pe_glob (v := .ref aK) rfl gK rfl) rfl)
            (pw_and1 (pt_cmpR op_ne (pe_dsetd (pe_fld (pv 0) rfl) (pv 2) (pv 3) ⟨rfl, rfl, rfl, rfl⟩) (pv 3) (nomark _))))) (pss_one (ps_ret pe_bl)) pss_nil)
        (pss_cons (ps_set (i := 4) scKnows.nd rfl (Or.inl rfl) (pe_and (pe_cmpR op_in_seq (pv 3) (pe_tup (pa_cons pe_str (pa_cons pe_str pa_nil))) rfl)
            (pe_one (pe_callB call_isi (by rfl) T.isi boot_isinstance (pa_cons (pv 2) (pa_cons (pe_bltn (v := .ty "str") (u := .type "str") (by rfl) T.str (by decide +kernel) rfl) pa_nil))))))
        (pss_one (ps_if (PW.pt (pw_and (pt_val (pv 4)) (pw_and1 (pt_cmpR op_notIn_seq (pv 2) (pe_fld (pv 0) rfl) rfl)))) (pss_one (ps_ret pe_bl)) pss_nil)))))
      (pss_one (ps_ret pe_bl)), ?_⟩
    have el : rest.length = ks.length := by
      unfold fitsT at ef
      exact of_decide_eq_true (Bool.and_eq_true_iff.mp ef).1
    have ep : ∀ p ∈ rest.zip ks, partT p.1 p.2 = true := by
      unfold fitsT at ef
      exact List.all_eq_true.mp (Bool.and_eq_true_iff.mp ef).2
    have kl := kinds_few ek
    refine ⟨_, rfl, v, x, rest, ks, rfl, ht, ek, el, fun L ts H1 s1 eL lt at1 => ?_⟩
    have c1 := cA.same s1
    have zl : (rest.zip ks).length = ts.length := by rw [List.length_zip]; omega
    refine ⟨L, rfl, ⟨_, SqL.of eL⟩, for_list (K := K) (a := L) (xs := ts.map V.ref) (fun i σ H2 => ∃ (v2 v3 v4 : Option V) (mi : Km), σ = [some (.ref a.p), some v, v2, v3, v4] ∧ CkAt K C H2 a vars mi met ∧ ButC a H1 H2 ∧ knowsT vars (rest.zip ks) m = knowsT vars ((rest.zip ks).drop i) mi ∧ mi.length ≤ m.length + i)
      ⟨none, none, none, m, rfl, c1, ButC.refl _ _, rfl, Nat.le_refl _⟩ (fun i σ H2 _ ⟨_, _, _, mi, _, c2, b2, _⟩ => b2.lst c1 (SqL.of eL)) ?_ ?_⟩
    · rintro i y σ H2 hi ⟨v2, v3, v4, mi, rfl, c2, b2, e2, l2⟩
      rw [List.getElem?_map] at hi
      cases eT : ts[i]? with
      | none => rw [eT] at hi; cases hi
      | some U =>
      rw [eT] at hi
      obtain rfl : V.ref U = y := Option.some.inj hi
      obtain ⟨y', t', k', q1, q2, q3, q4⟩ := at1 i U eT
      have ez : (rest.zip ks)[i]? = some (t', k') := List.getElem?_zip_eq_some.mpr ⟨q1, q2⟩
      have il : i < (rest.zip ks).length := (List.getElem?_eq_some_iff.mp ez).1
      have ed : (rest.zip ks).drop i = (t', k') :: (rest.zip ks).drop (i + 1) := by
        rw [List.drop_eq_getElem_cons il]
        congr 1
        exact Option.some.inj ((List.getElem?_eq_getElem il).symm.trans ez)
      rw [ed] at e2
      have pt := ep _ (List.mem_of_getElem? ez)
      have ty : TrAt K H2 y' t' := q3.but b2 c1 c2
      refine ⟨U, _, rfl, b2.tup c1 (SqT.of q4), rfl, _, _, rfl, _, _, rfl, rfl, ?_⟩
      obtain ⟨⟨dx, ob⟩, dc, vs⟩ := id c2
      -- the slots' kinds
      refine ⟨fun σ H3 => ∃ mj : Km, σ = [some (.ref a.p), some v, some y', some (.str k'), v4] ∧ CkAt K C H3 a vars mj met ∧ ButC a H1 H3 ∧ mj.length ≤ m.length + (i + 1) ∧ (slotK k' = true → knowsT vars (rest.zip ks) m = knowsT vars ((rest.zip ks).drop (i + 1)) mj) ∧ (slotK k' = false → mj = mi), ?_, ?_⟩
      · refine ⟨_, rfl, aK, _, rfl, .inr (sK _), rfl, rfl, _, rfl, ?_⟩
        rw [show inV (.str k') [.str "context", .str "token"] = slotK k' from inV_two _ _ _]
        refine ite2 (fun hs => ?_) (fun hs => ?_)
        · have hs : slotK k' = true := hs
          obtain ⟨z, rfl⟩ := slot_name pt hs
          cases ty with
          | str _ hz =>
          have eq : knowsT vars (rest.zip ks) m = (match kget mi z with
              | none => knowsT vars ((rest.zip ks).drop (i + 1)) (mi ++ [(z, k')])
              | some k2 => if k2 = k' then knowsT vars ((rest.zip ks).drop (i + 1)) mi else (false, mi)) := by
            rw [e2]
            show (if slotK k' = true then _ else _) = _
            rw [if_pos hs]
            all_goals (cases kget mi z <;> rfl)
          refine ⟨_, rfl, a.p, C, dx, _, _, rfl, ob, X.cl, X.nK, cfs_k a met, a.d, rfl, .inl ⟨_, .inl dc⟩, _, rfl, _, rfl, kk mi, .inr z, dc, rfl, small1000 (by rw [kk_len]; rw [zl, lt] at il; omega), fun w hw => ?_, fun hno => ?_⟩
          · rw [valV_kk] at hw
            cases eg : kget mi z with
            | none => rw [eg] at hw; cases hw
            | some k2 =>
              rw [eg] at hw eq
              obtain rfl : V.str k2 = w := Option.some.inj hw
              refine ⟨_, rfl, rfl, _, rfl, ?_⟩
              rw [show decide (V.str k2 = V.str k') = decide (k2 = k') from eq_txt _ _]
              by_cases h2 : k2 = k'
              · rw [decide_eq_true h2]
                have e4 : knowsT vars (rest.zip ks) m = knowsT vars ((rest.zip ks).drop (i + 1)) mi := by
                  rw [eq]
                  exact if_pos h2
                exact iteF ⟨mi, rfl, c2, b2, by omega, fun _ => e4, fun hn => Bool.noConfusion (hs.symm.trans hn)⟩
              · rw [decide_eq_false h2]
                refine iteT ?_
                have e4 : knowsT vars (rest.zip ks) m = (false, mi) := by
                  rw [eq]
                  exact if_neg h2
                have q := k H2 (by rw [e4]; exact c2) ((ButC.of s1).trans b2)
                rw [e4] at q
                exact q
          · rw [valV_kk] at hno
            cases eg : kget mi z with
            | some k2 => rw [eg] at hno; cases hno
            | none =>
              rw [eg] at eq
              rw [putK_kk eg]
              refine ⟨_, rfl, rfl, _, rfl, ?_⟩
              rw [show decide (V.str k' = V.str k') = true from decide_eq_true rfl]
              have ne := c2.ne
              refine iteF ⟨mi ++ [(z, k')], rfl, ⟨⟨dx, by rw [upd_ne ne]; exact ob⟩, upd_same, ?_⟩, fun b o e h1 h2 => ?_, by rw [List.length_append]; simp; omega, fun _ => eq, fun hn => ?_⟩
              · rcases vs with (h | ⟨o, h⟩) | h
                · exact .inl (.inl (by rw [upd_ne (ne_of h dc (by intro z; cases z))]; exact h))
                · exact .inl (.inr ⟨o, by rw [upd_ne (ne_of h dc (by intro z; cases z))]; exact h⟩)
                · exact .inr h
              · rw [upd_ne h2]
                exact b2 b o e h1 h2
              · rw [hs] at hn; cases hn
        · have hs' : slotK k' = false := by
            have : ¬ (slotK k' = true) := hs
            simpa using this
          exact ⟨mi, rfl, c2, b2, by omega, fun z => Bool.noConfusion (hs'.symm.trans z), fun _ => rfl⟩
      rintro σ H3 ⟨mj, rfl, c3, b3, l3, yes, no⟩
      have ty3 : TrAt K H3 y' t' := q3.but b3 c1 c3
      obtain ⟨⟨dx3, ob3⟩, dc3, vs3⟩ := id c3
      refine ⟨_, rfl, (by show 2 ≤ sizeLine; decide), fun tp ntp => ?_⟩
      have s4 := same_new (o := .tup [.str "variable", .str "source"]) ntp
      refine ⟨tp, _, rfl, .inr (SqT.of upd_same), rfl, rfl, _, rfl, ?_⟩
      rw [show inV (.str k') [.str "variable", .str "source"] = varK k' from inV_two _ _ _]
      have fin : ∀ (v4 : Option V), knowsT vars (rest.zip ks) m = knowsT vars ((rest.zip ks).drop (i + 1)) mj → ∃ (v2 v3 v4' : Option V) (mi : Km), [some (V.ref a.p), some v, some y', some (V.str k'), v4] = [some (.ref a.p), some v, v2, v3, v4'] ∧ CkAt K C (upd H3 tp (.tup [.str "variable", .str "source"])) a vars mi met ∧
          ButC a H1 (upd H3 tp (.tup [.str "variable", .str "source"])) ∧ knowsT vars (rest.zip ks) m = knowsT vars ((rest.zip ks).drop (i + 1)) mi ∧ mi.length ≤ m.length + (i + 1) := fun v4 e => ⟨_, _, _, mj, rfl, c3.same s4, b3.trans (ButC.of s4), e, l3⟩
      cases hs : slotK k' with
      | true =>
        rw [slot_not_var hs]
        exact iteF ⟨_, rfl, _, rfl, iteF (fin _ (yes hs))⟩
      | false =>
        have em := no hs
        subst em
        cases hv : varK k' with
        | false =>
          refine iteF ⟨_, rfl, _, rfl, iteF (fin _ ?_)⟩
          rw [e2]
          exact knows_other hs (.inl hv)
        | true =>
          refine iteT ⟨_, rfl, y', .ty "str", .type (tyT t'), .type "str", isStr t', rfl, .ty "str", (ty3.same s4).ty, k_str K t', ?_⟩
          refine ⟨_, rfl, _, rfl, ?_⟩
          cases ei : isStr t' with
          | false =>
            refine iteF (fin _ ?_)
            rw [e2]
            exact knows_other hs (.inr ei)
          | true =>
            obtain ⟨z, rfl⟩ : ∃ z, t' = .str z := by
              cases t' with
              | str z => exact ⟨z, rfl⟩
              | _ => cases ei
            cases ty3 with
            | str _ hz =>
            have e5 : knowsT vars (rest.zip ks) m = if z ∈ vars then knowsT vars ((rest.zip ks).drop (i + 1)) mj else (false, mj) := by
              rw [e2]
              show (if slotK k' = true then _ else (if varK k' = true then _ else _)) = _
              rw [hs, hv, if_neg Bool.false_ne_true, if_pos rfl]
            refine iteT ⟨_, rfl, _, rfl, a.p, C, dx3, _, _, rfl, s4 _ _ ob3, X.cl, X.nV, cfs_v a met, a.v, _, rfl, .inr (sqt_same s4 vs3), rfl, flat_txts vars, _, rfl, ?_⟩
            rw [in_txts]
            by_cases hm : z ∈ vars
            · rw [decide_eq_true hm]
              refine iteF (fin _ ?_)
              rw [e5, if_pos hm]
            · rw [decide_eq_false hm]
              refine iteT ?_
              rw [if_neg hm] at e5
              have q := k (upd H3 tp (.tup [.str "variable", .str "source"])) (by rw [e5]; exact c3.same s4) (((ButC.of s1).trans b3).trans (ButC.of s4))
              rw [e5] at q
              exact q
    · rintro σ H2 ⟨v2, v3, v4, mi, rfl, c2, b2, e2, _⟩
      have e3 : (rest.zip ks).drop (ts.map V.ref).length = [] := by
        rw [List.length_map, ← zl, List.drop_length]
      rw [e3] at e2
      have e4 : knowsT vars (rest.zip ks) m = (true, mi) := e2
      have q := k H2 (by rw [e4]; exact c2) ((ButC.of s1).trans b2)
      rw [e4] at q
      exact q
end
end BK



set_option Elab.async false
set_option maxRecDepth 100000
set_option maxHeartbeats 1000000
/-! takes; __init__. -/
namespace BK
open PySem PySem.Spec PyProof.Rows L2 RZ ET
def takesT (vars : List Str) (t : Tr) (as : List Str) (m : Km) (n : Nat) : Bool × Km :=
  if 16 < n ∨ 4 < as.length then (false, m) else match t with
    | .tup (.str x :: rest) => match kindsOf x with
      | some ks => if fitsT rest ks = true then ((knowsT vars (rest.zip ks) m).1 && canT x rest as, (knowsT vars (rest.zip ks) m).2) else (false, m)
      | none => (false, m)
    | _ => (false, m)
def spTakes (K : PySem.W.Frag) (C : Addr) : Sp := fun vs H Q _ => ∃ a v ar vars m met t as, vs = [.ref a.p, v, .ref ar] ∧ CkAt K C H a vars m met ∧ m.length ≤ 900 ∧ TrAt K H v t ∧ SqT K H ar (as.map V.str) ∧
  ∀ H', CkAt K C H' a vars (takesT vars t as m (met + 1)).2 (met + 1) → ButC a H H' → Q (.bl (takesT vars t as m (met + 1)).1) H'
theorem scTakes : FnScope ["self", "statement", "around"] ["self", "statement", "around"] (defScope sTakes) := ⟨rfl, rfl, rfl, by decide +kernel, rfl, by decide +kernel, by decide +kernel⟩
theorem loop_kinds : kindsOf ("loop" : Str) = some [("block" : Str)] := by decide +kernel
theorem form_parts {x : Str} {rest : List Tr} (h : formT (.tup (.str x :: rest)) = true) : ∃ ks, kindsOf x = some ks ∧ fitsT rest ks = true := by
  have h : (match kindsOf x with
    | some ks => fitsT rest ks
    | none => false) = true := h
  cases e : kindsOf x with
  | none => rw [e] at h; cases h
  | some ks => rw [e] at h; exact ⟨ks, rfl, h⟩
theorem loop_block {rest : List Tr} {ks : List Str} (e : kindsOf ("loop" : Str) = some ks) (h : fitsT rest ks = true) : ∃ ts r, rest = .tup ts :: r := by
  rw [loop_kinds] at e
  obtain rfl := Option.some.inj e
  unfold fitsT at h
  obtain ⟨h1, h2⟩ := Bool.and_eq_true_iff.mp h
  have h1 := of_decide_eq_true h1
  match rest, h1 with
  | [t], _ =>
    have h2 : (partT t "block" && true) = true := h2
    rw [Bool.and_true] at h2
    have h3 : isTup t = true := h2
    cases t with
    | tup ts => exact ⟨ts, [], rfl⟩
    | _ => cases h3
theorem gt_cast (n : Nat) (k : Nat) : decide ((n : Int) > (k : Int)) = decide (k < n) := by
  by_cases h : k < n
  · rw [decide_eq_true h]
    exact decide_eq_true (by omega)
  · rw [decide_eq_false h]
    exact decide_eq_false (by omega)
structure Most (mg : Str → Option Value) : Prop where
  ms : ∃ t, mg "MOST_STATEMENTS" = some (.int 16 t)
  ma : ∃ t, mg "MOST_AROUND" = some (.int 4 t)
section
variable {P : Program} {w : World} {K : PySem.W.Frag} {mg : Str → Option Value} {base : Heap}
theorem ok_takes {C f fF fK fC : Addr} {fd fdF fdK fdC : FuncData} (F : Fun K "takes" "Check.takes" sTakes f fd) (T : Forms mg) (M : Most mg) (X : TxK K mg C)
    (GF : FnOk P w K mg base CX0 5 fF fdF ["thing"] (spOf formT K)) (bF : Binds K fdF ["thing"] []) (gF : mg "has_form" = some (.ref fF)) (kF : PySem.W.keepIn K (.ref fF) = true)
    (GK : FnOk P w K mg base CX0 2 fK fdK ["self", "statement"] (spKnows K C)) (bK : Binds K fdK ["self", "statement"] []) (mK : Meth K C "knows" fK)
    (GC : FnOk P w K mg base CX0 7 fC fdC ["statement", "around"] (spCan K)) (bC : Binds K fdC ["statement", "around"] []) (gC : mg "can_stand" = some (.ref fC)) (kC : PySem.W.keepIn K (.ref fC) = true) :
    FnOk P w K mg base CX0 8 f fd ["self", "statement", "around"] (spTakes K C) := by
  refine F.ok scTakes (fun vs H Q E h => ?_) (fun cdv A outer s H vs Q E hr h => ?_)
  · obtain ⟨a, v, ar, vars, m, met, t, as, rfl, _⟩ := h
    rfl
  · obtain ⟨a, v, ar, vars, m, met, t, as, rfl, cA, ml, ht, sa, k⟩ := h
    obtain ⟨t1, gS⟩ := M.ms
    obtain ⟨t2, gA⟩ := M.ma
    have hr5 : Room 5 _ := hr.mono (by decide)
    have hr2 : Room 2 _ := hr.mono (by decide)
    refine ⟨_, C8.pss_cut (ps_fldaug (pv 0) pe_int in_add)
      (pss_cons (ps_if (PW.pt (pw_or (pt_cmpR op_gt (pe_fld (pv 0) rfl) (pe_glob (v := .int 16) rfl gS ⟨_, rfl⟩) rfl)
          (pw_or1 (pt_cmpR op_gt (pe_callB call_len_seq (by rfl) T.len boot_len (pa_cons (pv 2) pa_nil)) (pe_glob (v := .int 4) rfl gA ⟨_, rfl⟩) rfl)))) (pss_one (ps_ret pe_bl)) pss_nil)
      (pss_one (ps_ret (pe_and (pe_call GF hr5 rfl gF kF bF .nil pass0 (pa_cons (pv 1) pa_nil)) (pe_and (pe_meth (pv 0) X.cl mK GK hr2 bK .nil pass0 (pa_cons (pv 1) pa_nil))
        (pe_one (pe_call GC hr rfl gC kC bC .nil pass0 (pa_cons (pv 1) (pa_cons (pv 2) pa_nil))))))))), ?_⟩
    obtain ⟨⟨dx, ob⟩, dc, vs⟩ := id cA
    have ne := cA.ne
    refine ⟨fun σ H1 => σ = [some (.ref a.p), some v, some (.ref ar)] ∧ CkAt K C H1 a vars m (met + 1) ∧ ButC a H H1, ?_, ?_⟩
    · refine ⟨_, rfl, a.p, C, dx, _, _, rfl, ob, X.cl, X.nM, cfs_m a met, _, _, rfl, rfl, dx, _, ob, (by decide : 3 < 1000), rfl, ⟨⟨dx, upd_same⟩, ?_, ?_⟩, fun b o e h1 _ => ?_⟩
      · rw [upd_ne ne.symm]; exact dc
      · rcases vs with (h | ⟨o, h⟩) | h
        · exact .inl (.inl (by rw [upd_ne (ne_of h ob (by intro z; cases z))]; exact h))
        · exact .inl (.inr ⟨o, by rw [upd_ne (ne_of h ob (by intro z; cases z))]; exact h⟩)
        · exact .inr h
      · rw [upd_ne h1]; exact e
    rintro σ H1 ⟨rfl, c1, b1⟩
    have ht1 := ht.but b1 cA c1
    have sa1 := b1.tup cA sa
    obtain ⟨⟨dx1, ob1⟩, dc1, vs1⟩ := id c1
    have over : 16 < met + 1 ∨ 4 < as.length → Q (.bl false) H1 := fun z => by
      have e : takesT vars t as m (met + 1) = (false, m) := if_pos z
      have q := k H1 (by rw [e]; exact c1) b1
      rw [e] at q
      exact q
    refine ⟨_, rfl, a.p, C, dx1, _, _, rfl, ob1, X.cl, X.nM, cfs_m a (met + 1), _, _, rfl, rfl, _, rfl, ?_⟩
    rw [show decide (((met + 1 : Nat) : Int) > 16) = decide (16 < met + 1) from gt_cast (met + 1) 16]
    refine ite2 (fun z => ?_) (fun z => ?_)
    · exact over (.inl (of_decide_eq_true z))
    have n1 : ¬ 16 < met + 1 := fun q => z (decide_eq_true q)
    refine ⟨_, rfl, ar, _, rfl, .inr sa1, _, _, rfl, rfl, _, rfl, ?_⟩
    rw [show decide (((as.map V.str).length : Int) > 4) = decide (4 < as.length) by rw [List.length_map]; exact gt_cast as.length 4]
    refine ite2 (fun z => ?_) (fun z => ?_)
    · exact over (.inr (of_decide_eq_true z))
    have n2 : ¬ 4 < as.length := fun q => z (decide_eq_true q)
    have n3 : ¬ (16 < met + 1 ∨ 4 < as.length) := fun q => q.elim n1 n2
    refine ⟨_, rfl, v, t, rfl, ht1, fun H2 s2 => ⟨_, rfl, ?_⟩⟩
    have c2 := c1.same s2
    have b2 := b1.trans (ButC.of s2)
    cases ef : formT t with
    | false =>
      refine iteF ?_
      have e : takesT vars t as m (met + 1) = (false, m) := by
        unfold takesT
        rw [if_neg n3]
        split
        · rename_i x rest
          have ef : (match kindsOf x with
            | some ks => fitsT rest ks
            | none => false) = false := ef
          cases ek : kindsOf x with
          | none => rfl
          | some ks =>
            rw [ek] at ef
            have ef : fitsT rest ks = false := ef
            simp only
            rw [ef, if_neg Bool.false_ne_true]
        · rfl
      have q := k H2 (by rw [e]; exact c2) b2
      rw [e] at q
      exact q
    | true =>
      obtain ⟨x, rest, rfl⟩ := form_shape ef
      obtain ⟨ks, ek, e1⟩ := form_parts ef
      have e : takesT vars (.tup (.str x :: rest)) as m (met + 1) = ((knowsT vars (rest.zip ks) m).1 && canT x rest as, (knowsT vars (rest.zip ks) m).2) := by
        unfold takesT
        rw [if_neg n3]
        simp only
        rw [ek]
        simp only
        rw [if_pos e1]
      rw [e] at k
      refine iteT ⟨_, rfl, a.p, dx1, _, rfl, s2 _ _ ob1, cfs_no a _ (by decide +kernel) (by decide +kernel) (by decide +kernel), _, rfl, a, v, vars, m, met + 1, x, rest, ks, rfl, c2, ml, ht1.same s2, ek, e1, fun H3 c3 b3 => ⟨_, rfl, ?_⟩⟩
      have b4 := b2.trans b3
      cases e5 : (knowsT vars (rest.zip ks) m).1 with
      | false =>
        have q := k H3 c3 b4
        rw [e5, Bool.false_and] at q
        exact iteF q
      | true =>
        refine iteT ⟨_, rfl, _, rfl, v, ar, x, rest, as, rfl, (ht1.same s2).but b3 c2 c3, b3.tup c2 (sqt_same s2 sa1), fun q => ?_, fun H4 s4 => ?_⟩
        · subst q
          exact loop_block ek e1
        · have q := k H4 (c3.same s4) (b4.trans (ButC.of s4))
          rw [e5, Bool.true_and] at q
          exact q
end
end BK



set_option Elab.async false
set_option maxRecDepth 100000
set_option maxHeartbeats 1000000
/-! Check's __init__. -/
namespace BK
open PySem PySem.Spec PyProof.Rows L2 RZ ET
def pairKm : Tr → Option (Str × Str)
  | .tup [.str s, .str k] => some (s, k)
  | _ => none
def kindsP : Tr → Km
  | .tup ts => ts.filterMap pairKm
  | _ => []
theorem kget_none {m : Km} {s : Str} (h : s ∉ m.map (·.1)) : kget m s = none := by
  unfold kget
  have : m.find? (fun e => decide (e.1 = s)) = none := by
    rw [List.find?_eq_none]
    intro e he
    simp only [decide_eq_true_eq]
    intro q
    exact h (List.mem_map.mpr ⟨e, he, q⟩)
  rw [this]
  rfl
theorem kind_str {t : Tr} (h : kindT t = true) : ∃ k, t = .str k := by
  cases t with
  | str k => exact ⟨k, rfl⟩
  | _ => cases h
theorem name_str {t : Tr} (h : nameT t = true) : ∃ k, t = .str k := by
  cases t with
  | str k => exact ⟨k, rfl⟩
  | _ => cases h
theorem param_shape {t : Tr} (h : paramT t = true) (n : nameT (firstT t) = true) : ∃ s k, t = .tup [.str s, .str k] ∧ kindT (.str k) = true := by
  obtain ⟨s, k, rfl⟩ := param_two h
  have h : kindT k = true := h
  have n : nameT s = true := n
  obtain ⟨k', rfl⟩ := kind_str h
  obtain ⟨s', rfl⟩ := name_str n
  exact ⟨s', k', rfl, h⟩
theorem kinds_keys : ∀ {ts : List Tr}, ts.all paramT = true → (ts.map firstT).all nameT = true → (ts.filterMap pairKm).map (·.1) = texts (ts.map firstT)
  | [], _, _ => rfl
  | t :: r, h, n => by
    rw [List.all_cons, Bool.and_eq_true] at h
    rw [List.map_cons, List.all_cons, Bool.and_eq_true] at n
    obtain ⟨s, k, rfl, _⟩ := param_shape h.1 n.1
    have ih := kinds_keys h.2 n.2
    show s :: (r.filterMap pairKm).map (·.1) = s :: texts (r.map firstT)
    rw [ih]
theorem params_split {ts : List Tr} (h : paramsT (.tup ts) = true) : ts.length ≤ 2 ∧ ts.all paramT = true ∧ (ts.map firstT).all nameT = true ∧ (texts (ts.map firstT)).Nodup := by
  rw [params_tup, Bool.and_eq_true, Bool.and_eq_true] at h
  obtain ⟨⟨h1, h2⟩, h3⟩ := h
  unfold diffT at h3
  rw [Bool.and_eq_true] at h3
  exact ⟨of_decide_eq_true h1, h2, h3.1, of_decide_eq_true h3.2⟩
theorem kindsP_len {t : Tr} (h : paramsT t = true) : (kindsP t).length ≤ 2 := by
  cases t with
  | tup ts =>
    have := (params_split h).1
    exact Nat.le_trans (List.length_filterMap_le _ _) this
  | _ => cases h
def spCInit (K : PySem.W.Frag) (C : Addr) : Sp := fun vs H Q _ => ∃ (x dx va : Addr) (pv : V) (vars : List Str) (pt : Tr), vs = [.ref x, .ref va, pv] ∧ H x = some (.ins C dx []) ∧ SqT K H va (vars.map V.str) ∧ TrAt K H pv pt ∧ paramsT pt = true ∧
  ∀ (d : Addr) (H' : Hp), H d = none → CkAt K C H' ⟨x, va, d⟩ vars (kindsP pt) 0 → (∀ b o, H b = some o → b ≠ x → H' b = some o) → Q .non H'
theorem scCInit : FnScope ["self", "variables", "params", "slot", "kind"] ["self", "variables", "params"] (defScope sCInit) := ⟨rfl, rfl, rfl, by decide +kernel, rfl, by decide +kernel, by decide +kernel⟩
section
variable {P : Program} {w : World} {K : PySem.W.Frag} {mg : Str → Option Value} {base : Heap}
theorem ok_cinit {C f : Addr} {fd : FuncData} (F : Fun K "__init__" "Check.__init__" sCInit f fd) (X : TxK K mg C) : FnOk P w K mg base CX0 1 f fd ["self", "variables", "params"] (spCInit K C) := by
  refine F.ok scCInit (fun vs H Q E h => ?_) (fun cdv A outer s H vs Q E hr h => ?_)
  · obtain ⟨x, dx, va, pv, vars, pt, rfl, _⟩ := h
    rfl
  · obtain ⟨x, dx, va, pvv, vars, pt, rfl, ob, sv, tp, hp, k⟩ := h
    have hu := hu_of hr
    refine ⟨_, pss_cons (ps_fld (pv 0) (pv 1) rfl)
      (pss_cons (ps_fld (pv 0) (pe_dc (own := [("slot", 3), ("kind", 4)]) (g := gTup K 2 (gCons (gName 3) (gCons (gName 4) gNil))) (tt := tYes) rfl scCInit.nd (pi_tup (pv 2))
          (blkOk_by (N := ["self", "variables", "params", "slot", "kind"]) (sc := defScope sCInit) (by decide +kernel))
          (fun _ _ _ _ _ => by exact pg_tup rfl (pgs_cons (pg_name (i := 3) scCInit.nd rfl (Or.inl rfl)) (pgs_cons (pg_name (i := 4) scCInit.nd rfl (Or.inl rfl)) pgs_nil))) (fun _ _ _ _ _ => pts_nil)
          (fun _ _ _ _ _ => pv 3) (fun _ _ _ _ _ => pv 4)) rfl)
      (pss_one (ps_fld (pv 0) pe_int rfl))), ?_⟩
    have keepT : ∀ {H1 H2 : Hp} {t : Addr} {xs : List V} {fs : List (Str × V)}, H1 x = some (.ins C dx fs) → (∀ b o, H1 b = some o → b ≠ x → H2 b = some o) → SqT K H1 t xs → SqT K H2 t xs := fun {H1 H2 t xs fs} e1 kp h => by
      rcases h with (h | ⟨o, h⟩) | h
      · exact .inl (.inl (kp _ _ h (ne_of h e1 (by intro z; cases z))))
      · exact .inl (.inr ⟨o, kp _ _ h (ne_of h e1 (by intro z; cases z))⟩)
      · exact .inr h
    cases tp with
    | @tup pa xs ts hT tr =>
    obtain ⟨l2, hall, hnm, hnd⟩ := params_split hp
    refine ⟨_, rfl, _, rfl, x, C, dx, _, rfl, ob, X.cl, X.nV, by decide, ?_⟩
    have kp1 : ∀ o b u, H b = some u → b ≠ x → (upd H x o) b = some u := fun o b u e n => by rw [upd_ne n]; exact e
    have hT1 := keepT ob (kp1 (.ins C dx (putF "variables" (.ref va) []))) hT
    have ob1 : (upd H x (.ins C dx (putF "variables" (.ref va) []))) x = some (.ins C dx [("variables", .ref va)]) := upd_same
    have k1 := kp1 (.ins C dx (putF "variables" (.ref va) []))
    generalize upd H x (.ins C dx (putF "variables" (.ref va) [])) = H1 at hT1 ob1 k1 ⊢
    have tr1 : TrAll K H1 xs ts := by
      have sm : ∀ b o, H b = some o → b ≠ x → H1 b = some o := k1
      have one : ∀ {v : V} {t : Tr}, TrAt K H v t → paramT t = true → nameT (firstT t) = true → TrAt K H1 v t := fun {v t} h p n => by
        obtain ⟨s, kd, rfl, _⟩ := param_shape p n
        cases h with
        | @tup b ys _ hb tb =>
        cases tb with
        | cons h1 r1 =>
        cases r1 with
        | cons h2 r2 =>
        cases r2 with
        | nil =>
        cases h1 with
        | str _ z1 =>
        cases h2 with
        | str _ z2 => exact .tup (keepT ob sm hb) (.cons (.str _ z1) (.cons (.str _ z2) .nil))
      have all : ∀ {vs : List V} {us : List Tr}, TrAll K H vs us → us.all paramT = true → (us.map firstT).all nameT = true → TrAll K H1 vs us := fun {vs us} h => by
        induction vs generalizing us with
        | nil => cases h; exact fun _ _ => .nil
        | cons v r ih =>
          cases h with
          | cons h1 h2 =>
            intro p n
            rw [List.all_cons, Bool.and_eq_true] at p
            rw [List.map_cons, List.all_cons, Bool.and_eq_true] at n
            exact .cons (one h1 p.1 n.1) (ih h2 p.2 n.2)
      exact all tr hall hnm
    refine ⟨_, rfl, pa, rfl, ⟨_, hT1⟩, fun D nD => ?_⟩
    have sD := same_new (o := .dK []) nD
    have nxD : x ≠ D := ne_of_none ob1 nD
    refine dc_tup (K := K) (a := pa) (xs := xs) (fun i H2 => H2 D = some (.dK (kk ((ts.take i).filterMap pairKm))) ∧ ∀ b o, H1 b = some o → H2 b = some o)
      ⟨upd_same, sD⟩ (fun i H2 _ ⟨_, s2⟩ => sqt_same s2 hT1) ?_ ?_
    · rintro i y H2 hi ⟨e2, s2⟩
      obtain ⟨t, ht, ty⟩ := (tr1.same s2).get hi
      have pt : paramT t = true := List.all_eq_true.mp hall t (List.mem_of_getElem? ht)
      have nt : nameT (firstT t) = true := List.all_eq_true.mp hnm _ (List.mem_map.mpr ⟨t, List.mem_of_getElem? ht, rfl⟩)
      obtain ⟨s, kd, rfl, hkd⟩ := param_shape pt nt
      have il : i < ts.length := (List.getElem?_eq_some_iff.mp ht).1
      have et : ts.take (i + 1) = ts.take i ++ [.tup [.str s, .str kd]] := by rw [List.take_add_one, ht]; rfl
      cases ty with
      | @tup b ys _ hb tb =>
      have l2 := tb.len
      cases tb with
      | cons h1 r1 =>
      cases r1 with
      | cons h2 r2 =>
      cases r2 with
      | nil =>
      cases h1 with
      | str _ z1 =>
      cases h2 with
      | str _ z2 =>
      refine ⟨b, _, rfl, hb, rfl, _, _, rfl, _, _, rfl, rfl, rfl, ?_⟩
      refine tyes ?_
      refine ⟨_, rfl, _, rfl, _, .inr s, rfl, e2, small1000 ?_, ?_, fun b o e => ?_⟩
      · rw [kk_len]
        have := List.length_filterMap_le pairKm (ts.take i)
        rw [List.length_take] at this
        omega
      · rw [upd_same, et, List.filterMap_append]
        have hk : (ts.filterMap pairKm).map (·.1) = texts (ts.map firstT) := kinds_keys hall hnm
        have none_ : kget ((ts.take i).filterMap pairKm) s = none := by
          refine kget_none fun hm => ?_
          rw [← hk] at hnd
          have ed : ts = ts.take i ++ (.tup [.str s, .str kd]) :: ts.drop (i + 1) := by
            have e1 := (List.take_append_drop i ts).symm
            rw [List.drop_eq_getElem_cons il] at e1
            rw [(Option.some.inj ((List.getElem?_eq_getElem il).symm.trans ht))] at e1
            exact e1
          rw [ed, List.filterMap_append, List.map_append] at hnd
          have := (List.nodup_append.mp hnd).2.2 _ hm s List.mem_cons_self
          exact this rfl
        rw [putK_kk none_]
        rfl
      · rw [upd_ne (ne_of_none e nD)]
        exact s2 b o e
    · rintro H2 ⟨e2, s2⟩
      have et : ts.take xs.length = ts := by rw [tr.len, List.take_length]
      rw [et] at e2
      refine ⟨_, rfl, x, C, dx, _, rfl, s2 _ _ ob1, X.cl, X.nK, (show 1 < 1000 by decide), ?_⟩
      refine ⟨_, rfl, x, C, dx, _, rfl, upd_same, X.cl, X.nM, (show 2 < 1000 by decide), ?_⟩
      have hD0 : H D = none := by
        cases e : H D with
        | none => rfl
        | some o =>
          by_cases z : D = x
          · exact absurd z.symm nxD
          · rw [k1 _ _ e z] at nD; cases nD
      refine k D _ hD0 ⟨⟨dx, upd_same⟩, ?_, ?_⟩ fun b o e n => ?_
      · rw [upd_ne nxD.symm, upd_ne nxD.symm]
        exact e2
      · refine keepT (H1 := H2) (s2 _ _ ob1) (fun b o e n => ?_) (sqt_same s2 (keepT ob k1 sv))
        rw [upd_ne n, upd_ne n]
        exact e
      · rw [upd_ne n, upd_ne n]
        exact s2 _ _ (k1 _ _ e n)
    | _ => cases hp
end
end BK



set_option Elab.async false
set_option maxRecDepth 100000
set_option maxHeartbeats 2000000
/-! fault_in. -/
namespace BK
open PySem PySem.Spec PyProof.Rows L2 RZ ET
def tupTs : Tr → List Tr
  | .tup ts => ts
  | _ => []
def blocksT (t : Tr) : List (List Tr) := ((tupTs t).filter isTup).map tupTs
def wordS : Tr → Str
  | .tup (.str w :: _) => w
  | _ => Str.empty
abbrev Ck := Km × Nat
abbrev Fl := Option (List Nat) × Ck
def blocksIn (f : List Tr → Ck → Fl) : List (List Tr) → Nat → Ck → Fl
  | [], _, c => (none, c)
  | b :: r, j, c => match f b c with
    | (some w, c') => (some (j :: w), c')
    | (none, c') => blocksIn f r (j + 1) c'
def faultL (vars : List Str) (rec : List Tr → List Str → Ck → Fl) (as : List Str) : List Tr → Nat → Ck → Fl
  | [], _, c => (none, c)
  | t :: r, i, c => match takesT vars t as c.1 (c.2 + 1) with
    | (false, m) => (some [i], (m, c.2 + 1))
    | (true, m) => match blocksIn (fun b c => rec b (as ++ [wordS t]) c) (blocksT t) 0 (m, c.2 + 1) with
      | (some w, c') => (some (i :: w), c')
      | (none, c') => faultL vars rec as r (i + 1) c'
def faultD (vars : List Str) : Nat → List Tr → List Str → Ck → Fl
  | 0, b, as, c => faultL vars (fun _ _ c => (none, c)) as b 0 c
  | d + 1, b, as, c => faultL vars (faultD vars d) as b 0 c
def recF (vars : List Str) : Nat → List Tr → List Str → Ck → Fl
  | 0 => fun _ _ c => (none, c)
  | d + 1 => faultD vars d
theorem faultD_eq (vars : List Str) (d : Nat) (b : List Tr) (as : List Str) (c : Ck) : faultD vars d b as c = faultL vars (recF vars d) as b 0 c := by cases d <;> rfl
def wayV (l : List Nat) : List V := l.map fun n : Nat => V.int (n : Int)
/-- the bounds of what was met -/
def Few (c : Ck) : Prop := c.2 ≤ 16 ∧ c.1.length ≤ 10 + 4 * c.2
def spFault (K : PySem.W.Frag) (C : Addr) (d : Nat) : Sp := fun vs H Q _ => ∃ a v wy ar vars c ts w0 as, vs = [.ref a.p, v, .ref wy, .ref ar] ∧ CkAt K C H a vars c.1 c.2 ∧ Few c ∧ TrAt K H v (.tup ts) ∧ SqT K H wy (wayV w0) ∧ w0.length + 2 * d ≤ 100 ∧ SqT K H ar (as.map V.str) ∧ as.length + d = 5 ∧
  ∀ H', CkAt K C H' a vars (faultD vars d ts as c).2.1 (faultD vars d ts as c).2.2 → ButC a H H' → ((faultD vars d ts as c).1 = none → Few (faultD vars d ts as c).2 → Q .non H') ∧ ∀ w t, (faultD vars d ts as c).1 = some w → SqT K H' t (wayV (w0 ++ w)) → Q (.ref t) H'
def spRec (K : PySem.W.Frag) (C : Addr) : Nat → Sp
  | 0 => fun _ _ _ _ => False
  | d + 1 => spFault K C d
theorem takes_deep {vars : List Str} {t : Tr} {as : List Str} {m : Km} {n : Nat} (h : 4 < as.length) : takesT vars t as m n = (false, m) := if_pos (.inr h)
theorem takes_few {vars : List Str} {t : Tr} {as : List Str} {m m' : Km} {n : Nat} (h : takesT vars t as m n = (true, m')) (hm : m.length + 4 ≤ 10 + 4 * n) : n ≤ 16 ∧ as.length ≤ 4 ∧ m'.length ≤ 10 + 4 * n ∧ ∃ x rest ks, t = .tup (.str x :: rest) ∧ kindsOf x = some ks ∧ fitsT rest ks = true := by
  unfold takesT at h
  by_cases z : 16 < n ∨ 4 < as.length
  · rw [if_pos z] at h
    cases h
  · rw [if_neg z] at h
    have z1 : ¬ 16 < n := fun q => z (.inl q)
    have z2 : ¬ 4 < as.length := fun q => z (.inr q)
    split at h
    · rename_i x rest
      cases ek : kindsOf x with
      | none => rw [ek] at h; cases h
      | some ks =>
        rw [ek] at h
        simp only at h
        by_cases ef : fitsT rest ks = true
        · rw [if_pos ef] at h
          have e2 := congrArg Prod.snd h
          simp only at e2
          have := knows_len (vars := vars) (rest.zip ks) m
          have kf := kinds_few ek
          rw [List.length_zip] at this
          rw [e2] at this
          exact ⟨by omega, by omega, by omega, x, rest, ks, rfl, ek, ef⟩
        · rw [if_neg ef] at h
          cases h
    · cases h
theorem blocks_form {x : Str} {rest : List Tr} : blocksT (.tup (.str x :: rest)) = (rest.filter isTup).map tupTs := rfl
end BK



set_option Elab.async false
set_option maxRecDepth 100000
set_option maxHeartbeats 4000000
/-! fault_in: the step. -/
namespace BK
open PySem PySem.Spec PyProof.Rows L2 RZ ET
theorem way_snoc (w : List Nat) (i : Nat) : wayV (w ++ [i]) = wayV w ++ [.int (i : Nat)] := by unfold wayV; rw [List.map_append]; rfl
theorem way_ne (w : List Nat) (i : Nat) : wayV (w ++ [i]) ≠ [] := by
  rw [way_snoc]
  simp
theorem way_len (w : List Nat) : (wayV w).length = w.length := by unfold wayV; rw [List.length_map]
abbrev nFault : List Str := ["self", "block", "way", "around", "number", "statement", "here", "inside", "at", "inner", "fault"]
theorem scFault : FnScope nFault ["self", "block", "way", "around"] (defScope sFault) := ⟨rfl, rfl, rfl, by decide +kernel, rfl, by decide +kernel, by decide +kernel⟩
section
variable {P : Program} {w : World} {K : PySem.W.Frag} {mg : Str → Option Value} {base : Heap}
/-- t + (x,) -/
theorem cat_one {X : Cx} {H : Hp} {wy : Addr} {xs : List V} {x : V} {Q : VK} (hw : SqT X.K H wy xs) (hl : xs.length ≤ 1000) (k : ∀ (q : Addr) (H' : Hp), Same H H' → SqT X.K H' q (xs ++ [x]) → Q (.ref q) H') :
    (∀ p, H p = none → rCatA X.K (.ref wy) (.ref p) (upd H p (.tup [x])) Q) := fun p np => by
  have s1 := same_new (o := .tup [x]) np
  have big : sizeLine = 16777216 := sizeLine_eq
  refine ⟨wy, p, xs, [x], rfl, rfl, sqt_same s1 hw, SqT.of upd_same, by simp; omega, fun e => ?_, fun _ e => (by cases e), fun _ _ q nq => ?_⟩
  · subst e
    exact k p _ s1 (SqT.of upd_same)
  · exact k q _ (s1.trans (same_new nq)) (SqT.of upd_same)
theorem ok_fault_step {C f fT fB : Addr} {fd fdT fdB : FuncData} (F : Fun K "fault_in" "Check.fault_in" sFault f fd) (X : TxK K mg C) (mE : mg "enumerate" = none)
    (GT : FnOk P w K mg base CX0 8 fT fdT ["self", "statement", "around"] (spTakes K C)) (bT : Binds K fdT ["self", "statement", "around"] []) (mT : Meth K C "takes" fT)
    (GB : FnOk P w K mg base CX0 1 fB fdB ["statement"] (spBlocks K)) (bB : Binds K fdB ["statement"] []) (gB : mg "blocks_of" = some (.ref fB)) (kB : PySem.W.keepIn K (.ref fB) = true)
    (bF : Binds K fd ["self", "block", "way", "around"] []) (mF : Meth K C "fault_in" f) (d : Nat)
    (GR : FnOk P w K mg base CX0 (8 + d) f fd ["self", "block", "way", "around"] (spRec K C d)) : FnOk P w K mg base CX0 (8 + d + 1) f fd ["self", "block", "way", "around"] (spFault K C d) := by
  refine F.ok scFault (fun vs H Q E h => ?_) (fun cdv A outer s H vs Q E hr h => ?_)
  · obtain ⟨a, v, wy, ar, vars, c, ts, w0, as, rfl, _⟩ := h
    rfl
  · obtain ⟨a, v, wy, ar, vars, c, ts, w0, as, rfl, cA, fw, ht, sw, wl, sa, al, k⟩ := h
    have hr8 : Room 8 _ := hr.mono (by omega)
    have hr1 : Room 1 _ := hr.mono (by omega)
    refine ⟨_, pss_cons (ps_for PassesOwn.never rfl (pi_enumT (by rfl) mE (pa_cons (pv 1) pa_nil))
        (pg_tup rfl (pgs_cons (pg_name (i := 4) scFault.nd rfl (Or.inl rfl)) (pgs_cons (pg_name (i := 5) scFault.nd rfl (Or.inl rfl)) pgs_nil)))
        (C8.pss_cut (ps_set (i := 6) scFault.nd rfl (Or.inl rfl) (pe_op op_catA (pv 2) (pe_tup (pa_cons (pv 4) pa_nil))))
        (C8.pss_cut (ps_if (pt_not (pt_val (pe_meth (pv 0) X.cl mT GT hr8 bT .nil pass0 (pa_cons (pv 5) (pa_cons (pv 3) pa_nil))))) (pss_one (ps_ret (pv 6))) pss_nil)
        (C8.pss_cut (ps_set (i := 7) scFault.nd rfl (Or.inl rfl) (pe_op op_catA (pv 3) (pe_tup (pa_cons (pe_ix ix_tup (pv 5) pe_int (fun _ _ => rfl)) pa_nil))))
        (pss_one (ps_for PassesOwn.never rfl (pi_enum (by rfl) mE (pa_cons (pe_call GB hr1 rfl gB kB bB .nil pass0 (pa_cons (pv 5) pa_nil)) pa_nil))
          (pg_tup rfl (pgs_cons (pg_name (i := 8) scFault.nd rfl (Or.inl rfl)) (pgs_cons (pg_name (i := 9) scFault.nd rfl (Or.inl rfl)) pgs_nil)))
          (pss_cons (ps_set (i := 10) scFault.nd rfl (Or.inl rfl) (pe_meth (pv 0) X.cl mF GR hr bF .nil pass0 (pa_cons (pv 9) (pa_cons (pe_op op_catA (pv 6) (pe_tup (pa_cons (pv 8) pa_nil))) (pa_cons (pv 7) pa_nil)))))
          (pss_one (ps_if (pt_cmp (pc_notN (pv 10))) (pss_one (ps_ret (pv 10))) pss_nil)))))))))
      (pss_one (ps_ret pe_non)), ?_⟩
    rw [faultD_eq] at k
    cases ht with
    | @tup b xs _ h tr =>
    have xl := tr.len
    refine ⟨_, rfl, b, xs, rfl, h, for_it (walk_enumT (K := K) (a := b) (xs := xs)) (fun i σ H2 => ∃ (v4 v5 v6 v7 v8 v9 v10 : Option V) (c2 : Ck), σ = [some (.ref a.p), some (.ref b), some (.ref wy), some (.ref ar), v4, v5, v6, v7, v8, v9, v10] ∧ CkAt K C H2 a vars c2.1 c2.2 ∧ ButC a H H2 ∧ Few c2 ∧
        faultL vars (recF vars d) as ts 0 c = faultL vars (recF vars d) as (ts.drop i) i c2)
      ⟨none, none, none, none, none, none, none, c, rfl, cA, ButC.refl _ _, fw, rfl⟩ (fun i σ H2 _ ⟨_, _, _, _, _, _, _, c2, _, _, b2, _⟩ => b2.tup cA h) ?_ ?_⟩
    · rintro i y σ H2 H3 hi ⟨v4, v5, v6, v7, v8, v9, v10, c2, rfl, k2, b2, f2, e2⟩ ⟨T, xi, y', rfl, nT, rfl, q1, q2⟩
      obtain rfl : V.int (i : Nat) = xi := Option.some.inj q1
      have q2 : xs[i]? = some y' := q2
      have sT := same_new (o := .tup [.int (i : Nat), y']) nT
      obtain ⟨t, q3, _⟩ := tr.get q2
      have il : i < ts.length := (List.getElem?_eq_some_iff.mp q3).1
      have ed : ts.drop i = t :: ts.drop (i + 1) := by
        rw [List.drop_eq_getElem_cons il]
        congr 1
        exact Option.some.inj ((List.getElem?_eq_getElem il).symm.trans q3)
      rw [ed] at e2
      have k3 := k2.same sT
      have b3 := b2.trans (ButC.of sT)
      have getY : ∀ {H' : Hp} {c' : Ck}, CkAt K C H' a vars c'.1 c'.2 → ButC a H H' → TrAt K H' y' t := fun {H' c'} kc bc => by
        obtain ⟨t', q4, ty⟩ := TrAll.get (tr.but bc cA kc) q2
        obtain rfl : t = t' := Option.some.inj (q3.symm.trans q4)
        exact ty
      refine ⟨T, _, rfl, SqT.of upd_same, rfl, _, _, rfl, _, _, rfl, rfl, ?_⟩
      generalize upd H2 T (.tup [.int (i : Nat), y']) = H3 at k3 b3 sT ⊢
      -- here
      refine ⟨fun σ H4 => ∃ hw : Addr, σ = [some (.ref a.p), some (.ref b), some (.ref wy), some (.ref ar), some (.int (i : Nat)), some y', some (.ref hw), v7, v8, v9, v10] ∧ SqT K H4 hw (wayV (w0 ++ [i])) ∧ CkAt K C H4 a vars c2.1 c2.2 ∧ ButC a H H4, ?_, ?_⟩
      · refine ⟨_, rfl, _, rfl, (by show 1 ≤ sizeLine; decide), ?_⟩
        refine cat_one (X := (cxOf CX0 P w K mg base nFault "Check.fault_in" (defScope sFault) f cdv A outer s H E).nox) (b3.tup cA sw) (by rw [way_len]; omega) fun q H4 s4 hq => ?_
        rw [← way_snoc] at hq
        exact ⟨q, rfl, hq, k3.same s4, b3.trans (ButC.of s4)⟩
      rintro σ H4 ⟨hw, rfl, hs, k4, b4⟩
      clear k3 b3 sT
      obtain ⟨⟨dx, ob⟩, dc, _⟩ := id k4
      -- takes
      refine ⟨fun σ H5 => ∃ m : Km, σ = [some (.ref a.p), some (.ref b), some (.ref wy), some (.ref ar), some (.int (i : Nat)), some y', some (.ref hw), v7, v8, v9, v10] ∧ takesT vars t as c2.1 (c2.2 + 1) = (true, m) ∧ CkAt K C H5 a vars m (c2.2 + 1) ∧ ButC a H H5 ∧ SqT K H5 hw (wayV (w0 ++ [i])), ?_, ?_⟩
      · refine ⟨_, rfl, a.p, dx, _, rfl, ob, cfs_no a _ (by decide +kernel) (by decide +kernel) (by decide +kernel), _, rfl, _, rfl, a, y', ar, vars, c2.1, c2.2, t, as, rfl, k4, by have := f2.1; have := f2.2; omega, getY k4 b4, b4.tup cA sa, fun H5 k5 b5 => ⟨_, rfl, ?_⟩⟩
        have b45 := b4.trans b5
        have hs5 := b5.tup k4 hs
        cases e5 : takesT vars t as c2.1 (c2.2 + 1) with
        | mk bt m =>
        rw [e5] at k5
        cases bt with
        | true => exact iteF ⟨m, rfl, rfl, k5, b45, hs5⟩
        | false =>
          have e6 : faultL vars (recF vars d) as ts 0 c = (some [i], (m, c2.2 + 1)) := by
            rw [e2]
            show (match takesT vars t as c2.1 (c2.2 + 1) with
              | (false, m) => (some [i], (m, c2.2 + 1))
              | (true, m) => match blocksIn (fun b c => recF vars d b (as ++ [wordS t]) c) (blocksT t) 0 (m, c2.2 + 1) with
                | (some w, c') => (some (i :: w), c')
                | (none, c') => faultL vars (recF vars d) as (ts.drop (i + 1)) (i + 1) c') = _
            rw [e5]
          rw [e6] at k
          exact iteT ⟨_, rfl, (k H5 k5 b45).2 [i] hw rfl hs5⟩
      rintro σ H5 ⟨m, rfl, e5, k5, b5, hs5⟩
      obtain ⟨n16, a4, ml, x, rest, ks, rfl, ek, ef⟩ := takes_few e5 (by have := f2.2; omega)
      have rl : rest.length = ks.length := by
        unfold fitsT at ef
        exact of_decide_eq_true (Bool.and_eq_true_iff.mp ef).1
      have kf := kinds_few ek
      -- inside
      refine ⟨fun σ H6 => ∃ ins : Addr, σ = [some (.ref a.p), some (.ref b), some (.ref wy), some (.ref ar), some (.int (i : Nat)), some y', some (.ref hw), some (.ref ins), v8, v9, v10] ∧ CkAt K C H6 a vars m (c2.2 + 1) ∧ ButC a H H6 ∧ SqT K H6 hw (wayV (w0 ++ [i])) ∧ SqT K H6 ins ((as ++ [x]).map V.str), ?_, ?_⟩
      · have ty5 := getY (c' := (m, c2.2 + 1)) k5 b5
        cases ty5 with
        | @tup yb ys _ hy ty =>
        cases ty with
        | @cons y0 yr _ _ h0 r0 =>
        cases h0 with
        | str _ hx =>
        refine ⟨_, rfl, _, rfl, yb, _, 0, _, rfl, rfl, hy, at_of (j := 0) rfl rfl, (by show 1 ≤ sizeLine; decide), ?_⟩
        refine cat_one (X := (cxOf CX0 P w K mg base nFault "Check.fault_in" (defScope sFault) f cdv A outer s H E).nox) (b5.tup cA sa) (by rw [List.length_map]; omega) fun q H6 s6 hq => ?_
        refine ⟨q, rfl, k5.same s6, b5.trans (ButC.of s6), sqt_same s6 hs5, ?_⟩
        rw [List.map_append]
        exact hq
      rintro σ H6 ⟨ins, rfl, k6, b6, hs6, si6⟩
      -- the blocks
      cases d with
      | zero => omega
      | succ d =>
      have eL : faultL vars (recF vars (d + 1)) as ts 0 c = (match blocksIn (fun b c => faultD vars d b (as ++ [x]) c) ((rest.filter isTup).map tupTs) 0 (m, c2.2 + 1) with
          | (some w, c') => (some (i :: w), c')
          | (none, c') => faultL vars (recF vars (d + 1)) as (ts.drop (i + 1)) (i + 1) c') := by
        rw [e2]
        show (match takesT vars (.tup (.str x :: rest)) as c2.1 (c2.2 + 1) with
          | (false, m) => (some [i], (m, c2.2 + 1))
          | (true, m) => match blocksIn (fun b c => faultD vars d b (as ++ [x]) c) ((rest.filter isTup).map tupTs) 0 (m, c2.2 + 1) with
            | (some w, c') => (some (i :: w), c')
            | (none, c') => faultL vars (recF vars (d + 1)) as (ts.drop (i + 1)) (i + 1) c') = _
        rw [e5]
      refine ⟨_, rfl, y', (.str x :: rest), rfl, getY (c' := (m, c2.2 + 1)) k6 b6, by rw [List.length_cons]; omega, fun D bs H7 s7 nD eD tb => ?_⟩
      have tb : TrAll K H7 bs (rest.filter isTup) := tb
      have k7 := k6.same s7
      have b7 := b6.trans (ButC.of s7)
      have hs7 := sqt_same s7 hs6
      have si7 := sqt_same s7 si6
      refine ⟨D, bs, rfl, SqL.of eD, for_it (walk_enum (K := K) (a := D) (xs := bs)) (fun j σ H8 => ∃ (v8 v9 v10 : Option V) (c3 : Ck), σ = [some (.ref a.p), some (.ref b), some (.ref wy), some (.ref ar), some (.int (i : Nat)), some y', some (.ref hw), some (.ref ins), v8, v9, v10] ∧ CkAt K C H8 a vars c3.1 c3.2 ∧ ButC a H7 H8 ∧ Few c3 ∧
          blocksIn (fun b c => faultD vars d b (as ++ [x]) c) ((rest.filter isTup).map tupTs) 0 (m, c2.2 + 1) = blocksIn (fun b c => faultD vars d b (as ++ [x]) c) (((rest.filter isTup).map tupTs).drop j) j c3)
        ⟨v8, v9, v10, (m, c2.2 + 1), rfl, k7, ButC.refl _ _, ⟨n16, ml⟩, rfl⟩ (fun j σ H8 _ ⟨_, _, _, c3, _, _, b8, _⟩ => b8.lst k7 (SqL.of eD)) ?_ ?_⟩
      · rintro j z σ H8 H9 hj ⟨v8, v9, v10, c3, rfl, k8, b8, f3, e3⟩ ⟨U, xj, z', rfl, nU, rfl, q5, q6⟩
        obtain rfl : V.int (j : Nat) = xj := Option.some.inj q5
        have q6 : bs[j]? = some z' := q6
        have sU := same_new (o := .tup [.int (j : Nat), z']) nU
        have k9 := k8.same sU
        have b9 := b8.trans (ButC.of sU)
        obtain ⟨u, q7, tz⟩ := TrAll.get (tb.but b9 k7 k9) q6
        have iu : isTup u = true := (List.mem_filter.mp (List.mem_of_getElem? q7)).2
        obtain ⟨us, rfl⟩ : ∃ us, u = .tup us := by
          cases u with
          | tup us => exact ⟨us, rfl⟩
          | _ => cases iu
        have q8 : ((rest.filter isTup).map tupTs)[j]? = some us := by rw [List.getElem?_map, q7]; rfl
        have jl : j < ((rest.filter isTup).map tupTs).length := (List.getElem?_eq_some_iff.mp q8).1
        have ed3 : ((rest.filter isTup).map tupTs).drop j = us :: ((rest.filter isTup).map tupTs).drop (j + 1) := by
          rw [List.drop_eq_getElem_cons jl]
          congr 1
          exact Option.some.inj ((List.getElem?_eq_getElem jl).symm.trans q8)
        rw [ed3] at e3
        obtain ⟨⟨dx9, ob9⟩, dc9, _⟩ := id k9
        refine ⟨U, _, rfl, SqT.of upd_same, rfl, _, _, rfl, _, _, rfl, rfl, ?_⟩
        generalize upd H8 U (.tup [.int (j : Nat), z']) = H9 at k9 b9 tz ob9 dc9 ⊢
        refine ⟨_, rfl, a.p, dx9, _, rfl, ob9, cfs_no a _ (by decide +kernel) (by decide +kernel) (by decide +kernel), _, rfl, _, rfl, _, rfl, (by show 1 ≤ sizeLine; decide), ?_⟩
        refine cat_one (X := (cxOf CX0 P w K mg base nFault "Check.fault_in" (defScope sFault) f cdv A outer s H E).nox) (b9.tup k7 hs7) (by rw [way_len, List.length_append]; simp; omega) fun q H10 s10 hq => ?_
        rw [← way_snoc] at hq
        have k10 := k9.same s10
        have b10 := b9.trans (ButC.of s10)
        refine ⟨_, rfl, a, z', q, ins, vars, c3, us, w0 ++ [i] ++ [j], as ++ [x], rfl, k10, f3, tz.same s10, hq, by simp; omega, b10.tup k7 si7, by simp; omega, fun H11 k11 b11 => ?_⟩
        have b711 := b10.trans b11
        cases e11 : faultD vars d us (as ++ [x]) c3 with
        | mk r c4 =>
        rw [e11] at k11
        have e12 : blocksIn (fun b c => faultD vars d b (as ++ [x]) c) ((rest.filter isTup).map tupTs) 0 (m, c2.2 + 1) = (match (r, c4) with
            | (some w, c') => (some (j :: w), c')
            | (none, c') => blocksIn (fun b c => faultD vars d b (as ++ [x]) c) (((rest.filter isTup).map tupTs).drop (j + 1)) (j + 1) c') := by
          rw [e3, ← e11]
          rfl
        refine ⟨fun er fw4 => ?_, fun w4 t4 er ht4 => ?_⟩
        · have er : r = none := er
          subst er
          refine ⟨_, rfl, _, rfl, iteF ⟨_, _, _, c4, rfl, k11, b711, fw4, e12⟩⟩
        · have er : r = some w4 := er
          subst er
          have e12 : blocksIn (fun b c => faultD vars d b (as ++ [x]) c) ((rest.filter isTup).map tupTs) 0 (m, c2.2 + 1) = (some (j :: w4), c4) := e12
          rw [e12] at eL
          have eL : faultL vars (recF vars (d + 1)) as ts 0 c = (some (i :: j :: w4), c4) := eL
          rw [eL] at k
          refine ⟨_, rfl, _, rfl, iteT ⟨_, rfl, (k H11 k11 (b7.trans b711)).2 _ t4 rfl ?_⟩⟩
          have : w0 ++ [i] ++ [j] ++ w4 = w0 ++ (i :: j :: w4) := by simp
          rw [this] at ht4
          exact ht4
      · rintro σ H8 ⟨v8, v9, v10, c3, rfl, k8, b8, f3, e3⟩
        have e0 : ((rest.filter isTup).map tupTs).drop bs.length = [] := by
          rw [tb.len, ← List.length_map (f := tupTs), List.drop_length]
        rw [e0] at e3
        have e3 : blocksIn (fun b c => faultD vars d b (as ++ [x]) c) ((rest.filter isTup).map tupTs) 0 (m, c2.2 + 1) = (none, c3) := e3
        rw [e3] at eL
        exact ⟨_, _, _, _, _, _, _, c3, rfl, k8, b7.trans b8, f3, eL⟩
    · rintro σ H2 ⟨v4, v5, v6, v7, v8, v9, v10, c2, rfl, k2, b2, f2, e2⟩
      have e0 : ts.drop xs.length = [] := by rw [xl, List.drop_length]
      rw [e0] at e2
      have e2 : faultL vars (recF vars d) as ts 0 c = (none, c2) := e2
      rw [e2] at k
      exact (k H2 k2 b2).1 rfl f2
end
end BK



set_option Elab.async false
set_option maxRecDepth 100000
set_option maxHeartbeats 2000000
/-! fault_of_pieces. -/
namespace BK
open PySem PySem.Spec PyProof.Rows L2 RZ ET
inductive Place where
  | empty
  | vars
  | at_ (i : Nat)
  | way (i : Nat) (w : List Nat)
def intsT (w : List Nat) : List Tr := w.map fun n : Nat => Tr.int (n : Int)
def placeT : Place → Tr
  | .empty => .tup []
  | .vars => .tup [.str "vars"]
  | .at_ i => .tup [.int (i : Nat)]
  | .way i w => .tup [.int (i : Nat), .tup (intsT w)]
def resT : Option Place → Tr
  | none => .non
  | some p => placeT p
def paramsOf : Tr → Tr
  | .tup [_, p, _] => p
  | _ => .non
def blockOf : Tr → List Tr
  | .tup [_, _, .tup ts] => ts
  | _ => []
def piecesL (vars : List Str) : List Tr → Nat → List Str → Option Place
  | [], _, _ => none
  | t :: r, i, ns => if tripleT t = true ∧ wordS t ∉ ns then
      match (faultD vars 5 (blockOf t) [] (kindsP (paramsOf t), 0)).1 with
      | some w => some (.way i w)
      | none => piecesL vars r (i + 1) (ns ++ [wordS t])
    else some (.at_ i)
theorem triple_shape {t : Tr} (h : tripleT t = true) : ∃ n p bts, t = .tup [.str n, p, .tup bts] ∧ paramsT p = true := by
  unfold tripleT at h
  split at h
  · rename_i n p b
    rw [Bool.and_eq_true, Bool.and_eq_true] at h
    obtain ⟨⟨h1, h2⟩, h3⟩ := h
    obtain ⟨s, rfl⟩ := name_str h1
    cases b with
    | tup bts => exact ⟨s, p, bts, rfl, h2⟩
    | _ => cases h3
  · cases h
def spPieces (K : PySem.W.Frag) : Sp := fun vs H Q _ => ∃ va pa vars xs ts, vs = [.ref va, .ref pa] ∧ SqT K H va (vars.map V.str) ∧ SqT K H pa xs ∧ TrAll K H xs ts ∧ ts.length ≤ 900 ∧ ∀ v H', Same H H' → TrAt K H' v (resT (piecesL vars ts 0 [])) → Q v H'
abbrev sPieces : Stmt := top 62
theorem scPieces : FnScope ["variables", "pieces", "names", "number", "piece", "way"] ["variables", "pieces"] (defScope sPieces) := ⟨rfl, rfl, rfl, by decide +kernel, rfl, by decide +kernel, by decide +kernel⟩
theorem wayV_tr {K : PySem.W.Frag} {H : Hp} : ∀ w : List Nat, TrAll K H (wayV w) (intsT w)
  | [] => .nil
  | n :: r => .cons (.int _) (wayV_tr r)
section
variable {P : Program} {w : World} {K : PySem.W.Frag} {mg : Str → Option Value} {base : Heap}
theorem fn_false {k : Nat} {f : Addr} {fd : FuncData} {ps : List Str} (bd : ∀ vs : List V, True) : FnOk P w K mg base CX0 k f fd ps (fun _ _ _ _ => False) := by
  constructor
  all_goals intros
  all_goals first | contradiction | (exfalso; assumption)
theorem ok_fault {C f fT fB : Addr} {fd fdT fdB : FuncData} (F : Fun K "fault_in" "Check.fault_in" sFault f fd) (X : TxK K mg C) (mE : mg "enumerate" = none)
    (GT : FnOk P w K mg base CX0 8 fT fdT ["self", "statement", "around"] (spTakes K C)) (bT : Binds K fdT ["self", "statement", "around"] []) (mT : Meth K C "takes" fT)
    (GB : FnOk P w K mg base CX0 1 fB fdB ["statement"] (spBlocks K)) (bB : Binds K fdB ["statement"] []) (gB : mg "blocks_of" = some (.ref fB)) (kB : PySem.W.keepIn K (.ref fB) = true)
    (bF : Binds K fd ["self", "block", "way", "around"] []) (mF : Meth K C "fault_in" f) : ∀ d, FnOk P w K mg base CX0 (8 + d + 1) f fd ["self", "block", "way", "around"] (spFault K C d)
  | 0 => ok_fault_step F X mE GT bT mT GB bB gB kB bF mF 0 (fn_false fun _ => trivial)
  | d + 1 => ok_fault_step F X mE GT bT mT GB bB gB kB bF mF (d + 1) (ok_fault F X mE GT bT mT GB bB gB kB bF mF d)
end
end BK



set_option Elab.async false
set_option maxRecDepth 100000
set_option maxHeartbeats 2000000
namespace BK
open PySem PySem.Spec PyProof.Rows L2 RZ ET
section
variable {P : Program} {w : World} {K : PySem.W.Frag} {mg : Str → Option Value} {base : Heap}
theorem ok_pieces {C f fT fI fF : Addr} {fd fdT fdI fdF : FuncData} (F : Fun K "fault_of_pieces" "fault_of_pieces" sPieces f fd) (X : TxK K mg C) (mE : mg "enumerate" = none)
    (GT : FnOk P w K mg base CX0 4 fT fdT ["thing"] (spOf tripleT K)) (bT : Binds K fdT ["thing"] []) (gT : mg "is_triple" = some (.ref fT)) (kT : PySem.W.keepIn K (.ref fT) = true)
    (M : Mk K C fI) (GI : FnOk P w K mg base CX0 1 fI fdI ["self", "variables", "params"] (spCInit K C)) (bI : Binds K fdI ["self", "variables", "params"] [])
    (GF : FnOk P w K mg base CX0 14 fF fdF ["self", "block", "way", "around"] (spFault K C 5)) (bF : Binds K fdF ["self", "block", "way", "around"] []) (mF : Meth K C "fault_in" fF) :
    FnOk P w K mg base CX0 15 f fd ["variables", "pieces"] (spPieces K) := by
  refine F.ok scPieces (fun vs H Q E h => ?_) (fun cdv A outer s H vs Q E hr h => ?_)
  · obtain ⟨va, pa, vars, xs, ts, rfl, _⟩ := h
    rfl
  · obtain ⟨va, pa, vars, xs, ts, rfl, sv, sp, tr, tl, k⟩ := h
    have hr4 : Room 4 _ := hr.mono (by decide)
    have hr2 : Room 2 _ := hr.mono (by decide)
    refine ⟨_, pss_cons (ps_set (i := 2) scPieces.nd rfl (Or.inl rfl) (pe_lst pa_nil))
      (pss_cons (ps_for PassesOwn.never rfl (pi_enumT (by rfl) mE (pa_cons (pv 1) pa_nil))
        (pg_tup rfl (pgs_cons (pg_name (i := 3) scPieces.nd rfl (Or.inl rfl)) (pgs_cons (pg_name (i := 4) scPieces.nd rfl (Or.inl rfl)) pgs_nil)))
        (C8.pss_cut (ps_if (PW.pt (pw_or (pt_not (pt_val (pe_call GT hr4 rfl gT kT bT .nil pass0 (pa_cons (pv 4) pa_nil))))
            (pw_or1 (pt_cmpR op_in_seq (pe_ix ix_tup (pv 4) pe_int (fun _ _ => rfl)) (pv 2) rfl)))) (pss_one (ps_ret (pe_tup (pa_cons (pv 3) pa_nil)))) pss_nil)
        (C8.pss_cut (ps_expr (pe_bm PySem.F.plainAttrs_list PySem.F.slot_list_append PySem.F.type_list_append mt_append (pv 2) (pa_cons (pe_ix ix_tup (pv 4) pe_int (fun _ _ => rfl)) pa_nil)))
        (pss_cons (ps_set (i := 5) scPieces.nd rfl (Or.inl rfl) (pe_meth (pe_make M GI hr2 rfl X.mgC bI .nil pass0 (pa_cons (pv 0) (pa_cons (pe_ix ix_tup (pv 4) pe_int (fun _ _ => rfl)) pa_nil))) X.cl mF GF hr bF .nil pass0
            (pa_cons (pe_ix ix_tup (pv 4) pe_int (fun _ _ => rfl)) (pa_cons (pe_tup pa_nil) (pa_cons (pe_tup pa_nil) pa_nil)))))
        (pss_one (ps_if (pt_cmp (pc_notN (pv 5))) (pss_one (ps_ret (pe_tup (pa_cons (pv 3) (pa_cons (pv 5) pa_nil))))) pss_nil))))))
      (pss_one (ps_ret pe_non))), ?_⟩
    refine ⟨Nat.zero_le _, fun nl nnl => ?_⟩
    have s0 := same_new (o := .lst []) nnl
    refine ⟨_, rfl, pa, xs, rfl, sqt_same s0 sp, for_it (walk_enumT (K := K) (a := pa) (xs := xs)) (fun i σ H2 => ∃ (v3 v4 v5 : Option V) (ns : List Str), σ = [some (.ref va), some (.ref pa), some (.ref nl), v3, v4, v5] ∧ Same H H2 ∧ H2 nl = some (.lst (ns.map V.str)) ∧ ns.length = i ∧ piecesL vars ts 0 [] = piecesL vars (ts.drop i) i ns)
      ⟨none, none, none, [], rfl, s0, upd_same, rfl, rfl⟩ (fun i σ H2 _ ⟨_, _, _, _, _, s2, _⟩ => sqt_same s2 sp) ?_ ?_⟩
    · rintro i y σ H2 H3 hi ⟨v3, v4, v5, ns, rfl, s2, en, nsl, e2⟩ ⟨T, xi, y', rfl, nT, rfl, q1, q2⟩
      obtain rfl : V.int (i : Nat) = xi := Option.some.inj q1
      have q2 : xs[i]? = some y' := q2
      have sT := same_new (o := .tup [.int (i : Nat), y']) nT
      obtain ⟨t, q3, _⟩ := tr.get q2
      have il : i < ts.length := (List.getElem?_eq_some_iff.mp q3).1
      have ed : ts.drop i = t :: ts.drop (i + 1) := by
        rw [List.drop_eq_getElem_cons il]
        congr 1
        exact Option.some.inj ((List.getElem?_eq_getElem il).symm.trans q3)
      rw [ed] at e2
      have getY : ∀ {H' : Hp}, Same H H' → TrAt K H' y' t := fun {H'} s' => by
        obtain ⟨t', q4, ty⟩ := (tr.same s').get q2
        obtain rfl : t = t' := Option.some.inj (q3.symm.trans q4)
        exact ty
      refine ⟨T, _, rfl, SqT.of upd_same, rfl, _, _, rfl, _, _, rfl, rfl, ?_⟩
      have s3 := s2.trans sT
      have en3 := sT _ _ en
      generalize upd H2 T (.tup [.int (i : Nat), y']) = H3 at s3 en3 ⊢
      clear sT
      have bad : ∀ H4, Same H H4 → ¬ (tripleT t = true ∧ wordS t ∉ ns) → 1 ≤ sizeLine ∧ ∀ p, H4 p = none → Q (.ref p) (upd H4 p (.tup [.int (i : Nat)])) := fun H4 s4 hn => by
        refine ⟨by decide, fun p np => k _ _ (s4.trans (same_new np)) ?_⟩
        have e : piecesL vars ts 0 [] = some (.at_ i) := by
          rw [e2]
          show (if tripleT t = true ∧ wordS t ∉ ns then _ else some (Place.at_ i)) = _
          rw [if_neg hn]
        rw [e]
        exact .tup (SqT.of upd_same) (.cons (.int _) .nil)
      -- is it a triple of a new name?
      refine ⟨fun σ H4 => σ = [some (.ref va), some (.ref pa), some (.ref nl), some (.int (i : Nat)), some y', v5] ∧ Same H H4 ∧ H4 nl = some (.lst (ns.map V.str)) ∧ tripleT t = true ∧ wordS t ∉ ns, ?_, ?_⟩
      · refine ⟨_, rfl, y', t, rfl, getY s3, fun H4 s4 => ⟨_, rfl, ?_⟩⟩
        have s34 := s3.trans s4
        cases et : tripleT t with
        | false => exact iteT ⟨_, rfl, bad H4 s34 fun z => by rw [et] at z; cases z.1⟩
        | true =>
          refine iteF ?_
          obtain ⟨n, p, bts, rfl, hp⟩ := triple_shape et
          have ty := getY s34
          cases ty with
          | @tup b ys _ hb tb =>
          obtain ⟨u0, g0, t0⟩ := tb.get' (i := 0) (t := .str n) rfl
          cases t0 with
          | str _ z0 =>
          refine ⟨_, rfl, b, ys, 0, _, rfl, rfl, hb, at_of (j := 0) rfl g0, _, rfl, nl, _, rfl, .inl (SqL.of (s4 _ _ en3)), rfl, flat_txts ns, _, rfl, ?_⟩
          rw [in_txts]
          by_cases hm : n ∈ ns
          · rw [decide_eq_true hm]
            exact iteT ⟨_, rfl, bad H4 s34 fun z => z.2 hm⟩
          · rw [decide_eq_false hm]
            exact iteF ⟨rfl, s34, s4 _ _ en3, rfl, hm⟩
      rintro σ H4 ⟨rfl, s4, en4, et, hm⟩
      obtain ⟨n, p, bts, rfl, hp⟩ := triple_shape et
      -- names.append
      refine ⟨fun σ H5 => σ = [some (.ref va), some (.ref pa), some (.ref nl), some (.int (i : Nat)), some y', v5] ∧ Same H H5 ∧ H5 nl = some (.lst ((ns ++ [n]).map V.str)), ?_, ?_⟩
      · have ty := getY s4
        cases ty with
        | @tup b ys _ hb tb =>
        obtain ⟨u0, g0, t0⟩ := tb.get' (i := 0) (t := .str n) rfl
        cases t0 with
        | str _ z0 =>
        refine ⟨_, rfl, .inl ⟨rfl, _, SqL.of en4⟩, _, rfl, b, ys, 0, _, rfl, rfl, hb, at_of (j := 0) rfl g0, nl, _, _, rfl, rfl, en4, small1000 (by rw [List.length_map]; omega), rfl, fun b o e => ?_, ?_⟩
        · rw [upd_ne (ne_of_none e nnl)]
          exact s4 b o e
        · rw [upd_same, List.map_append]
          rfl
      rintro σ H5 ⟨rfl, s5, en5⟩
      -- Check(..).fault_in(..)
      have ty := getY s5
      cases ty with
      | @tup b ys _ hb tb =>
      obtain ⟨u1, g1, t1⟩ := tb.get' (i := 1) (t := p) rfl
      obtain ⟨u2, g2, t2⟩ := tb.get' (i := 2) (t := .tup bts) rfl
      refine ⟨_, rfl, _, rfl, b, ys, 1, u1, rfl, rfl, hb, at_of (j := 1) rfl g1, fun x dx nx ndx nxd => ?_⟩
      have s6 : Same H5 (upd (upd H5 dx (.own x)) x (.ins C dx [])) := fun b o e => by
        rw [upd_ne (ne_of_none e nx), upd_ne (ne_of_none e ndx)]
        exact e
      refine ⟨x, dx, va, u1, vars, p, rfl, upd_same, sqt_same (s5.trans s6) sv, t1.same s6, hp, fun d H7 nd c7 kp => ⟨rfl, ?_⟩⟩
      have s57 : Same H5 H7 := fun b o e => kp b o (s6 b o e) (ne_of_none e nx)
      have nd5 : H5 d = none := s6.free nd
      obtain ⟨⟨dx7, ob7⟩, dc7, _⟩ := id c7
      refine ⟨x, dx7, _, rfl, ob7, cfs_no ⟨x, va, d⟩ 0 (by decide +kernel) (by decide +kernel) (by decide +kernel), _, rfl, b, ys, 2, u2, rfl, rfl, sqt_same s57 hb, at_of (j := 2) rfl g2, Nat.zero_le _, fun e1 ne1 => ⟨Nat.zero_le _, fun e2' ne2 => ?_⟩⟩
      have sE := (same_new (o := .tup []) ne1).trans (same_new (o := .tup []) ne2)
      have s59 := s57.trans sE
      refine ⟨⟨x, va, d⟩, u2, e1, e2', vars, (kindsP p, 0), bts, [], [], rfl, c7.same sE, ⟨Nat.zero_le _, by have := kindsP_len hp; show (kindsP p).length ≤ 10 + 4 * 0; omega⟩, t2.same s59, SqT.of (by rw [upd_ne (ne_of_none upd_same ne2), upd_same]; rfl), by decide, SqT.of upd_same, rfl, fun H10 c10 b10 => ?_⟩
      have s510 : Same H5 H10 := fun b o e => b10 b o (s59 b o e) (ne_of_none e nx) (ne_of_none e nd5)
      have sH := s5.trans s510
      have step : piecesL vars ts 0 [] = (match (faultD vars 5 bts [] (kindsP p, 0)).1 with
          | some w => some (.way i w)
          | none => piecesL vars (ts.drop (i + 1)) (i + 1) (ns ++ [n])) := by
        rw [e2]
        show (if tripleT (.tup [.str n, p, .tup bts]) = true ∧ n ∉ ns then _ else _) = _
        rw [if_pos ⟨et, hm⟩]
        rfl
      refine ⟨fun er fw => ?_, fun w4 t4 er ht4 => ?_⟩
      · have er : (faultD vars 5 bts [] (kindsP p, 0)).1 = none := er
        rw [er] at step
        refine ⟨_, rfl, _, rfl, iteF ⟨_, _, _, ns ++ [n], rfl, sH, s510 _ _ en5, by rw [List.length_append, nsl]; rfl, step⟩⟩
      · have er : (faultD vars 5 bts [] (kindsP p, 0)).1 = some w4 := er
        rw [er] at step
        have step : piecesL vars ts 0 [] = some (.way i w4) := step
        refine ⟨_, rfl, _, rfl, iteT ⟨_, rfl, _, rfl, (show 2 ≤ sizeLine by decide), fun q nq => k _ _ (sH.trans (same_new nq)) ?_⟩⟩
        rw [step]
        have ht5 : SqT K H10 t4 (wayV w4) := ht4
        exact .tup (SqT.of upd_same) (.cons (.int _) (.cons (.tup (sqt_same (same_new nq) ht5) (wayV_tr w4)) .nil))
    · rintro σ H2 ⟨v3, v4, v5, ns, rfl, s2, _, _, e2⟩
      have e0 : ts.drop xs.length = [] := by rw [tr.len, List.drop_length]
      rw [e0] at e2
      have q := k .non H2 s2
      rw [e2] at q
      exact q .non
end
end BK



set_option Elab.async false
set_option maxRecDepth 100000
set_option maxHeartbeats 2000000
/-! fault_of, need_book, is_book. -/
namespace BK
open PySem PySem.Spec PyProof.Rows L2 RZ ET
def faultT : Tr → Option Place
  | .tup [.tup vs, .tup ps] => if 6 < ps.length then some .empty else if 1 ≤ vs.length ∧ vs.length ≤ 3 ∧ diffT vs = true then piecesL (texts vs) ps 0 [] else some .vars
  | _ => some .empty
def spFaultOf (K : PySem.W.Frag) : Sp := fun vs H Q _ => ∃ v t, vs = [v] ∧ TrAt K H v t ∧ ∀ u H', Same H H' → TrAt K H' u (resT (faultT t)) → Q u H'
abbrev sFaultOf : Stmt := top 63
abbrev sNeed : Stmt := top 64
abbrev sBadInit : Stmt := inClass (top 2) 0
theorem scFaultOf : FnScope ["thing", "variables", "pieces"] ["thing"] (defScope sFaultOf) := ⟨rfl, rfl, rfl, by decide +kernel, rfl, by decide +kernel, by decide +kernel⟩
theorem scNeed : FnScope ["thing", "place"] ["thing"] (defScope sNeed) := ⟨rfl, rfl, rfl, by decide +kernel, rfl, by decide +kernel, by decide +kernel⟩
theorem scBadInit : FnScope ["self", "place"] ["self", "place"] (defScope sBadInit) := ⟨rfl, rfl, rfl, by decide +kernel, rfl, by decide +kernel, by decide +kernel⟩
structure MostB (mg : Str → Option Value) : Prop where
  mp : ∃ t, mg "MOST_PIECES" = some (.int 6 t)
  mv : ∃ t, mg "MOST_VARS" = some (.int 3 t)
def isBookT (t : Tr) : Bool := (faultT t).isNone
section
variable {P : Program} {w : World} {K : PySem.W.Frag} {mg : Str → Option Value} {base : Heap}
theorem ok_faultOf {f fT fD fP : Addr} {fd fdT fdD fdP : FuncData} (F : Fun K "fault_of" "fault_of" sFaultOf f fd) (T : Forms mg) (M : MostB mg)
    (GT : FnOk P w K mg base CX0 1 fT fdT ["thing", "count"] (spTuple K)) (bT : Binds K fdT ["thing", "count"] []) (gT : mg "is_tuple" = some (.ref fT)) (kT : PySem.W.keepIn K (.ref fT) = true)
    (GD : FnOk P w K mg base CX0 2 fD fdD ["things"] (spDiff K)) (bD : Binds K fdD ["things"] []) (gD : mg "are_different_names" = some (.ref fD)) (kD : PySem.W.keepIn K (.ref fD) = true)
    (GP : FnOk P w K mg base CX0 15 fP fdP ["variables", "pieces"] (spPieces K)) (bP : Binds K fdP ["variables", "pieces"] []) (gP : mg "fault_of_pieces" = some (.ref fP)) (kP : PySem.W.keepIn K (.ref fP) = true) :
    FnOk P w K mg base CX0 16 f fd ["thing"] (spFaultOf K) := by
  refine F.ok scFaultOf (fun vs H Q E h => ?_) (fun cdv A outer s H vs Q E hr h => ?_)
  · obtain ⟨v, t, rfl, _⟩ := h
    rfl
  · obtain ⟨v, t, rfl, ht, k⟩ := h
    obtain ⟨t1, gM⟩ := M.mp
    obtain ⟨t2, gV⟩ := M.mv
    have hr1 : Room 1 _ := hr.mono (by decide)
    have hr2 : Room 2 _ := hr.mono (by decide)
    refine ⟨_, C8.pss_cut (ps_if (PW.pt (pw_or (pt_not (pt_val (pe_call GT hr1 rfl gT kT bT .nil pass0 (pa_cons (pv 0) (pa_cons pe_int pa_nil)))))
        (pw_or (pt_not (pt_val (pe_callB call_isi (by rfl) T.isi boot_isinstance (pa_cons (pe_ix ix_tup (pv 0) pe_int (fun _ _ => rfl)) (pa_cons (pe_bltn (v := .ty "tuple") (u := .type "tuple") (by rfl) T.tuple (by decide +kernel) rfl) pa_nil)))))
        (pw_or1 (pt_not (pt_val (pe_callB call_isi (by rfl) T.isi boot_isinstance (pa_cons (pe_ix ix_tup (pv 0) pe_int (fun _ _ => rfl)) (pa_cons (pe_bltn (v := .ty "tuple") (u := .type "tuple") (by rfl) T.tuple (by decide +kernel) rfl) pa_nil))))))))) (pss_one (ps_ret (pe_tup pa_nil))) pss_nil)
      (pss_cons (ps_asg (pv 0) (pg_tup rfl (pgs_cons (pg_name (i := 1) scFaultOf.nd rfl (Or.inl rfl)) (pgs_cons (pg_name (i := 2) scFaultOf.nd rfl (Or.inl rfl)) pgs_nil))))
      (pss_cons (ps_if (pt_cmpR op_gt (pe_callB call_len_seq (by rfl) T.len boot_len (pa_cons (pv 2) pa_nil)) (pe_glob (v := .int 6) rfl gM ⟨_, rfl⟩) rfl) (pss_one (ps_ret (pe_tup pa_nil))) pss_nil)
      (C8.pss_cut (ps_if (PW.pt (pw_or (pt_not (pt_chain op_le op_le pe_int (pe_callB call_len_seq (by rfl) T.len boot_len (pa_cons (pv 1) pa_nil)) (pe_glob (v := .int 3) rfl gV ⟨_, rfl⟩)))
        (pw_or1 (pt_not (pt_val (pe_call GD hr2 rfl gD kD bD .nil pass0 (pa_cons (pv 1) pa_nil))))))) (pss_one (ps_ret (pe_tup (pa_cons pe_str pa_nil)))) pss_nil)
      (pss_one (ps_ret (pe_call GP hr rfl gP kP bP .nil pass0 (pa_cons (pv 1) (pa_cons (pv 2) pa_nil)))))))), ?_⟩
    have emp : ∀ H1, Same H H1 → faultT t = some .empty → ([] : List V).length ≤ sizeLine ∧ ∀ p, H1 p = none → Q (.ref p) (upd H1 p (.tup [])) := fun H1 s1 e => by
      refine ⟨Nat.zero_le _, fun p np => k _ _ (s1.trans (same_new np)) ?_⟩
      rw [e]
      exact .tup (SqT.of upd_same) .nil
    refine ⟨fun σ H1 => ∃ (a va pa : Addr) (vs ps : List V) (tv tp : List Tr), σ = [some (.ref a), none, none] ∧ H1 = H ∧ t = .tup [.tup tv, .tup tp] ∧ SqT K H a [.ref va, .ref pa] ∧ SqT K H va vs ∧ TrAll K H vs tv ∧ SqT K H pa ps ∧ TrAll K H ps tp, ?_, ?_⟩
    · refine ⟨_, rfl, v, t, 2, rfl, ht, _, rfl, ?_⟩
      cases ht with
      | int i => exact iteT (emp H (fun _ _ e => e) rfl)
      | bl b => exact iteT (emp H (fun _ _ e => e) rfl)
      | str z hz => exact iteT (emp H (fun _ _ e => e) rfl)
      | non => exact iteT (emp H (fun _ _ e => e) rfl)
      | lst h => exact iteT (emp H (fun _ _ e => e) rfl)
      | dct h => exact iteT (emp H (fun _ _ e => e) rfl)
      | @tup a xs ts h tr =>
      by_cases l2 : ts.length = 2
      · obtain ⟨x1, x2, rfl⟩ : ∃ x1 x2, ts = [x1, x2] := by
          match ts, l2 with
          | [x1, x2], _ => exact ⟨x1, x2, rfl⟩
        refine iteF ?_
        cases tr with
        | @cons y1 _ _ _ h1 r1 =>
        cases r1 with
        | @cons y2 _ _ _ h2 r2 =>
        cases r2 with
        | nil =>
        refine ⟨_, rfl, a, _, 0, y1, rfl, rfl, h, at_of (j := 0) rfl rfl, y1, .ty "tuple", .type (tyT x1), .type "tuple", isTup x1, rfl, .ty "tuple", h1.ty, k_tup K x1, _, rfl, ?_⟩
        cases e1 : isTup x1 with
        | false =>
          refine iteT (emp H (fun _ _ e => e) ?_)
          cases x1 with
          | tup _ => cases e1
          | _ => rfl
        | true =>
          refine iteF ⟨_, rfl, a, _, 1, y2, rfl, rfl, h, at_of (j := 1) rfl rfl, y2, .ty "tuple", .type (tyT x2), .type "tuple", isTup x2, rfl, .ty "tuple", h2.ty, k_tup K x2, _, rfl, ?_⟩
          cases e2 : isTup x2 with
          | false =>
            refine iteT (emp H (fun _ _ e => e) ?_)
            cases x2 with
            | tup _ => cases e2
            | _ => cases x1 <;> rfl
          | true =>
            cases h1 with
            | @tup va vs tv hv tv' =>
              cases h2 with
              | @tup pa ps tp hp tp' => exact iteF ⟨a, va, pa, vs, ps, tv, tp, rfl, rfl, rfl, h, hv, tv', hp, tp'⟩
              | _ => cases e2
            | _ => cases e1
      · have e0 : decide ((ts.length : Int) = 2) = false := decide_eq_false (by omega)
        show (if (!decide ((ts.length : Int) = 2)) = true then _ else _)
        rw [e0]
        refine iteT (emp H (fun _ _ e => e) ?_)
        match ts, l2 with
        | [], _ => rfl
        | [x1], _ => cases x1 <;> rfl
        | [_, _], h => exact absurd rfl h
        | x1 :: x2 :: _ :: _, _ => cases x1 <;> cases x2 <;> rfl
    rintro σ H1 ⟨a, va, pa, vs, ps, tv, tp, rfl, rfl, rfl, ha, hv, tv', hp, tp'⟩
    have vl := tv'.len
    have pl := tp'.len
    refine ⟨_, rfl, a, _, rfl, ha, rfl, _, _, rfl, _, _, rfl, rfl, ?_⟩
    refine ⟨_, rfl, pa, _, rfl, .inr hp, _, _, rfl, rfl, _, rfl, ?_⟩
    rw [show decide ((ps.length : Int) > 6) = decide (6 < ps.length) from gt_cast ps.length 6, pl]
    refine ite2 (fun z => ?_) (fun z => ?_)
    · have z := of_decide_eq_true z
      refine emp H1 (fun _ _ e => e) ?_
      show (if 6 < tp.length then some Place.empty else _) = _
      rw [if_pos z]
    have n6 : ¬ 6 < tp.length := fun q => z (decide_eq_true q)
    have eF : faultT (.tup [.tup tv, .tup tp]) = if 1 ≤ tv.length ∧ tv.length ≤ 3 ∧ diffT tv = true then piecesL (texts tv) tp 0 [] else some .vars := by
      show (if 6 < tp.length then some Place.empty else _) = _
      rw [if_neg n6]
    have bad : ∀ H2, Same H1 H2 → ¬ (1 ≤ tv.length ∧ tv.length ≤ 3 ∧ diffT tv = true) → 1 ≤ sizeLine ∧ ∀ p, H2 p = none → Q (.ref p) (upd H2 p (.tup [.str "vars"])) := fun H2 s2 hn => by
      refine ⟨by decide, fun p np => k _ _ (s2.trans (same_new np)) ?_⟩
      rw [eF, if_neg hn]
      exact .tup (SqT.of upd_same) (.cons (.str _ (by decide +kernel)) .nil)
    refine ⟨fun σ H2 => σ = [some (.ref a), some (.ref va), some (.ref pa)] ∧ Same H1 H2 ∧ 1 ≤ tv.length ∧ tv.length ≤ 3 ∧ diffT tv = true, ?_, ?_⟩
    · refine ⟨_, rfl, va, _, rfl, .inr hv, _, _, rfl, rfl, _, rfl, ?_⟩
      refine ite2 (fun z1 => ?_) (fun z1 => ?_)
      · have z1 : (1 : Int) ≤ (vs.length : Int) := of_decide_eq_true z1
        refine ⟨_, _, rfl, rfl, _, rfl, ?_⟩
        refine ite2 (fun z2 => ?_) (fun z2 => ?_)
        · have z2 : ¬ ((vs.length : Int) ≤ 3) := by simpa using z2
          exact bad H1 (fun _ _ e => e) fun q => by omega
        · have z2 : (vs.length : Int) ≤ 3 := by simpa using z2
          refine ⟨_, rfl, va, vs, tv, rfl, .inr hv, tv', by omega, fun H2 s2 => ⟨_, rfl, ?_⟩⟩
          cases ed : diffT tv with
          | false => exact iteT (bad H2 s2 fun q => by rw [ed] at q; cases q.2.2)
          | true => exact iteF ⟨rfl, s2, by omega, by omega, rfl⟩
      · have z1 : ¬ ((1 : Int) ≤ (vs.length : Int)) := fun q => z1 (decide_eq_true q)
        exact ⟨_, rfl, iteT (bad H1 (fun _ _ e => e) fun q => by omega)⟩
    rintro σ H2 ⟨rfl, s2, l1, l3, ed⟩
    have exs : vs = (texts tv).map V.str := by
      unfold diffT at ed
      exact names_texts tv' (Bool.and_eq_true_iff.mp ed).1
    refine ⟨_, rfl, _, rfl, va, pa, texts tv, ps, tp, rfl, ?_, sqt_same s2 hp, tp'.same s2, by omega, fun u H3 s3 tu => k u H3 (s2.trans s3) ?_⟩
    · rw [← exs]; exact sqt_same s2 hv
    · rw [eF, if_pos ⟨l1, l3, ed⟩]
      exact tu
/-! BadBook -/
def spBadI (K : PySem.W.Frag) (C : Addr) : Sp := fun vs H Q _ => ∃ a v, vs = [.ref a, v] ∧ H a = some (exo a C none) ∧ ∀ dx, H dx = none → dx ≠ a → Q .non (upd (upd H dx (exd dx [("place", v)])) a (exo a C (some dx)))
theorem ok_badInit {C f : Addr} {fd : FuncData} (F : Fun K "__init__" "BadBook.__init__" sBadInit f fd) (T : OexC K C) (np : PySem.W.findIn K (.ref C) "place" = some none) : FnOk P w K mg base CX0 1 f fd ["self", "place"] (spBadI K C) := by
  refine F.ok scBadInit (fun vs H Q E h => ?_) (fun cdv A outer s H vs Q E hr h => ?_)
  · obtain ⟨a, v, rfl, _⟩ := h
    rfl
  · obtain ⟨a, v, rfl, ha, k⟩ := h
    refine ⟨_, pss_one (ps_ost (pv 0) (pv 1)), ?_⟩
    exact ⟨_, rfl, _, rfl, a, C, rfl, T, np, .inl ⟨ha, fun dx nd ne => k dx nd ne⟩⟩
def spNeed (K : PySem.W.Frag) (CB : Addr) : Sp := fun vs H Q E => ∃ v t, vs = [v] ∧ TrAt K H v t ∧ (faultT t = none → ∀ H', Same H H' → Q v H') ∧
  ∀ p, faultT t = some p → ∀ pv d H', Same H H' → H d = none → H' d = some (.xd [("place", pv)]) → TrAt K H' pv (placeT p) → E (.ref CB) (some d) H'
theorem ok_need {CB f fO fI : Addr} {fd fdO fdI : FuncData} (F : Fun K "need_book" "need_book" sNeed f fd) (GO : FnOk P w K mg base CX0 16 fO fdO ["thing"] (spFaultOf K)) (bO : Binds K fdO ["thing"] []) (gO : mg "fault_of" = some (.ref fO)) (kO : PySem.W.keepIn K (.ref fO) = true)
    (T : OexC K CB) (gB : mg "BadBook" = some (.ref CB)) (iC : PySem.W.findIn K (.ref CB) "__init__" = some (some (.ref fI))) (tI : PySem.W.typeIn K (.ref fI) = some (.type "function")) (GI : FnOk P w K mg base CX0 1 fI fdI ["self", "place"] (spBadI K CB)) (bI : Binds K fdI ["self", "place"] []) :
    FnOk P w K mg base (L2.CX P w) 17 f fd ["thing"] (spNeed K CB) := by
  refine F.okX scNeed (fun vs H Q E h => ?_) (fun cdv A outer s H vs Q E hr h => ?_)
  · obtain ⟨v, t, rfl, _⟩ := h
    rfl
  · obtain ⟨v, t, rfl, ht, k1, k2⟩ := h
    have hr2 : Room 2 _ := hr.mono (by decide)
    refine ⟨_, pss_cons (ps_set (i := 1) scNeed.nd rfl (Or.inl rfl) (pe_call GO hr rfl gO kO bO .nil pass0 (pa_cons (pv 0) pa_nil)))
      (pss_cons (ps_if (pt_cmp (pc_notN (pv 1))) (pss_one (ps_raise rfl (takes_of rfl rfl rfl rfl) (pmk_oex T iC tI GI hr2 bI .nil pass0 (by rfl) gB (pa_cons (pv 1) pa_nil)))) pss_nil)
      (pss_one (ps_ret (pv 0)))), ?_⟩
    refine ⟨_, rfl, v, t, rfl, ht, fun u H1 s1 tu => ?_⟩
    cases e : faultT t with
    | none =>
      rw [e] at tu
      have tu : TrAt K H1 u .non := tu
      cases tu
      exact ⟨_, rfl, _, rfl, iteF ⟨_, rfl, k1 e H1 s1⟩⟩
    | some p =>
      rw [e] at tu
      have tu : TrAt K H1 u (placeT p) := tu
      have : ∃ a, u = .ref a := by
        cases p <;> (cases tu; exact ⟨_, rfl⟩)
      obtain ⟨a, rfl⟩ := this
      refine ⟨_, rfl, _, rfl, iteT ⟨_, rfl, (show 1 ≤ 1000 by decide), fun b nb => ⟨b, .ref a, rfl, upd_same, fun d nd ne => ⟨rfl, d, _, upd_same, by rw [upd_ne ne, upd_same], ?_, ?_⟩⟩⟩⟩
      · rw [upd_ne ne] at nd; exact nd
      · rw [upd_ne ne] at nd
        have sm : Same H1 (upd (del (upd (upd (upd H1 b (exo b CB none)) d (exd d [("place", .ref a)])) b (exo b CB (some d))) b) d (.xd [("place", .ref a)])) := fun c o ec => by
          have h1 := ne_of_none ec nb
          have h2 := ne_of_none ec nd
          rw [upd_ne h2, del_ne h1, upd_ne h1, upd_ne h2, upd_ne h1]
          exact ec
        exact k2 p e (.ref a) d _ (s1.trans sm) (s1.free nd) upd_same (tu.same sm)
end
end BK



set_option Elab.async false
set_option linter.all false
set_option maxRecDepth 100000
set_option maxHeartbeats 2000000
/-! try: .. except (four classes) as e: c = e, the error held behind the suite; what is asked of it. -/
namespace BK
open PySem PySem.Spec PyProof.Rows L2
theorem flying_keeps {B h h' : Heap} {l : List Env} {e : Addr} {Z : Obj → Prop} (R : HandSPX.FlyingZ B l e Z h) (k : ∀ b o, h.get? b = some o → h'.get? b = some o) : HandSPX.FlyingZ B l e Z h' := by
  obtain ⟨f1, f2, f3, oe, ws, T, oT, ts, he, hc, hd, h1, hn, hne, hT, hdT, h3⟩ := R
  exact ⟨fun b o q => k b o (f1 b o q), f2, f3.of_keeps fun b o q _ => ⟨o, k b o q, rfl⟩, oe, ws, T, oT, ts, k _ _ he, hc, hd, h1, hn, hne, k _ _ hT, hdT, h3⟩
/-- an error of the class cls with its own dict d stands at a -/
def EO (a : Addr) (cls : Value) (d : Option Addr) : HO := .ext fun h => ∃ (oe : Obj) (vs : Array Value), h.get? a = some oe ∧ oe.cls = cls ∧ oe.dict = d ∧ oe.data = .fields vs
theorem eo_ok {P : Program} {w : World} {H : Hp} {h : Heap} {a : Addr} {cls : Value} {d : Option Addr} {oe : Obj} {vs : Array Value} (he : h.get? a = some oe) (hc : oe.cls = cls) (hd : oe.dict = d) (hv : oe.data = .fields vs) : ObjOk P w H h a (EO a cls d) :=
  ⟨⟨oe, vs, he, hc, hd, hv⟩, ⟨_, he⟩, fun h1 h2 z k => by
    obtain ⟨oe, vs, q, r⟩ := z
    exact ⟨oe, vs, k _ q, r⟩⟩
theorem eo_at {P : Program} {w : World} {H : Hp} {h : Heap} {a : Addr} {cls : Value} {d : Option Addr} (hok : HOk P w H h) (he : H a = some (EO a cls d)) : ∃ (oe : Obj) (vs : Array Value), h.get? a = some oe ∧ oe.cls = cls ∧ oe.dict = d ∧ oe.data = .fields vs := by
  have z : ObjOk P w H h a (.ext fun h => ∃ (oe : Obj) (vs : Array Value), h.get? a = some oe ∧ oe.cls = cls ∧ oe.dict = d ∧ oe.data = .fields vs) := hok a _ he
  exact z.1
section
variable {X : Cx} {pins : List (Addr × Obj)} {σ : L2.St} {H : Hp} {s : Shared}
/-- an object that no entry knew is told of from now on -/
theorem inv_track {a : Addr} {o : HO} (I : Inv X pins σ H s) (na : H a = none) (n0 : ∀ u, X.s_0.heap.get? a = some u → a ∈ X.ex ∨ X.H_0 a ≠ none) (nL : a ≠ X.env.locals) (nC : ∀ x c, X.env.cells.lookup x = some c → c ≠ a) (nP : ∀ p ∈ X.pn ++ pins, p.1 ≠ a)
    (ok : ObjOk X.prog X.w (upd H a o) s.heap a o) : Inv X pins σ (upd H a o) s := by
  have at_ : ∀ b u, H b = some u → upd H a o b = some u := fun b u e => by
    rw [upd_ne (ne_of_none e na)]
    exact e
  refine ⟨I.ok, I.os, I.bare, ⟨I.base.keep, I.base.slot, fun b u e n hx => ?_, I.base.there, fun b xs e => at_ _ _ (I.base.tups b xs e), fun b u v e => at_ _ _ (I.base.frzs b u v e), fun b ps e => ?_⟩, I.loc, I.cell, ?_, fun x c e => ?_, fun p hp => ?_, fun b u e => ?_, I.len⟩
  · by_cases hb : b = a
    · rw [hb] at e n hx
      rcases n0 u e with z | z
      · exact absurd z hx
      · exact absurd n z
    · rw [upd_ne hb]
      exact I.base.free b u e n hx
  · obtain ⟨more, e'⟩ := I.base.tbls b ps e
    exact ⟨more, at_ _ _ e'⟩
  · rw [upd_ne nL.symm]
    exact I.free
  · rw [upd_ne (nC x c e)]
    exact I.freeC x c e
  · obtain ⟨h1, h2, h3⟩ := I.pin p hp
    exact ⟨h1, by rw [upd_ne (nP p hp)]; exact h2, h3⟩
  · by_cases hb : b = a
    · rw [hb, upd_same] at e
      cases e
      rw [hb]
      exact ok
    · rw [upd_ne hb] at e
      exact (I.hok b u e).stay (fun _ _ _ q => q) (fun b q => at_ _ _ q) fun b xs q => at_ _ _ q
/-- out of a suite, its error still pinned -/
theorem inv_unsuite {a : Addr} {q : Addr × Obj} {pn' : List (Addr × Obj)} (I : Inv (X.suite a (q :: (X.pn ++ pins))) pn' σ H s) (ok : X.Ok) : Inv X (q :: pins) σ H s :=
  ⟨ok, I.os, I.bare, I.base, I.loc, I.cell, I.free, I.freeC, fun p hp => by
    refine I.pin p (List.mem_append_left _ ?_)
    rcases List.mem_append.mp hp with z | z
    · exact List.mem_cons_of_mem _ (List.mem_append_left _ z)
    · rcases List.mem_cons.mp z with z | z
      · rw [z]
        exact List.mem_cons_self
      · exact List.mem_cons_of_mem _ (List.mem_append_right _ z), I.hok, I.len⟩
end
/-- what 'except x as n: m = n' wishes of an exception of the body: n in slot i, m in slot j -/
def wKeep (K : PySem.W.Frag) (cs : List Value) (len i j : Nat) (Wout : WX) (D : Ends) : WX := fun cls d σ H =>
  ∃ b, PySem.W.exmAny K cls cs = some b ∧ (b = true → σ.length = len → ∀ a, H a = none → D.nx (((σ.set i (some (.ref a))).set j (some (.ref a))).set i none) (upd H a (EO a cls d))) ∧ (b = false → Wout cls d σ H)
section
variable {X : Cx} {x1 x2 x3 x4 n m : Str} {c1 c2 c3 c4 : Value} {i j kk : Nat} {body : List Stmt} {np1 np2 np3 np4 tpos p1 p2 p3 pos pos' : Pos} {tb : WX → TS} {Wout : WX}
theorem ps_try_keep (hs : X.stack = X.env :: X.outer) (hf : X.env.frame = some X.env.locals) (hex : X.ex = []) (hN : X.N.Nodup) (hi : X.N[i]? = some n) (hln : X.env.kindOf n = some .local) (hj : X.N[j]? = some m) (hlm : X.env.scope.names.lookup m = some .local)
    (hlt : i < X.N.length) (hij : i ≠ j) (hc1 : Names X x1 c1) (hc2 : Names X x2 c2) (hc3 : Names X x3 c3) (hc4 : Names X x4 c4) (tk : Takes X Wout)
    (hb : ∀ (W : WX) (pn : List (Addr × Obj)) (xe : Value → Shared → Prop), Takes (X.tr pn xe) W → PassesOwn (model X.prog X.w) X.A X.env xe → PSs (X.tr pn xe) body (tb W))
    (hd1 : (n == ("__debug__" : Str)) = false := by decide) (hd2 : (n == ("__classdict__" : Str)) = false := by decide) :
    PS X (.Try body [.ExceptHandler (some (.Tuple [.Name x1 np1, .Name x2 np2, .Name x3 np3, .Name x4 np4] kk tpos)) (some n) [.Assign [.Name m p1] (.Name n p2) p3] pos'] [] [] pos) (fun D σ H => tb (wKeep X.K [c1, c2, c3, c4] X.N.length i j Wout D) D σ H) := by
  refine ⟨fun pins s σ H D I h => ?_⟩
  have ok := I.ok
  have frm : X.A.frames = some (X.env :: X.outer) := ok.frames.trans (congrArg some hs)
  refine wpAny_Try_except (wpAny_mono ((hb (wKeep X.K [c1, c2, c3, c4] X.N.length i j Wout D) (X.pn ++ pins) (fun e s₁ => wpAny (model X.prog X.w) X.A (noteFrame e X.env) (fun _ s₂ => wpAny (model X.prog X.w) X.A (setFlight e none)
    (fun _ s₃ => wpAny (model X.prog X.w) X.A (handleBy e X.env [.ExceptHandler (some (.Tuple [.Name x1 np1, .Name x2 np2, .Name x3 np3, .Name x4 np4] kk tpos)) (some n) [.Assign [.Name m p1] (.Name n p2) p3] pos']) (SP X pins D) X.xe s₃) X.xe s₂) X.xe s₁)
    (fun u s' air => ?_) PassesOwn.looking).run [] s σ H D (I.toTry _) h) (fun f s1 hsp => ?_) (fun _ _ z => z))
  · -- an error comes out of the body
    obtain ⟨a, B, sI, pins', σ', H', cls, d, rfl, JT, nb, up, sky, na, os, ag, b, hb1, hyes, hno⟩ := air
    have J : Inv X pins σ' H' sI := JT.ofTry ok
    have sky1 : Sky B (X.env :: X.outer) a (Zc cls d) X.env.locals s'.heap := hs ▸ sky
    show wpAny (model X.prog X.w) X.A (noteFrame (.ref a) X.env) _ _ _
    refine Sky.land Zc.steady frm hf sky1 fun hA flA upA => ?_
    have JA : Inv X pins σ' H' { s' with heap := hA } := J.landed nb flA.1 (up.trans upA) os ag
    obtain ⟨oA, vA, getA, zA, dA⟩ := flA.there
    have out : a ∉ frs (X.env :: X.outer) := fun hm => by
      obtain ⟨_, o', e', bad⟩ := flA.2.2.1.mem hm
      rw [getA] at e'
      cases e'
      exact bad _ dA
    have nL : a ≠ X.env.locals := fun z => out (List.mem_filterMap.mpr ⟨X.env, List.mem_cons_self, by rw [hf, z]⟩)
    have nF : a ∉ X.fs := fun hm => by
      obtain ⟨e, he, q⟩ := List.mem_filterMap.mp hm
      exact out (List.mem_filterMap.mpr ⟨e, List.mem_cons_of_mem _ he, q⟩)
    have noB : ∀ o, sI.heap.get? a = some o → False := fun o e => by
      have z := nb a o e (by rw [hs]; exact out)
      rw [flA.2.1] at z
      cases z
    have SA := JA.suite getA dA na nL nF
    refine wpAny_handleBy_cons (codeAny_handlers_test ?_) (by intro q; cases q)
    have name : ∀ {x : Str} {c : Value} {np : Pos} {Q : Value → Shared → Prop} {E : Value → Shared → Prop}, Names X x c → Q c { s' with heap := hA } → wpAny (model X.prog X.w) (X.A.mark (some (.ref a))) (eval (.Name x np) X.env) Q E { s' with heap := hA } := fun {x c np Q E} hc q => by
      obtain ⟨hg, hdbg, hm | ⟨hm, hv, hnn⟩⟩ := hc
      · exact ld_glob (X := X.suite a ((a, oA) :: (X.pn ++ pins))) SA hg hm q hdbg
      · exact ld_blt (X := X.suite a ((a, oA) :: (X.pn ++ pins))) SA hg hm hv q hnn hdbg
    refine wpAny_Tuple ?_
    refine wpAny_items_cons (name hc1 ?_)
    refine wpAny_items_cons (name hc2 ?_)
    refine wpAny_items_cons (name hc3 ?_)
    refine wpAny_items_cons (name hc4 ?_)
    refine wpAny_items_nil ⟨by size_fits, ?_⟩
    have kp : ∀ q o, hA.get? q = some o → (hA.push { cls := .type "tuple", data := .seq [c1, c2, c3, c4].toArray }).get? q = some o := fun _ _ z => Heap.get?_push_of_some _ z
    have LT : PySem.W.Looks (model X.prog X.w) hA (typeOf (.ref a)) cls := fun A Q E s k q => wpAny_typeOf_ref (k _ _ getA) (by rw [zA.1]; exact q)
    refine (PySem.W.exm_tup4 (fun c o e => kp c o (JA.kIn c o e)) (LT.keeps kp) (Heap.get?_push_size hA rfl) hb1).here ?_
    have flA := flying_keeps flA kp
    have upA : s'.heap.UpToSlots (hA.push { cls := .type "tuple", data := .seq [c1, c2, c3, c4].toArray }) := upA.trans fun c o e _ => ⟨o.slots, kp c o e⟩
    clear SA JA LT name
    dsimp only
    generalize hA.push { cls := .type "tuple", data := .seq [c1, c2, c3, c4].toArray } = hT at flA upA ⊢
    cases b with
    | false =>
      show wpAny _ X.A (handleBy (.ref a) X.env []) _ _ _
      refine wpAny_handleBy_nil ?_
      obtain ⟨_, _, _, oe, vs, T, oT, _, he, _, hd, h1, _⟩ := id flA
      have fin : wpAny (model X.prog X.w) X.A (setFlight (.ref a) X.env.frame) (fun _ s4 => wpAny (model X.prog X.w) X.A (throw (.ref a) : Sem Flow) (SP X pins D) X.xe s4) X.xe { s' with heap := hT } := by
        rw [hf]
        exact HandSPX.setFlight_upZ flA fun hB fB upB => wpAny_throw (tk _ _ ⟨a, B, sI, pins, σ', H', cls, d, rfl, J, nb, (up.trans upA).trans upB, .inr (.inr (by rw [hs]; exact fB)), na, os, ag, hno rfl⟩)
      unfold PySem.passOn
      refine wpAny_bind (wpAny_field he hd h1 ?_)
      rw [if_neg (show ¬ ((Value.ref T == Value.none) = true) from by simp)]
      first
        | exact wpAny_bind (wpAny_pure (wpAny_bind fin))
        | exact wpAny_bind fin
    | true =>
      refine codeAny_handlers_suite_as (HandSPX.lands_againZ flA fun hB flB upB => ?_)
      have JB : Inv X pins σ' H' { s' with heap := hB } := J.landed nb flB.1 ((up.trans upA).trans upB) os ag
      obtain ⟨oB, vB, getB, zB, dB⟩ := flB.there
      refine store_ok (X := X.suite a ((a, oB) :: (X.pn ++ pins))) (v := .ref a) (JB.suite getB dB na nL nF) hN hi (.inl hln) rfl (fun s5 S5 => ?_) (.inr hln)
      have li : i < σ'.length := by rw [J.len]; exact hlt
      have put : PSs (X.suite a ((a, oB) :: (X.pn ++ pins))) [.Assign [.Name m p1] (.Name n p2) p3] (tAsg (tVar i) (gName j)) := pss_one (ps_set (hf := .inr hlm) hN hj (.inl hlm) (pe_var hi (.inl hln) hd1 hd2))
      refine wpAny_mono (put.run [] s5 _ H' { nx := fun σ6 H6 => σ6 = (σ'.set i (some (.ref a))).set j (some (.ref a)) ∧ H6 = H', rt := fun _ _ => False, bk := fun _ _ => False, ct := fun _ _ => False } S5 ⟨_, List.getElem?_set_self li, rfl, rfl⟩) (fun f s6 hsp => ?_) (fun _ _ z => False.elim z)
      cases f with
      | next =>
        obtain ⟨σ6, H6, S6, rfl, rfl⟩ := hsp
        refine gone_ok (inv_unsuite S6 ok) hN hi hln fun s7 J7 => ?_
        obtain ⟨get7, _⟩ := J7.pin (a, oB) (List.mem_append_right _ List.mem_cons_self)
        have J8 : Inv X pins _ H6 s7 := J7.pins_of fun p hp => J7.pin p (List.mem_append_right _ (List.mem_cons_of_mem _ hp))
        refine ⟨_, _, inv_track J8 na (fun u e => ?_) nL (fun y cc e z => ?_) (fun p hp z => ?_) (eo_ok (cls := cls) (d := d) get7 zB.1 zB.2 dB), hyes rfl J.len a na⟩
        · refine .inr fun hz => ?_
          exact noB _ (J.base.keep a u e hz nF (by rw [hex]; simp))
        · obtain ⟨v, o, ho, hdd⟩ := J7.cell y cc e
          rw [z, get7] at ho
          cases ho
          rw [show oB.data = _ from hdd] at dB
          cases dB
        · obtain ⟨e, _⟩ := J.pin p hp
          rw [z] at e
          exact noB _ e
      | brk =>
        obtain ⟨_, _, _, z⟩ := hsp
        exact z.elim
      | cont =>
        obtain ⟨_, _, _, z⟩ := hsp
        exact z.elim
      | ret u =>
        obtain ⟨_, _, _, _, _, z⟩ := hsp
        exact z.elim
  · cases f with
    | next =>
      obtain ⟨σ', H', J', q⟩ := hsp
      exact wpAny_execs_nil ⟨σ', H', J'.ofTry ok, q⟩
    | brk =>
      obtain ⟨σ', H', J', q⟩ := hsp
      exact ⟨σ', H', J'.ofTry ok, q⟩
    | cont =>
      obtain ⟨σ', H', J', q⟩ := hsp
      exact ⟨σ', H', J'.ofTry ok, q⟩
    | ret u =>
      obtain ⟨v, σ', H', J', r, q⟩ := hsp
      exact ⟨v, σ', H', J'.ofTry ok, r, q⟩
end

structure ErrF (K : PySem.W.Frag) (C : Addr) : Prop where
  ga : PySem.W.findIn K (.ref C) "__getattribute__" = some (some (.builtin "BaseException.__getattribute__"))
  gg : PySem.W.findIn K (.ref C) "__getattr__" = some none
  exC : PySem.W.subIn K (.ref C) (.type "BaseException") = some true
  hdC : PySem.W.hasDictIn K C = true
  noN : PySem.W.findIn K (.ref C) "place" = some none
/-- what isinstance asks of the class at C -/
structure IsFacts (K : PySem.W.Frag) (C : Addr) : Prop where
  cl : (PySem.W.clsIn K C).isSome = true
  ha : PySem.W.findIn K (.ref C) "__class__" = some (some (.builtin "object.__class__"))
  hn : PySem.W.specialIn K (.builtin "object.__class__") "__get__" = some (some (.builtin "getset_descriptor.__get__"))
  tk : PySem.W.takesIn K (.builtin "object.__class__") = some true
  hm : PySem.W.mroIn K C (.type "object") = some true
section
variable {X : Cx} {pins : List (Addr × Obj)} {σ : L2.St} {H : Hp} {s : Shared} {CF : Addr}
theorem eo_inst {a d : Addr} {fs : List (Str × V)} (I : Inv X pins σ H s) (e : H a = some (EO a (.ref CF) (some d))) (ed : H d = some (.xd fs)) : ∃ oe od, PySem.W.InstAt s.heap a oe CF (some od) ∧ ∃ mA : Str → Option Value, (∀ name, PySem.W.lookIn name od = some (mA name)) ∧ ∀ f, RelO (fs.lookup f) (mA f) := by
  obtain ⟨oe, vs, h1, h2, h3, h4⟩ := eo_at I.hok e
  obtain ⟨mA, hns, hr⟩ := (show ObjOk X.prog X.w H s.heap d (.xd fs) from I.hok d _ ed)
  obtain ⟨od, ho, hl⟩ := lookIn_ns hns
  exact ⟨oe, od, ⟨h1, h2, by unfold PySem.W.notCls; rw [h4], by rw [h3]; exact ho⟩, mA, hl, hr⟩
/-- isinstance(e, c), isinstance(e, (c1, c2)) -/
theorem call_isiEO (R : ErrF X.K CF) (T : IsFacts X.K CF) : CallR X (.builtin "isinstance") (fun xs H Q => ∃ (a d : Addr) (fs : List (Str × V)) (c : V) (u : Value) (b : Bool), xs = [.ref a, c] ∧ ClsV c u ∧ H a = some (EO a (.ref CF) (some d)) ∧ H d = some (.xd fs) ∧
    PySem.W.kitOne X.K (.ref CF) u = some b ∧ Q (.bl b) H) := by
  intro pins s σ H xs us Q I r h
  obtain ⟨a, d, fs, c, u, b, rfl, k, ea, ed, e, q⟩ := h
  obtain ⟨u1, u2, rfl, r1, r2⟩ := vals2 r
  obtain rfl : u1 = Value.ref a := r1
  have e2 := k.eq r2
  subst e2
  obtain ⟨oe, od, J, _⟩ := eo_inst I ea ed
  exact PySem.W.kia_one (PySem.W.kitx_exc T.cl R.ga R.gg R.exC T.ha T.hn T.tk T.hm) I.kIn J e (fun z => nomatch z) fun tk => ⟨.bl b, H, I.tok tk, rfl, q⟩
theorem call_isiEOT (R : ErrF X.K CF) (T : IsFacts X.K CF) : CallR X (.builtin "isinstance") (fun xs H Q => ∃ (a d tp : Addr) (fs : List (Str × V)) (cs : List V) (us : List Value) (b : Bool), xs = [.ref a, .ref tp] ∧ H tp = some (.tup cs) ∧ Paired ClsV cs us ∧
    H a = some (EO a (.ref CF) (some d)) ∧ H d = some (.xd fs) ∧ PySem.W.kitAny X.K (.ref CF) us = some b ∧ Q (.bl b) H) := by
  intro pins s σ H xs us Q I r h
  obtain ⟨a, d, tp, fs, cs, ws, b, rfl, hT, k, ea, ed, e, q⟩ := h
  obtain ⟨u1, u2, rfl, r1, r2⟩ := vals2 r
  obtain rfl : u1 = Value.ref a := r1
  obtain rfl : u2 = Value.ref tp := r2
  obtain ⟨_, its, rv, o, h1, h2, n, h3⟩ := (show ObjOk X.prog X.w H s.heap tp (.tup cs) from I.hok tp _ hT)
  have e3 := ClsV.all k rv
  subst e3
  obtain ⟨oc, oc2, dt, sl⟩ := o
  simp only at h2 h3
  subst h2 h3
  obtain ⟨oe, od, J, _⟩ := eo_inst I ea ed
  exact PySem.W.kia_tup (PySem.W.kitx_exc T.cl R.ga R.gg R.exC T.ha T.hn T.tk T.hm) I.kIn J h1 e (fun z => nomatch z) fun tk => ⟨.bl b, H, I.tok tk, rfl, q⟩
/-- e.place -/
def tPlace (CF : Addr) (te : TE) : TE := fun σ H Q => te σ H fun x H1 => ∃ (a d : Addr) (v : V), x = .ref a ∧ H1 a = some (EO a (.ref CF) (some d)) ∧ H1 d = some (.xd [("place", v)]) ∧ Q v H1
theorem pe_place {e : Expr} {te : TE} {pos : Pos} (R : ErrF X.K CF) (he : PE X e te) (hb : attributeBase e "place" X.env (eval e X.env) = eval e X.env := by rfl) : PE X (.Attribute e "place" pos) (tPlace CF te) := by
  refine ⟨fun pins s σ H Q I h => ?_⟩
  refine attr_of hb (thn (he.run pins s σ H _ I h) fun u s1 hh => ?_)
  obtain ⟨x, H1, I1, rx, a, d, v, rfl, ea, ed, q⟩ := hh
  obtain rfl : u = Value.ref a := rx
  obtain ⟨oe, od, J, mA, hl, hr⟩ := eo_inst I1 ea ed
  have l : List.lookup ("place" : Str) [(("place" : Str), v)] = some v := by simp [List.lookup]
  obtain ⟨u, hu, ru⟩ := RelO.some_of (v := v) (o := mA "place") (by rw [← l]; exact hr "place")
  exact HandSPX.exc_get I1.kIn J R.ga R.gg R.exC (PySem.W.findObj_own R.hdC R.noN rfl (by rw [hl, hu])) (handed_of ru) ⟨v, H1, I1.tok _, ru, q⟩
end
end BK



set_option Elab.async false
set_option maxRecDepth 100000
set_option maxHeartbeats 1000000
/-! repr of data: where no repr runs around; trees that are shown. -/
namespace BK
open PySem PySem.Spec PyProof.Rows L2
/-- a def's promise, called where no guarded call runs around -/
structure FnG (P : Program) (w : World) (K : PySem.W.Frag) (mg : Str → Option Value) (base : Heap) (k : Nat) (f : Addr) (fd : FuncData) (ps : List Str) (sp : Sp) : Prop where
  len : ∀ vs H Q E, sp vs H Q E → vs.length = ps.length
  run : ∀ (A : Around) (outer : List Env) (s : Shared) (H : Hp) (us : List Value) (vs : List V) (Q : VK) (E : XK), A.guards = some [] → Room k A → Env0 P w K mg base A outer s H → BindsTo s fd ⟨us, []⟩ (ps.zip us) → Vals vs us → sp vs H Q E →
    codeAny (model P w) A (.call (.ref f) ⟨us, []⟩) (CR CX0 outer P w H s Q E) s
section
variable {P : Program} {w : World} {K : PySem.W.Frag} {mg : Str → Option Value} {base : Heap}
theorem fng_of {k : Nat} {f : Addr} {name qual : Str} {params : Arguments} {body : List Stmt} {scope : Scope} {dV kV doc pm cdv ct oc : Value} {an od : Option Addr} {osl : Array (Option Value)} {N ps : List Str} {sp : Sp}
    (lk : K.lookup f = some ⟨oc, od, .func (PySem.W.fnOf name qual params body scope dV kV doc pm an cdv ct), osl⟩) (hcd : PySem.W.codeIn K cdv qual = true) (S : FnScope N ps scope) (len : ∀ vs H Q E, sp vs H Q E → vs.length = ps.length)
    (hbody : ∀ (A : Around) (outer : List Env) (s : Shared) (H : Hp) (vs : List V) (Q : VK) (E : XK), A.guards = some [] → Room k (A.deeper (envOfC qual scope s.heap.objs.size f cdv)) → sp vs H Q E →
      ∃ t, PSs (cxOf CX0 P w K mg base N qual scope f cdv A outer s H E).nox body t ∧ t { nx := fun _ H' => Q .non H', rt := Q } (L2.start N vs) H) :
    FnG P w K mg base (k + 1) f (PySem.W.fnOf name qual params body scope dV kV doc pm an cdv ct) ps sp :=
  ⟨len, fun A outer s H us vs Q E gd hr e0 hb r hsp => LamX.run_ofS lk hcd S hr e0 hb r (len _ _ _ _ hsp) fun hr' => by
    obtain ⟨t, ht, q⟩ := hbody A outer s H vs Q E gd hr' hsp
    exact ⟨t, ht.nox, q⟩⟩
end
section
variable {X : Cx} {k : Nat} {f : Addr} {fd : FuncData} {ps : List Str} {sp : Sp} {x : Str} {p pos : Pos} {e : Expr} {es : List Expr} {t : TA}
theorem pe_callG (F : FnG X.prog X.w X.K X.mg X.base k f fd ps sp) (gd : X.A.guards = some []) (hr : Room k X.A) (hg : Gl X x) (hm : X.mg x = some (.ref f)) (hk : PySem.W.keepIn X.K (.ref f) = true) (hb : L2.Binds X.K fd ps []) (ha : PA X (e :: es) t)
    (hdb : (x == ("__debug__" : Str)) = false := by decide) (he : starEach (e :: es) X.env = (false, eval e X.env) :: starEach es X.env := by rfl) (hpl : (backTo pos (starEach es X.env)).any (·.1) = false := by rfl) :
    PE X (.Call (.Name x p) (e :: es) [] pos) (tCall sp [] E0 t) := by
  refine ⟨fun pins s σ H Q I h => wpAny_Call_Name_kw (ld_glob I hg hm (PySem.W.callWith_K (h₀ := X.base) I.ok.mod.kin hk (thn (ha.run pos pins s σ H _ I h) fun us s1 hh => ?_) he hpl) hdb)⟩
  obtain ⟨vs, H1, I1, r, q⟩ := hh
  rw [List.append_nil] at q
  have hl : (us ++ []).length = ps.length := by
    rw [List.append_nil, ← r.length]
    exact F.len _ _ _ _ q
  have bd := hb s1 us I1.kIn hl
  rw [List.append_nil] at bd
  refine ⟨I1.kIn, wpAny_call (codeAny_mono (F.run X.A X.stack s1 H1 us vs Q E0 gd hr I1.env0 bd r q) fun r s' hq => ?_)⟩
  match r, hq with
  | .ok (.ret u), hq => exact I1.after hq
/-- repr of lists and tuples of data -/
theorem call_reprD (gd : X.A.guards = some []) (hr : Room 0 X.A) : CallR X (.builtin "repr") (fun xs H Q => ∃ (a : Addr) (d : PyData), xs = [.ref a] ∧ Dp X.K H (.ref a) d ∧ d.showable = true ∧ d.hasDict = false ∧ d.depth ≤ 60 ∧ d.shown.length ≤ sizeLine ∧ Q (.str d.shown) H) := by
  intro pins s σ H xs us Q I r h
  obtain ⟨a, d, rfl, hd, hs, hn, hp, hz, q⟩ := h
  obtain ⟨u, rfl, rx⟩ := vals1 r
  obtain rfl : u = Value.ref a := rx
  obtain ⟨as, rd⟩ := Dp.reads I d (.ref a) _ hd rfl
  have hu := hr.units
  exact repr_of_reads' rd hs (PyData.noDict_hsm hn) gd (by omega) (fun _ _ e => e) (fun h' u tk hk => ⟨.str d.shown, H, I.kept hk, ⟨u, rfl⟩, q⟩) hz
end

/-! trees as data -/
mutual
def pdT : Tr → PyData
  | .non => .none
  | .bl b => .bool b
  | .int i => .int i
  | .str s => .str s
  | .lst => .none
  | .dct => .none
  | .tup ts => .tuple (pdTs ts)
def pdTs : List Tr → List PyData
  | [] => []
  | t :: r => pdT t :: pdTs r
end
mutual
/-- no list, no dict; short ints, short texts -/
def dataT : Tr → Bool
  | .non => true
  | .bl _ => true
  | .int i => decide (i.natAbs < 10 ^ 60)
  | .str s => s.cps.toList.all (fun c => decide (c ≤ 122)) && decide (s.length ≤ 100)
  | .lst => false
  | .dct => false
  | .tup ts => dataTs ts
def dataTs : List Tr → Bool
  | [] => true
  | t :: r => dataT t && dataTs r
end
mutual
def depT : Tr → Nat
  | .tup ts => depTs ts + 1
  | _ => 0
def depTs : List Tr → Nat
  | [] => 0
  | t :: r => max (depT t) (depTs r)
end
mutual
def sizT : Tr → Nat
  | .tup ts => sizTs ts
  | _ => 0
def sizTs : List Tr → Nat
  | [] => 0
  | t :: r => sizT t + 1 + sizTs r
end
structure ReprOk (t : Tr) : Prop where
  da : dataT t = true
  de : depT t ≤ 50
  si : (pdT t).weight ≤ 150000
section
variable {K : PySem.W.Frag} {H : Hp}
mutual
theorem TrAt.dp : ∀ {v : V} {t : Tr}, TrAt K H v t → dataT t = true → Dp K H v (pdT t)
  | _, _, .non, _ => by simp only [pdT]; exact .non
  | _, _, .bl b, _ => by simp only [pdT]; exact .bl b
  | _, _, .int i, _ => by simp only [pdT]; exact .int i
  | _, _, .str s _, _ => by simp only [pdT]; exact .str s
  | _, _, .lst _, e => by simp [dataT] at e
  | _, _, .dct _, e => by simp [dataT] at e
  | _, _, .tup h k, e => by
    simp only [dataT] at e
    simp only [pdT]
    exact .tup h (TrAll.dp k e)
theorem TrAll.dp : ∀ {vs : List V} {ts : List Tr}, TrAll K H vs ts → dataTs ts = true → DpAll K H vs (pdTs ts)
  | _, _, .nil, _ => by simp only [pdTs]; exact .nil
  | _, _, .cons h k, e => by
    simp only [dataTs, Bool.and_eq_true] at e
    simp only [pdTs]
    exact .cons (h.dp e.1) (k.dp e.2)
end
end
theorem ten_log {v : Int} (h : v.natAbs < 10 ^ 60) : v.natAbs.log2 < 200 := by
  by_cases z : v.natAbs = 0
  · rw [z]; decide
  · rw [Nat.log2_lt z]
    exact Nat.lt_trans h (by decide +kernel)
mutual
theorem pd_show : ∀ t : Tr, dataT t = true → (pdT t).showable = true
  | .non, _ => by simp [pdT, PyData.showable]
  | .bl _, _ => by simp [pdT, PyData.showable]
  | .int i, e => by
    simp only [dataT, decide_eq_true_eq] at e
    simp only [pdT, PyData.showable, decide_eq_true_eq]
    exact Nat.lt_trans (ten_log e) (by decide)
  | .str _, _ => by simp [pdT, PyData.showable]
  | .lst, _ => by simp [pdT, PyData.showable]
  | .dct, _ => by simp [pdT, PyData.showable]
  | .tup ts, e => by
    simp only [dataT] at e
    simp only [pdT, PyData.showable]
    exact pds_show ts e
theorem pds_show : ∀ ts : List Tr, dataTs ts = true → PyData.showableAll (pdTs ts) = true
  | [], _ => by simp [pdTs, PyData.showableAll]
  | t :: r, e => by
    simp only [dataTs, Bool.and_eq_true] at e
    simp only [pdTs, PyData.showableAll, pd_show t e.1, pds_show r e.2, Bool.and_self]
end
mutual
theorem pd_noDict : ∀ t : Tr, (pdT t).hasDict = false
  | .non => by simp [pdT, PyData.hasDict]
  | .bl _ => by simp [pdT, PyData.hasDict]
  | .int _ => by simp [pdT, PyData.hasDict]
  | .str _ => by simp [pdT, PyData.hasDict]
  | .lst => by simp [pdT, PyData.hasDict]
  | .dct => by simp [pdT, PyData.hasDict]
  | .tup ts => by
    simp only [pdT, PyData.hasDict]
    exact pds_noDict ts
theorem pds_noDict : ∀ ts : List Tr, PyData.hasDictAll (pdTs ts) = false
  | [] => by simp [pdTs, PyData.hasDictAll]
  | t :: r => by simp only [pdTs, PyData.hasDictAll, pd_noDict t, pds_noDict r, Bool.or_self]
end
mutual
theorem pd_depth : ∀ t : Tr, (pdT t).depth = depT t
  | .non => by simp [pdT, PyData.depth, depT]
  | .bl _ => by simp [pdT, PyData.depth, depT]
  | .int _ => by simp [pdT, PyData.depth, depT]
  | .str _ => by simp [pdT, PyData.depth, depT]
  | .lst => by simp [pdT, PyData.depth, depT]
  | .dct => by simp [pdT, PyData.depth, depT]
  | .tup ts => by simp only [pdT, PyData.depth, depT, pds_depth ts]
theorem pds_depth : ∀ ts : List Tr, PyData.depthAll (pdTs ts) = depTs ts
  | [] => by simp [pdTs, PyData.depthAll, depTs]
  | t :: r => by simp only [pdTs, PyData.depthAll, depTs, pd_depth t, pds_depth r]
end
mutual
theorem pd_leaves : ∀ t : Tr, dataT t = true → PyData.leavesShort 100 (pdT t) = true
  | .non, _ => by simp [pdT, PyData.leavesShort]
  | .bl _, _ => by simp [pdT, PyData.leavesShort]
  | .int i, e => by
    simp only [dataT, decide_eq_true_eq] at e
    simp only [pdT, PyData.leavesShort, decide_eq_true_eq]
    have : (toString i).length ≤ 60 + 1 := int_text_length_le10 (by decide) e
    have q := PyProof.Rows.int_text_len_1921 (Nat.lt_trans (ten_log e) (by decide : 200 < 1920))
    show (Str.ofString (toString i)).length ≤ 100
    rw [PySem.ofString_length]
    omega
  | .str s, e => by
    simp only [dataT, Bool.and_eq_true] at e
    simp only [pdT, PyData.leavesShort]
    rw [List.all_eq_true]
    intro c hc
    have := of_decide_eq_true (List.all_eq_true.mp e.1 c hc)
    exact decide_eq_true (by omega)
  | .lst, _ => by simp [pdT, PyData.leavesShort]
  | .dct, _ => by simp [pdT, PyData.leavesShort]
  | .tup ts, e => by
    simp only [dataT] at e
    simp only [pdT, PyData.leavesShort]
    exact pds_leaves ts e
theorem pds_leaves : ∀ ts : List Tr, dataTs ts = true → PyData.leavesShortAll 100 (pdTs ts) = true
  | [], _ => by simp [pdTs, PyData.leavesShortAll]
  | t :: r, e => by
    simp only [dataTs, Bool.and_eq_true] at e
    simp only [pdTs, PyData.leavesShortAll, pd_leaves t e.1, pds_leaves r e.2, Bool.and_self]
end
mutual
theorem pd_weight : ∀ t : Tr, dataT t = true → (pdT t).weight ≤ 300 * sizT t + 250
  | .non, _ => by simp [pdT, PyData.weight]
  | .bl _, _ => by simp [pdT, PyData.weight]
  | .int i, e => by
    simp only [dataT, decide_eq_true_eq] at e
    simp only [pdT, PyData.weight]
    have := ten_log e
    split <;> omega
  | .str s, e => by
    simp only [dataT, Bool.and_eq_true] at e
    simp only [pdT, PyData.weight]
    have : s.cps.size ≤ 100 := of_decide_eq_true e.2
    omega
  | .lst, _ => by simp [pdT, PyData.weight]
  | .dct, _ => by simp [pdT, PyData.weight]
  | .tup ts, e => by
    simp only [dataT] at e
    simp only [pdT, PyData.weight, sizT]
    have := pds_weight ts e
    omega
theorem pds_weight : ∀ ts : List Tr, dataTs ts = true → PyData.weightAll (pdTs ts) ≤ 300 * sizTs ts
  | [], _ => by simp [pdTs, PyData.weightAll]
  | t :: r, e => by
    simp only [dataTs, Bool.and_eq_true] at e
    have h1 := pd_weight t e.1
    have h2 := pds_weight r e.2
    simp only [pdTs, PyData.weightAll, sizTs]
    omega
end
/-- what repr asks of [t, b] -/
theorem repr_pair {t : Tr} (h : ReprOk t) (b : Bool) : (PyData.list [pdT t, .bool b]).showable = true ∧ (PyData.list [pdT t, .bool b]).hasDict = false ∧ (PyData.list [pdT t, .bool b]).depth ≤ 60 ∧ (PyData.list [pdT t, .bool b]).shown.length ≤ sizeLine := by
  refine ⟨by simp only [PyData.showable, PyData.showableAll, pd_show t h.da, Bool.and_self], by simp only [PyData.hasDict, PyData.hasDictAll, pd_noDict t, Bool.or_self], ?_, ?_⟩
  · simp only [PyData.depth, PyData.depthAll, pd_depth]
    have := h.de
    omega
  · have l : PyData.leavesShort 100 (.list [pdT t, .bool b]) = true := by simp only [PyData.leavesShort, PyData.leavesShortAll, pd_leaves t h.da, Bool.and_self]
    have := PyData.shown_le 100 (by decide) _ l
    have w := pd_weight t h.da
    have s := h.si
    simp only [PyData.weight, PyData.weightAll] at this
    rw [sizeLine_eq]
    omega
/-- what repr asks of [[t], b] -/
theorem repr_found {t : Tr} (h : ReprOk t) (b : Bool) : (PyData.list [.list [pdT t], .bool b]).showable = true ∧ (PyData.list [.list [pdT t], .bool b]).hasDict = false ∧ (PyData.list [.list [pdT t], .bool b]).depth ≤ 60 ∧ (PyData.list [.list [pdT t], .bool b]).shown.length ≤ sizeLine := by
  refine ⟨by simp only [PyData.showable, PyData.showableAll, pd_show t h.da, Bool.and_self], by simp only [PyData.hasDict, PyData.hasDictAll, pd_noDict t, Bool.or_self], ?_, ?_⟩
  · simp only [PyData.depth, PyData.depthAll, pd_depth]
    have := h.de
    omega
  · have l : PyData.leavesShort 100 (.list [.list [pdT t], .bool b]) = true := by simp only [PyData.leavesShort, PyData.leavesShortAll, pd_leaves t h.da, Bool.and_self]
    have := PyData.shown_le 100 (by decide) _ l
    have w := pd_weight t h.da
    have s := h.si
    simp only [PyData.weight, PyData.weightAll] at this
    rw [sizeLine_eq]
    omega
end BK



set_option Elab.async false
set_option maxRecDepth 100000
set_option maxHeartbeats 1000000
/-! expressions that make trees. -/
namespace BK
open PySem PySem.Spec PyProof.Rows L2
/-- the slots that hold trees -/
def Gt (K : PySem.W.Frag) (L : List (Nat × Tr)) (σ : L2.St) (H : Hp) : Prop := ∀ p ∈ L, ∃ v, σ[p.1]? = some (some v) ∧ TrAt K H v p.2
theorem Gt.same {K : PySem.W.Frag} {L : List (Nat × Tr)} {σ : L2.St} {H H' : Hp} (g : Gt K L σ H) (e : Same H H') : Gt K L σ H' := fun p hp => by
  obtain ⟨v, h1, h2⟩ := g p hp
  exact ⟨v, h1, h2.same e⟩
def ETr (X : Cx) (L : List (Nat × Tr)) (e : Expr) (t : Tr) : Prop := ∃ te : TE, PE X e te ∧ ∀ σ H Q, Gt X.K L σ H → (∀ v H', Same H H' → TrAt X.K H' v t → Q v H') → te σ H Q
def EAr (X : Cx) (L : List (Nat × Tr)) (es : List Expr) (ts : List Tr) : Prop := ∃ ta : TA, PA X es ta ∧ ∀ σ H Q, Gt X.K L σ H → (∀ vs H', Same H H' → TrAll X.K H' vs ts → Q vs H') → ta σ H Q
/-- a new list of trees -/
def ELi (X : Cx) (L : List (Nat × Tr)) (e : Expr) (ts : List Tr) : Prop := ∃ te : TE, PE X e te ∧ ∀ σ H Q, Gt X.K L σ H → (∀ a vs H', Same H H' → H a = none → H' a = some (.lst vs) → TrAll X.K H' vs ts → Q (.ref a) H') → te σ H Q
section
variable {X : Cx} {L : List (Nat × Tr)}
theorem et_var {i : Nat} {x : Str} {pos : Pos} {t : Tr} (h : PE X (.Name x pos) (tVar i)) (m : (i, t) ∈ L) : ETr X L (.Name x pos) t := ⟨_, h, fun σ H Q g k => by
  obtain ⟨v, h1, h2⟩ := g _ m
  exact ⟨v, h1, k v H (fun _ _ e => e) h2⟩⟩
theorem et_str {s : Str} {j : Nat} {pos : Pos} (h : s.length ≤ sizeLine := by decide +kernel) : ETr X L (.Constant (.str s) j pos) (.str s) := ⟨_, pe_str, fun _ H _ _ k => k _ H (fun _ _ e => e) (.str s h)⟩
theorem et_int {i : Int} {j : Nat} {pos : Pos} : ETr X L (.Constant (.int i) j pos) (.int i) := ⟨_, pe_int, fun _ H _ _ k => k _ H (fun _ _ e => e) (.int i)⟩
theorem et_neg {i : Int} {j : Nat} {pos pos' : Pos} : ETr X L (.UnaryOp .USub (.Constant (.int i) j pos) pos') (.int (-i)) := ⟨_, pe_un un_neg pe_int, fun _ H _ _ k => ⟨i, rfl, k _ H (fun _ _ e => e) (.int (-i))⟩⟩
theorem et_bl {b : Bool} {j : Nat} {pos : Pos} : ETr X L (.Constant (.bool b) j pos) (.bl b) := ⟨_, pe_bl, fun _ H _ _ k => k _ H (fun _ _ e => e) (.bl b)⟩
theorem et_non {j : Nat} {pos : Pos} : ETr X L (.Constant .none j pos) .non := ⟨_, pe_non, fun _ H _ _ k => k _ H (fun _ _ e => e) .non⟩
theorem ea_nil : EAr X L [] [] := ⟨_, pa_nil, fun _ H _ _ k => k _ H (fun _ _ e => e) .nil⟩
theorem ea_cons {e : Expr} {es : List Expr} {t : Tr} {ts : List Tr} (h : ETr X L e t) (r : EAr X L es ts) (hs : starEach (e :: es) X.env = (false, eval e X.env) :: starEach es X.env := by rfl) : EAr X L (e :: es) (t :: ts) := by
  obtain ⟨te, p, q⟩ := h
  obtain ⟨ta, p2, q2⟩ := r
  exact ⟨_, pa_cons p p2 hs, fun σ H Q g k => q σ H _ g fun v H1 s1 h1 => q2 σ H1 _ (g.same s1) fun vs H2 s2 h2 => k _ H2 (s1.trans s2) (.cons (h1.same s2) h2)⟩
theorem et_tup {es : List Expr} {k : Nat} {pos : Pos} {ts : List Tr} (h : EAr X L es ts) (hl : es.length ≤ 1000 := by exact Nat.le_of_ble_eq_true rfl) (hl2 : ts.length = es.length := by rfl) : ETr X L (.Tuple es k pos) (.tup ts) := by
  obtain ⟨ta, p, q⟩ := h
  refine ⟨_, pe_tup p, fun σ H Q g k => q σ H _ g fun vs H1 s1 h1 => ⟨?_, fun p np => k _ _ (s1.trans (same_new np)) (.tup (SqT.of upd_same) (h1.same (same_new np)))⟩⟩
  rw [h1.len, hl2, sizeLine_eq]
  omega
theorem et_lst {es : List Expr} {pos : Pos} {ts : List Tr} (h : EAr X L es ts) (hl : es.length ≤ 1000 := by exact Nat.le_of_ble_eq_true rfl) (hl2 : ts.length = es.length := by rfl) : ETr X L (.List es pos) .lst := by
  obtain ⟨ta, p, q⟩ := h
  refine ⟨_, pe_lst p, fun σ H Q g k => q σ H _ g fun vs H1 s1 h1 => ⟨?_, fun p np => k _ _ (s1.trans (same_new np)) (.lst (SqL.of upd_same))⟩⟩
  rw [h1.len, hl2, sizeLine_eq]
  omega
theorem et_dct {pos : Pos} : ETr X L (.Dict [] [] pos) .dct := ⟨_, pe_dnewK, fun _ _ _ _ k => fun p np => k _ _ (same_new np) (.dct upd_same)⟩
theorem et_cat {a b : Expr} {pos : Pos} {xs ys : List Tr} (h1 : ETr X L a (.tup xs)) (h2 : ETr X L b (.tup ys)) (l1 : xs.length ≤ 1000 := by exact Nat.le_of_ble_eq_true rfl) (l2 : ys.length ≤ 1000 := by exact Nat.le_of_ble_eq_true rfl) : ETr X L (.BinOp a .Add b pos) (.tup (xs ++ ys)) := by
  obtain ⟨ta, p1, q1⟩ := h1
  obtain ⟨tb, p2, q2⟩ := h2
  refine ⟨_, pe_op op_catA p1 p2, fun σ H Q g k => q1 σ H _ g fun v H1 s1 t1 => q2 σ H1 _ (g.same s1) fun u H2 s2 t2 => ?_⟩
  have t1 := t1.same s2
  have s12 := s1.trans s2
  cases t1 with
  | @tup aa vs _ ha ta' =>
  cases t2 with
  | @tup bb us _ hb tb' =>
  have e1 := ta'.len
  have e2 := tb'.len
  refine ⟨aa, bb, vs, us, rfl, rfl, ha, hb, by rw [sizeLine_eq]; omega, fun e => ?_, fun _ e => ?_, fun _ _ p np => ?_⟩
  · subst e
    cases ta'
    exact k _ _ s12 (.tup hb tb')
  · subst e
    cases tb'
    rw [List.append_nil] at k
    exact k _ _ s12 (.tup ha ta')
  · have app : ∀ {vs us : List V} {xs ys : List Tr} {H : Hp}, TrAll X.K H vs xs → TrAll X.K H us ys → TrAll X.K H (vs ++ us) (xs ++ ys) := fun {vs us xs ys H} h1 h2 => by
      induction vs generalizing xs with
      | nil => cases h1; exact h2
      | cons v r ih => cases h1 with | cons a b => exact .cons a (ih b)
    exact k _ _ (s12.trans (same_new np)) (.tup (SqT.of upd_same) ((app ta' tb').same (same_new np)))
theorem el_disp {es : List Expr} {pos : Pos} {ts : List Tr} (h : EAr X L es ts) (hl : es.length ≤ 1000 := by exact Nat.le_of_ble_eq_true rfl) (hl2 : ts.length = es.length := by rfl) : ELi X L (.List es pos) ts := by
  obtain ⟨ta, p, q⟩ := h
  refine ⟨_, pe_lst p, fun σ H Q g k => q σ H _ g fun vs H1 s1 h1 => ⟨?_, fun p np => k p vs _ (s1.trans (same_new np)) (s1.free np) upd_same (h1.same (same_new np))⟩⟩
  rw [h1.len, hl2, sizeLine_eq]
  omega
end
theorem TrAll.app {K : PySem.W.Frag} {H : Hp} : ∀ {vs us : List V} {xs ys : List Tr}, TrAll K H vs xs → TrAll K H us ys → TrAll K H (vs ++ us) (xs ++ ys)
  | _, _, _, _, .nil, h => h
  | _, _, _, _, .cons a b, h => .cons a (TrAll.app b h)
/-- some = some + [..] -/
theorem some_cat {X : Cx} {L : List (Nat × Tr)} {i : Nat} {te : TE} {us ts : List Tr} {σ : L2.St} {H0 H : Hp} {a : Addr} {vs : List V} {Q : VK} (r : ∀ σ H Q, Gt X.K L σ H → (∀ a vs H', Same H H' → H a = none → H' a = some (.lst vs) → TrAll X.K H' vs us → Q (.ref a) H') → te σ H Q)
    (g : Gt X.K L σ H) (hσ : σ[i]? = some (some (.ref a))) (s : Same H0 H) (e : H a = some (.lst vs)) (tr : TrAll X.K H vs ts) (lt : ts.length ≤ 500) (lu : us.length ≤ 500)
    (k : ∀ p ws H', Same H0 H' → Same H H' → H0 p = none → H' p = some (.lst ws) → TrAll X.K H' ws (ts ++ us) → Q (.ref p) H') : tOp rCat (tVar i) te σ H Q := by
  refine ⟨.ref a, hσ, r σ H _ g fun b ws H1 s1 nb eb tb => ?_⟩
  have e1 := s1 _ _ e
  have l1 := tr.len
  have l2 := tb.len
  refine ⟨a, b, vs, ws, rfl, rfl, e1, eb, by rw [sizeLine_eq]; omega, fun p np => ?_⟩
  have s2 := same_new (o := .lst (vs ++ ws)) np
  exact k p _ _ ((s.trans s1).trans s2) (s1.trans s2) ((s.trans s1).free np) upd_same (((tr.same s1).app tb).same s2)
/-- some.append(..) -/
theorem some_app {X : Cx} {L : List (Nat × Tr)} {i : Nat} {te : TE} {u : Tr} {ts : List Tr} {σ : L2.St} {H0 H : Hp} {a : Addr} {vs : List V} {Q : VK} (r : ∀ σ H Q, Gt X.K L σ H → (∀ v H', Same H H' → TrAt X.K H' v u → Q v H') → te σ H Q)
    (g : Gt X.K L σ H) (hσ : σ[i]? = some (some (.ref a))) (s : Same H0 H) (na : H0 a = none) (e : H a = some (.lst vs)) (tr : TrAll X.K H vs ts) (lt : ts.length ≤ 500)
    (k : ∀ ws H', Same H0 H' → H' a = some (.lst ws) → TrAll X.K H' ws (ts ++ [u]) → (∀ v t, TrAt X.K H v t → TrAt X.K H' v t) → Q .non H') : tBM X.K "list" rAppend (tVar i) (tCons te tNil) σ H Q := by
  refine ⟨.ref a, hσ, .inl ⟨rfl, _, SqL.of e⟩, r σ H _ g fun v H1 s1 t1 => ?_⟩
  have e1 := s1 _ _ e
  have l1 := tr.len
  refine ⟨a, vs, v, rfl, rfl, e1, by rw [sizeLine_eq]; omega, ?_⟩
  refine k (vs ++ [v]) _ (fun b o eb => ?_) upd_same (((tr.same s1).updL e1).app (.cons (t1.updL e1) .nil)) fun v t h => (h.same s1).updL e1
  rw [upd_ne (ne_of_none eb na)]
  exact s1 _ _ (s _ _ eb)
/-! the parts of a text -/
def stAt (s : Stmt) (j : Nat) : Stmt := (defBody s).getD j (.Pass ⟨0, 0, 0, 0⟩)
def noE : Expr := .Constant .none 0 ⟨0, 0, 0, 0⟩
def valueOf : Stmt → Expr
  | .Assign _ v _ => v
  | .Return (some v) _ => v
  | .Expr v _ => v
  | _ => noE
def rightOf : Expr → Expr
  | .BinOp _ _ b _ => b
  | _ => noE
def argOf : Expr → Expr
  | .Call _ (a :: _) _ _ => a
  | _ => noE
def eltsOf : Expr → List Expr
  | .Tuple es _ _ => es
  | _ => []
end BK



set_option Elab.async false
set_option linter.all false
set_option maxRecDepth 100000
set_option maxHeartbeats 4000000
/-! tuple * int, of any number of times. -/
namespace L2
open PySem PySem.Spec PyProof.Rows
open AutoSeq1 (wpAny_loadPart')
theorem tuple_mul1 (l : Addr) (items : Array Value) (n : Nat) (dd : Option Addr) (sl : Array (Option Value)) (u : Tok) :
    Meets (Builtin.«tuple.__mul__» ⟨[.ref l, .int 1 u], []⟩) (fun _ R s => s.heap.get? l = some { cls := .type "tuple", dict := dd, data := .seq items n, slots := sl } ∧
      R (.ok (.ret (Value.ref l))) s) :=
  .of_wp fun prog w A R s h => by
    obtain ⟨hp, g, d, tk, os⟩ := s
    obtain ⟨hl, h⟩ := h
    have f1 := AutoSeq1.idx_int
    have c0 : (decide ((1 : Int) < -(2 ^ 63)) || decide ((1 : Int) ≥ 2 ^ 63)) = false := by decide
    have c1 : (items.isEmpty || (1 : Int) == 1) = true := by simp
    wp_walk using wpAny_loadPart' hl
    repeat (first
      | (refine wpAny_ite_false (decide_eq_false (by rw [c0]; exact Bool.false_ne_true)) ?_; wp_walk using wpAny_loadPart' hl)
      | (refine wpAny_ite_true (decide_eq_true c1) ?_; wp_walk using wpAny_loadPart' hl))
    exact ⟨_, rfl, h⟩
theorem tuple_mul0 (l : Addr) (items : Array Value) (n : Nat) (dd : Option Addr) (sl : Array (Option Value)) (u : Tok) (ne : items.isEmpty = false) :
    Meets (Builtin.«tuple.__mul__» ⟨[.ref l, .int 0 u], []⟩) (fun _ R s => s.heap.get? l = some { cls := .type "tuple", dict := dd, data := .seq items n, slots := sl } ∧
      R (.ok (.ret (Value.ref s.heap.objs.size))) { s with heap := s.heap.push { cls := Value.type "tuple", data := Data.seq #[] }, toks := s.toks }) :=
  .of_wp fun prog w A R s h => by
    obtain ⟨hp, g, d, tk, os⟩ := s
    obtain ⟨hl, h⟩ := h
    have f1 := AutoSeq1.idx_int
    have c0 : (decide ((0 : Int) < -(2 ^ 63)) || decide ((0 : Int) ≥ 2 ^ 63)) = false := by decide
    have c1 : (items.isEmpty || (0 : Int) == 1) = false := by rw [ne]; decide
    have c2 : (decide ((0 : Int) ≤ 0) || items.isEmpty) = true := by simp
    wp_walk using wpAny_loadPart' hl
    repeat (first
      | (refine wpAny_ite_false (decide_eq_false (by rw [c0]; exact Bool.false_ne_true)) ?_; wp_walk using wpAny_loadPart' hl)
      | (refine wpAny_ite_false (decide_eq_false (by rw [c1]; exact Bool.false_ne_true)) ?_; wp_walk using wpAny_loadPart' hl)
      | (refine wpAny_ite_true (decide_eq_true c2) ?_; wp_walk using wpAny_loadPart' hl))
    exact ⟨_, rfl, h⟩
end L2



set_option Elab.async false
set_option linter.all false
set_option maxRecDepth 100000
set_option maxHeartbeats 4000000
namespace L2
open PySem PySem.Spec PyProof.Rows
def rRepA (K : PySem.W.Frag) : R2 := fun x y H Q => ∃ l k xs, x = .ref l ∧ y = .int k ∧ SqT K H l xs ∧ xs ≠ [] ∧ 0 ≤ k ∧ k ≤ 1000 ∧ xs.length ≤ 1000 ∧ ∀ p H', Same H H' → SqT K H' p (List.replicate k.toNat xs).flatten → Q (.ref p) H'
section
variable {X : Cx}
theorem op_repA : OpR X (binaryOp .Mult) (rRepA X.K) := by
  intro pins s σ H x y v u Q I rx ry h
  obtain ⟨l, k, xs, rfl, rfl, hT, hne, h1, h2, hz, q⟩ := h
  by_cases hk : 2 ≤ k
  · exact op_repT pins s σ H _ _ _ _ Q I rx ry ⟨l, k, xs, rfl, rfl, hT, hne, hk, h2, hz, fun p np => q p _ (fun b o e => by rw [upd_ne (ne_of_none e np)]; exact e) (SqT.of upd_same)⟩
  cases rx
  obtain ⟨t, rfl⟩ := ry
  obtain ⟨its, r, ⟨⟨cls, dd, data, sl⟩, ho, hc, n, hd⟩, hs⟩ := I.tuple hT
  simp only at hc hd
  subst hc hd
  have hle : its.length = xs.length := r.length.symm
  have hn : its ≠ [] := fun e => hne (by
    rw [e] at hle
    exact List.eq_nil_of_length_eq_zero hle.symm)
  have hi : its.toArray.isEmpty = false := by
    cases its with
    | nil => exact absurd rfl hn
    | cons a b => rfl
  have k01 : k = 0 ∨ k = 1 := by omega
  rcases k01 with rfl | rfl
  · refine wpAny_binaryOp_repeat_ref (T := "tuple") (U := "int") (by decide) ⟨_, ho, rfl⟩ (fun s' => typeIs_int s' 0 t) noFill_tuple_mul F.fills_int_mul F.slot_int_rmul repeat_tuple F.slot_int_index.lookup
      (call_meets F.slot_int_rmul (typeIs_int s 0 t) F.entry_int_rmul (F.args_int_rmul_2 _ _) (int_rmul_tuple 0 t l its.toArray n dd sl)
        ⟨ho, rfl, ⟨_, ho, rfl⟩, call_meets F.slot_tuple_mul ⟨_, ho, rfl⟩ F.entry_tuple_mul (F.args_tuple_mul_2 _ _) (tuple_mul0 l its.toArray n dd sl t hi) ⟨ho, ?_⟩⟩)
    have nf : H s.heap.objs.size = none := I.hok.fresh (Nat.le_refl _)
    refine ⟨.ref s.heap.objs.size, _, I.laid (t' := s.toks) (o := .tup []) (fun b ob q => Heap.get?_push_of_some _ q) (Nat.le_refl _) ?_, rfl, q _ _ (fun b o e => by rw [upd_ne (ne_of_none e nf)]; exact e) (SqT.of upd_same)⟩
    exact ⟨Nat.zero_le _, [], .nil, IsTup.new _ _⟩
  · refine wpAny_binaryOp_repeat_ref (T := "tuple") (U := "int") (by decide) ⟨_, ho, rfl⟩ (fun s' => typeIs_int s' 1 t) noFill_tuple_mul F.fills_int_mul F.slot_int_rmul repeat_tuple F.slot_int_index.lookup
      (call_meets F.slot_int_rmul (typeIs_int s 1 t) F.entry_int_rmul (F.args_int_rmul_2 _ _) (int_rmul_tuple 1 t l its.toArray n dd sl)
        ⟨ho, rfl, ⟨_, ho, rfl⟩, call_meets F.slot_tuple_mul ⟨_, ho, rfl⟩ F.entry_tuple_mul (F.args_tuple_mul_2 _ _) (tuple_mul1 l its.toArray n dd sl t) ⟨ho, ?_⟩⟩)
    refine ⟨.ref l, H, I.tok _, rfl, q l H (fun _ _ e => e) ?_⟩
    have e : (List.replicate (1 : Int).toNat xs).flatten = xs := by simp
    rw [e]
    exact hT
end
end L2



set_option Elab.async false
set_option maxRecDepth 100000
/-! The drawing of numbers: _law_mixed, _law_begin, _law_draw. -/
namespace SW
open PySem PySem.Spec PyProof.Rows L2
def top (i : Nat) : Stmt := PySem.Challenge.pw_stepwhere_k04_whole_rooms_kept.main.body.getD i (.Pass ⟨0, 0, 0, 0⟩)
abbrev sMixed : Stmt := top 73
abbrev sBegin : Stmt := top 74
abbrev sDraw : Stmt := top 75
/-- where the drawing keeps its things: the dict, the list of what is left, the cells -/
structure RA where
  s : Addr
  l : Addr
  c : Addr
  r : Int
/-- the same, the room told otherwise -/
def RA.rm (a : RA) (r : Int) : RA := ⟨a.s, a.l, a.c, r⟩
/-- none of the three -/
structure Off (a : RA) (p : Addr) : Prop where
  s : p ≠ a.s
  l : p ≠ a.l
  c : p ≠ a.c
/-- what stays but for the two objects that a draw writes -/
def But (a : RA) (H H' : Hp) : Prop := ∀ b o, H b = some o → b ≠ a.s → b ≠ a.l → H' b = some o
theorem But.refl (a : RA) (H : Hp) : But a H H := fun _ _ e _ _ => e
theorem But.trans {a : RA} {H H1 H2 : Hp} (x : But a H H1) (y : But a H1 H2) : But a H H2 := fun c o e h1 h2 => y c o (x c o e h1 h2) h1 h2
theorem Same.but {a : RA} {H H' : Hp} (x : Same H H') : But a H H' := fun c o e _ _ => x c o e
theorem But.at {a : RA} {H H' : Hp} {p : Addr} {o : HO} (x : But a H H') (f : Off a p) (e : H p = some o) : H' p = some o := x p o e f.s f.l
theorem But.free {a : RA} {H H' : Hp} {p : Addr} (x : But a H H') (f : Off a p) (h : H' p = none) : H p = none := by
  cases e : H p with
  | none => rfl
  | some o =>
    rw [x.at f e] at h
    cases h
/-- an object that was not there is written -/
theorem But.new {a : RA} {H H' : Hp} {p : Addr} {o : HO} (x : But a H H') (h : H p = none) : But a H (upd H' p o) := fun b u e h1 h2 => by
  rw [upd_ne (ne_of_none e h)]
  exact x b u e h1 h2
theorem same_new {H : Hp} {p : Addr} {o : HO} (h : H p = none) : Same H (upd H p o) := fun b u e => by
  rw [upd_ne (ne_of_none e h)]
  exact e
theorem Same.new {H H' : Hp} {p : Addr} {o : HO} (x : Same H H') (h : H p = none) : Same H (upd H' p o) := fun b u e => by
  rw [upd_ne (ne_of_none e h)]
  exact x b u e
/-- a comprehension without an if -/
theorem tyes {σ : L2.St} {H : Hp} {f g : Hp → Prop} (h : f H) : tYes σ H fun b H3 => if b = true then f H3 else g H3 := by
  show (if true = true then f H else g H)
  exact iteT h
theorem int_at {ns : List Int} {i : Nat} {y : V} (h : (ns.map V.int)[i]? = some y) : ∃ z, ns[i]? = some z ∧ y = V.int z := by
  rw [List.getElem?_map] at h
  cases e : ns[i]? with
  | none =>
    rw [e] at h
    cases h
  | some z =>
    rw [e] at h
    exact ⟨z, rfl, (Option.some.inj h).symm⟩
/-- the pairs of the dict of draws -/
def rk (c l : Addr) (n : Nat) (r : Int := 0) : List (Key × V) := [(.inr "cells", .ref c), (.inr "lefts", .ref l), (.inr "at", .int (n : Int)), (.inr "room", .int r)]
structure Rnd (H : Hp) (a : RA) (n : Nat) : Prop where
  ex : ∃ (ns ls : List Int), H a.s = some (.dK (rk a.c a.l n a.r)) ∧ H a.c = some (.lst (ns.map V.int)) ∧ H a.l = some (.lst (ls.map V.int)) ∧ ls.length = ns.length ∧ 0 < ns.length ∧ ns.length ≤ 63 ∧ (∀ x ∈ ls, 0 ≤ x) ∧ a.c ≠ a.s ∧ a.c ≠ a.l
theorem Rnd.same {H H' : Hp} {a : RA} {n : Nat} (R : Rnd H a n) (e : Same H H') : Rnd H' a n := by
  obtain ⟨ns, ls, h1, h2, h3, r⟩ := R
  exact ⟨ns, ls, e _ _ h1, e _ _ h2, e _ _ h3, r⟩
/-- an object beside is written -/
theorem Rnd.upd {H : Hp} {a : RA} {n : Nat} {p : Addr} {o : HO} (R : Rnd H a n) (f : Off a p) : Rnd (upd H p o) a n := by
  obtain ⟨ns, ls, h1, h2, h3, r⟩ := R
  exact ⟨ns, ls, by rw [upd_ne f.s.symm]; exact h1, by rw [upd_ne f.c.symm]; exact h2, by rw [upd_ne f.l.symm]; exact h3, r⟩
/-- a new object is none of the three -/
theorem Rnd.off {H : Hp} {a : RA} {p : Addr} {n : Nat} (R : Rnd H a n) (h : H p = none) : Off a p := by
  obtain ⟨ns, ls, h1, h2, h3, r⟩ := R
  exact ⟨(ne_of_none h1 h).symm, (ne_of_none h3 h).symm, (ne_of_none h2 h).symm⟩
/-- the numbers 48271 .. are mixed: some number below 2147483629 -/
def spMixed : Sp := fun vs H Q _ => ∃ (c k : Int), vs = [.int c, .int k] ∧ 0 ≤ k ∧ k ≤ 1000000 ∧ ∀ r : Int, 0 ≤ r → r < 2147483629 → Q (.int r) H
def spBegin (K : PySem.W.Frag) : Sp := fun vs H Q _ => ∃ (x : Addr) (ns : List Int), vs = [.ref x] ∧ SqL K H x (ns.map V.int) ∧ ns.length ≤ 63 ∧
  ∀ (a : RA) (H' : Hp), Same H H' → H a.s = none → H a.l = none → Rnd H' a 0 → Q (.ref a.s) H'
/-- a draw: a number below many; the dict and the list of what is left are written -/
def spDraw : Sp := fun vs H Q _ => ∃ (a : RA) (n : Nat) (many : Int), vs = [.ref a.s, .int many] ∧ Rnd H a n ∧ n + 60 ≤ 1000000 ∧ 0 < many ∧ many.natAbs < 2 ^ 200 ∧
  ∀ (r : Int) (H' : Hp), 0 ≤ r → r < many → Rnd H' a (n + 1) → But a H H' → Q (.int r) H'
section
variable {P : Program} {w : World} {K : PySem.W.Frag} {mg : Str → Option Value} {base : Heap}
theorem scMixed : FnScope ["cell", "k"] ["cell", "k"] (defScope sMixed) := ⟨rfl, rfl, rfl, by decide +kernel, rfl, by decide +kernel, by decide +kernel⟩
theorem ok_mixed {f : Addr} {fd : FuncData} (F : Fun K "_law_mixed" "_law_mixed" sMixed f fd) (mI : mg "int" = none) : FnOk P w K mg base CX0 1 f fd ["cell", "k"] spMixed := by
  refine F.ok scMixed (fun vs H Q E h => ?_) (fun cdv A outer s H vs Q E hr h => ?_)
  · obtain ⟨c, k, rfl, _⟩ := h
    rfl
  · obtain ⟨c, k, rfl, h0, h1, q⟩ := h
    refine ⟨_, pss_cons (ps_set (i := 0) scMixed.nd rfl (Or.inl rfl) (pe_op op_mod (pe_callTy call_int1 (by rfl) mI boot_int (pa_cons (pv 0) pa_nil)) pe_int))
      (pss_one (ps_ret (pe_op op_mod (pe_op op_mul (pe_op op_mod (pe_op op_add (pe_op op_add
        (pe_op op_mul (pv 0) (pe_op op_add pe_int (pe_op op_mul (pe_op op_mul pe_int (pv 1)) (pv 1)))) (pe_op op_mul pe_int (pv 1))) pe_int) pe_int) pe_int) pe_int))), ?_⟩
    refine ⟨_, rfl, .inl ⟨c, rfl, _, _, rfl, rfl, (by show (0 : Int) < 2147483647; decide), ?_⟩⟩
    have b0 : 0 ≤ c % 2147483647 := Int.emod_nonneg _ (by decide)
    have b1 : c % 2147483647 < 2147483647 := Int.emod_lt_of_pos _ (by decide)
    refine ⟨_, rfl, _, rfl, _, _, rfl, rfl, .inl ⟨by decide, by decide⟩, _, rfl, _, _, rfl, rfl, .inl ⟨by omega, by omega⟩, _, _, rfl, rfl, _, _, rfl, rfl, .inl ⟨by omega, by omega⟩, ?_⟩
    refine ⟨_, rfl, _, _, rfl, rfl, .inl ⟨by decide, by decide⟩, _, _, rfl, rfl, _, _, rfl, rfl, _, _, rfl, rfl, (by show (0 : Int) < 2147483647; decide), _, _, rfl, rfl, .inr ⟨by decide, by decide⟩, _, _, rfl, rfl, (by show (0 : Int) < 2147483629; decide), ?_⟩
    exact q _ (Int.emod_nonneg _ (by decide)) (Int.emod_lt_of_pos _ (by decide))
/-! _law_begin -/
theorem scBegin : FnScope ["script", "cells", "cell"] ["script"] (defScope sBegin) := ⟨rfl, rfl, rfl, by decide +kernel, rfl, by decide +kernel, by decide +kernel⟩
/-- the lefts of the cells -/
def leftOf (c : Int) : Int := if 1000000000000000000 ≤ c then c else 0
theorem leftOf_nn (c : Int) : 0 ≤ leftOf c := by unfold leftOf; split <;> omega
theorem canLay_ints : ∀ ns : List Int, PyData.canLayAll0 (ns.map PyData.int) = true
  | [] => rfl
  | n :: r => by rw [List.map_cons]; simp only [PyData.canLayAll0, PyData.canLay0, canLay_ints r, Bool.and_self]
theorem depth_ints : ∀ ns : List Int, PyData.depthAll (ns.map PyData.int) = 0
  | [] => rfl
  | n :: r => by rw [List.map_cons]; simp only [PyData.depthAll, PyData.depth, depth_ints r, Nat.max_self]
theorem shaped_ints (ns : List Int) : SeqAt.shaped (.list (ns.map PyData.int)) = true := by
  unfold SeqAt.shaped
  simp only [PyData.canLay0, PyData.depth, canLay_ints, depth_ints]
  decide
theorem dpAll_ints {K : PySem.W.Frag} {H : Hp} : ∀ ns : List Int, DpAll K H (ns.map V.int) (ns.map PyData.int)
  | [] => .nil
  | n :: r => .cons (.int n) (dpAll_ints r)
end
end SW



set_option Elab.async false
set_option maxRecDepth 100000
namespace SW
open PySem PySem.Spec PyProof.Rows L2
section
variable {P : Program} {w : World} {K : PySem.W.Frag} {mg : Str → Option Value} {base : Heap}
theorem eqv_ints_nil : ∀ ns : List Int, (!PyData.eqv (.list (ns.map PyData.int)) (.list [])) = decide (ns ≠ [])
  | [] => by simp [PyData.eqv, PyData.eqvAll]
  | n :: r => by simp [PyData.eqv, PyData.eqvAll]
theorem ok_begin {f : Addr} {fd : FuncData} (F : Fun K "_law_begin" "_law_begin" sBegin f fd) (mL : mg "list" = none) : FnOk P w K mg base CX0 1 f fd ["script"] (spBegin K) := by
  refine F.ok scBegin (fun vs H Q E h => ?_) (fun cdv A outer s H vs Q E hr h => ?_)
  · obtain ⟨a, ns, rfl, _⟩ := h
    rfl
  · obtain ⟨a, ns, rfl, hS, hl, k⟩ := h
    have hu := hr.units
    refine ⟨_, C8.pss_cut (ps_set (i := 1) scBegin.nd rfl (Or.inl rfl) (pe_ifExp (pt_cmpR (op_neD hu) (pv 0) (pe_lst pa_nil) (nomark _))
        (pe_callTy call_list_of (by rfl) mL boot_list (pa_cons (pv 0) pa_nil)) (pe_lst (pa_cons pe_int pa_nil))))
      (pss_one (ps_ret (pe_disp (pps_cons pe_str (pv 1) (pps_cons pe_str
        (pe_lc (own := [("cell", 2)]) (g := gName 2) (tt := tYes) rfl scBegin.nd (pi_list (pv 1)) (blkOk_by (N := ["script", "cells", "cell"]) (sc := defScope sBegin) (by decide +kernel))
          (fun _ _ _ _ _ => pg_name (i := 2) scBegin.nd rfl (Or.inl rfl)) (fun _ _ _ _ _ => pts_nil)
          (fun _ _ _ _ _ => pe_ifExp (pt_cmpR op_ge (pv 2) (pe_op op_pow pe_int pe_int) (nomark _)) (pv 2) pe_int))
        (pps_cons pe_str pe_int (pps_cons pe_str pe_int pps_nil)))) rfl rfl (by simp) (by decide)))), ?_⟩
    refine ⟨fun σ H1 => ∃ (c : Addr) (ms : List Int), σ = [some (.ref a), some (.ref c), none] ∧ Same H H1 ∧ H1 c = some (.lst (ms.map V.int)) ∧ 0 < ms.length ∧ ms.length ≤ 63, ?_, ?_⟩
    · refine ⟨_, rfl, Nat.zero_le _, fun p hp => ?_⟩
      have s1 : Same H (upd H p (.lst [])) := fun b o e => by
        rw [upd_ne (ne_of_none e hp)]
        exact e
      refine ⟨.list (ns.map .int), .list [], .lst (s1.seq hS) (dpAll_ints ns), .lst (SqL.of upd_same) .nil, shaped_ints ns, shaped_ints [], _, rfl, ?_⟩
      rw [eqv_ints_nil]
      refine ite2 (fun h => ?_) (fun h => ?_)
      · have hn : ns ≠ [] := of_decide_eq_true h
        refine ⟨_, rfl, _, _, rfl, .inl (s1.seq hS), fun l hl' => ?_⟩
        refine ⟨l, ns, rfl, fun b o e => ?_, upd_same, List.length_pos_iff.mpr hn, hl⟩
        rw [upd_ne (ne_of_none (s1 b o e) hl')]
        exact s1 b o e
      · refine ⟨(by show 1 ≤ sizeLine; decide), fun l hl' => ?_⟩
        refine ⟨l, [0], rfl, fun b o e => ?_, upd_same, (by decide), (by decide)⟩
        rw [upd_ne (ne_of_none (s1 b o e) hl')]
        exact s1 b o e
    · rintro σ H1 ⟨c, ms, rfl, s1, hc, h0, h1⟩
      intro p hp
      have s2 : Same H1 (upd H1 p (.dK [])) := fun b o e => by
        rw [upd_ne (ne_of_none e hp)]
        exact e
      refine ⟨_, rfl, ?_⟩
      refine ⟨_, rfl, c, rfl, ⟨_, s2.seq (SqL.of hc)⟩, fun D hD => ?_⟩
      have npD : p ≠ D := ne_of_none upd_same hD
      have hD1 : H1 D = none := by
        have z := hD
        rw [upd_ne npD.symm] at z
        exact z
      refine lc_list (K := K) (a := c) (xs := ms.map V.int) (fun i H2 => H2 p = some (.dK []) ∧ Same H1 H2 ∧ H2 D = some (.lst ((ms.take i).map fun z => V.int (leftOf z))))
        ⟨by rw [upd_ne npD, upd_same], fun b o e => by rw [upd_ne (ne_of_none e hD1)]; exact s2 b o e, upd_same⟩ (fun i H2 _ ⟨_, s3, _⟩ => s3.seq (SqL.of hc)) ?_ ?_
      · rintro i y H2 hi ⟨e1, s3, e2⟩
        obtain ⟨z, hz, rfl⟩ := int_at hi
        have hil : i < ms.length := (List.getElem?_eq_some_iff.mp hz).1
        have more : ∀ v : V, v = V.int (leftOf z) → (upd H2 D (.lst ((ms.take i).map (fun z => V.int (leftOf z)) ++ [v]))) D = some (.lst ((ms.take (i + 1)).map fun z => V.int (leftOf z))) := fun v ev => by
          rw [upd_same, List.take_add_one, hz, List.map_append, ev]
          all_goals rfl
        have keep : ∀ o, Same H1 (upd H2 D o) := fun o b u e => by
          rw [upd_ne (ne_of_none e hD1)]
          exact s3 b u e
        have kp : ∀ o, (upd H2 D o) p = some (.dK []) := fun o => by
          rw [upd_ne npD]
          exact e1
        have lt : ((ms.take i).map fun z => V.int (leftOf z)).length < sizeLine := small1000 (by rw [List.length_map, List.length_take]; omega)
        refine ⟨rfl, ?_⟩
        refine tyes ?_
        refine ⟨_, rfl, _, _, rfl, rfl, ⟨by decide, by decide, by decide⟩, _, _, rfl, rfl, _, rfl, ?_⟩
        refine ite2 (fun h => ?_) (fun h => ?_)
        · have h' : (1000000000000000000 : Int) ≤ z := of_decide_eq_true h
          exact ⟨_, rfl, _, e2, lt, kp _, keep _, more _ (by unfold leftOf; rw [if_pos h'])⟩
        · have h' : ¬ (1000000000000000000 : Int) ≤ z := fun q => h (decide_eq_true q)
          exact ⟨_, e2, lt, kp _, keep _, more _ (by unfold leftOf; rw [if_neg h'])⟩
      · rintro H2 ⟨e1, s3, e2⟩
        rw [List.length_map, List.take_length] at e2
        refine ⟨e1, rk c D 0, rfl, (by show 4 ≤ 15; decide), ?_⟩
        have hp1 : H p = none := s1.free hp
        have hD0 : H D = none := s1.free hD1
        have sp : Same H1 (upd H2 p (.dK (mergeK [] (rk c D 0)))) := fun b o e => by
          rw [upd_ne (ne_of_none e hp)]
          exact s3 b o e
        refine k ⟨p, D, c, 0⟩ _ (s1.trans sp) hp1 hD0 ⟨ms, ms.map leftOf, ?_, sp _ _ hc, ?_, by rw [List.length_map], h0, h1, fun x hx => ?_, ?_, ?_⟩
        · show (upd H2 p _) p = _
          rw [upd_same]
          all_goals rfl
        · show (upd H2 p _) D = _
          rw [upd_ne npD.symm, e2, List.map_map]
          all_goals rfl
        · obtain ⟨z, _, rfl⟩ := List.mem_map.mp hx
          exact leftOf_nn z
        · exact ne_of_none hc hp
        · exact ne_of_none hc hD1
end
end SW



set_option Elab.async false
set_option maxRecDepth 100000
namespace SW
open PySem PySem.Spec PyProof.Rows L2
theorem rk_cells (c l : Addr) (n : Nat) (rm : Int) : valV (rk c l n rm) (.inr "cells") = some (.ref c) := by with_unfolding_all rfl
theorem rk_lefts (c l : Addr) (n : Nat) (rm : Int) : valV (rk c l n rm) (.inr "lefts") = some (.ref l) := by with_unfolding_all rfl
theorem rk_at (c l : Addr) (n : Nat) (rm : Int) : valV (rk c l n rm) (.inr "at") = some (.int (n : Int)) := by with_unfolding_all rfl
theorem rk_put (c l : Addr) (n : Nat) (rm : Int) : putK (rk c l n rm) (.inr "at") (.int ((n : Int) + 1)) = rk c l (n + 1) rm := by
  have e : ((n + 1 : Nat) : Int) = (n : Int) + 1 := by omega
  unfold rk
  rw [e]
  with_unfolding_all rfl
section
variable {P : Program} {w : World} {K : PySem.W.Frag} {mg : Str → Option Value} {base : Heap}
theorem scDraw : FnScope ["state", "many", "at", "place", "left", "number"] ["state", "many"] (defScope sDraw) := ⟨rfl, rfl, rfl, by decide +kernel, rfl, by decide +kernel, by decide +kernel⟩
theorem ok_draw {f fM : Addr} {fd fdM : FuncData} (F : Fun K "_law_draw" "_law_draw" sDraw f fd) (GM : FnOk P w K mg base CX0 1 fM fdM ["cell", "k"] spMixed) (bM : Binds K fdM ["cell", "k"] []) (gM : mg "_law_mixed" = some (.ref fM)) (kM : PySem.W.keepIn K (.ref fM) = true)
    (mI : mg "int" = none) (mL : mg "len" = none) : FnOk P w K mg base CX0 2 f fd ["state", "many"] spDraw := by
  refine F.ok scDraw (fun vs H Q E h => ?_) (fun cdv A outer s H vs Q E hr h => ?_)
  · obtain ⟨a, n, many, rfl, _⟩ := h
    rfl
  · obtain ⟨⟨a, l, c, rm⟩, n, many, rfl, ⟨ns, ls, hd, hc, hls, e1, e2, e3, e4, e5, e6⟩, hn, hm, hm2, k⟩ := h
    dsimp only at hd hc hls e5 e6
    have hu := hu_of hr
    have nal : a ≠ l := ne_of hd hls (by intro z; cases z)
    refine ⟨_, pss_cons (ps_set (i := 2) scDraw.nd rfl (Or.inl rfl) (pe_dget hu (pv 0) pe_str (fun _ _ => rfl)))
      (pss_cons (ps_dput hu (pv 0) pe_str (pe_op op_add (pv 2) pe_int) rfl)
      (pss_cons (ps_set (i := 3) scDraw.nd rfl (Or.inl rfl) (pe_op op_mod (pe_callTy call_int1 (by rfl) mI boot_int (pa_cons (pv 2) pa_nil)) (pe_callB call_len_seq (by rfl) mL boot_len (pa_cons (pe_dget hu (pv 0) pe_str (fun _ _ => rfl)) pa_nil))))
      (pss_cons (ps_set (i := 4) scDraw.nd rfl (Or.inl rfl) (pe_ix ix_list (pe_dget hu (pv 0) pe_str (fun _ _ => rfl)) (pv 3) (fun _ _ => rfl)))
      (pss_cons (ps_if (pt_cmpR op_gt (pv 4) pe_int (nomark _))
        (pss_cons (ps_asg (pe_op op_fdivW (pv 4) (pv 1)) (pg_sub (pe_dget hu (pv 0) pe_str (fun _ _ => rfl)) (pv 3) set_list))
        (pss_one (ps_ret (pe_op op_mod (pe_callTy call_int1 (by rfl) mI boot_int (pa_cons (pv 4) pa_nil)) (pv 1))))) pss_nil)
      (pss_cons (ps_set (i := 5) scDraw.nd rfl (Or.inl rfl) (pe_call GM hr rfl gM kM bM .nil pass0
        (pa_cons (pe_call GM hr rfl gM kM bM .nil pass0 (pa_cons (pe_ix ix_list (pe_dget hu (pv 0) pe_str (fun _ _ => rfl)) (pv 3) (fun _ _ => rfl)) (pa_cons (pv 2) pa_nil))) (pa_cons (pe_op op_add pe_int (pv 2)) pa_nil))))
      (pss_one (ps_ret (pe_op op_mod (pe_op op_fdiv (pe_callTy call_int1 (by rfl) mI boot_int
        (pa_cons (pe_op op_add (pe_op op_mul (pv 5) pe_int) (pe_call GM hr rfl gM kM bM .nil pass0 (pa_cons (pv 5) (pa_cons (pe_op op_add pe_int (pv 2)) pa_nil)))) pa_nil)) pe_int) (pv 1))))))))), ?_⟩
    -- at = state["at"]
    refine ⟨_, rfl, a, _, rfl, (rk_at c l n rm) ▸ DGet.k (k := Sum.inr "at") hd, ?_⟩
    -- state["at"] = at + 1
    refine ⟨_, rfl, _, _, rfl, rfl, _, rfl, a, _, rfl, DPut.k (k := Sum.inr "at") hd (small1000 (by show 4 ≤ 1000; decide)), ?_⟩
    rw [rk_put]
    have d1 : (upd H a (.dK (rk c l (n + 1) rm))) a = some (.dK (rk c l (n + 1) rm)) := upd_same
    have c1 : (upd H a (.dK (rk c l (n + 1) rm))) c = some (.lst (ns.map V.int)) := by
      rw [upd_ne e5]
      exact hc
    have l1 : (upd H a (.dK (rk c l (n + 1) rm))) l = some (.lst (ls.map V.int)) := by
      rw [upd_ne nal.symm]
      exact hls
    have b1 : But ⟨a, l, c, rm⟩ H (upd H a (.dK (rk c l (n + 1) rm))) := fun b o e h1 _ => by
      rw [upd_ne h1]
      exact e
    generalize upd H a (.dK (rk c l (n + 1) rm)) = H1 at d1 c1 l1 b1 ⊢
    -- place
    have hpos : (0 : Int) < (((ns.map V.int).length : Nat) : Int) := by rw [List.length_map]; omega
    refine ⟨_, rfl, .inl ⟨(n : Int), rfl, _, rfl, a, _, rfl, (rk_cells c l (n + 1) rm) ▸ DGet.k (k := Sum.inr "cells") d1, c, _, rfl, .inl (SqL.of c1), _, _, rfl, rfl, hpos, ?_⟩⟩
    obtain ⟨j, hj, hjl⟩ : ∃ j : Nat, (n : Int) % (((ns.map V.int).length : Nat) : Int) = (j : Int) ∧ j < ns.length := by
      refine ⟨n % ns.length, ?_, Nat.mod_lt _ e2⟩
      rw [List.length_map]
      omega
    have hL : (ls.map V.int)[j]? = some (V.int (ls[j]'(by omega))) := by
      rw [List.getElem?_map, List.getElem?_eq_getElem (by omega)]
      all_goals rfl
    have hC : (ns.map V.int)[j]? = some (V.int (ns[j]'hjl)) := by
      rw [List.getElem?_map, List.getElem?_eq_getElem hjl]
      all_goals rfl
    have left0 : 0 ≤ ls[j]'(by omega) := e4 _ (List.getElem_mem _)
    generalize ls[j]'(by omega) = left at hL left0
    generalize ns[j]'hjl = cell at hC
    -- left
    refine ⟨_, rfl, a, _, rfl, (rk_lefts c l (n + 1) rm) ▸ DGet.k (k := Sum.inr "lefts") d1, _, rfl, l, _, _, _, rfl, rfl, SqL.of l1, at_of hj hL, ?_⟩
    refine ⟨_, rfl, _, _, rfl, rfl, _, rfl, ?_⟩
    refine ite2 (fun h => ?_) (fun h => ?_)
    · -- a digit of the great cell
      have hlog : CDivW left many := wide_div hm hm2 (by decide) (by decide)
      refine ⟨_, rfl, _, rfl, _, _, rfl, rfl, hlog, ?_⟩
      refine ⟨_, rfl, a, _, rfl, (rk_lefts c l (n + 1) rm) ▸ DGet.k (k := Sum.inr "lefts") d1, _, rfl, l, _, _, j, rfl, rfl, l1, ?_, ?_⟩
      · show ixN (ls.map V.int).length ((n : Int) % (((ns.map V.int).length : Nat) : Int)) = some j
        rw [hj, List.length_map]
        unfold ixN
        rw [if_pos (by omega), if_pos (by omega)]
        rfl
      refine ⟨_, rfl, .inl ⟨left, rfl, _, rfl, _, _, rfl, rfl, hm, ?_⟩⟩
      have e0 : 0 ≤ left / many := Int.ediv_nonneg left0 (Int.le_of_lt hm)
      refine k _ _ (Int.emod_nonneg _ (by omega)) (Int.emod_lt_of_pos _ hm) ⟨ns, ls.set j (left / many), by rw [upd_ne nal]; exact d1, by rw [upd_ne e6]; exact c1, ?_, by rw [List.length_set]; exact e1, e2, e3, fun x hx => ?_, e5, e6⟩ fun b o e h1 h2 => ?_
      · rw [upd_same, List.map_set]
      · rcases List.mem_or_eq_of_mem_set hx with z | z
        · exact e4 x z
        · rw [z]
          exact e0
      · rw [upd_ne h2]
        exact b1 b o e h1 h2
    · -- mixed
      refine ⟨_, rfl, a, _, rfl, (rk_cells c l (n + 1) rm) ▸ DGet.k (k := Sum.inr "cells") d1, _, rfl, c, _, _, _, rfl, rfl, SqL.of c1, at_of hj hC, _, rfl, ?_⟩
      refine ⟨cell, (n : Int), rfl, by omega, by omega, fun r1 _ _ => ?_⟩
      refine ⟨_, rfl, _, _, rfl, rfl, ?_⟩
      refine ⟨r1, (40 : Int) + (n : Int), rfl, by omega, by omega, fun r2 r20 r2l => ?_⟩
      refine ⟨_, rfl, _, _, rfl, rfl, .inl ⟨by omega, by omega⟩, _, rfl, _, rfl, _, _, rfl, rfl, ?_⟩
      refine ⟨r2, (7 : Int) + (n : Int), rfl, by omega, by omega, fun r3 _ _ => ?_⟩
      refine ⟨_, _, rfl, rfl, .inl ⟨_, rfl, _, _, rfl, rfl, ⟨by decide, by decide⟩, _, rfl, _, _, rfl, rfl, hm, ?_⟩⟩
      exact k _ _ (Int.emod_nonneg _ (by omega)) (Int.emod_lt_of_pos _ hm) ⟨ns, ls, d1, c1, l1, e1, e2, e3, e4, e5, e6⟩ b1
end
end SW



set_option Elab.async false
set_option maxRecDepth 100000
/-! Names that are drawn: _law_name. -/
namespace SW
open PySem PySem.Spec PyProof.Rows L2
abbrev sName : Stmt := top 77
/-- a word of 1 to 8 letters a to z -/
def isNmB (z : Str) : Bool := decide (1 ≤ z.length) && decide (z.length ≤ 8) && z.cps.toList.all fun c => decide (97 ≤ c) && decide (c ≤ 122)
def isNm (z : Str) : Prop := isNmB z = true
def alpha : Str := "abcdefghijklmnopqrstuvwxyz"
theorem alpha_at : ∀ i : Fin 26, ∃ c, alpha.cps.toList[i.1]? = some c ∧ 97 ≤ c ∧ c ≤ 122 := by decide +kernel
def own1 : Str := "set hold reset drop show copy within if with guard loop leave yield fail make step close"
def own2 : Str := "vars piece context token unset used empty over ended shown failed"
def few : List Str := ["x", "y", "a", "b", "c", "t", "g", "ab", "abcdefgh"]
theorem few_ok : few.all isNmB = true := by decide +kernel
def owns : List Str := Txt.split own1 " " ++ Txt.split own2 " "
theorem owns_ok : owns.all isNmB = true ∧ owns.length = 28 := by decide +kernel
theorem nm_at {l : List Str} (h : l.all isNmB = true) {i : Nat} (hi : i < l.length) : ∃ z, (l.map V.str)[i]? = some (.str z) ∧ isNm z := by
  refine ⟨l[i], ?_, ?_⟩
  · rw [List.getElem?_map, List.getElem?_eq_getElem hi]
    rfl
  · exact List.all_eq_true.mp h _ (List.getElem_mem _)
theorem at_any {α : Type} {xs : List α} {z : Int} {j : Nat} {v : α} (e : z = (j : Int)) (h : xs[j]? = some v) : atI xs z = some v := by
  subst e
  exact atI_nat h
/-- a text of one sign for each code -/
def sgn (c : Nat) : Str := ⟨#[c]⟩
theorem fold_sgn : ∀ (rest : List Nat) (acc : Array Nat), (rest.map sgn).foldl (fun (acc : Array Nat) (p : Str) => acc ++ (Str.ofString "").cps ++ p.cps) acc = acc ++ rest.toArray
  | [], acc => by simp
  | c :: r, acc => by
    rw [List.map_cons, List.foldl_cons, fold_sgn r]
    have e : (Str.ofString "").cps = #[] := by decide +kernel
    rw [e]
    apply Array.ext'
    simp [sgn]
theorem join_sgn (cs : List Nat) : Txt.join (Str.ofString "") (cs.map sgn) = ⟨cs.toArray⟩ := by
  unfold Txt.join Builtin.Str.glued
  cases cs with
  | nil => rfl
  | cons c r =>
    rw [List.map_cons, List.drop_one, List.tail_cons, fold_sgn r]
    congr 1
    apply Array.ext'
    simp [sgn]
theorem sum_sgn : ∀ cs : List Nat, ((cs.map sgn).map fun x => x.length).sum = cs.length
  | [] => rfl
  | c :: r => by
    rw [List.map_cons, List.map_cons, List.sum_cons, sum_sgn r, List.length_cons]
    show 1 + r.length = _
    omega
theorem nm_cs {cs : List Nat} (h1 : 1 ≤ cs.length) (h2 : cs.length ≤ 8) (h : ∀ c ∈ cs, 97 ≤ c ∧ c ≤ 122) : isNm ⟨cs.toArray⟩ := by
  unfold isNm isNmB
  rw [Bool.and_eq_true, Bool.and_eq_true, List.all_eq_true]
  refine ⟨⟨decide_eq_true ?_, decide_eq_true ?_⟩, fun c hc => ?_⟩
  · show 1 ≤ cs.toArray.size
    rw [List.size_toArray]
    exact h1
  · show cs.toArray.size ≤ 8
    rw [List.size_toArray]
    exact h2
  · have z := h c (by simpa using hc)
    rw [Bool.and_eq_true]
    exact ⟨decide_eq_true z.1, decide_eq_true z.2⟩
/-- a name: some word; the draws are counted -/
def spName : Sp := fun vs H Q _ => ∃ (a : RA) (n : Nat), vs = [.ref a.s] ∧ Rnd H a n ∧ n + 100 ≤ 1000000 ∧
  ∀ (z : Str) (n' : Nat) (H' : Hp), isNm z → n' ≤ n + 10 → Rnd H' a n' → But a H H' → Q (.str z) H'
section
variable {P : Program} {w : World} {K : PySem.W.Frag} {mg : Str → Option Value} {base : Heap}
theorem scName : FnScope ["state", "few", "own", "way", "k"] ["state"] (defScope sName) := ⟨rfl, rfl, rfl, by decide +kernel, rfl, by decide +kernel, by decide +kernel⟩
theorem ok_name {f fD : Addr} {fd fdD : FuncData} (F : Fun K "_law_name" "_law_name" sName f fd) (GD : FnOk P w K mg base CX0 2 fD fdD ["state", "many"] spDraw) (bD : Binds K fdD ["state", "many"] []) (gD : mg "_law_draw" = some (.ref fD)) (kD : PySem.W.keepIn K (.ref fD) = true)
    (mR : mg "range" = none) : FnOk P w K mg base CX0 3 f fd ["state"] spName := by
  refine F.ok scName (fun vs H Q E h => ?_) (fun cdv A outer s H vs Q E hr h => ?_)
  · obtain ⟨a, n, rfl, _⟩ := h
    rfl
  · obtain ⟨a, n, rfl, R, hn, k⟩ := h
    refine ⟨_, pss_cons (ps_set (i := 1) scName.nd rfl (Or.inl rfl) (pe_lst (pa_cons pe_str (pa_cons pe_str (pa_cons pe_str (pa_cons pe_str (pa_cons pe_str (pa_cons pe_str (pa_cons pe_str (pa_cons pe_str (pa_cons pe_str pa_nil)))))))))))
      (pss_cons (ps_set (i := 2) scName.nd rfl (Or.inl rfl) (pe_split pe_str pe_str))
      (C8.pss_cut (ps_set (i := 2) scName.nd rfl (Or.inl rfl) (pe_op op_cat (pv 2) (pe_split pe_str pe_str)))
      (pss_cons (ps_set (i := 3) scName.nd rfl (Or.inl rfl) (pe_call GD hr rfl gD kD bD .nil pass0 (pa_cons (pv 0) (pa_cons pe_int pa_nil))))
      (pss_cons (ps_if (pt_cmpR op_lt (pv 3) pe_int (nomark _)) (pss_one (ps_ret (pe_ifExp (pt_cmpR op_eq (pv 3) pe_int (nomark _))
          (pe_ix ix_list (pv 1) (pe_call GD hr rfl gD kD bD .nil pass0 (pa_cons (pv 0) (pa_cons pe_int pa_nil))) (fun _ _ => rfl))
          (pe_ix ix_list (pv 2) (pe_call GD hr rfl gD kD bD .nil pass0 (pa_cons (pv 0) (pa_cons pe_int pa_nil))) (fun _ _ => rfl))))) pss_nil)
      (pss_one (ps_ret (pe_join pe_str (pe_lc (own := [("k", 4)]) (g := gName 4) (tt := tYes) rfl scName.nd
          (pi_range1 rfl mR (pa_cons (pe_op op_add pe_int (pe_call GD hr rfl gD kD bD .nil pass0 (pa_cons (pv 0) (pa_cons pe_int pa_nil)))) pa_nil))
          (blkOk_by (N := ["state", "few", "own", "way", "k"]) (sc := defScope sName) (by decide +kernel))
          (fun _ _ _ _ _ => pg_name (i := 4) scName.nd rfl (Or.inl rfl)) (fun _ _ _ _ _ => pts_nil)
          (fun _ _ _ _ _ => pe_ix ix_str pe_str (pe_call GD hr rfl gD kD bD .nil pass0 (pa_cons (pv 0) (pa_cons pe_int pa_nil))) (fun _ _ => rfl)))))))))), ?_⟩
    -- few
    refine ⟨(by show 9 ≤ sizeLine; decide), fun p1 np1 => ?_⟩
    -- own
    refine ⟨⟨_, rfl⟩, _, _, rfl, rfl, by decide +kernel, by decide +kernel, fun p2 np2 => ?_⟩
    refine ⟨fun σ H4 => ∃ p1 p4, σ = [some (.ref a.s), some (.ref p1), some (.ref p4), none, none] ∧ Same H H4 ∧ H4 p1 = some (.lst (few.map V.str)) ∧ H4 p4 = some (.lst (owns.map V.str)) ∧ Off a p1 ∧ Off a p4, ?_, ?_⟩
    · refine ⟨_, rfl, ⟨_, rfl⟩, _, _, rfl, rfl, by decide +kernel, by decide +kernel, fun p3 np3 => ?_⟩
      have n23 : p2 ≠ p3 := ne_of_none upd_same np3
      refine ⟨_, _, _, _, rfl, rfl, (upd_ne n23).trans upd_same, upd_same, by decide +kernel, fun p4 np4 => ?_⟩
      refine ⟨p1, p4, rfl, ((((same_new np1).trans (same_new np2)).trans (same_new np3)).trans (same_new np4)), (((same_new np2).trans (same_new np3)).trans (same_new np4)) p1 _ upd_same, ?_, R.off np1, (R.same (((same_new np1).trans (same_new np2)).trans (same_new np3))).off np4⟩
      rw [upd_same]
      unfold owns
      rw [List.map_append]
      rfl
    rintro σ H4 ⟨p1, p4, rfl, sA, hF, hO, nF, nO⟩
    have R4 := R.same sA
    have b4 : But a H H4 := Same.but sA
    -- way
    refine ⟨_, rfl, a, n, 3, rfl, R4, by omega, by decide, by decide, fun way H5 w0 wl R5 b5 => ?_⟩
    refine ⟨_, rfl, _, _, rfl, rfl, _, rfl, ?_⟩
    refine ite2 (fun h => ?_) (fun h => ?_)
    · refine ⟨_, rfl, rfl, _, rfl, ?_⟩
      refine ite2 (fun h => ?_) (fun h => ?_)
      · refine ⟨_, rfl, _, rfl, a, n + 1, 9, rfl, R5, by omega, by decide, by decide, fun i H6 i0 il R6 b6 => ?_⟩
        obtain ⟨z, hz, nz⟩ := nm_at few_ok (i := i.toNat) (by show i.toNat < 9; omega)
        exact ⟨p1, _, _, _, rfl, rfl, SqL.of (b6.at nF (b5.at nF hF)), at_of (by omega) hz, k z _ H6 nz (by omega) R6 ((b4.trans b5).trans b6)⟩
      · refine ⟨_, rfl, _, rfl, a, n + 1, 27, rfl, R5, by omega, by decide, by decide, fun i H6 i0 il R6 b6 => ?_⟩
        obtain ⟨z, hz, nz⟩ := nm_at owns_ok.1 (i := i.toNat) (by rw [owns_ok.2]; omega)
        exact ⟨p4, _, _, _, rfl, rfl, SqL.of (b6.at nO (b5.at nO hO)), at_of (by omega) hz, k z _ H6 nz (by omega) R6 ((b4.trans b5).trans b6)⟩
    · -- any letters
      refine ⟨⟨_, rfl⟩, _, rfl, a, n + 1, 8, rfl, R5, by omega, by decide, by decide, fun m H6 m0 ml R6 b6 => ?_⟩
      refine ⟨_, _, rfl, rfl, (1 : Int) + m, rfl, by omega, by omega, fun D nD => ?_⟩
      have nD2 := R6.off nD
      have bA := (b4.trans b5).trans b6
      have nDH := bA.free nD2 nD
      refine lc_range (lo := 0) (n := ((1 : Int) + m).toNat) (fun i H7 => ∃ (cs : List Nat), H7 D = some (.lst ((cs.map sgn).map V.str)) ∧ cs.length = i ∧ (∀ c ∈ cs, 97 ≤ c ∧ c ≤ 122) ∧ Rnd H7 a (n + 1 + 1 + i) ∧ But a H H7)
        ⟨[], upd_same, rfl, fun _ h => by simp at h, R6.same (same_new nD), ((b4.trans b5).trans b6).trans (Same.but (same_new nD))⟩ ?_ ?_
      · rintro i H7 hi ⟨cs, e1, e2, e3, R7, b7⟩
        refine ⟨rfl, ?_⟩
        refine tyes ?_
        refine ⟨_, rfl, a, n + 1 + 1 + i, 26, rfl, R7, by omega, by decide, by decide, fun r H8 r0 rl R8 b8 => ?_⟩
        obtain ⟨c, hc, c1, c2⟩ := alpha_at ⟨r.toNat, by omega⟩
        have e8 := b8.at nD2 e1
        refine ⟨_, _, c, rfl, rfl, by decide +kernel, at_any (by show r = ((r.toNat : Nat) : Int); omega) hc, _, e8, small1000 (by rw [List.length_map, List.length_map]; omega), ?_⟩
        refine ⟨cs ++ [c], ?_, by rw [List.length_append, e2]; rfl, fun x hx => ?_, R8.upd nD2, (b7.trans b8).new nDH⟩
        · rw [upd_same, List.map_append, List.map_append]
          rfl
        · rcases List.mem_append.mp hx with z | z
          · exact e3 x z
          · rw [List.mem_singleton.mp z]
            exact ⟨c1, c2⟩
      · rintro H7 ⟨cs, e1, e2, e3, R7, b7⟩
        refine ⟨_, D, cs.map sgn, rfl, rfl, .inl (SqL.of e1), ?_, ?_⟩
        · have el : (Str.ofString "").length = 0 := by decide +kernel
          rw [el, Nat.mul_zero, Nat.add_zero, sum_sgn]
          omega
        · rw [join_sgn]
          exact k _ _ H7 (nm_cs (by omega) (by omega) e3) (by omega) R7 b7
end
end SW



set_option Elab.async false
set_option maxRecDepth 100000
/-! Different names: _law_names. -/
namespace SW
open PySem PySem.Spec PyProof.Rows L2
abbrev sNames : Stmt := top 78
/-- a list without repeats within another one is no longer -/
theorem nodup_le {α : Type} [BEq α] [LawfulBEq α] : ∀ {ws zs : List α}, ws.Nodup → (∀ w ∈ ws, w ∈ zs) → ws.length ≤ zs.length
  | [], _, _, _ => Nat.zero_le _
  | w :: r, zs, hn, h => by
    obtain ⟨h1, h2⟩ := List.nodup_cons.mp hn
    have hw := h w List.mem_cons_self
    have ih := nodup_le (zs := zs.erase w) h2 fun x hx => (List.mem_erase_of_ne (fun e : x = w => h1 (by rw [← e]; exact hx))).mpr (h x (List.mem_cons_of_mem _ hx))
    rw [List.length_erase_of_mem hw] at ih
    have := List.length_pos_of_mem hw
    rw [List.length_cons]
    omega
theorem some_out {α : Type} [BEq α] [LawfulBEq α] {ws zs : List α} (hn : ws.Nodup) (h : zs.length < ws.length) : ∃ w ∈ ws, w ∉ zs := by
  by_cases q : ∃ w ∈ ws, w ∉ zs
  · exact q
  · have := nodup_le hn fun w hw => Classical.byContradiction fun z => q ⟨w, hw, z⟩
    omega
def qw (j : Nat) : Str := Str.ofString "q" ++ (⟨#[97 + j]⟩ : Str)
def qs : List Str := (List.range 26).map qw
theorem qs_ok : qs.length = 26 ∧ qs.all isNmB = true ∧ qs.Nodup := by decide +kernel
theorem alpha_qs : ∀ i : Fin 26, ∃ c, alpha.cps.toList[i.1]? = some c ∧ qs[i.1]? = some (Str.ofString "q" ++ (⟨#[c]⟩ : Str)) := by decide +kernel
theorem inV_str (z : Str) : ∀ zs : List Str, inV (.str z) (zs.map V.str) = decide (z ∈ zs)
  | [] => rfl
  | y :: r => by
    have ih := inV_str z r
    unfold inV at ih ⊢
    rw [List.map_cons, List.any_cons, ih]
    show (y == z || decide (z ∈ r)) = _
    by_cases e : y = z
    · simp [e]
    · have e' : ¬ z = y := fun q => e q.symm
      simp [e, e', List.mem_cons]
theorem flat_strs : ∀ zs : List Str, (zs.map V.str).all flatV = true
  | [] => rfl
  | y :: r => by
    rw [List.map_cons, List.all_cons, flat_strs r]
    rfl
theorem str_at {zs : List Str} {i : Nat} {y : V} (h : (zs.map V.str)[i]? = some y) : ∃ z, zs[i]? = some z ∧ y = V.str z := by
  rw [List.getElem?_map] at h
  cases e : zs[i]? with
  | none =>
    rw [e] at h
    cases h
  | some z =>
    rw [e] at h
    exact ⟨z, rfl, (Option.some.inj h).symm⟩
theorem filt_pos {α : Type} {p : α → Bool} {l : List α} {x : α} (h : p x = true) : (l ++ [x]).filter p = l.filter p ++ [x] := by
  rw [List.filter_append]
  simp [List.filter, h]
theorem filt_neg {α : Type} {p : α → Bool} {l : List α} {x : α} (h : p x = false) : (l ++ [x]).filter p = l.filter p := by
  rw [List.filter_append]
  simp [List.filter, h]
/-- so many different names -/
def spNames : Sp := fun vs H Q _ => ∃ (a : RA) (n m : Nat), vs = [.ref a.s, .int (m : Int)] ∧ Rnd H a n ∧ m ≤ 9 ∧ n + 1000 ≤ 1000000 ∧
  ∀ (p : Addr) (zs : List Str) (n' : Nat) (H' : Hp), H p = none → Off a p → H' p = some (.lst (zs.map V.str)) → zs.length = m → zs.Nodup → (∀ z ∈ zs, isNm z) → n' ≤ n + 10 * m → Rnd H' a n' → But a H H' → Q (.ref p) H'
section
variable {P : Program} {w : World} {K : PySem.W.Frag} {mg : Str → Option Value} {base : Heap}
theorem scNames : FnScope ["state", "many", "found", "k", "name", "some", "j", "one"] ["state", "many"] (defScope sNames) := ⟨rfl, rfl, rfl, by decide +kernel, rfl, by decide +kernel, by decide +kernel⟩
theorem ok_names {f fN : Addr} {fd fdN : FuncData} (F : Fun K "_law_names" "_law_names" sNames f fd) (GN : FnOk P w K mg base CX0 3 fN fdN ["state"] spName) (bN : Binds K fdN ["state"] []) (gN : mg "_law_name" = some (.ref fN)) (kN : PySem.W.keepIn K (.ref fN) = true)
    (mR : mg "range" = none) (mL : mg "len" = none) : FnOk P w K mg base CX0 4 f fd ["state", "many"] spNames := by
  refine F.ok scNames (fun vs H Q E h => ?_) (fun cdv A outer s H vs Q E hr h => ?_)
  · obtain ⟨a, n, m, rfl, _⟩ := h
    rfl
  · obtain ⟨a, n, m, rfl, R, hm, hn, k⟩ := h
    refine ⟨_, pss_cons (ps_set (i := 2) scNames.nd rfl (Or.inr rfl) (pe_lst pa_nil))
      (pss_cons (ps_for PassesOwn.never rfl (pi_range1 rfl mR (pa_cons (pv 1) pa_nil)) (pg_name (i := 3) scNames.nd rfl (Or.inl rfl))
        (pss_cons (ps_set (i := 4) scNames.nd rfl (Or.inl rfl) (pe_call GN hr rfl gN kN bN .nil pass0 (pa_cons (pv 0) pa_nil)))
        (pss_cons (ps_set (i := 5) scNames.nd rfl (Or.inl rfl) (pe_op op_cat (pe_lst (pa_cons (pv 4) pa_nil))
          (pe_lc (own := [("j", 6)]) (g := gName 6) (tt := tYes) rfl scNames.nd
            (pi_range1 rfl mR (pa_cons (pe_op op_add (pe_callB call_len_seq (by rfl) mL boot_len (pa_cons (pv 2) pa_nil)) pe_int) pa_nil))
            (blkOk_by (N := ["state", "many", "found", "k", "name", "some", "j", "one"]) (sc := defScope sNames) (by decide +kernel))
            (fun _ _ _ _ _ => pg_name (i := 6) scNames.nd rfl (Or.inl rfl)) (fun _ _ _ _ _ => pts_nil)
            (fun _ _ _ _ _ => pe_op op_add_str pe_str (pe_ix ix_str pe_str (pv 6) (fun _ _ => rfl))))))
        (pss_one (ps_expr (pe_bm PySem.F.plainAttrs_list PySem.F.slot_list_append PySem.F.type_list_append mt_append (pv 2) (pa_cons
          (pe_ix ix_list (pe_lc (own := [("one", 7)]) (g := gName 7) (tt := tTest (tOp (rIn K true) (tVar 7) (tVar 2))) rfl scNames.nd (pi_list (pv 5))
            (blkOk_by (N := ["state", "many", "found", "k", "name", "some", "j", "one"]) (sc := defScope sNames) (by decide +kernel))
            (fun _ _ _ _ _ => pg_name (i := 7) scNames.nd rfl (Or.inl rfl)) (fun _ _ _ _ _ => pts_one (pt_cmpR op_notIn_seq (pv 7) (pv 2) rfl))
            (fun _ _ _ _ _ => pv 7)) pe_int (fun _ _ => rfl)) pa_nil)))))))
      (pss_one (ps_ret (pv 2)))), ?_⟩
    -- found = []
    refine ⟨Nat.zero_le _, fun p np => ?_⟩
    have fp := R.off np
    refine ⟨_, rfl, (m : Int), rfl, by omega, by omega, for_range (lo := 0) (n := ((m : Int)).toNat) (fun i σ H' => ∃ (zs : List Str) (n' : Nat) (v3 v4 v5 : Option V), σ = [some (.ref a.s), some (.int (m : Int)), some (.ref p), v3, v4, v5, none, none] ∧
        H' p = some (.lst (zs.map V.str)) ∧ zs.length = i ∧ zs.Nodup ∧ (∀ z ∈ zs, isNm z) ∧ n' ≤ n + 10 * i ∧ Rnd H' a n' ∧ But a H H')
      ⟨[], n, none, none, none, rfl, upd_same, rfl, List.nodup_nil, (fun z h => by simp at h), Nat.le_refl _, R.same (same_new np), Same.but (same_new np)⟩ ?_ ?_⟩
    · rintro i σ H1 hi ⟨zs, n', v3, v4, v5, rfl, ep, el, nd, nm, hn', R1, b1⟩
      have him : i < m := by omega
      -- name = _law_name(state)
      refine ⟨_, rfl, a, n', rfl, R1, by omega, fun z n2 H2 nz hn2 R2 b2 => ?_⟩
      have ep2 := b2.at fp ep
      -- some = [name] + [..]
      refine ⟨_, rfl, (by show 1 ≤ sizeLine; decide), fun p1 np1 => ?_⟩
      have ep3 := same_new (o := .lst [.str z]) np1 _ _ ep2
      have hlen : (((((zs.map V.str).length : Nat) : Int) + 1).toNat) = i + 1 := by rw [List.length_map, el]; omega
      refine ⟨_, rfl, p, _, rfl, .inl (SqL.of ep3), _, _, rfl, rfl, _, rfl, (by rw [List.length_map]; omega), (by rw [List.length_map]; omega), fun D nD => ?_⟩
      refine lc_range (lo := 0) (n := (((((zs.map V.str).length : Nat) : Int) + 1).toNat)) (fun j H3 => H3 D = some (.lst ((qs.take j).map V.str)) ∧ Same (upd H2 p1 (.lst [.str z])) H3) ⟨upd_same, same_new nD⟩ ?_ ?_
      · rintro j H3 hj ⟨e1, s3⟩
        rw [hlen] at hj
        obtain ⟨c, hc, hq⟩ := alpha_qs ⟨j, by omega⟩
        refine ⟨rfl, ?_⟩
        refine tyes ?_
        have lt : ((qs.take j).map V.str).length < sizeLine := small1000 (by rw [List.length_map, List.length_take]; omega)
        refine ⟨_, rfl, _, _, c, rfl, rfl, by decide +kernel, at_any (by show (0 : Int) + (j : Int) = (j : Int); omega) hc, _, _, rfl, rfl, (by show (Str.ofString "q").length + 1 ≤ sizeLine; decide +kernel), _, e1, lt, ?_, Same.new s3 nD⟩
        rw [upd_same, List.take_add_one, hq, List.map_append]
        rfl
      · rintro H3 ⟨e1, s3⟩
        rw [hlen] at e1
        refine ⟨p1, D, _, _, rfl, rfl, s3 _ _ upd_same, e1, ?_, fun p2 np2 => ?_⟩
        · rw [List.length_map, List.length_take, qs_ok.1]
          show 1 + _ ≤ sizeLine
          have h7 : 1 + min (i + 1) 26 ≤ 1000 := by omega
          exact Nat.le_of_lt (small1000 h7)
        have ep4 := same_new (o := .lst ([V.str z] ++ (qs.take (i + 1)).map V.str)) np2 _ _ (s3 _ _ ep3)
        have b4 : But a H (upd H3 p2 (.lst ([V.str z] ++ (qs.take (i + 1)).map V.str))) := (b1.trans b2).trans (Same.but (((same_new np1).trans s3).trans (same_new np2)))
        have R4 : Rnd (upd H3 p2 (.lst ([V.str z] ++ (qs.take (i + 1)).map V.str))) a n2 := R2.same (((same_new np1).trans s3).trans (same_new np2))
        have ew : (upd H3 p2 (.lst ([V.str z] ++ (qs.take (i + 1)).map V.str))) p2 = some (.lst ((z :: qs.take (i + 1)).map V.str)) := upd_same
        generalize (upd H3 p2 (.lst ([V.str z] ++ (qs.take (i + 1)).map V.str))) = H4 at ep4 b4 R4 ew ⊢
        have hws : (qs.take (i + 1)).Nodup := qs_ok.2.2.sublist (List.take_sublist _ _)
        have hwl : (qs.take (i + 1)).length = i + 1 := by rw [List.length_take, qs_ok.1]; omega
        obtain ⟨w0, hw0, hw1⟩ := some_out (zs := zs) hws (by omega)
        have wsN : ∀ y ∈ z :: qs.take (i + 1), isNm y := fun y hy => by
          rcases List.mem_cons.mp hy with e | e
          · rw [e]
            exact nz
          · exact List.all_eq_true.mp qs_ok.2.1 _ (List.mem_of_mem_take e)
        have wsO : ∃ w ∈ z :: qs.take (i + 1), w ∉ zs := ⟨w0, List.mem_cons_of_mem _ hw0, hw1⟩
        have wsL : (z :: qs.take (i + 1)).length ≤ 100 := by rw [List.length_cons, hwl]; omega
        generalize z :: qs.take (i + 1) = ws at ew wsN wsO wsL
        -- found.append([..][0])
        refine ⟨_, rfl, Or.inl ⟨rfl, _, SqL.of ep4⟩, ?_⟩
        refine ⟨_, rfl, p2, rfl, ⟨_, SqL.of ew⟩, fun D2 nD2 => ?_⟩
        refine lc_list (K := K) (a := p2) (xs := ws.map V.str) (fun j H5 => H5 D2 = some (.lst (((ws.take j).filter fun y => decide (y ∉ zs)).map V.str)) ∧ Same H4 H5) ⟨upd_same, same_new nD2⟩ (fun j H5 _ ⟨_, s5⟩ => s5.seq (SqL.of ew)) ?_ ?_
        · rintro j y H5 hj ⟨e5, s5⟩
          obtain ⟨x, hx, rfl⟩ := str_at hj
          refine ⟨rfl, _, rfl, _, rfl, p, _, rfl, .inl (SqL.of (s5 _ _ ep4)), rfl, flat_strs zs, _, rfl, ?_⟩
          show (if (!inV (.str x) (zs.map V.str)) = true then _ else _)
          rw [inV_str]
          have et : ws.take (j + 1) = ws.take j ++ [x] := by rw [List.take_add_one, hx]; rfl
          refine ite2 (fun h => ?_) (fun h => ?_)
          · have hxz : decide (x ∉ zs) = true := by simpa using h
            refine ⟨_, rfl, _, e5, small1000 ?_, ?_, Same.new s5 nD2⟩
            · rw [List.length_map]
              exact Nat.le_trans (List.length_filter_le _ _) (by rw [List.length_take]; omega)
            · rw [upd_same, et, filt_pos (p := fun y => decide (y ∉ zs)) hxz, List.map_append]
              rfl
          · have hxz : ¬ decide (x ∉ zs) = true := by simpa using h
            refine ⟨?_, s5⟩
            rw [e5, et, filt_neg (p := fun y => decide (y ∉ zs)) (by simpa using hxz)]
        · rintro H5 ⟨e5, s5⟩
          rw [List.length_map, List.take_length] at e5
          obtain ⟨w, hw, hwz⟩ := wsO
          have hne : 0 < (ws.filter fun y => decide (y ∉ zs)).length := List.length_pos_of_mem (List.mem_filter.mpr ⟨hw, decide_eq_true hwz⟩)
          obtain ⟨g, hg⟩ : ∃ g, (ws.filter fun y => decide (y ∉ zs))[0]? = some g := ⟨_, List.getElem?_eq_getElem hne⟩
          have hgm := List.mem_filter.mp (List.mem_of_getElem? hg)
          have hgz : g ∉ zs := of_decide_eq_true hgm.2
          refine ⟨D2, _, 0, .str g, rfl, rfl, SqL.of e5, at_of (j := 0) rfl (by rw [List.getElem?_map, hg]; rfl), ?_⟩
          refine ⟨p, _, _, rfl, rfl, s5 _ _ ep4, small1000 (by rw [List.length_map]; omega), ?_⟩
          refine ⟨zs ++ [g], n2, _, _, _, rfl, ?_, by rw [List.length_append, el]; rfl, nd_snoc nd hgz, fun y hy => ?_, by omega, (R4.same s5).upd fp, (b4.trans (Same.but s5)).new np⟩
          · rw [upd_same, List.map_append]
            rfl
          · rcases List.mem_append.mp hy with e | e
            · exact nm y e
            · rw [List.mem_singleton.mp e]
              exact wsN g hgm.1
    · rintro σ H1 ⟨zs, n', v3, v4, v5, rfl, ep, el, nd, nm, hn', R1, b1⟩
      exact ⟨_, rfl, k p zs n' H1 np fp ep (by omega) nd nm (by omega) R1 b1⟩
end
end SW



set_option Elab.async false
set_option maxRecDepth 100000
/-! What a context holds, as a list of pairs. -/
namespace SW
open PySem PySem.Spec PyProof.Rows L2
def Small (v : Int) : Prop := v.natAbs < 10 ^ 60
abbrev Mp := List (Str × Int)
def kv (m : Mp) : List (Key × V) := m.map fun e => (.inr e.1, .int e.2)
def aget (m : Mp) (k : Str) : Option Int := (m.find? fun e => decide (e.1 = k)).map (·.2)
def aput (m : Mp) (k : Str) (v : Int) : Mp := if (m.any fun e => decide (e.1 = k)) = true then m.map (fun e => if e.1 = k then (e.1, v) else e) else m ++ [(k, v)]
def adrop (m : Mp) (k : Str) : Mp := m.filter fun e => decide (e.1 ≠ k)
def keys (m : Mp) : List Str := m.map (·.1)
theorem inr_eq (a b : Str) : ((Sum.inr a : Key) = Sum.inr b) = (a = b) := propext ⟨fun h => Sum.inr.inj h, fun h => congrArg _ h⟩
theorem valV_kv (k : Str) : ∀ m : Mp, valV (kv m) (.inr k) = (aget m k).map V.int
  | [] => rfl
  | e :: r => by
    have ih := valV_kv k r
    unfold valV kv aget at ih ⊢
    rw [List.map_cons, List.find?_cons, List.find?_cons]
    by_cases h : e.1 = k
    · simp [h]
    · simp only [inr_eq, decide_eq_false h]
      exact ih
theorem any_kv (k : Str) (m : Mp) : ((kv m).any fun e => decide (e.1 = (.inr k : Key))) = m.any fun e => decide (e.1 = k) := by
  unfold kv
  rw [List.any_map]
  congr 1
  funext e
  simp only [Function.comp, inr_eq]
theorem putK_kv (m : Mp) (k : Str) (v : Int) : putK (kv m) (.inr k) (.int v) = kv (aput m k v) := by
  unfold putK aput
  rw [any_kv]
  by_cases h : (m.any fun e => decide (e.1 = k)) = true
  · rw [if_pos h, if_pos h]
    unfold kv
    rw [List.map_map, List.map_map]
    congr 1
    funext e
    simp only [Function.comp, inr_eq]
    by_cases q : e.1 = k
    · rw [if_pos q, if_pos q]
    · rw [if_neg q, if_neg q]
  · rw [if_neg h, if_neg h]
    unfold kv
    rw [List.map_append]
    rfl
theorem dropK_kv (m : Mp) (k : Str) : dropK (kv m) (.inr k) = kv (adrop m k) := by
  unfold dropK adrop kv
  rw [List.filter_map]
  congr 1
  apply List.filter_congr
  intro e _
  simp only [Function.comp, ne_eq, inr_eq]
theorem aget_put (m : Mp) (k j : Str) (v : Int) : aget (aput m k v) j = if j = k then some v else aget m j := by
  have h := valV_put (kv m) (.inr k) (.inr j) (.int v)
  rw [putK_kv, valV_kv, valV_kv] at h
  simp only [inr_eq] at h
  by_cases q : j = k
  · rw [if_pos q] at h ⊢
    cases e : aget (aput m k v) j with
    | none => rw [e] at h; cases h
    | some x => rw [e] at h; cases h; rfl
  · rw [if_neg q] at h ⊢
    cases e : aget (aput m k v) j with
    | none =>
      rw [e] at h
      cases e' : aget m j with
      | none => rfl
      | some y => rw [e'] at h; cases h
    | some x =>
      rw [e] at h
      cases e' : aget m j with
      | none => rw [e'] at h; cases h
      | some y => rw [e'] at h; cases h; rfl
theorem aget_drop (k j : Str) : ∀ m : Mp, aget (adrop m k) j = if j = k then none else aget m j
  | [] => by simp [aget, adrop]
  | e :: r => by
    have ih := aget_drop k j r
    unfold aget adrop at ih ⊢
    by_cases h : e.1 = k
    · rw [List.filter_cons_of_neg (by simp [h]), ih, List.find?_cons]
      by_cases q : j = k
      · rw [if_pos q, if_pos q]
      · have : ¬ e.1 = j := fun z => q (z.symm.trans h)
        rw [if_neg q, if_neg q, decide_eq_false this]
    · rw [List.filter_cons_of_pos (by simp [h]), List.find?_cons, List.find?_cons]
      by_cases q : e.1 = j
      · have : ¬ j = k := fun z => h (q.trans z)
        simp [q, this]
      · simp only [decide_eq_false q]
        exact ih
theorem mem_keys {m : Mp} {k : Str} : k ∈ keys m ↔ (aget m k).isSome = true := by
  unfold keys aget
  induction m with
  | nil => simp
  | cons e r ih =>
    rw [List.map_cons, List.mem_cons, List.find?_cons]
    by_cases h : e.1 = k
    · simp [h]
    · have : ¬ k = e.1 := fun z => h z.symm
      simp only [decide_eq_false h, this, false_or]
      exact ih
theorem keys_drop (m : Mp) (k : Str) : keys (adrop m k) = (keys m).filter fun x => decide (x ≠ k) := by
  unfold keys adrop
  rw [List.filter_map]
  rfl
theorem keys_put (m : Mp) (k : Str) (v : Int) : keys (aput m k v) = if k ∈ keys m then keys m else keys m ++ [k] := by
  have ha : (m.any fun e => decide (e.1 = k)) = decide (k ∈ keys m) := by
    unfold keys
    induction m with
    | nil => rfl
    | cons e r ih =>
      rw [List.any_cons, ih, List.map_cons]
      by_cases h : e.1 = k
      · simp [h]
      · have : ¬ k = e.1 := fun z => h z.symm
        simp [h, this]
  unfold aput
  rw [ha]
  by_cases h : k ∈ keys m
  · rw [if_pos (decide_eq_true h), if_pos h]
    unfold keys
    rw [List.map_map]
    congr 1
    funext e
    simp only [Function.comp]
    by_cases q : e.1 = k
    · rw [if_pos q]
    · rw [if_neg q]
  · rw [if_neg (fun z => h (of_decide_eq_true z)), if_neg h]
    unfold keys
    rw [List.map_append]
    rfl
/-- no variable twice, all of the names ns, values below 10 ** 60 -/
structure Good (ns : List Str) (m : Mp) : Prop where
  nd : (keys m).Nodup
  sub : ∀ k ∈ keys m, k ∈ ns
  sm : ∀ e ∈ m, Small e.2
theorem Good.nil (ns : List Str) : Good ns [] := ⟨List.nodup_nil, fun _ h => by simp [keys] at h, fun _ h => by simp at h⟩
theorem mem_aput {m : Mp} {k : Str} {v : Int} {e : Str × Int} (h : e ∈ aput m k v) : e ∈ m ∨ e = (k, v) := by
  unfold aput at h
  split at h
  · obtain ⟨x, hx, rfl⟩ := List.mem_map.mp h
    by_cases q : x.1 = k
    · rw [if_pos q, q]
      exact .inr rfl
    · rw [if_neg q]
      exact .inl hx
  · rcases List.mem_append.mp h with z | z
    · exact .inl z
    · exact .inr (List.mem_singleton.mp z)
theorem Good.put {ns : List Str} {m : Mp} {k : Str} {v : Int} (g : Good ns m) (hk : k ∈ ns) (hv : Small v) : Good ns (aput m k v) := by
  refine ⟨?_, fun x hx => ?_, fun e he => ?_⟩
  · rw [keys_put]
    split
    · exact g.nd
    · rename_i h
      exact nd_snoc g.nd h
  · rw [keys_put] at hx
    split at hx
    · exact g.sub x hx
    · rcases List.mem_append.mp hx with z | z
      · exact g.sub x z
      · rw [List.mem_singleton.mp z]
        exact hk
  · rcases mem_aput he with z | z
    · exact g.sm e z
    · rw [z]
      exact hv
theorem Good.drop {ns : List Str} {m : Mp} {k : Str} (g : Good ns m) : Good ns (adrop m k) := by
  refine ⟨?_, fun x hx => ?_, fun e he => g.sm e ((List.mem_filter.mp he).1)⟩
  · rw [keys_drop]
    exact g.nd.sublist List.filter_sublist
  · rw [keys_drop] at hx
    exact g.sub x ((List.mem_filter.mp hx).1)
theorem Good.len {ns : List Str} {m : Mp} (g : Good ns m) : m.length ≤ ns.length := by
  have := nodup_le g.nd g.sub
  unfold keys at this
  rw [List.length_map] at this
  exact this
/-- the same variables set to the same values -/
def Eqm (m m' : Mp) : Prop := ∀ k, aget m k = aget m' k
theorem Eqm.put {m m' : Mp} (h : Eqm m m') (k : Str) (v : Int) : Eqm (aput m k v) (aput m' k v) := fun j => by rw [aget_put, aget_put, h j]
theorem Eqm.drop {m m' : Mp} (h : Eqm m m') (k : Str) : Eqm (adrop m k) (adrop m' k) := fun j => by rw [aget_drop, aget_drop, h j]
theorem Eqm.mem {m m' : Mp} (h : Eqm m m') {k : Str} : k ∈ keys m ↔ k ∈ keys m' := by rw [mem_keys, mem_keys, h k]
theorem Eqm.len {m m' : Mp} (h : Eqm m m') {ns ns' : List Str} (g : Good ns m) (g' : Good ns' m') : m.length = m'.length := by
  have a := nodup_le g.nd fun k hk => h.mem.mp hk
  have b := nodup_le g'.nd fun k hk => h.mem.mpr hk
  unfold keys at a b
  rw [List.length_map, List.length_map] at a b
  omega
end SW

set_option Elab.async false
set_option maxRecDepth 100000
/-! The class of contexts: what its methods promise (but those that raise). -/
namespace SW
open PySem PySem.Spec PyProof.Rows L2
/-! two sorted arrangements of the same texts are one -/
theorem perm_one {α : Type} {r : α → α → Prop} (anti : ∀ a b, r a b → r b a → a = b) : ∀ {l m : List α}, l.Perm m → l.Pairwise r → m.Pairwise r → l = m
  | [], m, h, _, _ => (List.nil_perm.mp h).symm
  | a :: t, [], h, _, _ => by
    have := h.length_eq
    simp at this
  | a :: t, b :: u, h, h1, h2 => by
    obtain ⟨x1, y1⟩ := List.pairwise_cons.mp h1
    obtain ⟨x2, y2⟩ := List.pairwise_cons.mp h2
    have e : a = b := by
      have ha : a ∈ b :: u := h.mem_iff.mp List.mem_cons_self
      have hb : b ∈ a :: t := h.mem_iff.mpr List.mem_cons_self
      rcases List.mem_cons.mp ha with e | ha
      · exact e
      · rcases List.mem_cons.mp hb with e | hb
        · exact e.symm
        · exact anti a b (x1 b hb) (x2 a ha)
    subst e
    rw [perm_one anti (List.Perm.cons_inv h) y1 y2]
def leS (a b : Str) : Prop := a.cps.toList ≤ b.cps.toList
theorem leS_anti (a b : Str) (h : leS a b) (h' : leS b a) : a = b := by
  have e : a.cps.toList = b.cps.toList := List.le_antisymm h h'
  obtain ⟨x⟩ := a
  obtain ⟨y⟩ := b
  exact congrArg Str.mk (Array.toList_inj.mp e)
theorem rising_pw : ∀ (l : List Str) (p : Str), risingS p l = true → (∀ x ∈ l, leS p x) ∧ l.Pairwise leS
  | [], _, _ => ⟨fun _ h => by simp at h, .nil⟩
  | y :: r, p, h => by
    unfold risingS at h
    rw [Bool.and_eq_true] at h
    obtain ⟨h1, h2⟩ := h
    obtain ⟨a, b⟩ := rising_pw r y h2
    have py : leS p y := by
      rw [ltCps_eq] at h1
      have z : ¬ y.cps.toList < p.cps.toList := by simpa using h1
      exact List.not_lt.mp z
    refine ⟨fun x hx => ?_, List.pairwise_cons.mpr ⟨a, b⟩⟩
    rcases List.mem_cons.mp hx with e | e
    · rw [e]
      exact py
    · exact List.le_trans py (a x e)
theorem sorted_pw {l : List Str} (h : sortedS l = true) : l.Pairwise leS := by
  cases l with
  | nil => exact .nil
  | cons p r =>
    obtain ⟨a, b⟩ := rising_pw r p h
    exact List.pairwise_cons.mpr ⟨a, b⟩
theorem sorted_one {l m : List Str} (p : l.Perm m) (h : sortedS l = true) (h' : sortedS m = true) : l = m := perm_one leS_anti p (sorted_pw h) (sorted_pw h')
/-! the object -/
abbrev cCtx : Stmt := top 6
abbrev sInit : Stmt := inClass cCtx 0
abbrev sGet : Stmt := inClass cCtx 1
abbrev sSet : Stmt := inClass cCtx 2
abbrev sHas : Stmt := inClass cCtx 3
abbrev sLen : Stmt := inClass cCtx 5
abbrev sEq : Stmt := inClass cCtx 6
abbrev sDrop : Stmt := inClass cCtx 7
abbrev sPairs : Stmt := inClass cCtx 8
abbrev sCopy : Stmt := inClass cCtx 9
abbrev sSame : Stmt := inClass cCtx 10
theorem kbh : ¬ (("is_busy" : Str) = "_held") := by decide +kernel
def flds (b : Bool) (d : Addr) : List (Str × V) := putF "_held" (.ref d) (putF "is_busy" (.bl b) [])
theorem flds_held (b : Bool) (d : Addr) : (flds b d).lookup ("_held" : Str) = some (.ref d) := by
  unfold flds
  rw [lookup_putF, if_pos rfl]
theorem flds_busy (b : Bool) (d : Addr) : (flds b d).lookup ("is_busy" : Str) = some (.bl b) := by
  unfold flds
  rw [lookup_putF, if_neg kbh, lookup_putF, if_pos rfl]
theorem flds_no (b : Bool) (d : Addr) {m : Str} (h1 : ¬ m = "_held") (h2 : ¬ m = "is_busy") : (flds b d).lookup m = none := by
  unfold flds
  rw [lookup_putF, if_neg h1, lookup_putF, if_neg h2]
  all_goals rfl
/-- a context stands at p, its dict at d holds the pairs m -/
structure CtxAt (C : Addr) (H : Hp) (p d : Addr) (m : Mp) : Prop where
  ob : ∃ dx b, H p = some (.ins C dx (flds b d))
  dc : H d = some (.dK (kv m))
theorem CtxAt.ne {C : Addr} {H : Hp} {p d : Addr} {m : Mp} (c : CtxAt C H p d m) : p ≠ d := by
  obtain ⟨dx, b, h⟩ := c.ob
  exact ne_of h c.dc (by intro z; cases z)
/-- a tuple of pairs -/
def PairsAt (K : PySem.W.Frag) (H : Hp) (t : Addr) (prs : Mp) : Prop := ∃ ts : List Addr, SqT K H t (ts.map V.ref) ∧ Paired (fun (q : Addr) (e : Str × Int) => SqT K H q [.str e.1, .int e.2]) ts prs
def made (prs : Mp) : Mp := prs.foldl (fun m e => aput m e.1 e.2) []
theorem made_snoc (l : Mp) (e : Str × Int) : made (l ++ [e]) = aput (made l) e.1 e.2 := by
  unfold made
  rw [List.foldl_append]
  rfl
theorem aput_len (m : Mp) (k : Str) (v : Int) : (aput m k v).length ≤ m.length + 1 := by
  unfold aput
  split
  · rw [List.length_map]
    exact Nat.le_succ _
  · rw [List.length_append]
    exact Nat.le_refl _
theorem made_len (prs : Mp) (i : Nat) : (made (prs.take i)).length ≤ i := by
  induction i with
  | zero => exact Nat.le_refl _
  | succ i ih =>
    rw [List.take_add_one]
    cases e : prs[i]? with
    | none => simp only [Option.toList, List.append_nil]; omega
    | some x =>
      simp only [Option.toList, made_snoc]
      have := aput_len (made (prs.take i)) x.1 x.2
      omega
theorem kv_len (m : Mp) : (kv m).length = m.length := by
  unfold kv
  rw [List.length_map]
/-- a tuple stays where only an instance is written -/
theorem sqt_keep {K : PySem.W.Frag} {H H' : Hp} {p C dx a : Addr} {fs : List (Str × V)} {xs : List V} (hp : H p = some (.ins C dx fs)) (k : ∀ b o, H b = some o → b ≠ p → H' b = some o) (h : SqT K H a xs) : SqT K H' a xs := by
  rcases h with (h | ⟨o, h⟩) | h
  · exact .inl (.inl (k _ _ h (ne_of h hp (by intro z; cases z))))
  · exact .inl (.inr ⟨o, k _ _ h (ne_of h hp (by intro z; cases z))⟩)
  · exact .inr h
theorem pair_at {α β : Type} {F : α → β → Prop} : ∀ {l : List α} {m : List β} {i : Nat} {x : α}, Paired F l m → l[i]? = some x → ∃ y, m[i]? = some y ∧ F x y
  | _, _, _, _, .nil, h => by simp at h
  | _, _, 0, x, .cons f t, h => by
    rw [List.getElem?_cons_zero] at h
    cases h
    exact ⟨_, rfl, f⟩
  | _, _, i + 1, x, .cons f t, h => by
    rw [List.getElem?_cons_succ] at h
    obtain ⟨y, hy, fy⟩ := pair_at t h
    exact ⟨y, by rw [List.getElem?_cons_succ]; exact hy, fy⟩
theorem pair_len {α β : Type} {F : α → β → Prop} : ∀ {l : List α} {m : List β}, Paired F l m → l.length = m.length
  | _, _, .nil => rfl
  | _, _, .cons _ t => congrArg (· + 1) (pair_len t)
theorem ref_at {ts : List Addr} {i : Nat} {y : V} (h : (ts.map V.ref)[i]? = some y) : ∃ z, ts[i]? = some z ∧ y = V.ref z := by
  rw [List.getElem?_map] at h
  cases e : ts[i]? with
  | none =>
    rw [e] at h
    cases h
  | some z =>
    rw [e] at h
    exact ⟨z, rfl, (Option.some.inj h).symm⟩
def spInit (K : PySem.W.Frag) (C : Addr) : Sp := fun vs H Q _ => ∃ (p dx t : Addr) (prs : Mp), vs = [.ref p, .ref t] ∧ H p = some (.ins C dx []) ∧ PairsAt K H t prs ∧ prs.length ≤ 100 ∧
  ∀ (d : Addr) (H' : Hp), H d = none → CtxAt C H' p d (made prs) → (∃ dx, H' p = some (.ins C dx (flds false d))) → (∀ b o, H b = some o → b ≠ p → H' b = some o) → Q .non H'
/-- what the walk asks of the class as the top has made it -/
structure TxC (K : PySem.W.Frag) (mg : Str → Option Value) (C : Addr) : Prop where
  cl : Cls K C
  nB : NoAttr K C "is_busy"
  nH : NoAttr K C "_held"
  mgC : mg "Context" = some (.ref C)
section
variable {P : Program} {w : World} {K : PySem.W.Frag} {mg : Str → Option Value} {base : Heap}
theorem scInit : FnScope ["self", "pairs", "variable", "value"] ["self", "pairs"] (defScope sInit) := ⟨rfl, rfl, rfl, by decide +kernel, rfl, by decide +kernel, by decide +kernel⟩
theorem ok_init {f C T0 : Addr} {fd : FuncData} (F : FunD K "__init__" "Context.__init__" (defArgs sInit) (defBody sInit) (defScope sInit) [.ref T0] [] f fd) (T : TxC K mg C) : FnOk P w K mg base CX0 1 f fd ["self", "pairs"] (spInit K C) := by
  refine F.ok scInit (fun vs H Q E h => ?_) (fun cdv A outer s H vs Q E hr h => ?_)
  · obtain ⟨p, dx, t, prs, rfl, _⟩ := h
    rfl
  · obtain ⟨p, dx, t, prs, rfl, hp, ⟨ts, ht, hq⟩, hl, k⟩ := h
    have hu := hu_of hr
    refine ⟨_, PSs.nox (pss_cons (ps_fld (pv 0) pe_bl rfl) (pss_cons (ps_fld (pv 0) pe_dnewK rfl)
      (pss_one (ps_for PassesOwn.never rfl (pi_tup (pv 1)) (pg_tup rfl (pgs_cons (pg_name (i := 2) scInit.nd rfl (Or.inl rfl)) (pgs_cons (pg_name (i := 3) scInit.nd rfl (Or.inl rfl)) pgs_nil)))
        (pss_one (ps_dput hu (pe_fld (pv 0) rfl) (pv 2) (pv 3) rfl)))))), ?_⟩
    refine ⟨_, rfl, p, C, dx, [], rfl, hp, T.cl, T.nB, (by show 0 < 1000; decide), ?_⟩
    intro d hd
    have npd : p ≠ d := ne_of_none upd_same hd
    refine ⟨_, rfl, p, C, dx, _, rfl, (by rw [upd_ne npd, upd_same]), T.cl, T.nH, (by show 1 < 1000; decide), ?_⟩
    have keep : ∀ b o, H b = some o → b ≠ p → (upd (upd (upd H p (.ins C dx (putF "is_busy" (.bl false) []))) d (.dK [])) p (.ins C dx (flds false d))) b = some o := fun b o e hb => by
      have hdb : b ≠ d := by
        refine ne_of_none (H := upd H p (.ins C dx (putF "is_busy" (.bl false) []))) (o := o) ?_ hd
        rw [upd_ne hb]
        exact e
      rw [upd_ne hb, upd_ne hdb, upd_ne hb]
      exact e
    have hd0 : H d = none := by
      have z := hd
      rw [upd_ne npd.symm] at z
      exact z
    refine ⟨_, rfl, t, rfl, ⟨_, sqt_keep hp keep ht⟩, for_tup (K := K) (a := t) (xs := ts.map V.ref) (fun i σ H' => ∃ v2 v3 : Option V, σ = [some (.ref p), some (.ref t), v2, v3] ∧ ((∃ dx, H' p = some (.ins C dx (flds false d))) ∧ H' d = some (.dK (kv (made (prs.take i))))) ∧ ∀ b o, H b = some o → b ≠ p → H' b = some o)
      ⟨none, none, rfl, ⟨⟨dx, upd_same⟩, by rw [upd_ne npd.symm, upd_same]; rfl⟩, keep⟩ (fun i σ H' _ ⟨_, _, _, _, kp⟩ => sqt_keep hp kp ht) ?_ ?_⟩
    · rintro i y σ H' hi ⟨v2, v3, rfl, ⟨⟨dx', ob⟩, dc⟩, kp⟩
      obtain ⟨q, hq1, rfl⟩ := ref_at hi
      obtain ⟨e, he, hs⟩ := pair_at hq hq1
      have il : i < prs.length := (List.getElem?_eq_some_iff.mp he).1
      refine ⟨q, _, rfl, sqt_keep hp kp hs, rfl, _, _, rfl, _, _, rfl, rfl, ?_⟩
      refine ⟨_, rfl, _, rfl, p, C, dx', _, _, rfl, ob, T.cl, T.nH, flds_held _ d, _, rfl, d, _, rfl, DPut.k (k := Sum.inr e.1) dc (small1000 (by rw [kv_len]; have := made_len prs i; omega)), ?_⟩
      refine ⟨_, _, rfl, ⟨⟨dx', by rw [upd_ne npd]; exact ob⟩, ?_⟩, fun b o hb hbp => ?_⟩
      · rw [upd_same, putK_kv, List.take_add_one, he]
        simp only [Option.toList, made_snoc]
      · rw [upd_ne (ne_of_none hb hd0)]
        exact kp b o hb hbp
    · rintro σ H' ⟨v2, v3, rfl, c, kp⟩
      rw [List.length_map, pair_len hq, List.take_length] at c
      obtain ⟨⟨dx3, e3⟩, e4⟩ := c
      exact k d H' hd0 ⟨⟨dx3, false, e3⟩, e4⟩ ⟨dx3, e3⟩ kp
end
end SW

set_option Elab.async false
set_option maxRecDepth 100000
/-! The methods of a context that raise nothing. -/
namespace SW
open PySem PySem.Spec PyProof.Rows L2
/-! == of two dicts of texts and ints -/
def eqB (m m' : Mp) : Bool := m.length == m'.length && m.all fun e => decide (aget m' e.1 = some e.2)
theorem aget_mem {m : Mp} (nd : (keys m).Nodup) : ∀ {e : Str × Int}, e ∈ m → aget m e.1 = some e.2 := by
  induction m with
  | nil => intro e h; simp at h
  | cons x r ih =>
    intro e h
    have nd' : (x.1 :: keys r).Nodup := nd
    obtain ⟨h1, h2⟩ := List.nodup_cons.mp nd'
    unfold aget
    rw [List.find?_cons]
    rcases List.mem_cons.mp h with q | q
    · rw [q]
      simp
    · have : ¬ x.1 = e.1 := fun z => h1 (by rw [z]; exact List.mem_map.mpr ⟨e, q, rfl⟩)
      rw [decide_eq_false this]
      exact ih h2 q
theorem mem_of_aget {m : Mp} {k : Str} {v : Int} (h : aget m k = some v) : (k, v) ∈ m := by
  unfold aget at h
  cases e : m.find? fun e => decide (e.1 = k) with
  | none => rw [e] at h; cases h
  | some x =>
    rw [e] at h
    have hv : x.2 = v := Option.some.inj h
    have hk : x.1 = k := by simpa using List.find?_some e
    have hm := List.mem_of_find?_eq_some e
    rw [← hv, ← hk]
    exact hm
theorem eqB_iff {ns ns' : List Str} {m m' : Mp} (g : Good ns m) (g' : Good ns' m') : eqB m m' = true ↔ Eqm m m' := by
  unfold eqB
  rw [Bool.and_eq_true, List.all_eq_true]
  constructor
  · rintro ⟨hl, ha⟩ k
    have hl' : m.length = m'.length := by simpa using hl
    have sub : ∀ x ∈ keys m, x ∈ keys m' := fun x hx => by
      obtain ⟨e, he, rfl⟩ := List.mem_map.mp hx
      rw [mem_keys, of_decide_eq_true (ha e he)]
      rfl
    cases e : aget m k with
    | some v => exact (of_decide_eq_true (ha _ (mem_of_aget e))).symm
    | none =>
      cases e' : aget m' k with
      | none => rfl
      | some v =>
        have hk' : k ∈ keys m' := by rw [mem_keys, e']; rfl
        have hk : k ∉ keys m := by rw [mem_keys, e]; simp
        have := nodup_le (ws := k :: keys m) (zs := keys m') (List.nodup_cons.mpr ⟨hk, g.nd⟩) fun x hx => by
          rcases List.mem_cons.mp hx with z | z
          · rw [z]
            exact hk'
          · exact sub x z
        unfold keys at this
        rw [List.length_cons, List.length_map, List.length_map] at this
        omega
  · intro h
    refine ⟨by rw [h.len g g']; exact beq_self_eq_true _, fun e he => decide_eq_true ?_⟩
    rw [← h e.1, aget_mem g.nd he]
theorem eqB_alike {ns : List Str} {a b c d : Mp} (ga : Good ns a) (gb : Good ns b) (gc : Good ns c) (gd : Good ns d) (h1 : Eqm a c) (h2 : Eqm b d) : eqB a b = eqB c d := by
  have e : eqB a b = true ↔ eqB c d = true := by
    rw [eqB_iff ga gb, eqB_iff gc gd]
    exact ⟨fun h k => by rw [← h1 k, ← h2 k, h k], fun h k => by rw [h1 k, h2 k, h k]⟩
  cases x : eqB a b <;> cases y : eqB c d <;> simp [x, y] at e <;> rfl
theorem hits_kv {A : Around} {s : Shared} {m' : Mp} {vb : List (Key × Value)} (rb : KV (kv m') vb) : ∀ {m : Mp} {va : List (Key × Value)}, KV (kv m) va →
    PySem.W.KeqHits A s vb va (m.all fun e => decide (aget m' e.1 = some e.2))
  | [], _, .nil => .nil
  | e :: r, _, .cons h t => by
    obtain ⟨h1, h2⟩ := h
    rename_i q qs
    obtain ⟨k, v⟩ := q
    have h1' : (Sum.inr e.1 : Key) = k := h1
    have h2' : RelV (.int e.2) v := h2
    have rr : RelO (valV (kv m') (Sum.inr e.1)) (valueAt vb (Sum.inr e.1)) := rb.val _
    have ih := hits_kv (A := A) (s := s) rb (m := r) t
    rw [List.all_cons]
    subst h1'
    rw [valV_kv] at rr
    cases g : aget m' e.1 with
    | none =>
      rw [g] at rr
      have hn : valueAt vb (Sum.inr e.1) = none := by
        cases z : valueAt vb (Sum.inr e.1) with
        | none => rfl
        | some y => rw [z] at rr; exact rr.elim
      have ef : (decide ((none : Option Int) = some e.2) && r.all fun e => decide (aget m' e.1 = some e.2)) = false := by simp
      rw [ef]
      exact .miss hn
    | some x =>
      rw [g] at rr
      obtain ⟨y, hy, ry⟩ := rr.some_of
      refine .hit hy ?_ ih
      obtain ⟨t1, rfl⟩ := (show ∃ t, v = Value.int e.2 t from h2')
      obtain ⟨t2, rfl⟩ := (show ∃ t, y = Value.int x t from ry)
      have q := eqAt_V (A := A) (s := s) (y := .int e.2) (x := .int x) (u := .int e.2 t1) (v := .int x t2) ⟨t1, rfl⟩ ⟨t2, rfl⟩ rfl rfl
      have ev : eqV (.int e.2) (.int x) = decide (some x = some e.2) := by
        show (e.2 == x) = _
        by_cases z : e.2 = x
        · simp [z]
        · have z' : ¬ x = e.2 := fun w => z w.symm
          simp [z, z']
      rw [← ev]
      exact q
theorem fin_bool {X : Cx} {pins : List (Addr × Obj)} {σ : L2.St} {H : Hp} {s : Shared} {b c : Bool} {Q : VK} (I : Inv X pins σ H s) (e : b = c) (q : Q (.bl c) H) : EP X pins σ Q (.bool b) s := ⟨.bl c, H, I, by rw [e]; rfl, q⟩
section
variable {X : Cx}
/-- == of two dicts of texts to ints -/
theorem op_eqKv (hu : X.A.units < cLine) : OpR X (compareOp .Eq) (fun x y H Q => ∃ a b m m', x = .ref a ∧ y = .ref b ∧ H a = some (.dK (kv m)) ∧ H b = some (.dK (kv m')) ∧ Q (.bl (eqB m m')) H) := by
  intro pins s σ H x y v u Q I rx ry h
  obtain ⟨a, b, m, m', rfl, rfl, ea, eb, q⟩ := h
  obtain rfl : v = Value.ref a := rx
  obtain rfl : u = Value.ref b := ry
  obtain ⟨_, ya, va, ra, da⟩ := (show ObjOk X.prog X.w H s.heap a (.dK (kv m)) from I.hok a _ ea)
  obtain ⟨_, yb, vb, rb, db⟩ := (show ObjOk X.prog X.w H s.heap b (.dK (kv m')) from I.hok b _ eb)
  have la : va.length = m.length := by rw [← ra.length, kv_len]
  have lb : vb.length = m'.length := by rw [← rb.length, kv_len]
  refine PySem.W.keq_eq (knd := mixKind X.prog X.w) ya yb da db hu (fun _ => hits_kv rb ra) (fin_bool I ?_ q)
  unfold eqB
  rw [la, lb]
theorem op_neKv (hu : X.A.units < cLine) : OpR X (compareOp .NotEq) (fun x y H Q => ∃ a b m m', x = .ref a ∧ y = .ref b ∧ H a = some (.dK (kv m)) ∧ H b = some (.dK (kv m')) ∧ Q (.bl (!eqB m m')) H) := by
  intro pins s σ H x y v u Q I rx ry h
  obtain ⟨a, b, m, m', rfl, rfl, ea, eb, q⟩ := h
  obtain rfl : v = Value.ref a := rx
  obtain rfl : u = Value.ref b := ry
  obtain ⟨_, ya, va, ra, da⟩ := (show ObjOk X.prog X.w H s.heap a (.dK (kv m)) from I.hok a _ ea)
  obtain ⟨_, yb, vb, rb, db⟩ := (show ObjOk X.prog X.w H s.heap b (.dK (kv m')) from I.hok b _ eb)
  have la : va.length = m.length := by rw [← ra.length, kv_len]
  have lb : vb.length = m'.length := by rw [← rb.length, kv_len]
  refine PySem.W.keq_ne (knd := mixKind X.prog X.w) ya yb da db hu (fun _ => hits_kv rb ra) (fin_bool I ?_ q)
  unfold eqB
  rw [la, lb]
end
end SW

set_option Elab.async false
set_option maxRecDepth 100000
/-! The methods of a context that raise nothing: promises and bodies. -/
namespace SW
open PySem PySem.Spec PyProof.Rows L2
def spSet (C : Addr) : Sp := fun vs H Q _ => ∃ (p d : Addr) (m : Mp) (k : Str) (v : Int), vs = [.ref p, .str k, .int v] ∧ CtxAt C H p d m ∧ m.length ≤ 100 ∧ Q .non (upd H d (.dK (kv (aput m k v))))
def spHas (C : Addr) : Sp := fun vs H Q _ => ∃ (p d : Addr) (m : Mp) (k : Str), vs = [.ref p, .str k] ∧ CtxAt C H p d m ∧ Q (.bl (aget m k).isSome) H
def spLen (C : Addr) : Sp := fun vs H Q _ => ∃ (p d : Addr) (m : Mp), vs = [.ref p] ∧ CtxAt C H p d m ∧ Q (.int m.length) H
def spDrop (C : Addr) : Sp := fun vs H Q _ => ∃ (p d : Addr) (m : Mp) (k : Str), vs = [.ref p, .str k] ∧ CtxAt C H p d m ∧ (keys m).Nodup ∧
  ∀ H', H' d = some (.dK (kv (adrop m k))) → (∀ b, b ≠ d → H' b = H b) → Q .non H'
/-- the pairs of m, its variables in the order ys -/
def srt (m : Mp) (ys : List Str) : Mp := ys.map fun y => (y, (aget m y).getD 0)
def spPairs (K : PySem.W.Frag) (C : Addr) : Sp := fun vs H Q _ => ∃ (p d : Addr) (m : Mp), vs = [.ref p] ∧ CtxAt C H p d m ∧ m.length < 64 ∧
  ∀ (ys : List Str) (t : Addr) (H' : Hp), Same H H' → H t = none → ys.Perm (keys m) → sortedS ys = true → PairsAt K H' t (srt m ys) → Q (.ref t) H'
def spCopy (C : Addr) : Sp := fun vs H Q _ => ∃ (p d : Addr) (m : Mp), vs = [.ref p] ∧ CtxAt C H p d m ∧ m.length < 64 ∧ (keys m).Nodup ∧
  ∀ (p' d' : Addr) (m' : Mp) (H' : Hp), Same H H' → H p' = none → H d' = none → CtxAt C H' p' d' m' → (∃ dx, H' p' = some (.ins C dx (flds false d'))) → Eqm m' m → m'.Perm m → Q (.ref p') H'
def spSame (C : Addr) : Sp := fun vs H Q _ => ∃ (p d : Addr) (m : Mp) (p' d' : Addr) (m' : Mp), vs = [.ref p, .ref p'] ∧ CtxAt C H p d m ∧ CtxAt C H p' d' m' ∧ Q (.bl (decide (p = p'))) H
/-! the mathematics of copies -/
theorem adrop_none {m : Mp} {k : Str} (h : (aget m k).isSome = false) : adrop m k = m := by
  unfold adrop
  refine List.filter_eq_self.mpr fun e he => decide_eq_true fun z => ?_
  have : k ∈ keys m := List.mem_map.mpr ⟨e, he, z⟩
  rw [mem_keys, h] at this
  cases this
theorem aput_out {m : Mp} {k : Str} {v : Int} (h : k ∉ keys m) : aput m k v = m ++ [(k, v)] := by
  unfold aput
  rw [if_neg]
  intro z
  rw [List.any_eq_true] at z
  obtain ⟨e, he, q⟩ := z
  exact h (List.mem_map.mpr ⟨e, he, of_decide_eq_true q⟩)
theorem made_self : ∀ (l acc : Mp), (keys (acc ++ l)).Nodup → l.foldl (fun m e => aput m e.1 e.2) acc = acc ++ l
  | [], acc, _ => by rw [List.append_nil]; rfl
  | e :: r, acc, h => by
    have h1 : e.1 ∉ keys acc := by
      unfold keys at h ⊢
      rw [List.map_append, List.map_cons] at h
      have := (List.nodup_append.mp h).2.2
      intro z
      exact this _ z _ List.mem_cons_self rfl
    rw [List.foldl_cons, aput_out h1, made_self r (acc ++ [(e.1, e.2)]) (by rw [List.append_assoc]; exact h), List.append_assoc]
    rfl
theorem made_nodup {l : Mp} (h : (keys l).Nodup) : made l = l := made_self l [] h
theorem keys_srt (m : Mp) (ys : List Str) : keys (srt m ys) = ys := by
  unfold keys srt
  rw [List.map_map]
  exact List.map_id ys
theorem srt_keys {m : Mp} (nd : (keys m).Nodup) : srt m (keys m) = m := by
  unfold srt keys
  rw [List.map_map]
  have : ∀ e ∈ m, ((fun y => (y, (aget m y).getD 0)) ∘ fun x => x.1) e = e := fun e he => by
    simp only [Function.comp]
    rw [aget_mem nd he]
    rfl
  exact (List.map_congr_left this).trans (List.map_id m)
theorem srt_perm {m : Mp} (nd : (keys m).Nodup) {ys : List Str} (h : ys.Perm (keys m)) : (srt m ys).Perm m := by
  have := h.map fun y => (y, (aget m y).getD 0)
  have e := srt_keys nd
  unfold srt at e ⊢
  rw [e] at this
  exact this
theorem aget_perm {m m' : Mp} (nd : (keys m).Nodup) (h : m'.Perm m) : Eqm m' m := fun k => by
  have nd' : (keys m').Nodup := (show (keys m').Perm (keys m) from h.map _).nodup_iff.mpr nd
  cases e : aget m k with
  | some v => exact aget_mem nd' (h.mem_iff.mpr (mem_of_aget e))
  | none =>
    cases e' : aget m' k with
    | none => rfl
    | some v =>
      have := aget_mem nd (h.mem_iff.mp (mem_of_aget e'))
      rw [show aget m k = some v from this] at e
      cases e
section
variable {P : Program} {w : World} {K : PySem.W.Frag} {mg : Str → Option Value} {base : Heap}
theorem scSet : FnScope ["self", "variable", "value"] ["self", "variable", "value"] (defScope sSet) := ⟨rfl, rfl, rfl, by decide +kernel, rfl, by decide +kernel, by decide +kernel⟩
theorem ok_set {f C : Addr} {fd : FuncData} (F : Fun K "__setitem__" "Context.__setitem__" sSet f fd) (T : TxC K mg C) : FnOk P w K mg base CX0 1 f fd ["self", "variable", "value"] (spSet C) := by
  refine F.ok scSet (fun vs H Q E h => ?_) (fun cdv A outer s H vs Q E hr h => ?_)
  · obtain ⟨p, d, m, k, v, rfl, _⟩ := h
    rfl
  · obtain ⟨p, d, m, k, v, rfl, ⟨⟨dx, b0, ob⟩, dc⟩, hl, q⟩ := h
    have hu := hu_of hr
    refine ⟨_, pss_one (ps_dput hu (pe_fld (pv 0) rfl) (pv 1) (pv 2) rfl), ?_⟩
    refine ⟨_, rfl, _, rfl, p, C, dx, _, _, rfl, ob, T.cl, T.nH, flds_held _ d, _, rfl, d, _, rfl, DPut.k (k := Sum.inr k) dc (small1000 (by rw [kv_len]; omega)), ?_⟩
    rw [putK_kv]
    exact q
theorem scHas : FnScope ["self", "variable"] ["self", "variable"] (defScope sHas) := ⟨rfl, rfl, rfl, by decide +kernel, rfl, by decide +kernel, by decide +kernel⟩
theorem ok_has {f C : Addr} {fd : FuncData} (F : Fun K "__contains__" "Context.__contains__" sHas f fd) (T : TxC K mg C) : FnOk P w K mg base CX0 1 f fd ["self", "variable"] (spHas C) := by
  refine F.ok scHas (fun vs H Q E h => ?_) (fun cdv A outer s H vs Q E hr h => ?_)
  · obtain ⟨p, d, m, k, rfl, _⟩ := h
    rfl
  · obtain ⟨p, d, m, k, rfl, ⟨⟨dx, b0, ob⟩, dc⟩, q⟩ := h
    have hu := hu_of hr
    refine ⟨_, pss_one (ps_ret (pe_cmp (pc_din hu (pv 1) (pe_fld (pv 0) rfl)))), ?_⟩
    refine ⟨_, rfl, _, rfl, p, C, dx, _, _, rfl, ob, T.cl, T.nH, flds_held _ d, d, _, rfl, DGet.k (k := Sum.inr k) dc, ?_⟩
    rw [valV_kv, Option.isSome_map]
    exact q
theorem scLen : FnScope ["self"] ["self"] (defScope sLen) := ⟨rfl, rfl, rfl, by decide +kernel, rfl, by decide +kernel, by decide +kernel⟩
theorem ok_len {f C : Addr} {fd : FuncData} (F : Fun K "__len__" "Context.__len__" sLen f fd) (T : TxC K mg C) (mL : mg "len" = none) : FnOk P w K mg base CX0 1 f fd ["self"] (spLen C) := by
  refine F.ok scLen (fun vs H Q E h => ?_) (fun cdv A outer s H vs Q E hr h => ?_)
  · obtain ⟨p, d, m, rfl, _⟩ := h
    rfl
  · obtain ⟨p, d, m, rfl, ⟨⟨dx, b0, ob⟩, dc⟩, q⟩ := h
    refine ⟨_, pss_one (ps_ret (pe_callB call_lenD (by rfl) mL PySem.boot_len (pa_cons (pe_fld (pv 0) rfl) pa_nil))), ?_⟩
    refine ⟨_, rfl, p, C, dx, _, _, rfl, ob, T.cl, T.nH, flds_held _ d, d, _, rfl, dc, ?_⟩
    rw [kv_len]
    exact q
theorem scDrop : FnScope ["self", "variable"] ["self", "variable"] (defScope sDrop) := ⟨rfl, rfl, rfl, by decide +kernel, rfl, by decide +kernel, by decide +kernel⟩
theorem ok_drop {f C : Addr} {fd : FuncData} (F : Fun K "drop" "Context.drop" sDrop f fd) (T : TxC K mg C) : FnOk P w K mg base CX0 1 f fd ["self", "variable"] (spDrop C) := by
  refine F.ok scDrop (fun vs H Q E h => ?_) (fun cdv A outer s H vs Q E hr h => ?_)
  · obtain ⟨p, d, m, k, rfl, _⟩ := h
    rfl
  · obtain ⟨p, d, m, k, rfl, ⟨⟨dx, b0, ob⟩, dc⟩, nd, q⟩ := h
    have hu := hu_of hr
    refine ⟨_, pss_one (ps_if (pt_cmp (pc_din hu (pv 1) (pe_fld (pv 0) rfl))) (pss_one (ps_ddel (pe_fld (pv 0) rfl) (pv 1))) pss_nil), ?_⟩
    refine ⟨_, rfl, _, rfl, p, C, dx, _, _, rfl, ob, T.cl, T.nH, flds_held _ d, d, _, rfl, DGet.k (k := Sum.inr k) dc, _, rfl, ?_⟩
    refine ite2 (fun h => ?_) (fun h => ?_)
    · refine ⟨_, rfl, p, C, dx, _, _, rfl, ob, T.cl, T.nH, flds_held _ d, _, rfl, d, kv m, Sum.inr k, rfl, dc, rfl, h, ?_⟩
      rw [dropK_kv]
      exact q _ upd_same fun b hb => upd_ne hb
    · rw [valV_kv, Option.isSome_map] at h
      exact q H (by rw [adrop_none (by simpa using h)]; exact dc) fun _ _ => rfl
theorem scSame : FnScope ["self", "other"] ["self", "other"] (defScope sSame) := ⟨rfl, rfl, rfl, by decide +kernel, rfl, by decide +kernel, by decide +kernel⟩
theorem ok_same {f C : Addr} {fd : FuncData} (F : Fun K "is_same" "Context.is_same" sSame f fd) : FnOk P w K mg base CX0 1 f fd ["self", "other"] (spSame C) := by
  refine F.ok scSame (fun vs H Q E h => ?_) (fun cdv A outer s H vs Q E hr h => ?_)
  · obtain ⟨p, d, m, p', d', m', rfl, _⟩ := h
    rfl
  · obtain ⟨p, d, m, p', d', m', rfl, ⟨⟨dx, b0, ob⟩, dc⟩, ⟨⟨dx', b1, ob'⟩, dc'⟩, q⟩ := h
    refine ⟨_, pss_one (ps_ret (pe_cmpR op_is_ref (pv 0) (pv 1) (nomark _))), ?_⟩
    exact ⟨_, rfl, _, rfl, p, p', _, _, rfl, rfl, ob, rfl, ob', rfl, q⟩
theorem scPairs : FnScope ["self", "variable"] ["self"] (defScope sPairs) := ⟨rfl, rfl, rfl, by decide +kernel, rfl, by decide +kernel, by decide +kernel⟩
theorem ok_pairs {f C : Addr} {fd : FuncData} (F : Fun K "pairs" "Context.pairs" sPairs f fd) (T : TxC K mg C) (mT : mg "tuple" = none) (mS : mg "sorted" = none) : FnOk P w K mg base CX0 1 f fd ["self"] (spPairs K C) := by
  refine F.ok scPairs (fun vs H Q E h => ?_) (fun cdv A outer s H vs Q E hr h => ?_)
  · obtain ⟨p, d, m, rfl, _⟩ := h
    rfl
  · obtain ⟨p, d, m, rfl, ⟨⟨dx, b0, ob⟩, dc⟩, hl, q⟩ := h
    have hu := hu_of hr
    refine ⟨_, pss_one (ps_ret (pe_tupleOf (by rfl) mT (pe_lc (own := [("variable", 1)]) (g := gName 1) (tt := tYes) (te := tTup (tCons (tVar 1) (tCons (tDGet (tFld K (tVar 0) "_held") (tVar 1)) tNil))) rfl scPairs.nd
        (pi_list (pe_callB (call_sortedD rfl) (by rfl) mS boot_sorted (pa_cons (pe_fld (pv 0) rfl) pa_nil)))
        (blkOk_by (N := ["self", "variable"]) (sc := defScope sPairs) (by decide +kernel))
        (fun _ _ _ _ _ => pg_name (i := 1) scPairs.nd rfl (Or.inl rfl)) (fun _ _ _ _ _ => pts_nil)
        (fun _ _ _ _ _ => pe_tup (pa_cons (pv 1) (pa_cons (by exact pe_dget hu (pe_fld (pv 0) rfl) (pv 1) (fun _ _ => rfl)) pa_nil)))))), ?_⟩
    refine ⟨_, rfl, p, C, dx, _, _, rfl, ob, T.cl, T.nH, flds_held _ d, ?_⟩
    have hk : (kv m).map (·.1) = (keys m).map Sum.inr := by
      unfold kv keys
      rw [List.map_map, List.map_map]
      rfl
    refine ⟨d, kv m, keys m, rfl, .inl dc, hk, (by unfold keys; rw [List.length_map]; exact hl), fun ys l hp hs hl0 => ?_⟩
    have ysl : ys.length < 64 := by
      have := hp.length_eq
      unfold keys at this
      rw [List.length_map] at this
      omega
    refine ⟨l, rfl, ⟨_, SqL.of upd_same⟩, fun D nD => ?_⟩
    have s0 := same_new (o := .lst (ys.map V.str)) hl0
    refine lc_list (K := K) (a := l) (xs := ys.map V.str) (fun i H2 => Same (upd H l (.lst (ys.map V.str))) H2 ∧ ∃ ts : List Addr, H2 D = some (.lst (ts.map V.ref)) ∧ Paired (fun (q : Addr) (e : Str × Int) => SqT K H2 q [.str e.1, .int e.2]) ts (srt m (ys.take i)))
      ⟨same_new nD, [], upd_same, .nil⟩ (fun i H2 _ ⟨s2, _⟩ => s2.seq (SqL.of upd_same)) ?_ ?_
    · rintro i y H2 hi ⟨s2, ts, e2, pr⟩
      obtain ⟨z, hz, rfl⟩ := str_at hi
      have il : i < ys.length := (List.getElem?_eq_some_iff.mp hz).1
      have hzk : z ∈ keys m := hp.mem_iff.mp (List.mem_of_getElem? hz)
      obtain ⟨v, hv⟩ := Option.isSome_iff_exists.mp (mem_keys.mp hzk)
      refine ⟨rfl, ?_⟩
      refine tyes ?_
      have ob2 := s2 _ _ (s0 _ _ ob)
      have dc2 := s2 _ _ (s0 _ _ dc)
      refine ⟨_, rfl, _, rfl, p, C, dx, _, _, rfl, ob2, T.cl, T.nH, flds_held _ d, _, rfl, d, .int v, rfl, ?_, (by show 2 ≤ sizeLine; decide), fun t nt => ?_⟩
      · have g := DGet.k (H := H2) (k := Sum.inr z) dc2
        rw [valV_kv, hv] at g
        exact g
      have nDt : D ≠ t := ne_of_none e2 nt
      refine ⟨_, (upd_ne nDt).trans e2, small1000 (by rw [List.length_map, pair_len pr]; unfold srt; rw [List.length_map, List.length_take]; omega), ?_, ts ++ [t], ?_, ?_⟩
      · exact Same.new (Same.new s2 (s2.free nt)) nD
      · rw [upd_same, List.map_append]
        rfl
      · have et : srt m (ys.take (i + 1)) = srt m (ys.take i) ++ [(z, v)] := by
          unfold srt
          rw [List.take_add_one, hz, List.map_append]
          simp only [Option.toList, List.map_cons, List.map_nil, hv, Option.getD]
        rw [et]
        have keepT : ∀ (q : Addr) (xs : List V), SqT K H2 q xs → SqT K (upd (upd H2 t (.tup [.str z, .int v])) D (.lst (ts.map V.ref ++ [.ref t]))) q xs := fun q xs h => by
          rcases h with (h | ⟨o, h⟩) | h
          · have h1 : q ≠ D := ne_of h e2 (by intro z; cases z)
            have h2 : q ≠ t := ne_of_none h nt
            exact .inl (.inl (by rw [upd_ne h1, upd_ne h2]; exact h))
          · have h1 : q ≠ D := ne_of h e2 (by intro z; cases z)
            have h2 : q ≠ t := ne_of_none h nt
            exact .inl (.inr ⟨o, by rw [upd_ne h1, upd_ne h2]; exact h⟩)
          · exact .inr h
        refine Paired.snoc (L2.Paired.mapP pr fun q e h => keepT q _ h) ?_
        exact SqT.of (by rw [upd_ne nDt.symm, upd_same])
    · rintro H2 ⟨s2, ts, e2, pr⟩
      rw [List.length_map, List.take_length] at pr
      have hD : H D = none := s0.free nD
      refine Or.inl ⟨D, _, rfl, SqL.of e2, fun t nt => ?_⟩
      refine q ys t _ ((s0.trans s2).trans (same_new nt)) ((s0.trans s2).free nt) hp hs ⟨ts, SqT.of upd_same, L2.Paired.mapP pr fun q e h => ?_⟩
      rcases h with (h | ⟨o, h⟩) | h
      · exact .inl (.inl (same_new nt _ _ h))
      · exact .inl (.inr ⟨o, same_new nt _ _ h⟩)
      · exact .inr h
theorem scCopy : FnScope ["self"] ["self"] (defScope sCopy) := ⟨rfl, rfl, rfl, by decide +kernel, rfl, by decide +kernel, by decide +kernel⟩
theorem ok_copy {f fI fP C : Addr} {fd fdI fdP : FuncData} (F : Fun K "copy" "Context.copy" sCopy f fd) (T : TxC K mg C) (M : Mk K C fI) (GI : FnOk P w K mg base CX0 1 fI fdI ["self", "pairs"] (spInit K C)) (bI : Binds K fdI ["self", "pairs"] [])
    (GP : FnOk P w K mg base CX0 1 fP fdP ["self"] (spPairs K C)) (bP : Binds K fdP ["self"] []) (mP : Meth K C "pairs" fP) : FnOk P w K mg base CX0 3 f fd ["self"] (spCopy C) := by
  refine F.ok scCopy (fun vs H Q E h => ?_) (fun cdv A outer s H vs Q E hr h => ?_)
  · obtain ⟨p, d, m, rfl, _⟩ := h
    rfl
  · obtain ⟨p, d, m, rfl, c, hl, nd, q⟩ := h
    have hr1 : Room 1 _ := hr.mono (by decide)
    refine ⟨_, pss_one (ps_ret (pe_make M GI hr rfl T.mgC bI .nil pass0 (pa_cons (pe_meth0 (pv 0) T.cl mP GP hr1 bP .nil pass0) pa_nil))), ?_⟩
    obtain ⟨⟨dx, b0, ob⟩, dc⟩ := id c
    refine ⟨_, rfl, p, dx, _, rfl, ob, flds_no _ d (by decide +kernel) (by decide +kernel), p, d, m, rfl, c, hl, fun ys t H1 s1 nt hp hs pr => ?_⟩
    intro x dy nx ndy nxy
    have hk : (keys (srt m ys)).Nodup := by rw [keys_srt]; exact hp.nodup_iff.mpr nd
    have pl := srt_perm nd hp
    refine ⟨x, dy, t, srt m ys, rfl, upd_same, ?_, by rw [pl.length_eq]; omega, fun d' H2 nd' c' cb k' => ⟨rfl, ?_⟩⟩
    · obtain ⟨ts, h1, h2⟩ := pr
      have kp : ∀ (q : Addr) (xs : List V), SqT K H1 q xs → SqT K (upd (upd H1 dy (.own x)) x (.ins C dy [])) q xs := fun q xs h => by
        rcases h with (h | ⟨o, h⟩) | h
        · exact .inl (.inl (by rw [upd_ne (ne_of_none h nx), upd_ne (ne_of_none h ndy)]; exact h))
        · exact .inl (.inr ⟨o, by rw [upd_ne (ne_of_none h nx), upd_ne (ne_of_none h ndy)]; exact h⟩)
        · exact .inr h
      exact ⟨ts, kp _ _ h1, L2.Paired.mapP h2 fun q e h => kp _ _ h⟩
    · rw [made_nodup hk] at c'
      have s2 : Same H1 (upd (upd H1 dy (.own x)) x (.ins C dy [])) := fun b o e => by
        rw [upd_ne (ne_of_none e nx), upd_ne (ne_of_none e ndy)]
        exact e
      have s3 : Same H1 H2 := fun b o e => k' b o (s2 b o e) (ne_of_none e nx)
      have hd' : H1 d' = none := s2.free nd'
      exact q x d' (srt m ys) H2 (s1.trans s3) (s1.free nx) (s1.free hd') c' cb (aget_perm nd pl) pl
end
end SW

set_option Elab.async false
set_option linter.all false
set_option maxRecDepth 100000
set_option maxHeartbeats 2000000
/-! An own error over RuntimeError with a field. -/
namespace PySem
namespace ReX
open PySem.W PySem.Calls PyProof.Rows PySem.HandSPX
/-! ### the text of __init__ -/
def iA (p1 p2 : Pos) : Arguments := { posonlyargs := [], args := [{ arg := "self", annotation := none, pos := p1 }, { arg := "word", annotation := none, pos := p2 }], vararg := none, kwonlyargs := [], kw_defaults := [], kwarg := none, defaults := [] }
def iB (q1 q2 q3 q4 : Pos) : List Stmt := [.Assign [.Attribute (.Name "self" q1) "word" q2] (.Name "word" q3) q4]
def iS : Scope := { kind := .function, names := [(PySem.Str.ofString "self", .local), (PySem.Str.ofString "word", .local)], isGenerator := false, isCoroutine := false, more := [] }
abbrev reTail : List Value := [.type "RuntimeError", .type "Exception", .type "BaseException", .type "object"]
/-- what the written part says of Low, at C, and of its __init__, at fI -/
structure ReTxt (K : Frag) (mg : Str → Option Value) (C fI : Addr) : Prop where
  gC : mg "Fails" = some (.ref C)
  cls : ∃ nm q N bs bm sn sub ab col dd k0 k1 k2 k3 k5, K.lookup C = some (excClassObj nm q C N bs bm true sn sub ab col dd k0 k1 k2 k3 k5 "RuntimeError.__new__") ∧ excTail reTail bm = true
  sa : findIn K (.ref C) "__setattr__" = some (some (.builtin "object.__setattr__"))
  ga : findIn K (.ref C) "__getattribute__" = some (some (.builtin "BaseException.__getattribute__"))
  gg : findIn K (.ref C) "__getattr__" = some none
  noN : findIn K (.ref C) "word" = some none
  iC : findIn K (.ref C) "__init__" = some (some (.ref fI))
  tC : typeIn K (.ref fI) = some (.type "function")
  kC : keepIn K (.ref C) = true
  exC : subIn K (.ref C) (.type "BaseException") = some true
  tyC : typeIn K (.ref C) = some (.type "type")
  hdC : hasDictIn K C = true
  te : exmOne K (.ref C) (.ref C) = some true
  fn : ∃ (oc : Value) (od : Option Addr) (doc pm : Value) (an : Option Addr) (cdv ct : Value) (osl : Array (Option Value)) (p1 p2 q1 q2 q3 q4 : Pos),
    K.lookup fI = some ⟨oc, od, .func (fnOf "__init__" "Fails.__init__" (iA p1 p2) (iB q1 q2 q3 q4) iS .none .none doc pm an cdv ct), osl⟩ ∧ codeIn K cdv "Fails.__init__" = true
theorem one_size (v : Value) : [v].length ≤ sizeLine := by
  rw [sizeLine_eq]
  exact (by decide : 1 ≤ 16777216)
theorem kept_but {K : Frag} {h h' : Heap} {x : Addr} (X : K.In h) (hx : K.lookup x = none) (k : ∀ b o, b ≠ x → h.get? b = some o → h'.get? b = some o) : K.In h' := fun a o e =>
  k a o (fun z => by rw [z, hx] at e; cases e) (X a o e)
theorem ldC {M : Model} {s : Shared} {name : Str} {scope : Scope} {L a : Addr} {cd : Value} {m : Str → Option Value} {x : Str} {pos : Pos} {v : Value} {Q : Value → Shared → Prop} {A : Around} {E : Value → Shared → Prop} (hn : s.heap.Ns L m) (hv : m x = some v) (h : Q v s)
    (hk : scope.kind = .function := by rfl) (hl : (envOfC name scope L a cd).kindOf x = some .local := by rfl) (hd : (x == ("__debug__" : Str)) = false := by decide) :
    wpAny M A (eval (.Name x pos) (envOfC name scope L a cd)) Q E s := wpAny_Name (wpAny_loadName_local hk hl hn hv h) hd
/-- what __init__ leaves of a fresh exception at x -/
structure InitEnd (h h' : Heap) (x C dx t1 : Addr) (v : Value) : Prop where
  keep : ∀ b o, b ≠ x → h.get? b = some o → h'.get? b = some o
  obj : h'.get? x = some { cls := .ref C, dict := some dx, data := .fields #[.ref t1, .none, .none, .none, .bool false, .none] }
  dbig : h.objs.size ≤ dx
  dne : dx ≠ x
  ns : h'.Ns1 dx (fun y => if y = "word" then some v else none)
/-- a made Low -/
structure OwnMade (h h' : Heap) (e C d : Addr) (v : Value) : Prop where
  keep : ∀ b o, h.get? b = some o → h'.get? b = some o
  new : h.objs.size ≤ e
  obj : ∃ oe vs, h'.get? e = some oe ∧ oe.cls = .ref C ∧ oe.dict = some d ∧ oe.data = .fields vs ∧ vs[1]? = some .none
  dbig : h.objs.size ≤ d
  dne : d ≠ e
  ns : h'.Ns1 d (fun y => if y = "word" then some v else none)
section
open Builtin Builtin.ObjectAttr
variable {prog : Program} {w : World} {A : Around} {R : Result → Shared → Prop} {hp : Heap} {g : Array GenState} {d : Drawn} {t : Nat} {os : OsState}
/-- self.name = v on an error of a class over RuntimeError that has no dict yet -/
theorem re_store {K : Frag} {name : Str} {tk : Tok} {v : Value} {x C : Addr} {fv : Array Value} {nm : Str} {bs bm : List Value} {ns : Addr} {qn : Str} {sn : List Str} {sb : List Value} {ab : Bool} {col : Option Bool}
    (X : K.In hp) (hx : hp.get? x = some { cls := .ref C, data := .fields fv })
    (hcd : clsIn K C = some { name := nm, bases := bs, mro := .ref C :: bm, ns := ns, qualname := qn, hasDict := true, slotNames := sn, subclasses := sb, abstract := ab, collection := col, hasDel := false }) (hm : excTail reTail bm = true)
    (ha : findIn K (.ref C) name = some none)
    (hq : ∀ h' tk' dx, (∀ b o, b ≠ x → hp.get? b = some o → h'.get? b = some o) → hp.objs.size ≤ dx → dx ≠ x → h'.get? x = some { cls := .ref C, dict := some dx, data := .fields fv } →
      h'.Ns1 dx (fun y => if y = name then some v else none) → R (.ok (.ret .none)) ⟨h', g, d, tk', os⟩) :
    codeAny (model prog w) A (.call (.builtin "object.__setattr__") ⟨[.ref x, .str name tk, v], []⟩) R ⟨hp, g, d, t, os⟩ := by
  have J : InstAt hp x { cls := .ref C, data := .fields fv } C none := ⟨hx, rfl, rfl, trivial⟩
  have over : excOver K C reTail = true := by
    unfold excOver
    rw [hcd]
    show (C == C && excTail reTail bm) = true
    rw [hm, beq_self_eq_true]
    rfl
  have tkr : takerIn K C name = some none := by
    unfold takerIn
    rw [ha]
    rfl
  have hxs : x ≠ hp.objs.size := Nat.ne_of_lt (Heap.lt_size hx)
  have hcls : Looks (model prog w) hp (classData C) _ := looks_clsIn X hcd
  refine osa_openX (s := ⟨hp, g, d, t, os⟩) PySem.F.store_RuntimeError X J over tkr fun b => ?_
  show wpAny _ _ (storeInOwnDict (.ref x) (.ref C) (.str name tk) name v b) _ _ _
  unfold storeInOwnDict ownDictForStores
  repeat (first | with_reducible refine store_in_new ?_ ?_ | with_reducible refine wpAny_loadPart_at hx ?_ | with_reducible refine hcls.at ?_ | wp_step)
  · exact ⟨_, #[], _, (Heap.get?_update_ne _ _ _ _ hxs.symm).trans (Heap.get?_push_at rfl rfl), rfl, fun e he => absurd he (by simp), fun _ => rfl⟩
  · intro h2 tk2 hn2 hs2
    refine hq h2 tk2 hp.objs.size (fun b o hb ho => ?_) (Nat.le_refl _) hxs.symm ?_ hn2
    · exact (hs2.2 b (Nat.ne_of_lt (Heap.lt_size ho))).trans ((Heap.get?_update_ne _ _ _ _ hb).trans (Heap.get?_push_of_some _ ho))
    · exact (hs2.2 x hxs).trans (Heap.get?_update_self _ (Heap.get?_push_of_some _ hx) rfl)
end
section
variable {prog : Program} {w : World} {A : Around} {E : Value → Shared → Prop} {R : Result → Shared → Prop} {s : Shared} {K : Frag} {mg : Str → Option Value} {C fI : Addr}
theorem re_init (T : ReTxt K mg C fI) {x t0 : Addr} {v : Value} (X : K.In s.heap) (hlim : s.heap.NoLimit) (hx : s.heap.get? x = some (excO C t0)) (hnx : K.lookup x = none) (hroom : A.depth < recursionLimit)
    (hq : ∀ h' tk dx, InitEnd s.heap h' x C dx t0 v → R (.ok (.ret .none)) { s with heap := h', toks := tk }) :
    codeAny (model prog w) A (.call (.ref fI) ⟨[.ref x, v], []⟩) R s := by
  obtain ⟨oc, od, doc, pm, an, cdv, ct, osl, p1, p2, q1, q2, q3, q4, ho, hcd⟩ := T.fn
  obtain ⟨nm, q, N, bs, bm, sn, sub, ab, col, dd, k0, k1, k2, k3, k5, hC, hbm⟩ := T.cls
  have hcl : clsIn K C = some { name := nm, bases := bs, mro := .ref C :: bm, ns := N, qualname := q, hasDict := true, slotNames := sn, subclasses := sub, abstract := ab, collection := col, hasDel := false } := by unfold clsIn; rw [hC] <;> rfl
  refine Att.call_fn (binds := [("self", .ref x), ("word", v)]) X hlim ho hcd hroom (BindsTo.of_eq (by first | rfl | with_unfolding_all rfl)) (by first | rfl | decide | with_unfolding_all rfl) (fun s₁ IC => ?_) rfl rfl rfl
  obtain ⟨h₁, tk₁, rfl⟩ := IC.toInCall.same
  have k : ∀ b o, s.heap.get? b = some o → h₁.get? b = some o := IC.toInCall.keep
  have hn := IC.toInCall.ns
  have hxL : s.heap.objs.size ≠ x := Nat.ne_of_gt (Heap.lt_size hx)
  have X₁ : K.In h₁ := X.keeps k
  have hx₁ := k _ _ hx
  -- self.by = by
  show wpAny _ _ (execs _ _) _ _ _
  refine wpAny_execs_cons (plainObj_wpAny_Assign_Attribute ?_)
  refine ldC (v := v) hn (by first | rfl | with_unfolding_all rfl | kernel_rfl) (ldC (v := .ref x) hn (by first | rfl | with_unfolding_all rfl | kernel_rfl) ?_)
  refine set_plain X₁ (ox := excO C t0) (od := none) ⟨hx₁, rfl, rfl, trivial⟩ T.sa ?_
  refine re_store X₁ hx₁ hcl hbm T.noN (fun h₃ tk₃ dx k₃ dn dne hx₃ hn₃ => ?_)
  show wpAny _ _ (execs _ _) _ _ _
  have z : s.heap.objs.size < h₁.objs.size := hn.lt
  exact wpAny_execs_nil (hq h₃ tk₃ dx ⟨fun b o hb e => k₃ b o hb (k b o e), hx₃, Nat.le_of_lt (Nat.lt_of_lt_of_le z dn), dne, hn₃⟩)
theorem re_made (T : ReTxt K mg C fI) {v : Value} (X : K.In s.heap) (hlim : s.heap.NoLimit) (hroom : A.depth + 1 < recursionLimit)
    (hq : ∀ h' tk e d, OwnMade s.heap h' e C d v → R (.ok (.ret (.ref e))) { s with heap := h', toks := tk }) :
    codeAny (model prog w) A (.call (.ref C) ⟨[v], []⟩) R s := by
  obtain ⟨nm, q, N, bs, bm, sn, sub, ab, col, dd, k0, k1, k2, k3, k5, hC, hbm⟩ := T.cls
  obtain ⟨hp, g, dr, tk, os⟩ := s
  have k : ∀ b o, hp.get? b = some o → ((hp.push (kdv_tup [v])).push (excO C hp.objs.size)).get? b = some o := fun b o e => Heap.get?_push_of_some _ (Heap.get?_push_of_some _ e)
  have hget : ((hp.push (kdv_tup [v])).push (excO C hp.objs.size)).get? (hp.objs.size + 1) = some (excO C hp.objs.size) := by heap_get
  have hnx : K.lookup (hp.objs.size + 1) = none := by
    cases e : K.lookup (hp.objs.size + 1) with
    | none => rfl
    | some o =>
      have z : hp.get? (hp.objs.size + 1) = some o := X _ _ e
      exact absurd (Nat.lt_of_succ_lt (Heap.lt_size z)) (Nat.lt_irrefl _)
  refine call_own F.excBase_RuntimeError (fun X => excTail_contains X bm hbm) (X _ _ hC) (looks_findIn X T.iC) (fun self => bind_fn X self T.tC) (one_size v) ?_
  refine re_init (s := ⟨(hp.push (kdv_tup [v])).push (excO C hp.objs.size), g, dr, tk, os⟩) T (X.keeps k) (hlim.keeps k) hget hnx ?_ fun h' tk' dx ⟨k', hx, dn, dne, hns⟩ => ?_
  · show A.depth + 1 < recursionLimit
    exact hroom
  · have old : ∀ b o, hp.get? b = some o → h'.get? b = some o := fun b o e => k' b o (Nat.ne_of_lt (Nat.lt_succ_of_lt (Heap.lt_size e))) (k b o e)
    have z : hp.objs.size + 1 + 1 ≤ dx := by
      first
        | (simpa only [Heap.size_push] using dn)
        | exact dn
        | (have q := dn; rw [Heap.size_push, Heap.size_push] at q; exact q)
    exact ⟨rfl, hq h' tk' (hp.objs.size + 1) dx ⟨old, Nat.le_succ _, ⟨_, _, hx, rfl, rfl, rfl, rfl⟩, Nat.le_trans (Nat.le_trans (Nat.le_succ _) (Nat.le_succ _)) z, dne, hns⟩⟩
end
end ReX
end PySem
namespace L2
open PySem PySem.Spec PyProof.Rows
theorem relO_re {v : V} {v' : Value} (r : RelV v v') (f : Str) : RelO (List.lookup f [(("word" : Str), v)]) (if f = "word" then some v' else none) := by
  by_cases hw : f = "word"
  · subst hw
    rw [if_pos rfl]
    have q : List.lookup ("word" : Str) [(("word" : Str), v)] = some v := by simp [List.lookup]
    rw [q]
    exact r
  · rw [if_neg hw]
    have qw : (f == ("word" : Str)) = false := by simpa using hw
    have q2 : List.lookup f [(("word" : Str), v)] = none := by simp [List.lookup, qw]
    rw [q2]
    trivial
section
variable {X : Cx} {C fI : Addr}
/-- Low(e) -/
def tMkRe (C : Addr) (ta : TA) : St → Hp → XK → Prop := fun σ H Q => ta σ H fun vs H1 => ∃ v, vs = [v] ∧ ∀ d, H1 d = none → Q (.ref C) (some d) (upd H1 d (.xd [(("word" : Str), v)]))
theorem pmk_re {a : Expr} {ta : TA} {p pos : Pos} {k : Nat} (T : PySem.ReX.ReTxt X.K X.mg C fI) (hr : Room k X.A) (ha : PA X [a] ta) (hg : Gl X "Fails" := by rfl)
    (he : starEach (a :: []) X.env = (false, eval a X.env) :: starEach [] X.env := by rfl) (hpl : (backTo pos (starEach [] X.env)).any (·.1) = false := by rfl) :
    PMk X (.Call (.Name "Fails" p) [a] [] pos) (tMkRe C ta) := by
  intro pins s σ H Q I h
  refine wpAny_Call_Name_kw (ld_glob I hg T.gC ?_)
  refine PySem.W.callWith_K (h₀ := X.base) I.ok.mod.kin T.kC (thn (ha.run pos pins s σ H _ I h) fun us s1 hh => ?_) he hpl
  obtain ⟨vs, H1, I1, r1, v, ev, q1⟩ := hh
  subst ev
  refine ⟨I1.kIn, ?_⟩
  cases r1 with
  | cons rv rn =>
    rename_i v' us'
    cases rn
    show wpAny _ _ (call (.ref C) [v']) _ _ _
    have hlim := I1.nolimit
    obtain ⟨hp, g, dr, tk, os⟩ := s1
    refine wpAny_call (PySem.ReX.re_made T I1.kIn hlim (by have := hr.dp; omega) fun h' tk' e d M => ?_)
    show MkP X pins σ Q (.ref e) ⟨h', g, dr, tk', os⟩
    obtain ⟨oe, fv, hoe, hc, hd, hdat, h1⟩ := M.obj
    have hns := M.ns
    obtain ⟨G', g1, g2⟩ := restrict h' fun b => decide (b ≠ e)
    have gk : ∀ b, b ≠ e → G'.get? b = h'.get? b := fun b hb => g1 b (decide_eq_true hb)
    have ge : G'.get? e = none := g2 e (by simp)
    have old : ∀ b o, hp.get? b = some o → G'.get? b = some o := fun b o q => (gk b (Nat.ne_of_lt (Nat.lt_of_lt_of_le (Heap.lt_size q) M.new))).trans (M.keep b o q)
    have ob : ObjOk X.prog X.w (upd H1 d (.xd [(("word" : Str), v)])) G' d (.xd [(("word" : Str), v)]) :=
      ⟨_, hns.at (fun o q => (gk d M.dne).trans q), fun f => relO_re rv f⟩
    have J : Inv X pins σ (upd H1 d (.xd [(("word" : Str), v)])) ⟨G', g, dr, tk', os⟩ := I1.laid (t' := tk') old M.dbig ob
    refine ⟨e, oe, fv, ⟨G', g, dr, tk', os⟩, _, .ref C, some d, rfl, J, fun b o q => ?_, ge, hoe, ⟨hc, hd⟩, hdat, h1, ?_, rfl, I1.bare, raises_own T.exC T.tyC, q1 d (I1.hok.fresh M.dbig)⟩
    · by_cases hb : b = e
      · have q' : G'.get? b = some o := q
        rw [hb, ge] at q'; cases q'
      · exact (gk b hb).symm.trans q
    · rw [upd_ne (Ne.symm M.dne)]
      exact I1.hok.fresh M.new
/-- raise Low(e) -/
def tRaiseRe (C : Addr) (W : WX) (ta : TA) : TS := fun _ σ H => tMkRe C ta σ H fun cls d H' => W cls d σ H'
theorem ps_raiseRe {a : Expr} {ta : TA} {W : WX} {p pos pos2 : Pos} {k : Nat} (hc : X.calm = true) (T : PySem.ReX.ReTxt X.K X.mg C fI) (hr : Room k X.A) (tk : Takes X W) (ha : PA X [a] ta) (hg : Gl X "Fails" := by rfl)
    (he : starEach (a :: []) X.env = (false, eval a X.env) :: starEach [] X.env := by rfl) (hpl : (backTo pos (starEach [] X.env)).any (·.1) = false := by rfl) :
    PS X (.Raise (some (.Call (.Name "Fails" p) [a] [] pos)) none pos2) (tRaiseRe C W ta) := ps_raise hc tk (pmk_re T hr ha hg he hpl)
/-- low.by, low the exception that the suite holds (at a; its class cls, its dict d) -/
def tByRe (C : Addr) (a : Addr) (cls : Value) (d : Option Addr) (te : TE) : TE := fun σ H Q => te σ H fun x H1 => x = .ref a ∧ cls = .ref C ∧ ∃ (dd : Addr) (v : V), d = some dd ∧ H1 dd = some (.xd [(("word" : Str), v)]) ∧ Q v H1
theorem pe_byRe {a : Addr} {oe : Obj} {cls : Value} {d : Option Addr} {pn : List (Addr × Obj)} {e : Expr} {te : TE} {pos : Pos} (T : PySem.ReX.ReTxt X.K X.mg C fI) (hz : Zc cls d oe) (hf : ∃ vs, oe.data = .fields vs) (he : PE (X.suite a ((a, oe) :: pn)) e te)
    (hb : attributeBase e "word" X.env (eval e X.env) = eval e X.env := by rfl) :
    PE (X.suite a ((a, oe) :: pn)) (.Attribute e "word" pos) (tByRe C a cls d te) := by
  refine ⟨fun pins s σ H Q I h => ?_⟩
  refine attr_of hb (thn (he.run pins s σ H _ I h) fun u s1 hh => ?_)
  obtain ⟨x, H1, I1, rx, ex, ec, dd, v, ed, ea, q⟩ := hh
  subst ex
  obtain rfl : u = Value.ref a := rx
  subst ec
  subst ed
  obtain ⟨ha, _⟩ := I1.pin (a, oe) (List.mem_append_left _ List.mem_cons_self)
  obtain ⟨vs, hd⟩ := hf
  have hx : ObjOk X.prog X.w H1 s1.heap dd (.xd [(("word" : Str), v)]) := I1.hok dd _ ea
  obtain ⟨mA, hns, hr⟩ := hx
  obtain ⟨od, ho, hl⟩ := lookIn_ns hns
  have l : List.lookup ("word" : Str) [(("word" : Str), v)] = some v := by simp [List.lookup]
  obtain ⟨u, hu, ru⟩ := RelO.some_of (v := v) (o := mA "word") (by rw [← l]; exact hr "word")
  have J : PySem.W.InstAt s1.heap a oe C (some od) := ⟨ha, hz.1, by unfold PySem.W.notCls; rw [hd] <;> rfl, by rw [hz.2]; exact ho⟩
  exact HandSPX.exc_get I1.kIn J T.ga T.gg T.exC (PySem.W.findObj_own T.hdC T.noN rfl (by rw [hl, hu])) (handed_of ru) ⟨v, H1, I1.tok _, ru, q⟩
end
end L2

namespace L2
open PySem PySem.Spec PyProof.Rows
/-- an if whose test is known -/
theorem if_true_of {c : Bool} {A B : Prop} (hc : c = true) (h : A) : if c = true then A else B := by
  rw [if_pos hc]
  exact h
theorem if_false_of {c : Bool} {A B : Prop} (hc : c = false) (h : B) : if c = true then A else B := by
  rw [hc, if_neg Bool.false_ne_true]
  exact h
end L2
set_option Elab.async false
set_option linter.all false
set_option maxRecDepth 100000
set_option maxHeartbeats 2000000
/-! More facts of the head: an error over RuntimeError, an empty tuple as a default. -/
namespace BK
open PySem PySem.Spec PySem.W PySem.Calls PyProof.Rows PySem.HandSPX L2
/-- an own error's class made by id, what is behind it in its order told by p -/
def excP (K : PySem.W.Frag) (C : Addr) (id : String) (p : List Value → Bool) : Bool := match K.lookup C with
  | some ⟨.type t, _, .cls cd, sl⟩ => decide (t = "type") && (cd.hasDict && (!cd.hasDel && ((match cd.mro with
    | .ref C' :: bm => decide (C' = C) && p bm
    | _ => false) && (match sl.toList with
    | [_, _, _, _, some (.builtin n), _] => decide (n = id)
    | _ => false))))
  | _ => false
theorem excP_ok {K : PySem.W.Frag} {C : Addr} {id : String} {p : List Value → Bool} (h : excP K C id p = true) : ∃ nm q N bs bm sn sub ab col dd k0 k1 k2 k3 k5, K.lookup C = some (excClassObj nm q C N bs bm true sn sub ab col dd k0 k1 k2 k3 k5 id) ∧ p bm = true := by
  unfold excP at h
  split at h
  · rename_i t dd cd sl e
    obtain ⟨h1, h⟩ := Bool.and_eq_true_iff.mp h
    obtain ⟨h2, h⟩ := Bool.and_eq_true_iff.mp h
    obtain ⟨h3, h⟩ := Bool.and_eq_true_iff.mp h
    obtain ⟨h4, h5⟩ := Bool.and_eq_true_iff.mp h
    obtain ⟨nm, bs, mro, N, q, hd, sn, sub, ab, col, hdel⟩ := cd
    have h1 := of_decide_eq_true h1
    subst h1
    have h2 : hd = true := h2
    subst h2
    have h3 : hdel = false := by
      cases hdel with
      | false => rfl
      | true => cases h3
    subst h3
    split at h4
    · rename_i C' bm em
      obtain ⟨h6, h7⟩ := Bool.and_eq_true_iff.mp h4
      have h6 := of_decide_eq_true h6
      subst h6
      have em : mro = .ref C' :: bm := em
      subst em
      split at h5
      · rename_i k0 k1 k2 k3 n k5 es
        have h5 := of_decide_eq_true h5
        subst h5
        have es2 : sl = #[k0, k1, k2, k3, some (.builtin n), k5] := by
          rw [← Array.toList_inj, es]
        subst es2
        exact ⟨nm, q, N, bs, bm, sn, sub, ab, col, dd, k0, k1, k2, k3, k5, e, h7⟩
      · cases h5
    · cases h4
  · cases h
/-- a def at f has no keyword-only defaults -/
def kvB (K : PySem.W.Frag) (f : Addr) : Bool := match K.lookup f with
  | some ⟨_, _, .func fd, _⟩ => (match fd.kwdefaults with
    | .none => true
    | _ => false)
  | _ => false
theorem kvB_ok {K : PySem.W.Frag} {f : Addr} {oc : Value} {od : Option Addr} {fd : FuncData} {osl : Array (Option Value)} (h : kvB K f = true) (e : K.lookup f = some ⟨oc, od, .func fd, osl⟩) : fd.kwdefaults = .none := by
  unfold kvB at h
  rw [e] at h
  dsimp only at h
  split at h
  · assumption
  · cases h
/-- an empty tuple of the written part -/
def nilB (K : PySem.W.Frag) (a : Addr) : Bool := match K.lookup a with
  | some ⟨.type c, _, .seq its _, _⟩ => decide (c = "tuple") && decide (its = #[])
  | _ => false
theorem nilB_ok {K : PySem.W.Frag} {a : Addr} (h : nilB K a = true) (H : Hp) : SqT K H a [] := by
  unfold nilB at h
  split at h
  · rename_i c dd its n sl e
    obtain ⟨h1, h2⟩ := Bool.and_eq_true_iff.mp h
    have h1 := of_decide_eq_true h1
    have h2 := of_decide_eq_true h2
    subst h1 h2
    exact .inr ⟨_, #[], n, e, rfl, rfl, Nat.zero_le _, .nil⟩
  · cases h
end BK

set_option Elab.async false
set_option linter.all false
set_option maxRecDepth 100000
set_option maxHeartbeats 0
/-! The head: one kernel run, and the facts that it leaves. -/
namespace BK
open PySem PySem.Spec PyProof.Rows L2
def topH (i : Nat) : Stmt := PySem.Challenge.pw_stepwhere_k04_whole_rooms_kept.main.body.getD i (.Pass ⟨0, 0, 0, 0⟩)
abbrev tab_PARTS : List (Str × List Str) := [("set", ["variable", "source"]), ("hold", ["token", "variable", "source"]), ("reset", ["token"]), ("drop", ["variable"]), ("show", ["variable"]), ("copy", ["context"]), ("within", ["context", "block"]), ("if", ["variable", "integer", "block", "block"]), ("with", ["variable", "source", "block"]), ("guard", ["block", "block"]), ("loop", ["block"]), ("leave", []), ("yield", []), ("fail", [])]
abbrev keys_PARTS : List Str := ["set", "hold", "reset", "drop", "show", "copy", "within", "if", "with", "guard", "loop", "leave", "yield", "fail"]
def d_isn : He.DefD := ⟨("is_name", none), "is_name", "is_name", defArgs (topH 14), defBody (topH 14), defScope (topH 14), [], []⟩
def d_arn : He.DefD := ⟨("are_names", none), "are_names", "are_names", defArgs (topH 15), defBody (topH 15), defScope (topH 15), [], []⟩
def d_itg : He.DefD := ⟨("is_integer", none), "is_integer", "is_integer", defArgs (topH 16), defBody (topH 16), defScope (topH 16), [], []⟩
def d_num : He.DefD := ⟨("is_number", none), "is_number", "is_number", defArgs (topH 17), defBody (topH 17), defScope (topH 17), [], []⟩
def d_tup : He.DefD := ⟨("is_tuple", none), "is_tuple", "is_tuple", defArgs (topH 18), defBody (topH 18), defScope (topH 18), [], []⟩
def d_dif : He.DefD := ⟨("are_different_names", none), "are_different_names", "are_different_names", defArgs (topH 19), defBody (topH 19), defScope (topH 19), [], []⟩
def d_prt : He.DefD := ⟨("is_part", none), "is_part", "is_part", defArgs (topH 20), defBody (topH 20), defScope (topH 20), [], []⟩
def d_wrd : He.DefD := ⟨("word_of", none), "word_of", "word_of", defArgs (topH 21), defBody (topH 21), defScope (topH 21), [], []⟩
def d_fit : He.DefD := ⟨("fits", none), "fits", "fits", defArgs (topH 22), defBody (topH 22), defScope (topH 22), [], []⟩
def d_frm : He.DefD := ⟨("has_form", none), "has_form", "has_form", defArgs (topH 23), defBody (topH 23), defScope (topH 23), [], []⟩
def d_pts : He.DefD := ⟨("parts_of", none), "parts_of", "parts_of", defArgs (topH 24), defBody (topH 24), defScope (topH 24), [], []⟩
def d_blk : He.DefD := ⟨("blocks_of", none), "blocks_of", "blocks_of", defArgs (topH 25), defBody (topH 25), defScope (topH 25), [], []⟩
def d_can : He.DefD := ⟨("can_stand", none), "can_stand", "can_stand", defArgs (topH 57), defBody (topH 57), defScope (topH 57), [], []⟩
def d_hyi : He.DefD := ⟨("has_yield", none), "has_yield", "has_yield", defArgs (topH 58), defBody (topH 58), defScope (topH 58), [], []⟩
def d_knd : He.DefD := ⟨("is_kind", none), "is_kind", "is_kind", defArgs (topH 59), defBody (topH 59), defScope (topH 59), [], []⟩
def d_prm : He.DefD := ⟨("are_params", none), "are_params", "are_params", defArgs (topH 60), defBody (topH 60), defScope (topH 60), [], []⟩
def d_trp : He.DefD := ⟨("is_triple", none), "is_triple", "is_triple", defArgs (topH 61), defBody (topH 61), defScope (topH 61), [], []⟩
def d_fpc : He.DefD := ⟨("fault_of_pieces", none), "fault_of_pieces", "fault_of_pieces", defArgs (topH 62), defBody (topH 62), defScope (topH 62), [], []⟩
def d_flt : He.DefD := ⟨("fault_of", none), "fault_of", "fault_of", defArgs (topH 63), defBody (topH 63), defScope (topH 63), [], []⟩
def d_nee : He.DefD := ⟨("need_book", none), "need_book", "need_book", defArgs (topH 64), defBody (topH 64), defScope (topH 64), [], []⟩
def d_mix : He.DefD := ⟨("_law_mixed", none), "_law_mixed", "_law_mixed", defArgs (topH 73), defBody (topH 73), defScope (topH 73), [], []⟩
def d_beg : He.DefD := ⟨("_law_begin", none), "_law_begin", "_law_begin", defArgs (topH 74), defBody (topH 74), defScope (topH 74), [], []⟩
def d_drw : He.DefD := ⟨("_law_draw", none), "_law_draw", "_law_draw", defArgs (topH 75), defBody (topH 75), defScope (topH 75), [], []⟩
def d_nam : He.DefD := ⟨("_law_name", none), "_law_name", "_law_name", defArgs (topH 77), defBody (topH 77), defScope (topH 77), [], []⟩
def d_nms : He.DefD := ⟨("_law_names", none), "_law_names", "_law_names", defArgs (topH 78), defBody (topH 78), defScope (topH 78), [], []⟩
def d_lof : He.DefD := ⟨("_law_of", none), "_law_of", "_law_of", defArgs (topH 76), defBody (topH 76), defScope (topH 76), [], []⟩
def d_lfa : He.DefD := ⟨("_law_fails", none), "_law_fails", "_law_fails", defArgs (topH 79), defBody (topH 79), defScope (topH 79), [], []⟩
def d_src : He.DefD := ⟨("_law_source", none), "_law_source", "_law_source", defArgs (topH 80), defBody (topH 80), defScope (topH 80), [], []⟩
def d_lrs : He.DefD := ⟨("_law_reset", none), "_law_reset", "_law_reset", defArgs (topH 81), defBody (topH 81), defScope (topH 81), [], []⟩
def d_lhe : He.DefD := ⟨("_law_held", none), "_law_held", "_law_held", defArgs (topH 82), defBody (topH 82), defScope (topH 82), [], []⟩
def d_lpl : He.DefD := ⟨("_law_plain", none), "_law_plain", "_law_plain", defArgs (topH 83), defBody (topH 83), defScope (topH 83), [], []⟩
def d_len : He.DefD := ⟨("_law_entered", none), "_law_entered", "_law_entered", defArgs (topH 84), defBody (topH 84), defScope (topH 84), [], []⟩
def d_lex : He.DefD := ⟨("_law_exited", none), "_law_exited", "_law_exited", defArgs (topH 85), defBody (topH 85), defScope (topH 85), [], []⟩
def d_lar : He.DefD := ⟨("_law_all_right", none), "_law_all_right", "_law_all_right", defArgs (topH 86), defBody (topH 86), defScope (topH 86), [], []⟩
def d_lde : He.DefD := ⟨("_law_deed", none), "_law_deed", "_law_deed", defArgs (topH 87), defBody (topH 87), defScope (topH 87), [], []⟩
def d_lwi : He.DefD := ⟨("_law_within", none), "_law_within", "_law_within", defArgs (topH 88), defBody (topH 88), defScope (topH 88), [], []⟩
def d_lds : He.DefD := ⟨("_law_deeds", none), "_law_deeds", "_law_deeds", defArgs (topH 89), defBody (topH 89), defScope (topH 89), [], []⟩
def d_law : He.DefD := ⟨("law", none), "law", "law", defArgs (topH 90), defBody (topH 90), defScope (topH 90), [], []⟩
def d_cin : He.DefD := ⟨("Check", some "__init__"), "__init__", "Check.__init__", defArgs (inClass (topH 56) 0), defBody (inClass (topH 56) 0), defScope (inClass (topH 56) 0), [], []⟩
def d_tak : He.DefD := ⟨("Check", some "takes"), "takes", "Check.takes", defArgs (inClass (topH 56) 2), defBody (inClass (topH 56) 2), defScope (inClass (topH 56) 2), [], []⟩
def d_knw : He.DefD := ⟨("Check", some "knows"), "knows", "Check.knows", defArgs (inClass (topH 56) 3), defBody (inClass (topH 56) 3), defScope (inClass (topH 56) 3), [], []⟩
def d_fin : He.DefD := ⟨("Check", some "fault_in"), "fault_in", "Check.fault_in", defArgs (inClass (topH 56) 1), defBody (inClass (topH 56) 1), defScope (inClass (topH 56) 1), [], []⟩
def d_bin : He.DefD := ⟨("BadBook", some "__init__"), "__init__", "BadBook.__init__", defArgs (inClass (topH 2) 0), defBody (inClass (topH 2) 0), defScope (inClass (topH 2) 0), [], []⟩
def d_fai : He.DefD := ⟨("Fails", some "__init__"), "__init__", "Fails.__init__", defArgs (inClass (topH 4) 0), defBody (inClass (topH 4) 0), defScope (inClass (topH 4) 0), [ ], []⟩
def d_cti : He.DefD := ⟨("Context", some "__init__"), "__init__", "Context.__init__", defArgs (inClass (topH 6) 0), defBody (inClass (topH 6) 0), defScope (inClass (topH 6) 0), [.adr (He.dflAt ("Context", some "__init__") 0)], []⟩
def d_ctg : He.DefD := ⟨("Context", some "__getitem__"), "__getitem__", "Context.__getitem__", defArgs (inClass (topH 6) 1), defBody (inClass (topH 6) 1), defScope (inClass (topH 6) 1), [], []⟩
def d_cts : He.DefD := ⟨("Context", some "__setitem__"), "__setitem__", "Context.__setitem__", defArgs (inClass (topH 6) 2), defBody (inClass (topH 6) 2), defScope (inClass (topH 6) 2), [], []⟩
def d_cth : He.DefD := ⟨("Context", some "__contains__"), "__contains__", "Context.__contains__", defArgs (inClass (topH 6) 3), defBody (inClass (topH 6) 3), defScope (inClass (topH 6) 3), [], []⟩
def d_ctl : He.DefD := ⟨("Context", some "__len__"), "__len__", "Context.__len__", defArgs (inClass (topH 6) 5), defBody (inClass (topH 6) 5), defScope (inClass (topH 6) 5), [], []⟩
def d_ctd : He.DefD := ⟨("Context", some "drop"), "drop", "Context.drop", defArgs (inClass (topH 6) 7), defBody (inClass (topH 6) 7), defScope (inClass (topH 6) 7), [], []⟩
def d_ctp : He.DefD := ⟨("Context", some "pairs"), "pairs", "Context.pairs", defArgs (inClass (topH 6) 8), defBody (inClass (topH 6) 8), defScope (inClass (topH 6) 8), [], []⟩
def d_cty : He.DefD := ⟨("Context", some "copy"), "copy", "Context.copy", defArgs (inClass (topH 6) 9), defBody (inClass (topH 6) 9), defScope (inClass (topH 6) 9), [], []⟩
def d_ctw : He.DefD := ⟨("Context", some "is_same"), "is_same", "Context.is_same", defArgs (inClass (topH 6) 10), defBody (inClass (topH 6) 10), defScope (inClass (topH 6) 10), [], []⟩
def d_cte : He.DefD := ⟨("Context", some "__eq__"), "__eq__", "Context.__eq__", defArgs (inClass (topH 6) 6), defBody (inClass (topH 6) 6), defScope (inClass (topH 6) 6), [], []⟩
def d_tki : He.DefD := ⟨("Token", some "__init__"), "__init__", "Token.__init__", defArgs (inClass (topH 7) 0), defBody (inClass (topH 7) 0), defScope (inClass (topH 7) 0), [], []⟩
def d_wii : He.DefD := ⟨("Within", some "__init__"), "__init__", "Within.__init__", defArgs (inClass (topH 68) 0), defBody (inClass (topH 68) 0), defScope (inClass (topH 68) 0), [], []⟩
def d_wie : He.DefD := ⟨("Within", some "__enter__"), "__enter__", "Within.__enter__", defArgs (inClass (topH 68) 1), defBody (inClass (topH 68) 1), defScope (inClass (topH 68) 1), [], []⟩
def d_wix : He.DefD := ⟨("Within", some "__exit__"), "__exit__", "Within.__exit__", defArgs (inClass (topH 68) 2), defBody (inClass (topH 68) 2), defScope (inClass (topH 68) 2), [], []⟩
def d_roi : He.DefD := ⟨("Room", some "__init__"), "__init__", "Room.__init__", defArgs (inClass (topH 70) 0), defBody (inClass (topH 70) 0), defScope (inClass (topH 70) 0), [], []⟩
def d_rop : He.DefD := ⟨("Room", some "put"), "put", "Room.put", defArgs (inClass (topH 70) 1), defBody (inClass (topH 70) 1), defScope (inClass (topH 70) 1), [], []⟩
def d_rod : He.DefD := ⟨("Room", some "drop"), "drop", "Room.drop", defArgs (inClass (topH 70) 2), defBody (inClass (topH 70) 2), defScope (inClass (topH 70) 2), [], []⟩
def d_ror : He.DefD := ⟨("Room", some "read"), "read", "Room.read", defArgs (inClass (topH 70) 3), defBody (inClass (topH 70) 3), defScope (inClass (topH 70) 3), [], []⟩
def d_roh : He.DefD := ⟨("Room", some "hold"), "hold", "Room.hold", defArgs (inClass (topH 70) 6), defBody (inClass (topH 70) 6), defScope (inClass (topH 70) 6), [], []⟩
def d_ros : He.DefD := ⟨("Room", some "reset"), "reset", "Room.reset", defArgs (inClass (topH 70) 7), defBody (inClass (topH 70) 7), defScope (inClass (topH 70) 7), [], []⟩
def d_roc : He.DefD := ⟨("Room", some "copy"), "copy", "Room.copy", defArgs (inClass (topH 70) 8), defBody (inClass (topH 70) 8), defScope (inClass (topH 70) 8), [], []⟩
def d_rou : He.DefD := ⟨("Room", some "run"), "run", "Room.run", defArgs (inClass (topH 70) 9), defBody (inClass (topH 70) 9), defScope (inClass (topH 70) 9), [ ], []⟩
def d_row : He.DefD := ⟨("Room", some "within"), "within", "Room.within", defArgs (inClass (topH 70) 10), defBody (inClass (topH 70) 10), defScope (inClass (topH 70) 10), [], []⟩
def d_rol : He.DefD := ⟨("Room", some "log"), "log", "Room.log", defArgs (inClass (topH 70) 12), defBody (inClass (topH 70) 12), defScope (inClass (topH 70) 12), [], []⟩
def d_rsh : He.DefD := ⟨("Room", some "show"), "show", "Room.show", defArgs (inClass (topH 70) 5), defBody (inClass (topH 70) 5), defScope (inClass (topH 70) 5), [], []⟩
def d_rno : He.DefD := ⟨("Room", some "note"), "note", "Room.note", defArgs (inClass (topH 70) 13), defBody (inClass (topH 70) 13), defScope (inClass (topH 70) 13), [], []⟩
abbrev faH_0 : List He.Fa := [.glo "Check", .glo "BadBook", .glo "Fails", .glo "Context", .glo "Token", .glo "Within", .glo "Room", .glo "is_name", .glo "are_names", .glo "is_integer", .glo "is_number", .glo "is_tuple"]
abbrev faH_1 : List He.Fa := [.glo "are_different_names", .glo "is_part", .glo "word_of", .glo "fits", .glo "has_form", .glo "parts_of", .glo "blocks_of", .glo "can_stand", .glo "has_yield", .glo "is_kind", .glo "are_params", .glo "is_triple"]
abbrev faH_2 : List He.Fa := [.glo "fault_of_pieces", .glo "fault_of", .glo "need_book", .glo "_law_mixed", .glo "_law_begin", .glo "_law_draw", .glo "_law_name", .glo "_law_names", .glo "_law_of", .glo "_law_fails", .glo "_law_source", .glo "_law_reset"]
abbrev faH_3 : List He.Fa := [.glo "_law_held", .glo "_law_plain", .glo "_law_entered", .glo "_law_exited", .glo "_law_all_right", .glo "_law_deed", .glo "_law_within", .glo "_law_deeds", .glo "law", .free "isinstance", .free "str", .free "int"]
abbrev faH_4 : List He.Fa := [.free "bool", .free "tuple", .free "len", .free "all", .free "set", .free "zip", .free "list", .free "enumerate", .free "range", .free "sorted", .free "dict", .free "repr"]
abbrev faH_5 : List He.Fa := [.free "RuntimeError", .free "ValueError", .free "LookupError", .int "MOST_LETTERS" 8, .int "MOST_NUMBER" 99, .int "MOST_VALUE" 9999, .int "MOST_PIECES" 6, .int "MOST_VARS" 3, .int "MOST_PARAMS" 2, .int "MOST_STATEMENTS" 16, .int "MOST_AROUND" 4, .str "LETTERS" "abcdefghijklmnopqrstuvwxyz"]
abbrev faH_6 : List He.Fa := [.glo "KINDS", .glo "PARTS", .cls "Check", .mkr "Check", .meth "Check" "takes", .meth "Check" "knows", .meth "Check" "fault_in", .noat "Check" "variables", .noat "Check" "kinds", .noat "Check" "met", .cls "Context", .mkr "Context"]
abbrev faH_7 : List He.Fa := [.meth "Context" "__getitem__", .meth "Context" "__setitem__", .meth "Context" "__contains__", .meth "Context" "__len__", .meth "Context" "drop", .meth "Context" "pairs", .meth "Context" "copy", .meth "Context" "is_same", .meth "Context" "__eq__", .noat "Context" "is_busy", .noat "Context" "_held", .cls "Token"]
abbrev faH_8 : List He.Fa := [.mkr "Token", .noat "Token" "context", .noat "Token" "variable", .noat "Token" "old", .noat "Token" "is_used", .cls "Within", .mkr "Within", .meth "Within" "__enter__", .meth "Within" "__exit__", .noat "Within" "room", .noat "Within" "context", .noat "Within" "elder"]
abbrev faH_9 : List He.Fa := [.cls "Room", .mkr "Room", .noat "Room" "_book", .noat "Room" "_events", .noat "Room" "now", .meth "Room" "put", .meth "Room" "drop", .meth "Room" "read", .meth "Room" "hold", .meth "Room" "reset", .meth "Room" "copy", .meth "Room" "run"]
abbrev faH_10 : List He.Fa := [.meth "Room" "within", .meth "Room" "log", .meth "Room" "show", .meth "Room" "note"]
abbrev faH : List He.Fa := faH_0 ++ (faH_1 ++ (faH_2 ++ (faH_3 ++ (faH_4 ++ (faH_5 ++ (faH_6 ++ (faH_7 ++ (faH_8 ++ (faH_9 ++ (faH_10))))))))))
abbrev fnH_0 : List He.DefD := [d_isn, d_arn, d_itg, d_num, d_tup, d_dif, d_prt, d_wrd, d_fit, d_frm, d_pts, d_blk]
abbrev fnH_1 : List He.DefD := [d_can, d_hyi, d_knd, d_prm, d_trp, d_fpc, d_flt, d_nee, d_mix, d_beg, d_drw, d_nam]
abbrev fnH_2 : List He.DefD := [d_nms, d_lof, d_lfa, d_src, d_lrs, d_lhe, d_lpl, d_len, d_lex, d_lar, d_lde, d_lwi]
abbrev fnH_3 : List He.DefD := [d_lds, d_law, d_cin, d_tak, d_knw, d_fin, d_bin, d_fai, d_cti, d_ctg, d_cts, d_cth]
abbrev fnH_4 : List He.DefD := [d_ctl, d_ctd, d_ctp, d_cty, d_ctw, d_cte, d_tki, d_wii, d_wie, d_wix, d_roi, d_rop]
abbrev fnH_5 : List He.DefD := [d_rod, d_ror, d_roh, d_ros, d_roc, d_rou, d_row, d_rol, d_rsh, d_rno]
abbrev fnH : List He.DefD := fnH_0 ++ (fnH_1 ++ (fnH_2 ++ (fnH_3 ++ (fnH_4 ++ (fnH_5)))))
abbrev tsH : List He.Tab := [(fun K => He.ga K "PARTS", keys_PARTS)]
abbrev tfH : List He.Defn := [("_law_deed", none), ("_law_within", none)]
abbrev exL_0 (K : PySem.W.Frag) : List Bool := [He.tupB K "KINDS" [.str "context", .str "token"], tabX K (He.ga K "PARTS") keys_PARTS, tupsB K (He.ga K "PARTS") tab_PARTS, PySem.W.keepIn K (.ref (He.ga K "BadBook")), decide (PySem.W.subIn K (.ref (He.ga K "BadBook")) (.type "BaseException") = some true), decide (PySem.W.typeIn K (.ref (He.ga K "BadBook")) = some (.type "type")), He.eqO (PySem.W.findIn K (.ref (He.ga K "BadBook")) "__setattr__") (some (some (.builtin "object.__setattr__"))), excB K (He.ga K "BadBook") "ValueError.__new__", He.eqO (PySem.W.findIn K (.ref (He.ga K "BadBook")) "place") (some none), He.eqO (PySem.W.findIn K (.ref (He.ga K "BadBook")) "__getattribute__") (some (some (.builtin "BaseException.__getattribute__"))), He.eqO (PySem.W.findIn K (.ref (He.ga K "BadBook")) "__getattr__") (some none), PySem.W.hasDictIn K (He.ga K "BadBook")]
abbrev exL_1 (K : PySem.W.Frag) : List Bool := [isFB K (He.ga K "BadBook"), He.eqO (PySem.W.findIn K (.ref (He.ga K "BadBook")) "__init__") (some (some (.ref (He.ma K (He.ga K "BadBook") "__init__")))), decide (PySem.W.typeIn K (.ref (He.ma K (He.ga K "BadBook") "__init__")) = some (.type "function")), excP K (He.ga K "Fails") "RuntimeError.__new__" (PySem.W.excTail PySem.ReX.reTail), He.eqO (PySem.W.findIn K (.ref (He.ga K "Fails")) "__setattr__") (some (some (.builtin "object.__setattr__"))), He.eqO (PySem.W.findIn K (.ref (He.ga K "Fails")) "__getattribute__") (some (some (.builtin "BaseException.__getattribute__"))), He.eqO (PySem.W.findIn K (.ref (He.ga K "Fails")) "__getattr__") (some none), He.eqO (PySem.W.findIn K (.ref (He.ga K "Fails")) "word") (some none), He.eqO (PySem.W.findIn K (.ref (He.ga K "Fails")) "__init__") (some (some (.ref (He.ma K (He.ga K "Fails") "__init__")))), decide (PySem.W.typeIn K (.ref (He.ma K (He.ga K "Fails") "__init__")) = some (.type "function")), PySem.W.keepIn K (.ref (He.ga K "Fails")), decide (PySem.W.subIn K (.ref (He.ga K "Fails")) (.type "BaseException") = some true)]
abbrev exL_2 (K : PySem.W.Frag) : List Bool := [decide (PySem.W.typeIn K (.ref (He.ga K "Fails")) = some (.type "type")), PySem.W.hasDictIn K (He.ga K "Fails"), decide (PySem.W.exmOne K (.ref (He.ga K "Fails")) (.ref (He.ga K "Fails")) = some true), decide (PySem.W.kitOne K (.ref (He.ga K "Fails")) (.type "RuntimeError") = some true), decide (PySem.W.kitAny K (.ref (He.ga K "Fails")) [.type "ValueError", .type "LookupError"] = some false), isFB K (He.ga K "Fails"), kvB K (He.ma K (He.ga K "Fails") "__init__"), nilB K (He.dflAt ("Context", some "__init__") 0 K), PySem.W.fnIn K (He.ma K (He.ga K "Context") "__getitem__"), PySem.W.noSeq K (He.ga K "Context"), He.eqO (PySem.W.findIn K (.ref (He.ga K "Context")) "__ne__") (some (some (.builtin "object.__ne__"))), decide (PySem.W.subIn K (.ref (He.ga K "Context")) (.type "object") = some true)]
abbrev exL_3 (K : PySem.W.Frag) : List Bool := [PySem.W.notFirst K (He.ga K "Context") (.ref (He.ga K "Context")), decide (PySem.W.kitOne K (.ref (He.ga K "Context")) (.ref (He.ga K "Context")) = some true), He.eqO (PySem.W.findIn K (.ref (He.ga K "Context")) "__class__") (some (some (.builtin "object.__class__"))), He.eqO (PySem.W.specialIn K (.builtin "object.__class__") "__get__") (some (some (.builtin "getset_descriptor.__get__"))), decide (PySem.W.takesIn K (.builtin "object.__class__") = some true), decide (PySem.W.mroIn K (He.ga K "Context") (.type "object") = some true), decide (¬ ((He.cT K ("_law_deed", none)).2 = (He.cT K ("_law_within", none)).2))]
abbrev exL (K : PySem.W.Frag) : List Bool := exL_0 K ++ (exL_1 K ++ (exL_2 K ++ (exL_3 K)))
def exH (K : PySem.W.Frag) : Bool := allB (exL K)
end BK
namespace BK
open PySem PySem.W PySem.Calls PyProof.Rows
abbrev RwL : OpenRow := OpenLaw.row PySem.Challenge.rw_stepwhere_k04_whole_rooms_kept
abbrev QvL : Program := view RwL.prog [90]
def nmL0 : List PySem.Str := ["StepwhereError", "BadBook", "BadQuestion", "Fails", "Context", "Token", "LETTERS", "MOST_LETTERS", "MOST_NUMBER", "MOST_VALUE", "PARTS", "is_name", "are_names", "is_integer", "is_number"]
def nmL1 : List PySem.Str := ["is_tuple", "are_different_names", "is_part", "word_of", "fits", "has_form", "parts_of", "blocks_of", "FRESH", "STANDS", "OVER", "Frame", "value_of", "held_by", "shut"]
def nmL2 : List PySem.Str := ["do_set", "do_hold", "do_reset", "do_drop", "do_show", "do_copy", "do_within", "do_if", "do_with", "do_guard", "do_loop", "do_leave", "do_fail", "ACTIONS", "Machine"]
def nmL3 : List PySem.Str := ["MOST_PIECES", "MOST_STATEMENTS", "MOST_AROUND", "KINDS", "MOST_VARS", "MOST_PARAMS", "Check", "can_stand", "has_yield", "is_kind", "are_params", "is_triple", "fault_of_pieces", "fault_of", "need_book"]
def nmL4 : List PySem.Str := ["find_piece", "piece_called", "Within", "Instance", "Room", "is_of_kind", "_law_mixed", "_law_begin", "_law_draw", "_law_of", "_law_name", "_law_names", "_law_fails", "_law_source", "_law_reset"]
def nmL5 : List PySem.Str := ["_law_held", "_law_plain", "_law_entered", "_law_exited", "_law_all_right", "_law_deed", "_law_within", "_law_deeds"]
def nmL : List PySem.Str := nmL0 ++ nmL1 ++ nmL2 ++ nmL3 ++ nmL4 ++ nmL5
abbrev HkL : Hook := hookR 1500 faH fnH tsH tfH exH
def ObL (s : SharedT) : He.AlX := obsR 1500 faH fnH tsH tfH exH (HandSHeadRun.getT s)
theorem ObL_eq (s : SharedT) : ObL s = HkL.obs s.abs := obsR_eq (HandSHeadRun.getT_eq s)
theorem runL0 (w : World) : HandSHeadRun.RunEq RwL QvL HkL ObL 20000 nmL (w.withFollow "special-get-raises" false) := by
  intro os
  kernel_rfl
theorem runL1 (w : World) : HandSHeadRun.RunEq RwL QvL HkL ObL 20000 nmL (w.withFollow "special-get-raises" true) := by
  intro os
  kernel_rfl
theorem runL (w : World) : HandSHeadRun.RunEq RwL QvL HkL ObL 20000 nmL w := byRow2 "special-get-raises" (P := fun w => HandSHeadRun.RunEq RwL QvL HkL ObL 20000 nmL w) runL0 runL1 w
end BK

set_option Elab.async false
set_option maxRecDepth 100000
set_option maxHeartbeats 1000000
/-! x[i], x[i] = v, i in x, len(x), x == y, x != y of an instance of an own class with these methods. -/
namespace PySem.SwOps
open PySem PySem.W PySem.Calls PyProof.Rows Builtin
section
variable {prog : Program} {w : World} {A : Around} {E : Value → Shared → Prop} {s : Shared} {K : Frag} {x C L f : Addr} {h₀ : Heap} {m : Str → Option Value} {ox : Obj} {od : Option Obj} {b tb : Value}
/-- a special method that is a slot of a built-in class -/
theorem bound_slot {M : Model} {T : String} {name : Str} {id : String} {args : List Value} {Q : Option Value → Shared → Prop} (X : K.In s.heap) (J : InstAt s.heap x ox C od) (hs : findIn K (.ref C) name = some (some (.builtin id))) (sl : Slot T name id)
    (h : wpAny M A (call (.builtin id) (.ref x :: args)) (fun v => Q (some v)) E s) : wpAny M A (callSpecialIfBound? (.ref x) name args) Q E s := by
  have last : wpAny M A (call (.builtin id) ([.ref x] ++ args) >>= fun v => pure (some v)) Q E s := wpAny_bind (wpAny_mono h (fun v s' h' => wpAny_pure h') fun _ _ h' => h')
  simp only [callSpecialIfBound?, bindSpecialIfBound?]
  refine wpAny_holding (wpAny_bind (wpAny_bind (wpAny_bind (J.type.here ((looks_findIn X hs).here (wpAny_bind (wpAny_askSetting (wpAny_ite ?_))))))))
  rw [sl.bind]
  split
  · exact wpAny_bind (wpAny_pure (wpAny_pure (by exact last)))
  · exact wpAny_tryCatch (wpAny_bind (wpAny_pure (wpAny_pure (by exact last))))
/-- x != b: not x.__eq__(b), where the class has no __ne__ of its own -/
theorem ne_by_eq {Q : Value → Shared → Prop} (hu : A.units + 1 < cLine) (F : Fr h₀ L s.heap m) (X₀ : K.In h₀) (J : InstAt s.heap x ox C od) (hb : Looks (model prog w) s.heap (typeOf b) tb) (hn : notFirst K C tb = true)
    (hne : findIn K (.ref C) "__ne__" = some (some (.builtin "object.__ne__"))) (hob : subIn K (.ref C) (.type "object") = some true) (he : findIn K (.ref C) "__eq__" = some (some (.ref f))) (hf : isFn K (.ref f) = true)
    (h : wpAny (model prog w) A.in1 (call (.ref f) [.ref x, b]) (fun v s' => ∃ c, v = .bool c ∧ Q (.bool (!c)) s') E s) : wpAny (model prog w) A (richCompare .NotEq (.ref x) b) Q E s := by
  have X := X₀.keeps F.keep
  have isO : Looks (model prog w) s.heap (isInstance (.ref x) (.type "object")) true := J.type.andThen (looks_subIn X hob)
  have one : wpAny (model prog w) A (tryCompare (.ref x) "__ne__" b) (fun r s' => ∃ v, r = some v ∧ Q v s') E s := by
    unfold tryCompare
    refine wpAny_bind (bound_slot X J hne PySem.F.cmp_object.ne (wpAny_call (codeAny_call_builtin PySem.F.cmp_object.ne.plain PySem.F.cmpEntry_ne
      (@check_slot (model prog w) _ _ s "object.__ne__" "object" "__ne__" (.ref x) [b] [] _ PySem.F.cmpKind_ne PySem.F.cmpSplit_ne isO (PySem.F.cmpArgs_ne _ _) ?_))))
    unfold Builtin.«object.__ne__»
    repeat (first
      | with_reducible refine wpAny_cRoomFor (show A.in1.units < cLine from hu) ?_
      | (refine wpAny_bind (m := callSpecialIfBound? (.ref x) (Str.ofString "__eq__") [b]) (ifBound_K X J he hf (wpAny_mono h (fun v s' hv => ?_) fun _ _ e => e)))
      | wp_step)
    obtain ⟨c, rfl, hq⟩ := hv
    repeat (first | exact wpAny_pure ⟨_, rfl, hq⟩ | exact ⟨_, rfl, hq⟩ | (refine wpAny_bind (m := truthy (.bool _)) (wpAny_truthy_bool ?_)) | wp_step)
  unfold richCompare
  simp only [oneThing_ref]
  refine wpAny_holding (wpAny_bind (wpAny_cRoomFor (Nat.lt_of_succ_lt hu) (wpAny_bind (J.type.here (wpAny_bind (hb.here ?_))))))
  split
  · rename_i q
    have e : subIn K tb (.ref C) = some false := by
      rcases Bool.or_eq_true_iff.mp hn with e | e
      · rw [beq_iff_eq.mp e] at q
        simp at q
      · exact beq_iff_eq.mp e
    refine wpAny_bind ((looks_subIn X e).here ?_)
    rw [if_neg Bool.false_ne_true]
    refine wpAny_bind (wpAny_mono one (fun r s' z => ?_) fun _ _ e => e)
    obtain ⟨v, rfl, hq⟩ := z
    exact wpAny_pure hq
  · refine wpAny_bind (wpAny_pure ?_)
    rw [if_neg Bool.false_ne_true]
    refine wpAny_bind (wpAny_mono one (fun r s' z => ?_) fun _ _ e => e)
    obtain ⟨v, rfl, hq⟩ := z
    exact wpAny_pure hq
end
end PySem.SwOps

set_option Elab.async false
set_option maxRecDepth 100000
set_option maxHeartbeats 1000000
namespace SW
open PySem PySem.Spec PyProof.Rows L2
section
variable {X : Cx} {CX : CXT} {k : Nat} {f C : Addr} {fd : FuncData} {ps : List Str} {sp : Sp} {E : XK}
/-- an instance of the class at C -/
theorem inst_of {pins : List (Addr × Obj)} {σ : L2.St} {H : Hp} {s : Shared} {a dx : Addr} {fs : List (Str × V)} (I : Inv X pins σ H s) (e : H a = some (.ins C dx fs)) : ∃ od, PySem.W.InstAt s.heap a (PySem.W.instObj C dx) C (some od) := by
  obtain ⟨mA, O, _⟩ := ins_get I.hok e
  obtain ⟨od, J, _⟩ := O.look
  exact ⟨od, J⟩
/-- the callee runs one unit deeper -/
theorem run_in1 {pins : List (Addr × Obj)} {σ : L2.St} {H : Hp} {s : Shared} {Q : VK} {us : List Value} {vs : List V} (F : FnOk X.prog X.w X.K X.mg X.base CX k f fd ps sp) (hr : Room (k + 1) X.A) (hb : L2.Binds X.K fd ps []) (hx : Passes CX X E)
    (I : Inv X pins σ H s) (r : Vals vs us) (h : sp vs H Q E) : wpAny (model X.prog X.w) X.A.in1 (call (.ref f) us) (EP X pins σ Q) X.xe s := by
  have hl : (us ++ []).length = ps.length := by
    rw [List.append_nil, ← r.length]
    exact F.len _ _ _ _ h
  refine wpAny_call (codeAny_mono (F.run X.A.in1 X.stack s H ⟨us, []⟩ (us ++ []) vs Q E hr.in1 I.env0.in1 (hb s us I.kIn hl) (by rw [List.append_nil]; exact r) h) fun r s' hq => ?_)
  cases r with
  | error e => exact hx pins σ H s e s' I hq
  | ok fl =>
    cases fl with
    | ret u => exact I.after hq
    | next => exact False.elim hq
    | brk => exact False.elim hq
    | cont => exact False.elim hq
theorem run_same {pins : List (Addr × Obj)} {σ : L2.St} {H : Hp} {s : Shared} {Q : VK} {us : List Value} {vs : List V} (F : FnOk X.prog X.w X.K X.mg X.base CX k f fd ps sp) (hr : Room k X.A) (hb : L2.Binds X.K fd ps []) (hx : Passes CX X E)
    (I : Inv X pins σ H s) (r : Vals vs us) (h : sp vs H Q E) : wpAny (model X.prog X.w) X.A (call (.ref f) us) (EP X pins σ Q) X.xe s :=
  run_fn (ds := []) (dvs := []) F hr hb .nil hx I r (by rw [List.append_nil]; exact h)
/-- x[i]: its own __getitem__ is called -/
theorem pe_own {a b : Expr} {ta tb : TE} {pos : Pos} (hs : PySem.W.findIn X.K (.ref C) "__getitem__" = some (some (.ref f))) (hf : PySem.W.isFn X.K (.ref f) = true) (hfn : PySem.W.fnIn X.K f = true)
    (F : FnOk X.prog X.w X.K X.mg X.base CX k f fd ps sp) (hr : Room (k + 1) X.A) (hb : L2.Binds X.K fd ps []) (hx : Passes CX X E) (ha : PE X a ta) (hbb : PE X b tb)
    (hsl : ∀ x i, subscripted b true x i = runValue (.builtin "lifetime.subscript" ⟨[x, i], []⟩)) : PE X (.Subscript a b pos) (tOp (fun x y H Q => ∃ p dx fs, x = .ref p ∧ H p = some (.ins C dx fs) ∧ sp [x, y] H Q E) ta tb) := by
  refine ⟨fun pins s σ H Q I h => ?_⟩
  refine Subscript_ (binT ha hbb I h fun v u s2 x y H2 I2 rx ry q => ?_)
  obtain ⟨p, dx, fs, rfl, hp, q⟩ := q
  obtain rfl : v = Value.ref p := rx
  obtain ⟨od, J⟩ := inst_of I2 hp
  obtain ⟨m, hF⟩ := I2.fr
  exact PySem.W.sub_K hF I2.ok.mod.kin J hs hfn hf (run_in1 (vs := [.ref p, y]) F hr hb hx I2 (.cons rfl (.cons ry .nil)) q) (hsl _ _)
/-- x[i] = v -/
theorem set_own (nq : PySem.W.noSeq X.K C = true) (hs : PySem.W.findIn X.K (.ref C) "__setitem__" = some (some (.ref f))) (hf : PySem.W.isFn X.K (.ref f) = true) (F : FnOk X.prog X.w X.K X.mg X.base CX k f fd ps sp) (hr : Room k X.A) (hb : L2.Binds X.K fd ps []) (hx : Passes CX X E) :
    PSet X (fun x y z H Q => ∃ a dx fs, x = .ref a ∧ H a = some (.ins C dx fs) ∧ sp [x, y, z] H (fun _ H' => Q H') E) := by
  intro pins s σ H x y z v u t Q I rx ry rz h
  obtain ⟨a, dx, fs, rfl, ha, q⟩ := h
  obtain rfl : v = Value.ref a := rx
  obtain ⟨od, J⟩ := inst_of I ha
  obtain ⟨m, hF⟩ := I.fr
  refine PySem.W.ksp_setItem hF I.ok.mod.kin J nq hs hf (wpAny_mono (run_same (vs := [.ref a, y, z]) F hr hb hx I (.cons rfl (.cons ry (.cons rz .nil))) q) (fun r s' z => ?_) fun _ _ x => x)
  obtain ⟨_, H', I', _, q'⟩ := z
  exact ⟨H', I', q'⟩
/-- i in x -/
theorem op_in_own (hs : PySem.W.findIn X.K (.ref C) "__contains__" = some (some (.ref f))) (hf : PySem.W.isFn X.K (.ref f) = true) (F : FnOk X.prog X.w X.K X.mg X.base CX k f fd ps sp) (hr : Room k X.A) (hb : L2.Binds X.K fd ps []) (hx : Passes CX X E) :
    OpR X (compareOp .In) (fun y x H Q => ∃ a dx fs, x = .ref a ∧ H a = some (.ins C dx fs) ∧ sp [x, y] H (fun v H' => ∃ c, v = .bl c ∧ Q (.bl c) H') E) := by
  intro pins s σ H y x u v Q I ry rx h
  obtain ⟨a, dx, fs, rfl, ha, q⟩ := h
  obtain rfl : v = Value.ref a := rx
  obtain ⟨od, J⟩ := inst_of I ha
  obtain ⟨m, hF⟩ := I.fr
  refine PySem.W.in_K hF I.ok.mod.kin J hs hf (wpAny_mono (run_same (vs := [.ref a, y]) F hr hb hx I (.cons rfl (.cons ry .nil)) q) (fun r s' z => ?_) fun _ _ x => x)
  obtain ⟨v', H', I', r', c, rfl, q'⟩ := z
  obtain rfl : r = Value.bool c := r'
  exact wpAny_truthy_bool ⟨.bl c, H', I', rfl, q'⟩
/-- len(x) -/
theorem call_len_own (hs : PySem.W.findIn X.K (.ref C) "__len__" = some (some (.ref f))) (hf : PySem.W.isFn X.K (.ref f) = true) (F : FnOk X.prog X.w X.K X.mg X.base CX k f fd ps sp) (hr : Room (k + 1) X.A) (hb : L2.Binds X.K fd ps []) (hx : Passes CX X E) :
    CallR X (.builtin "len") (fun xs H Q => ∃ a dx fs, xs = [.ref a] ∧ H a = some (.ins C dx fs) ∧ sp xs H (fun v H' => ∃ n : Nat, v = .int n ∧ n < 2 ^ 62 ∧ Q (.int n) H') E) := by
  intro pins s σ H xs us Q I r h
  obtain ⟨a, dx, fs, rfl, ha, q⟩ := h
  obtain ⟨u, rfl, rx⟩ := vals1 r
  obtain rfl : u = Value.ref a := rx
  obtain ⟨od, J⟩ := inst_of I ha
  obtain ⟨m, hF⟩ := I.fr
  refine PySem.W.len_K hF I.ok.mod.kin J hs hf (wpAny_mono (run_in1 (vs := [.ref a]) F hr hb hx I (.cons rfl .nil) q) (fun r s' z => ?_) fun _ _ x => x)
  obtain ⟨v', H', I', r', n, rfl, hn, q'⟩ := z
  obtain ⟨t, rfl⟩ := (show ∃ t, r = Value.int n t from r')
  exact ⟨⟨by omega, by omega⟩, .int n, H', I'.tok _, ⟨_, rfl⟩, q'⟩
/-- x == y, x != y; y of a type that is none of the classes below C -/
def rOwnCmp (K : PySem.W.Frag) (C : Addr) (sp : Sp) (E : XK) (g : Bool → Bool) : R2 := fun x y H Q => ∃ a dx fs tb, x = .ref a ∧ H a = some (.ins C dx fs) ∧ TyX K H y tb ∧ PySem.W.notFirst K C tb = true ∧ sp [x, y] H (fun v H' => ∃ c, v = .bl c ∧ Q (.bl (g c)) H') E
theorem op_eq_own (hs : PySem.W.findIn X.K (.ref C) "__eq__" = some (some (.ref f))) (hf : PySem.W.isFn X.K (.ref f) = true) (F : FnOk X.prog X.w X.K X.mg X.base CX k f fd ps sp) (hr : Room k X.A) (hb : L2.Binds X.K fd ps []) (hx : Passes CX X E) :
    OpR X (compareOp .Eq) (rOwnCmp X.K C sp E id) := by
  intro pins s σ H x y v u Q I rx ry h
  obtain ⟨a, dx, fs, tb, rfl, ha, ty, hn, q⟩ := h
  obtain rfl : v = Value.ref a := rx
  obtain ⟨od, J⟩ := inst_of I ha
  obtain ⟨m, hF⟩ := I.fr
  obtain ⟨P, Z, p, _⟩ := kit_of I ry ty
  refine PySem.W.cmp_K (op := .Eq) hr.units0 hF I.ok.mod.kin J (Z.ty _ _ I.kIn p) hn hs hf (wpAny_mono (run_same (vs := [.ref a, y]) F hr hb hx I (.cons rfl (.cons ry .nil)) q) (fun r s' z => ?_) fun _ _ x => x)
  obtain ⟨v', H', I', r', c, rfl, q'⟩ := z
  obtain rfl : r = Value.bool c := r'
  exact ⟨.bl c, H', I', rfl, q'⟩
theorem op_ne_own (hne : PySem.W.findIn X.K (.ref C) "__ne__" = some (some (.builtin "object.__ne__"))) (hob : PySem.W.subIn X.K (.ref C) (.type "object") = some true)
    (hs : PySem.W.findIn X.K (.ref C) "__eq__" = some (some (.ref f))) (hf : PySem.W.isFn X.K (.ref f) = true) (F : FnOk X.prog X.w X.K X.mg X.base CX k f fd ps sp) (hr : Room (k + 1) X.A) (hb : L2.Binds X.K fd ps []) (hx : Passes CX X E) :
    OpR X (compareOp .NotEq) (rOwnCmp X.K C sp E (!·)) := by
  intro pins s σ H x y v u Q I rx ry h
  obtain ⟨a, dx, fs, tb, rfl, ha, ty, hn, q⟩ := h
  obtain rfl : v = Value.ref a := rx
  obtain ⟨od, J⟩ := inst_of I ha
  obtain ⟨m, hF⟩ := I.fr
  obtain ⟨P, Z, p, _⟩ := kit_of I ry ty
  refine PySem.W.cmp_ofNotEq (PySem.SwOps.ne_by_eq (hu_of hr) hF I.ok.mod.kin J (Z.ty _ _ I.kIn p) hn hne hob hs hf (wpAny_mono (run_in1 (vs := [.ref a, y]) F hr hb hx I (.cons rfl (.cons ry .nil)) q) (fun r s' z => ?_) fun _ _ x => x))
  obtain ⟨v', H', I', r', c, rfl, q'⟩ := z
  obtain rfl : r = Value.bool c := r'
  exact ⟨c, rfl, .bl (!c), H', I', rfl, q'⟩
end
end SW

set_option Elab.async false
set_option maxRecDepth 100000
set_option maxHeartbeats 1000000
/-! __getitem__ and __eq__ of a context. -/
namespace SW
open PySem PySem.Spec PyProof.Rows L2
def spGet (CF C : Addr) : Sp := fun vs H Q E => ∃ (p d : Addr) (m : Mp) (k : Str), vs = [.ref p, .str k] ∧ CtxAt C H p d m ∧ (∀ v, aget m k = some v → Q (.int v) H) ∧
  (aget m k = none → ∀ x : Addr, H x = none → E (.ref CF) (some x) (upd H x (.xd [("word", .str "unset")])))
def spEq (K : PySem.W.Frag) (C : Addr) : Sp := fun vs H Q _ => ∃ (p d : Addr) (m : Mp) (y : V), vs = [.ref p, y] ∧ CtxAt C H p d m ∧
  ((∃ p' d' m', y = .ref p' ∧ CtxAt C H p' d' m' ∧ Q (.bl (eqB m m')) H) ∨ (∃ t, TyX K H y t ∧ PySem.W.kitOne K t (.ref C) = some false ∧ Q (.bl false) H))
section
variable {P : Program} {w : World} {K : PySem.W.Frag} {mg : Str → Option Value} {base : Heap}
theorem scGet : FnScope ["self", "variable"] ["self", "variable"] (defScope sGet) := ⟨rfl, rfl, rfl, by decide +kernel, rfl, by decide +kernel, by decide +kernel⟩
theorem ok_get {f C CF fI : Addr} {fd : FuncData} (F : Fun K "__getitem__" "Context.__getitem__" sGet f fd) (T : TxC K mg C) (R : PySem.ReX.ReTxt K mg CF fI) : FnOk P w K mg base (L2.CX P w) 3 f fd ["self", "variable"] (spGet CF C) := by
  refine F.okX scGet (fun vs H Q E h => ?_) (fun cdv A outer s H vs Q E hr h => ?_)
  · obtain ⟨p, d, m, k, rfl, _⟩ := h
    rfl
  · obtain ⟨p, d, m, k, rfl, ⟨⟨dx, b0, ob⟩, dc⟩, q1, q2⟩ := h
    have hu := hu_of hr
    refine ⟨_, pss_cons (ps_if (pt_cmp (pc_dnotin hu (pv 1) (pe_fld (pv 0) rfl))) (pss_one (ps_raiseRe rfl R hr (takes_of rfl rfl rfl rfl) (by exact (pa_cons pe_str pa_nil)))) pss_nil)
      (pss_one (ps_ret (pe_dget hu (pe_fld (pv 0) rfl) (pv 1) (fun _ _ => rfl)))), ?_⟩
    have g := DGet.k (H := H) (k := Sum.inr k) dc
    rw [valV_kv] at g
    refine ⟨_, rfl, _, rfl, p, C, dx, _, _, rfl, ob, T.cl, T.nH, flds_held _ d, d, _, rfl, g, _, rfl, ?_⟩
    cases e : aget m k with
    | none => exact iteT ⟨_, rfl, fun x hx => q2 e x hx⟩
    | some v =>
      rw [e] at g
      exact iteF ⟨_, rfl, p, C, dx, _, _, rfl, ob, T.cl, T.nH, flds_held _ d, _, rfl, d, _, rfl, g, q1 v e⟩
theorem scEq : FnScope ["self", "other"] ["self", "other"] (defScope sEq) := ⟨rfl, rfl, rfl, by decide +kernel, rfl, by decide +kernel, by decide +kernel⟩
theorem ok_eq {f C : Addr} {fd : FuncData} (F : Fun K "__eq__" "Context.__eq__" sEq f fd) (T : TxC K mg C) (mI : mg "isinstance" = none) (tyC : ∀ (H : Hp) (a dx : Addr) (fs : List (Str × V)), H a = some (.ins C dx fs) → TyX K H (.ref a) (.ref C))
    (kC : PySem.W.kitOne K (.ref C) (.ref C) = some true) : FnOk P w K mg base CX0 1 f fd ["self", "other"] (spEq K C) := by
  refine F.ok scEq (fun vs H Q E h => ?_) (fun cdv A outer s H vs Q E hr h => ?_)
  · obtain ⟨p, d, m, y, rfl, _⟩ := h
    rfl
  · obtain ⟨p, d, m, y, rfl, ⟨⟨dx, b0, ob⟩, dc⟩, q⟩ := h
    refine ⟨_, pss_one (ps_ret (pe_and (pe_callB call_isi (by rfl) mI boot_isinstance (pa_cons (pv 1) (pa_cons (pe_glob (v := .ref C) rfl T.mgC rfl) pa_nil)))
      (pe_one (pe_cmpR (op_eqKv hr.units0) (pe_fld (pv 0) rfl) (pe_fld (pv 1) rfl) (nomark _))))), ?_⟩
    rcases q with ⟨p', d', m', rfl, ⟨⟨dx', b1, ob'⟩, dc'⟩, q⟩ | ⟨t, ty, kt, q⟩
    · refine ⟨_, rfl, _, _, _, _, true, rfl, .own C, tyC H p' dx' _ ob', kC, _, rfl, iteT ?_⟩
      exact ⟨_, rfl, p, C, dx, _, _, rfl, ob, T.cl, T.nH, flds_held _ d, _, rfl, p', C, dx', _, _, rfl, ob', T.cl, T.nH, flds_held _ d', d, d', m, m', rfl, rfl, dc, dc', q⟩
    · exact ⟨_, rfl, _, _, t, _, false, rfl, .own C, ty, kt, _, rfl, iteF q⟩
end
end SW

set_option Elab.async false
set_option maxRecDepth 100000
set_option maxHeartbeats 2000000
/-! try: .. except X as e: c = e, the error held behind the suite. -/
namespace SW
open PySem PySem.Spec PyProof.Rows L2
/-- an error of the class cls with its own dict d stands at a -/
def EO (a : Addr) (cls : Value) (d : Option Addr) : HO := .ext fun h => ∃ (oe : Obj) (vs : Array Value), h.get? a = some oe ∧ oe.cls = cls ∧ oe.dict = d ∧ oe.data = .fields vs
theorem eo_ok {P : Program} {w : World} {H : Hp} {h : Heap} {a : Addr} {cls : Value} {d : Option Addr} {oe : Obj} {vs : Array Value} (he : h.get? a = some oe) (hc : oe.cls = cls) (hd : oe.dict = d) (hv : oe.data = .fields vs) : ObjOk P w H h a (EO a cls d) :=
  ⟨⟨oe, vs, he, hc, hd, hv⟩, ⟨_, he⟩, fun h1 h2 z k => by
    obtain ⟨oe, vs, q, r⟩ := z
    exact ⟨oe, vs, k _ q, r⟩⟩
theorem eo_at {P : Program} {w : World} {H : Hp} {h : Heap} {a : Addr} {cls : Value} {d : Option Addr} (hok : HOk P w H h) (he : H a = some (EO a cls d)) : ∃ (oe : Obj) (vs : Array Value), h.get? a = some oe ∧ oe.cls = cls ∧ oe.dict = d ∧ oe.data = .fields vs := by
  have z : ObjOk P w H h a (.ext fun h => ∃ (oe : Obj) (vs : Array Value), h.get? a = some oe ∧ oe.cls = cls ∧ oe.dict = d ∧ oe.data = .fields vs) := hok a _ he
  exact z.1
section
variable {X : Cx} {pins : List (Addr × Obj)} {σ : L2.St} {H : Hp} {s : Shared}
/-- an object that no entry knew is told of from now on -/
theorem inv_track {a : Addr} {o : HO} (I : Inv X pins σ H s) (na : H a = none) (n0 : ∀ u, X.s_0.heap.get? a = some u → a ∈ X.ex ∨ X.H_0 a ≠ none) (nL : a ≠ X.env.locals) (nC : ∀ x c, X.env.cells.lookup x = some c → c ≠ a) (nP : ∀ p ∈ X.pn ++ pins, p.1 ≠ a)
    (ok : ObjOk X.prog X.w (upd H a o) s.heap a o) : Inv X pins σ (upd H a o) s := by
  have at_ : ∀ b u, H b = some u → upd H a o b = some u := fun b u e => by
    rw [upd_ne (ne_of_none e na)]
    exact e
  refine ⟨I.ok, I.os, I.bare, ⟨I.base.keep, I.base.slot, fun b u e n hx => ?_, I.base.there, fun b xs e => at_ _ _ (I.base.tups b xs e), fun b u v e => at_ _ _ (I.base.frzs b u v e), fun b ps e => ?_⟩, I.loc, I.cell, ?_, fun x c e => ?_, fun p hp => ?_, fun b u e => ?_, I.len⟩
  · by_cases hb : b = a
    · rw [hb] at e n hx
      rcases n0 u e with z | z
      · exact absurd z hx
      · exact absurd n z
    · rw [upd_ne hb]
      exact I.base.free b u e n hx
  · obtain ⟨more, e'⟩ := I.base.tbls b ps e
    exact ⟨more, at_ _ _ e'⟩
  · rw [upd_ne nL.symm]
    exact I.free
  · rw [upd_ne (nC x c e)]
    exact I.freeC x c e
  · obtain ⟨h1, h2, h3⟩ := I.pin p hp
    exact ⟨h1, by rw [upd_ne (nP p hp)]; exact h2, h3⟩
  · by_cases hb : b = a
    · rw [hb, upd_same] at e
      cases e
      rw [hb]
      exact ok
    · rw [upd_ne hb] at e
      exact (I.hok b u e).stay (fun _ _ _ q => q) (fun b q => at_ _ _ q) fun b xs q => at_ _ _ q
/-- out of a suite, its error still pinned -/
theorem inv_unsuite {a : Addr} {q : Addr × Obj} {pn' : List (Addr × Obj)} (I : Inv (X.suite a (q :: (X.pn ++ pins))) pn' σ H s) (ok : X.Ok) : Inv X (q :: pins) σ H s :=
  ⟨ok, I.os, I.bare, I.base, I.loc, I.cell, I.free, I.freeC, fun p hp => by
    refine I.pin p (List.mem_append_left _ ?_)
    rcases List.mem_append.mp hp with z | z
    · exact List.mem_cons_of_mem _ (List.mem_append_left _ z)
    · rcases List.mem_cons.mp z with z | z
      · rw [z]
        exact List.mem_cons_self
      · exact List.mem_cons_of_mem _ (List.mem_append_right _ z), I.hok, I.len⟩
end
/-- what 'except x as n: m = n' wishes of an exception of the body: n in slot i, m in slot j -/
def wKeep (K : PySem.W.Frag) (c : Value) (len i j : Nat) (Wout : WX) (D : Ends) : WX := fun cls d σ H =>
  ∃ b, PySem.W.exmOne K cls c = some b ∧ (b = true → σ.length = len → ∀ a, H a = none → D.nx (((σ.set i (some (.ref a))).set j (some (.ref a))).set i none) (upd H a (EO a cls d))) ∧ (b = false → Wout cls d σ H)
section
variable {X : Cx} {x n m : Str} {c : Value} {i j : Nat} {body : List Stmt} {np p1 p2 p3 pos pos' : Pos} {tb : WX → TS} {Wout : WX}
theorem ps_try_keep (hs : X.stack = X.env :: X.outer) (hf : X.env.frame = some X.env.locals) (hex : X.ex = []) (hN : X.N.Nodup) (hi : X.N[i]? = some n) (hln : X.env.kindOf n = some .local) (hj : X.N[j]? = some m) (hlm : X.env.scope.names.lookup m = some .local)
    (hlt : i < X.N.length) (hij : i ≠ j) (hc : Names X x c) (tk : Takes X Wout)
    (hb : ∀ (W : WX) (pn : List (Addr × Obj)) (xe : Value → Shared → Prop), Takes (X.tr pn xe) W → PassesOwn (model X.prog X.w) X.A X.env xe → PSs (X.tr pn xe) body (tb W))
    (hd1 : (n == ("__debug__" : Str)) = false := by decide) (hd2 : (n == ("__classdict__" : Str)) = false := by decide) :
    PS X (.Try body [.ExceptHandler (some (.Name x np)) (some n) [.Assign [.Name m p1] (.Name n p2) p3] pos'] [] [] pos) (fun D σ H => tb (wKeep X.K c X.N.length i j Wout D) D σ H) := by
  refine ⟨fun pins s σ H D I h => ?_⟩
  have ok := I.ok
  have frm : X.A.frames = some (X.env :: X.outer) := ok.frames.trans (congrArg some hs)
  refine wpAny_Try_except (wpAny_mono ((hb (wKeep X.K c X.N.length i j Wout D) (X.pn ++ pins) (fun e s₁ => wpAny (model X.prog X.w) X.A (noteFrame e X.env) (fun _ s₂ => wpAny (model X.prog X.w) X.A (setFlight e none)
    (fun _ s₃ => wpAny (model X.prog X.w) X.A (handleBy e X.env [.ExceptHandler (some (.Name x np)) (some n) [.Assign [.Name m p1] (.Name n p2) p3] pos']) (SP X pins D) X.xe s₃) X.xe s₂) X.xe s₁)
    (fun u s' air => ?_) PassesOwn.looking).run [] s σ H D (I.toTry _) h) (fun f s1 hsp => ?_) (fun _ _ z => z))
  · -- an error comes out of the body
    obtain ⟨a, B, sI, pins', σ', H', cls, d, rfl, JT, nb, up, sky, na, os, ag, b, hb1, hyes, hno⟩ := air
    have J : Inv X pins σ' H' sI := JT.ofTry ok
    have sky1 : Sky B (X.env :: X.outer) a (Zc cls d) X.env.locals s'.heap := hs ▸ sky
    show wpAny (model X.prog X.w) X.A (noteFrame (.ref a) X.env) _ _ _
    refine Sky.land Zc.steady frm hf sky1 fun hA flA upA => ?_
    have JA : Inv X pins σ' H' { s' with heap := hA } := J.landed nb flA.1 (up.trans upA) os ag
    obtain ⟨oA, vA, getA, zA, dA⟩ := flA.there
    have out : a ∉ frs (X.env :: X.outer) := fun hm => by
      obtain ⟨_, o', e', bad⟩ := flA.2.2.1.mem hm
      rw [getA] at e'
      cases e'
      exact bad _ dA
    have nL : a ≠ X.env.locals := fun z => out (List.mem_filterMap.mpr ⟨X.env, List.mem_cons_self, by rw [hf, z]⟩)
    have nF : a ∉ X.fs := fun hm => by
      obtain ⟨e, he, q⟩ := List.mem_filterMap.mp hm
      exact out (List.mem_filterMap.mpr ⟨e, List.mem_cons_of_mem _ he, q⟩)
    have noB : ∀ o, sI.heap.get? a = some o → False := fun o e => by
      have z := nb a o e (by rw [hs]; exact out)
      rw [flA.2.1] at z
      cases z
    have SA := JA.suite getA dA na nL nF
    refine wpAny_handleBy_cons (codeAny_handlers_test ?_) (by intro q; cases q)
    have LT : PySem.W.Looks (model X.prog X.w) hA (typeOf (.ref a)) cls := fun A Q E s k q => wpAny_typeOf_ref (k _ _ getA) (by rw [zA.1]; exact q)
    have LM := PySem.W.exm_one (M := model X.prog X.w) JA.kIn LT hb1
    have test : ∀ {Q : Value → Shared → Prop} {E : Value → Shared → Prop}, Q c { s' with heap := hA } → wpAny (model X.prog X.w) (X.A.mark (some (.ref a))) (eval (.Name x np) X.env) Q E { s' with heap := hA } := fun {Q E} q => by
      obtain ⟨hg, hdbg, hm | ⟨hm, hv, hnn⟩⟩ := hc
      · exact ld_glob (X := X.suite a ((a, oA) :: (X.pn ++ pins))) SA hg hm q hdbg
      · exact ld_blt (X := X.suite a ((a, oA) :: (X.pn ++ pins))) SA hg hm hv q hnn hdbg
    refine test (LM.here ?_)
    cases b with
    | false =>
      show wpAny _ X.A (handleBy (.ref a) X.env []) _ _ _
      refine wpAny_handleBy_nil ?_
      obtain ⟨_, _, _, oe, vs, T, oT, _, he, _, hd, h1, _⟩ := id flA
      have fin : wpAny (model X.prog X.w) X.A (setFlight (.ref a) X.env.frame) (fun _ s4 => wpAny (model X.prog X.w) X.A (throw (.ref a) : Sem Flow) (SP X pins D) X.xe s4) X.xe { s' with heap := hA } := by
        rw [hf]
        exact HandSPX.setFlight_upZ flA fun hB fB upB => wpAny_throw (tk _ _ ⟨a, B, sI, pins, σ', H', cls, d, rfl, J, nb, (up.trans upA).trans upB, .inr (.inr (by rw [hs]; exact fB)), na, os, ag, hno rfl⟩)
      unfold PySem.passOn
      refine wpAny_bind (wpAny_field he hd h1 ?_)
      rw [if_neg (show ¬ ((Value.ref T == Value.none) = true) from by simp)]
      first
        | exact wpAny_bind (wpAny_pure (wpAny_bind fin))
        | exact wpAny_bind fin
    | true =>
      refine codeAny_handlers_suite_as (HandSPX.lands_againZ flA fun hB flB upB => ?_)
      have JB : Inv X pins σ' H' { s' with heap := hB } := J.landed nb flB.1 ((up.trans upA).trans upB) os ag
      obtain ⟨oB, vB, getB, zB, dB⟩ := flB.there
      refine store_ok (X := X.suite a ((a, oB) :: (X.pn ++ pins))) (v := .ref a) (JB.suite getB dB na nL nF) hN hi (.inl hln) rfl (fun s5 S5 => ?_) (.inr hln)
      have li : i < σ'.length := by rw [J.len]; exact hlt
      have put : PSs (X.suite a ((a, oB) :: (X.pn ++ pins))) [.Assign [.Name m p1] (.Name n p2) p3] (tAsg (tVar i) (gName j)) := pss_one (ps_set (hf := .inr hlm) hN hj (.inl hlm) (pe_var hi (.inl hln) hd1 hd2))
      refine wpAny_mono (put.run [] s5 _ H' { nx := fun σ6 H6 => σ6 = (σ'.set i (some (.ref a))).set j (some (.ref a)) ∧ H6 = H', rt := fun _ _ => False, bk := fun _ _ => False, ct := fun _ _ => False } S5 ⟨_, List.getElem?_set_self li, rfl, rfl⟩) (fun f s6 hsp => ?_) (fun _ _ z => False.elim z)
      cases f with
      | next =>
        obtain ⟨σ6, H6, S6, rfl, rfl⟩ := hsp
        refine gone_ok (inv_unsuite S6 ok) hN hi hln fun s7 J7 => ?_
        obtain ⟨get7, _⟩ := J7.pin (a, oB) (List.mem_append_right _ List.mem_cons_self)
        have J8 : Inv X pins _ H6 s7 := J7.pins_of fun p hp => J7.pin p (List.mem_append_right _ (List.mem_cons_of_mem _ hp))
        refine ⟨_, _, inv_track J8 na (fun u e => ?_) nL (fun y cc e z => ?_) (fun p hp z => ?_) (eo_ok (cls := cls) (d := d) get7 zB.1 zB.2 dB), hyes rfl J.len a na⟩
        · refine .inr fun hz => ?_
          exact noB _ (J.base.keep a u e hz nF (by rw [hex]; simp))
        · obtain ⟨v, o, ho, hdd⟩ := J7.cell y cc e
          rw [z, get7] at ho
          cases ho
          rw [show oB.data = _ from hdd] at dB
          cases dB
        · obtain ⟨e, _⟩ := J.pin p hp
          rw [z] at e
          exact noB _ e
      | brk =>
        obtain ⟨_, _, _, z⟩ := hsp
        exact z.elim
      | cont =>
        obtain ⟨_, _, _, z⟩ := hsp
        exact z.elim
      | ret u =>
        obtain ⟨_, _, _, _, _, z⟩ := hsp
        exact z.elim
  · cases f with
    | next =>
      obtain ⟨σ', H', J', q⟩ := hsp
      exact wpAny_execs_nil ⟨σ', H', J'.ofTry ok, q⟩
    | brk =>
      obtain ⟨σ', H', J', q⟩ := hsp
      exact ⟨σ', H', J'.ofTry ok, q⟩
    | cont =>
      obtain ⟨σ', H', J', q⟩ := hsp
      exact ⟨σ', H', J'.ofTry ok, q⟩
    | ret u =>
      obtain ⟨v, σ', H', J', r, q⟩ := hsp
      exact ⟨v, σ', H', J'.ofTry ok, r, q⟩
end
end SW

set_option Elab.async false
set_option maxRecDepth 100000
set_option maxHeartbeats 1000000
/-! A held error of the class Fails: isinstance, its field; _law_fails. -/
namespace SW
open PySem PySem.Spec PyProof.Rows L2
/-- what isinstance asks of the class at C -/
structure IsFacts (K : PySem.W.Frag) (C : Addr) : Prop where
  cl : (PySem.W.clsIn K C).isSome = true
  ha : PySem.W.findIn K (.ref C) "__class__" = some (some (.builtin "object.__class__"))
  hn : PySem.W.specialIn K (.builtin "object.__class__") "__get__" = some (some (.builtin "getset_descriptor.__get__"))
  tk : PySem.W.takesIn K (.builtin "object.__class__") = some true
  hm : PySem.W.mroIn K C (.type "object") = some true
section
variable {X : Cx} {pins : List (Addr × Obj)} {σ : L2.St} {H : Hp} {s : Shared} {CF fI : Addr}
theorem eo_inst {a d : Addr} {fs : List (Str × V)} (I : Inv X pins σ H s) (e : H a = some (EO a (.ref CF) (some d))) (ed : H d = some (.xd fs)) : ∃ oe od, PySem.W.InstAt s.heap a oe CF (some od) ∧ ∃ mA : Str → Option Value, (∀ name, PySem.W.lookIn name od = some (mA name)) ∧ ∀ f, RelO (fs.lookup f) (mA f) := by
  obtain ⟨oe, vs, h1, h2, h3, h4⟩ := eo_at I.hok e
  obtain ⟨mA, hns, hr⟩ := (show ObjOk X.prog X.w H s.heap d (.xd fs) from I.hok d _ ed)
  obtain ⟨od, ho, hl⟩ := lookIn_ns hns
  exact ⟨oe, od, ⟨h1, h2, by unfold PySem.W.notCls; rw [h4], by rw [h3]; exact ho⟩, mA, hl, hr⟩
/-- isinstance(e, c), isinstance(e, (c1, c2)) -/
theorem call_isiEO (R : PySem.ReX.ReTxt X.K X.mg CF fI) (T : IsFacts X.K CF) : CallR X (.builtin "isinstance") (fun xs H Q => ∃ (a d : Addr) (fs : List (Str × V)) (c : V) (u : Value) (b : Bool), xs = [.ref a, c] ∧ ClsV c u ∧ H a = some (EO a (.ref CF) (some d)) ∧ H d = some (.xd fs) ∧
    PySem.W.kitOne X.K (.ref CF) u = some b ∧ Q (.bl b) H) := by
  intro pins s σ H xs us Q I r h
  obtain ⟨a, d, fs, c, u, b, rfl, k, ea, ed, e, q⟩ := h
  obtain ⟨u1, u2, rfl, r1, r2⟩ := vals2 r
  obtain rfl : u1 = Value.ref a := r1
  have e2 := k.eq r2
  subst e2
  obtain ⟨oe, od, J, _⟩ := eo_inst I ea ed
  exact PySem.W.kia_one (PySem.W.kitx_exc T.cl R.ga R.gg R.exC T.ha T.hn T.tk T.hm) I.kIn J e (fun z => nomatch z) fun tk => ⟨.bl b, H, I.tok tk, rfl, q⟩
theorem call_isiEOT (R : PySem.ReX.ReTxt X.K X.mg CF fI) (T : IsFacts X.K CF) : CallR X (.builtin "isinstance") (fun xs H Q => ∃ (a d tp : Addr) (fs : List (Str × V)) (cs : List V) (us : List Value) (b : Bool), xs = [.ref a, .ref tp] ∧ H tp = some (.tup cs) ∧ Paired ClsV cs us ∧
    H a = some (EO a (.ref CF) (some d)) ∧ H d = some (.xd fs) ∧ PySem.W.kitAny X.K (.ref CF) us = some b ∧ Q (.bl b) H) := by
  intro pins s σ H xs us Q I r h
  obtain ⟨a, d, tp, fs, cs, ws, b, rfl, hT, k, ea, ed, e, q⟩ := h
  obtain ⟨u1, u2, rfl, r1, r2⟩ := vals2 r
  obtain rfl : u1 = Value.ref a := r1
  obtain rfl : u2 = Value.ref tp := r2
  obtain ⟨_, its, rv, o, h1, h2, n, h3⟩ := (show ObjOk X.prog X.w H s.heap tp (.tup cs) from I.hok tp _ hT)
  have e3 := ClsV.all k rv
  subst e3
  obtain ⟨oc, oc2, dt, sl⟩ := o
  simp only at h2 h3
  subst h2 h3
  obtain ⟨oe, od, J, _⟩ := eo_inst I ea ed
  exact PySem.W.kia_tup (PySem.W.kitx_exc T.cl R.ga R.gg R.exC T.ha T.hn T.tk T.hm) I.kIn J h1 e (fun z => nomatch z) fun tk => ⟨.bl b, H, I.tok tk, rfl, q⟩
/-- e.word -/
def tWord (CF : Addr) (te : TE) : TE := fun σ H Q => te σ H fun x H1 => ∃ (a d : Addr) (v : V), x = .ref a ∧ H1 a = some (EO a (.ref CF) (some d)) ∧ H1 d = some (.xd [("word", v)]) ∧ Q v H1
theorem pe_word {e : Expr} {te : TE} {pos : Pos} (R : PySem.ReX.ReTxt X.K X.mg CF fI) (he : PE X e te) (hb : attributeBase e "word" X.env (eval e X.env) = eval e X.env := by rfl) : PE X (.Attribute e "word" pos) (tWord CF te) := by
  refine ⟨fun pins s σ H Q I h => ?_⟩
  refine attr_of hb (thn (he.run pins s σ H _ I h) fun u s1 hh => ?_)
  obtain ⟨x, H1, I1, rx, a, d, v, rfl, ea, ed, q⟩ := hh
  obtain rfl : u = Value.ref a := rx
  obtain ⟨oe, od, J, mA, hl, hr⟩ := eo_inst I1 ea ed
  have l : List.lookup ("word" : Str) [(("word" : Str), v)] = some v := by simp [List.lookup]
  obtain ⟨u, hu, ru⟩ := RelO.some_of (v := v) (o := mA "word") (by rw [← l]; exact hr "word")
  exact HandSPX.exc_get I1.kIn J R.ga R.gg R.exC (PySem.W.findObj_own R.hdC R.noN rfl (by rw [hl, hu])) (handed_of ru) ⟨v, H1, I1.tok _, ru, q⟩
end
/-! _law_fails -/
abbrev sFails : Stmt := top 79
/-- what _law_fails makes of its lambda's reading tl: the word of its error -/
def TFails (CF : Addr) : (XK → Hp → VK → Prop) → Hp → VK → Prop := fun tl H Q => ∀ N : Hp → Prop,
  tl (fun cls d H' => cls = .ref CF ∧ ∃ (dd : Addr) (z : Str), d = some dd ∧ H' dd = some (.xd [("word", .str z)]) ∧ ∀ H'', Same H' H'' → Q (.str z) H'') H fun _ H' => N H'
theorem scFails : FnScope ["asked", "caught", "e"] ["asked"] (defScope sFails) := ⟨rfl, rfl, rfl, by decide +kernel, rfl, by decide +kernel, by decide +kernel⟩
theorem gives_fails {X : Cx} {g CF fI : Addr} {cdg : Value} {q : Str} (R : PySem.ReX.ReTxt X.K X.mg CF fI) (T : IsFacts X.K CF) (mI : X.mg "isinstance" = none) (mR : X.mg "RuntimeError" = none) (mV : X.mg "ValueError" = none) (mL : X.mg "LookupError" = none)
    (k1 : PySem.W.kitOne X.K (.ref CF) (.type "RuntimeError") = some true) (k2 : PySem.W.kitAny X.K (.ref CF) [.type "ValueError", .type "LookupError"] = some false) :
    LamX.GivesTo X ["asked", "caught", "e"] "_law_fails" (defScope sFails) g cdg (defBody sFails) "asked" q (TFails CF) := by
  intro f c' s H Q tl act hc h
  refine ⟨_, pss_cons (ps_set (i := 1) scFails.nd rfl (Or.inl rfl) pe_non)
    (pss_cons (ps_try_keep (X := (cxOf C8.CX0 X.prog X.w X.K X.mg X.base ["asked", "caught", "e"] "_law_fails" (defScope sFails) g cdg X.A X.stack s H C8.E0).nox) (i := 2) (j := 1) (c := .ref CF)
        (tb := fun W D σ H => ∃ Ech : XK, (∀ cls d σ' H', Ech cls d H' → W cls d σ' H') ∧ σ[0]? = some (some (.ref f)) ∧ H c' = some (LamX.CodeO c' q) ∧ tl Ech H fun _ H' => D.nx σ H')
        (x := "Fails") rfl rfl rfl scFails.nd rfl rfl rfl rfl (by show 2 < 3; decide) (by decide) ⟨by rfl, by decide, .inl R.gC⟩ LamX.takes0 (fun W pn xe tk _ => ?_))
    (pss_cons (ps_if (pt_cmp (pc_isN (pv 1))) (pss_one (ps_ret pe_str)) pss_nil)
    (pss_cons (ps_if (PW.pt (pw_or
        (pt_not (pt_val (pe_callB (call_isiEO R T) (by rfl) mI boot_isinstance (pa_cons (pv 1) (pa_cons (pe_bltn (v := .ty "RuntimeError") (u := .type "RuntimeError") (by rfl) mR (by decide +kernel) rfl) pa_nil)))))
        (pw_or1 (pt_val (pe_callB (call_isiEOT R T) (by rfl) mI boot_isinstance (pa_cons (pv 1) (pa_cons (pe_tup (pa_cons (pe_bltn (v := .ty "ValueError") (u := .type "ValueError") (by rfl) mV (by decide +kernel) rfl)
          (pa_cons (pe_bltn (v := .ty "LookupError") (u := .type "LookupError") (by rfl) mL (by decide +kernel) rfl) pa_nil))) pa_nil)))))))
      (pss_one (ps_ret pe_str)) pss_nil)
    (pss_one (ps_ret (pe_word R (pv 1))))))), ?_⟩
  · refine ⟨fun pins s' σ H' D I h' => ?_⟩
    obtain ⟨Ech, hW, h1, h2, h3⟩ := h'
    exact (pss_one (ps_expr (act W pn xe Ech _ _ tk hW))).run pins s' σ H' D I ⟨h1, h2, h3⟩
  · refine ⟨_, fun cls d σ' H' ⟨ec, dd, z, ed, hd, hq⟩ => ⟨true, by rw [ec]; exact R.te, fun _ hl a na => ?_, fun z => Bool.noConfusion z⟩, rfl, hc, h _⟩
    subst ec
    subst ed
    obtain ⟨v0, v1, v2, rfl⟩ : ∃ v0 v1 v2 : Option V, σ' = [v0, v1, v2] := by
      match σ', hl with
      | [v0, v1, v2], _ => exact ⟨v0, v1, v2, rfl⟩
    have ea : (upd H' a (EO a (.ref CF) (some dd))) a = some (EO a (.ref CF) (some dd)) := upd_same
    have edd : (upd H' a (EO a (.ref CF) (some dd))) dd = some (.xd [("word", .str z)]) := by
      rw [upd_ne (ne_of_none hd na)]
      exact hd
    have sm := same_new (o := EO a (.ref CF) (some dd)) na
    generalize upd H' a (EO a (.ref CF) (some dd)) = H1 at ea edd sm ⊢
    -- if caught is None
    refine ⟨_, rfl, _, rfl, ?_⟩
    refine iteF ?_
    -- if not isinstance(caught, RuntimeError) or isinstance(caught, (ValueError, LookupError))
    refine ⟨_, rfl, a, dd, _, _, _, true, rfl, .ty "RuntimeError", ea, edd, k1, _, rfl, ?_⟩
    refine iteF ?_
    refine ⟨_, rfl, (by show 2 ≤ sizeLine; decide), fun tp ntp => ?_⟩
    have s2 := same_new (o := .tup [.ty "ValueError", .ty "LookupError"]) ntp
    refine ⟨a, dd, tp, _, _, _, false, rfl, upd_same, .cons (.ty "ValueError") (.cons (.ty "LookupError") .nil), s2 _ _ ea, s2 _ _ edd, k2, _, rfl, ?_⟩
    refine iteF ?_
    -- return caught.word
    exact ⟨_, rfl, a, dd, _, rfl, s2 _ _ ea, s2 _ _ edd, hq _ (sm.trans s2)⟩
end SW

set_option Elab.async false
set_option linter.all false
set_option maxRecDepth 100000
set_option maxHeartbeats 2000000
/-! tables of code objects that have tables of their own; a lambda made by a def or by a lambda -/
namespace LnX
open PySem PySem.Spec PySem.Calls PyProof.Rows L2
/-- the name of a lambda within what bears the name q -/
def qin (q : Str) : Str := (q ++ ".<locals>.") ++ "<lambda>"
/-- at c a code object of the name q, its table at P -/
def CodeP (c P : Addr) (q : Str) : HO := .ext fun h => PySem.W.CodeHd h c P ∧ ∃ (oc : Obj) (vs : Array Value) (t : Tok), h.get? c = some oc ∧ oc.data = .fields vs ∧ vs[1]? = some (.str q t)
theorem codeP_ne {c P : Addr} {q : Str} (ps : Array Value) : CodeP c P q ≠ .tbl ps := fun z => by
  unfold CodeP at z
  cases z
/-- the table at P tells code objects of the name q, whose tables are told of, too -/
def TabQ (T : List (Addr × Str)) (H : Hp) (P : Addr) (q : Str) : Prop := ∃ ps : Array Value, H P = some (.tbl ps) ∧ TriplesOk ps.toList ∧ ∀ (pos : Pos) (cv : Value), codeAmong pos ps.toList = some cv → ∃ c P2, cv = .ref c ∧ H c = some (CodeP c P2 q) ∧ (P2, qin q) ∈ T
structure TOk (T0 : List (Addr × Str)) (H : Hp) (T : List (Addr × Str)) : Prop where
  sub : ∀ p ∈ T0, p ∈ T
  fn : ∀ p ∈ T, ∀ r ∈ T, p.1 = r.1 → p.2 = r.2
  all : ∀ p ∈ T, TabQ T H p.1 p.2
def TabsC (T0 : List (Addr × Str)) (H : Hp) : Prop := ∃ T, TOk T0 H T
theorem TabQ.ext {T : List (Addr × Str)} {H H' : Hp} {P : Addr} {q : Str} (t : TabQ T H P q) (e : ∀ b o, H b = some o → H' b = some o) : TabQ T H' P q := by
  obtain ⟨ps, h1, h2, h3⟩ := t
  refine ⟨ps, e _ _ h1, h2, fun pos cv hc => ?_⟩
  obtain ⟨c, P2, e1, e2, e3⟩ := h3 pos cv hc
  exact ⟨c, P2, e1, e _ _ e2, e3⟩
theorem TOk.ext {T0 T : List (Addr × Str)} {H H' : Hp} (t : TOk T0 H T) (e : ∀ b o, H b = some o → H' b = some o) : TOk T0 H' T := ⟨t.sub, t.fn, fun p hp => (t.all p hp).ext e⟩
theorem TabsC.ext {T0 : List (Addr × Str)} {H H' : Hp} (t : TabsC T0 H) (e : ∀ b o, H b = some o → H' b = some o) : TabsC T0 H' := let ⟨T, h⟩ := t; ⟨T, h.ext e⟩
theorem TabQ.at {T : List (Addr × Str)} {H : Hp} {P : Addr} {q : Str} (t : TabQ T H P q) : ∃ ps, H P = some (.tbl ps) := let ⟨ps, h, _⟩ := t; ⟨ps, h⟩
theorem TabsC.nil {T0 : List (Addr × Str)} {H : Hp} (fn : ∀ p ∈ T0, ∀ r ∈ T0, p.1 = r.1 → p.2 = r.2) (h : ∀ p ∈ T0, H p.1 = some (.tbl #[])) : TabsC T0 H := ⟨T0, fun _ hp => hp, fn, fun p hp => ⟨#[], h p hp, True.intro, fun pos cv hc => by
  have z : codeAmong pos [] = some cv := hc
  simp [codeAmong] at z⟩⟩
section
variable {X : Cx} {pins : List (Addr × Obj)} {σ : L2.St} {H : Hp} {s : Shared}
/-- the table at P is written; the code object at c and its table at P2 are new -/
theorem inv_code {P c P2 : Addr} {q : Str} {ps more : Array Value} {h2 : Heap} {tk : Nat} (I : Inv X pins σ H s) (hP : H P = some (.tbl ps)) (k : ∀ b o, b ≠ P → s.heap.get? b = some o → h2.get? b = some o) (hm : h2.get? P = some { cls := .none, data := .fields (ps ++ more) })
    (hc : s.heap.objs.size ≤ c) (hP2 : s.heap.objs.size ≤ P2) (hne : c ≠ P2) (ho : PySem.W.CodeHd h2 c P2 ∧ ∃ (oc : Obj) (vs : Array Value) (t : Tok), h2.get? c = some oc ∧ oc.data = .fields vs ∧ vs[1]? = some (.str q t)) (ht : h2.get? P2 = some { cls := .none, data := .fields #[] }) :
    Inv X pins σ (upd (upd (upd H P (.tbl (ps ++ more))) c (CodeP c P2 q)) P2 (.tbl #[])) { s with heap := h2, toks := tk } := by
  have nc : H c = none := I.hok.fresh hc
  have n2 : H P2 = none := I.hok.fresh hP2
  have Pc : P ≠ c := ne_of_none hP nc
  have P2' : P ≠ P2 := ne_of_none hP n2
  obtain ⟨K, eK⟩ : ∃ K : Hp, K = upd (upd (upd H P (.tbl (ps ++ more))) c (CodeP c P2 q)) P2 (.tbl #[]) := ⟨_, rfl⟩
  have kP : K P = some (.tbl (ps ++ more)) := by rw [eK, upd_ne P2', upd_ne Pc, upd_same]
  have kc : K c = some (CodeP c P2 q) := by rw [eK, upd_ne hne, upd_same]
  have k2 : K P2 = some (.tbl #[]) := by rw [eK, upd_same]
  have kr : ∀ b, b ≠ P → b ≠ c → b ≠ P2 → K b = H b := fun b a1 a2 a3 => by rw [eK, upd_ne a3, upd_ne a2, upd_ne a1]
  rw [← eK]
  have new : ∀ b o, s.heap.get? b = some o → b ≠ c ∧ b ≠ P2 := fun b o e => ⟨fun z => Nat.lt_irrefl _ (Nat.lt_of_lt_of_le (Heap.lt_size (z ▸ e)) hc), fun z => Nat.lt_irrefl _ (Nat.lt_of_lt_of_le (Heap.lt_size (z ▸ e)) hP2)⟩
  have old : ∀ b u, H b = some u → b ≠ c ∧ b ≠ P2 := fun b u e => ⟨ne_of_none e nc, ne_of_none e n2⟩
  have offN : ∀ b, H b = none → b ≠ P := fun b e z => by rw [z, hP] at e; cases e
  have offT : ∀ b u, H b = some u → (∀ r, u ≠ .tbl r) → b ≠ P := fun b u e z y => by rw [y, hP] at e; exact z ps (Option.some.inj e).symm
  have stay : ∀ b u, H b = some u → (∀ r, u ≠ .tbl r) → K b = some u := fun b u e z => by rw [kr b (offT b u e z) (old b u e).1 (old b u e).2]; exact e
  refine I.step (g' := s.gens) (d' := s.drawn) (ch := []) (fun b hb => absurd hb (by simp)) (fun b o _ _ _ e n => k b o (offN b n) e) (fun b o _ _ _ e n => ⟨o.slots, k b o (offN b n) e⟩)
    (fun b o _ e n => by rw [kr b (offN b n) (new b o e).1 (new b o e).2]; exact n) (fun b o _ e => ?_) (fun b xs e => stay b _ e fun _ z => by cases z) (fun b o u e => stay b _ e fun _ z => by cases z) (fun b qs e => ?_) (fun m hn => ?_) (fun b u e => ?_) I.bare
  · by_cases hb : b = P
    · exact ⟨_, by rw [hb]; exact hm⟩
    · exact ⟨o, k b o hb e⟩
  · by_cases hb : b = P
    · rw [hb, hP] at e
      cases e
      exact ⟨more, by rw [hb]; exact kP⟩
    · exact ⟨#[], by rw [kr b hb (old b _ e).1 (old b _ e).2, e]; simp⟩
  · obtain ⟨ob, es, ep, e, r⟩ := hn
    exact ⟨ob, es, ep, k _ ob (offN _ I.free) e, r⟩
  · by_cases hb : b = P
    · rw [hb, kP] at e
      cases e
      rw [hb]
      exact hm
    · by_cases hb2 : b = P2
      · rw [hb2, k2] at e
        cases e
        rw [hb2]
        exact ht
      · by_cases hb3 : b = c
        · rw [hb3, kc] at e
          cases e
          rw [hb3]
          obtain ⟨h1, oc, vs, t, e1, e2, e3⟩ := ho
          refine ⟨⟨h1, oc, vs, t, e1, e2, e3⟩, ⟨oc, e1⟩, fun g1 g2 hh st => ?_⟩
          obtain ⟨⟨o, ws, fl, tf, fg, tg, inF, tx, tt, y1, y⟩, oc, vs, t, a1, a2⟩ := hh
          exact ⟨⟨o, ws, fl, tf, fg, tg, inF, tx, tt, st _ y1, y⟩, oc, vs, t, st _ a1, a2⟩
        · rw [kr b hb hb3 hb2] at e
          refine (I.hok b u e).stay (fun d v hd q => k d v ?_ q) (fun d q => stay d _ q fun _ z => by cases z) fun d xs q => stay d _ q fun _ z => by cases z
          rcases hd with z | z
          · rw [z]; exact hb
          · exact offT d _ z fun _ z => by cases z
end
end LnX

set_option Elab.async false
set_option linter.all false
set_option maxRecDepth 100000
set_option maxHeartbeats 2000000
/-! lambdas without parameters that are told, or with one default: the making -/
namespace LnX
open PySem PySem.Spec PySem.Calls PyProof.Rows L2
/-- the names of a lambda's scope: captured ones, globals, and its parameters bs, which are no names of the maker -/
structure LamG (N : List Str) (sc scope : Scope) (bs : List Str) : Prop where
  kind : scope.kind = .function
  co : scope.isCoroutine = false
  gen : scope.isGenerator = false
  own : ∀ y ∈ scope.names, y.2 ≠ .cell ∧ (y.2 = .local → y.1 ∉ N)
  free : ∀ y ∈ scope.names, y.2 = .free → sc.names.lookup y.1 = some .cell ∨ sc.names.lookup y.1 = some .free
  par : ∀ y ∈ bs, scope.names.lookup y = some .local
def lamGB (N : List Str) (sc scope : Scope) (bs : List Str) : Bool :=
  decide (scope.kind = .function) && (!scope.isCoroutine && (!scope.isGenerator && ((scope.names.all fun y => (!decide (y.2 = .cell) && (!decide (y.2 = .local) || !decide (y.1 ∈ N))) && (!decide (y.2 = .free) || (decide (sc.names.lookup y.1 = some .cell) || decide (sc.names.lookup y.1 = some .free)))) && bs.all fun y => decide (scope.names.lookup y = some .local))))
theorem lamG_by {N : List Str} {sc scope : Scope} {bs : List Str} (h : lamGB N sc scope bs = true) : LamG N sc scope bs := by
  unfold lamGB at h
  simp only [Bool.and_eq_true, Bool.or_eq_true, Bool.not_eq_true', decide_eq_true_eq, decide_eq_false_iff_not, List.all_eq_true] at h
  obtain ⟨h1, h2, h3, h4, h5⟩ := h
  refine ⟨h1, h2, h3, fun y hy => ⟨(h4 y hy).1.1, fun e => ?_⟩, fun y hy e => ?_, h5⟩
  · exact (h4 y hy).1.2.elim (fun z => absurd e z) id
  · exact (h4 y hy).2.elim (fun z => absurd e z) id
theorem LamG.has {X : Cx} {scope : Scope} {bs : List Str} (L : LamG X.N X.env.scope scope bs) (ok : X.Ok) : ∀ y ∈ scope.names, y.2 = .free → ∃ c, X.env.cells.lookup y.1 = some c := fun y hy e => ok.has _ ((L.free y hy e).imp id id)
/-- the function that a lambda makes, its defaults dV -/
abbrev fnL (q : Str) (params : Arguments) (body : Expr) (scope : Scope) (cl : List (Str × Addr)) (pm cdv ct dV : Value) : FuncData := { PySem.W.kla_fn "<lambda>" q params body scope cl pm cdv ct with defaults := dV }
abbrev obL (q : Str) (params : Arguments) (body : Expr) (scope : Scope) (cl : List (Str × Addr)) (pm : Value) (c : Addr) (ct dV : Value) : Obj := { cls := .type "function", data := .func (fnL q params body scope cl pm (.ref c) ct dV) }
abbrev dObj (u : Value) : Obj := { cls := .type "tuple", data := .seq #[u] }
section
variable {M : Model} {A : Around} {E : Value → Shared → Prop} {s : Shared} {q : Str} {params : Arguments} {body : Expr} {scope : Scope} {env : Env} {c P : Addr} {ps : Array Value} {pos : Pos} {firstLine : Nat} {mg : Str → Option Value}
  {clos : List (Str × Addr)} {Q : Value → Shared → Prop} {dV : Value}
theorem fun_new (hcl : closureFor scope env = pure clos) (hge0 : env.globals = mainGlobals) (hg : s.heap.Ns mainGlobals mg) (hcode : env.code = .ref c) (C : PySem.W.CodeHd s.heap c P) (hP : s.heap.get? P = some (PySem.W.tabObj ps)) (ht : TriplesOk ps.toList)
    (hnf : codeAmong pos ps.toList = none) (hgP : mainGlobals ≠ P) (hb : s.heap.BuiltinsAt mg P)
    (h : ∀ c2 P2 ctv h2 tk, Heap.ExtBut P s.heap h2 → s.heap.objs.size ≤ c2 → c2 < h2.objs.size → h2.CodeRec (.ref c2) q → h2.get? P = some (PySem.W.tabObj (ps ++ #[rawInt pos.line, rawInt pos.col, .ref c2])) → s.heap.objs.size ≤ P2 → PySem.W.CodeHd h2 c2 P2 → h2.get? P2 = some (PySem.W.tabObj #[]) →
      Q (.ref h2.objs.size) { s with heap := h2.push (obL q params body scope clos ((mg "__name__").getD .none) c2 ctv dV), toks := tk }) :
    wpAny M A (makeTail "<lambda>" q params (.expr body) scope env dV .none none pos firstLine) Q E s := by
  obtain ⟨bm, ob, hbm, hne0, _, hneP, hbo, hcls, hdict, hdata⟩ := hb
  unfold makeTail
  rw [hcl, hge0]
  refine wpAny_bind (wpAny_pure ?_)
  cases clos with
  | nil =>
    simp only [List.isEmpty_nil, if_true]
    refine wpAny_bind (wpAny_pure (wpAny_bind (wpAny_functionCodeX hcode (C.code hP ht) (C.tab hP) hnf fun c2 h2 tk hx hge hlt _ hrec htb own => ?_)))
    obtain ⟨P2, hp, ic, it⟩ := own
    have g2 := hg.extBut hx hgP
    refine wpAny_bind (wpAny_builtinsFor g2 hbm hne0 (hx _ _ hneP hbo) hcls hdict hdata (wpAny_bind (wpAny_nsGet g2 ?_)))
    exact wpAny_bind (wpAny_pure (wpAny_newObj_type (h c2 P2 .none h2 tk hx hge hlt hrec htb.2 hp (PySem.W.CodeHd.of ic it) it.2) (by size_fits)))
  | cons r rs =>
    simp only [List.isEmpty_cons, Bool.false_eq_true, if_false]
    have C2 := fun (o : Obj) => C.keeps (h' := s.heap.push o) fun b o e => Heap.get?_push_of_some _ e
    have P3 := fun (o : Obj) => Heap.get?_push_of_some o hP
    refine wpAny_bind (wpAny_newTextTuple (wpAny_bind (wpAny_functionCodeX hcode ((C2 _).code (P3 _) ht) ((C2 _).tab (P3 _)) hnf fun c2 h2 tk hx hge hlt _ hrec htb own => ?_)))
    obtain ⟨P2, hp, ic, it⟩ := own
    have g2 := (hg.push _).extBut hx hgP
    have up : ∀ {n : Nat} {o : Obj}, (s.heap.push o).objs.size ≤ n → s.heap.objs.size ≤ n := fun {n o} z => Nat.le_trans (by rw [Heap.size_push]; omega) z
    have hx2 : Heap.ExtBut P s.heap h2 := fun b o hb2 e => hx b o hb2 (Heap.get?_push_of_some _ e)
    refine wpAny_bind (wpAny_builtinsFor g2 hbm hne0 (hx2 _ _ hneP hbo) hcls hdict hdata (wpAny_bind (wpAny_nsGet g2 ?_)))
    exact wpAny_bind (wpAny_pure (wpAny_newObj_type (h c2 P2 _ h2 tk hx2 (up hge) hlt hrec htb.2 (up hp) (PySem.W.CodeHd.of ic it) it.2) (by size_fits)))
theorem fun_old {cv : Value} (hcl : closureFor scope env = pure clos) (hge0 : env.globals = mainGlobals) (hg : s.heap.Ns mainGlobals mg) (hcode : env.code = .ref c) (C : PySem.W.CodeHd s.heap c P) (hP : s.heap.get? P = some (PySem.W.tabObj ps)) (ht : TriplesOk ps.toList)
    (hf : codeAmong pos ps.toList = some cv) (hb : s.heap.BuiltinsAt mg P)
    (h : ∀ (ctv : Value) (h2 : Heap) (tk : Tok), (∀ b o, s.heap.get? b = some o → h2.get? b = some o) → s.heap.objs.size ≤ h2.objs.size → Q (.ref h2.objs.size) { s with heap := h2.push { cls := .type "function", data := .func (fnL q params body scope clos ((mg "__name__").getD .none) cv ctv dV) }, toks := tk }) :
    wpAny M A (makeTail "<lambda>" q params (.expr body) scope env dV .none none pos firstLine) Q E s := by
  obtain ⟨bm, ob, hbm, hne0, _, hneP, hbo, hcls, hdict, hdata⟩ := hb
  unfold makeTail
  rw [hcl, hge0]
  refine wpAny_bind (wpAny_pure ?_)
  cases clos with
  | nil =>
    simp only [List.isEmpty_nil, if_true]
    refine wpAny_bind (wpAny_pure (wpAny_bind (wpAny_functionCode_hit hcode (C.code hP ht) hf ?_)))
    refine wpAny_bind (wpAny_builtinsFor hg hbm hne0 hbo hcls hdict hdata (wpAny_bind (wpAny_nsGet hg ?_)))
    exact wpAny_bind (wpAny_pure (wpAny_newObj_type (h .none s.heap s.toks (fun _ _ e => e) (Nat.le_refl _)) (by size_fits)))
  | cons r rs =>
    simp only [List.isEmpty_cons, Bool.false_eq_true, if_false]
    refine wpAny_bind (wpAny_newTextTuple (wpAny_bind (wpAny_functionCode_hit hcode ((C.keeps fun b o e => Heap.get?_push_of_some _ e).code (Heap.get?_push_of_some _ hP) ht) hf ?_)))
    refine wpAny_bind (wpAny_builtinsFor (hg.push _) hbm hne0 (Heap.get?_push_of_some _ hbo) hcls hdict hdata (wpAny_bind (wpAny_nsGet (hg.push _) ?_)))
    have big : ∀ o : Obj, s.heap.objs.size ≤ (s.heap.push o).objs.size := fun o => by rw [Heap.size_push]; omega
    exact wpAny_bind (wpAny_pure (wpAny_newObj_type (h _ _ s.toks (fun b o e => Heap.get?_push_of_some _ e) (big _)) (by size_fits)))
end
end LnX

set_option Elab.async false
set_option linter.all false
set_option maxRecDepth 100000
set_option maxHeartbeats 2000000
/-! lambdas: made, over the layer -/
namespace LnX
open PySem PySem.Spec PySem.Calls PyProof.Rows L2
/-- what the maker must have: its code object at c, the table at P -/
structure Maker (X : Cx) (s : Shared) (c P : Addr) : Prop where
  code : X.env.code = .ref c
  hd : PySem.W.CodeHd s.heap c P
  bi : s.heap.BuiltinsAt X.mg P
  gP : mainGlobals ≠ P
/-- a made lambda: f its function, u its default's tuple (where there is one), c2 its code object with the table P2 -/
structure LamF (X : Cx) (s : Shared) (H : Hp) (params : Arguments) (body : Expr) (scope : Scope) (dV : Value) (f c2 P2 : Addr) : Prop where
  fn : ∃ pm ctv, s.heap.get? f = some (obL (X.env.qual ++ "<lambda>") params body scope (cloFrom X.env.cells scope.names []) pm c2 ctv dV)
  no : H f = none
  fr : f ∉ frs X.stack
  co : H c2 = some (CodeP c2 P2 (X.env.qual ++ "<lambda>"))
section
variable {X : Cx} {pins : List (Addr × Obj)} {σ : L2.St} {H : Hp} {s : Shared} {T0 T : List (Addr × Str)} {c P : Addr} {params : Arguments} {body : Expr} {scope : Scope} {pos : Pos} {ln : Nat} {E : Value → Shared → Prop} {Q : Value → Shared → Prop} {dV : Value}
theorem new_off (I : Inv X pins σ H s) : ∀ f, s.heap.objs.size ≤ f → f ∉ frs X.stack := fun f hf z => (List.mem_cons.mp (I.stkSub _ z)).elim (fun e => Nat.lt_irrefl _ (Nat.lt_of_lt_of_le (show f < s.heap.objs.size by rw [e]; exact I.lt) hf)) (I.nofs hf)
theorem tail_ok (I : Inv X pins σ H s) (m : Maker X s c P) (hm : (P, X.env.qual ++ "<lambda>") ∈ T) (ok : TOk T0 H T) (hfree : ∀ y ∈ scope.names, y.2 = .free → ∃ c, X.env.cells.lookup y.1 = some c)
    (h : ∀ f c2 P2 H1 s2 T1, Inv X pins σ H1 s2 → LamX.ExtN H H1 → TOk T0 H1 T1 → LamF X s2 H1 params body scope dV f c2 P2 → (P2, qin (X.env.qual ++ "<lambda>")) ∈ T1 → (∀ b o, s.heap.get? b = some o → H b = none → s2.heap.get? b = some o ∧ H1 b = none) → Q (.ref f) s2) :
    wpAny (model X.prog X.w) X.A (makeTail "<lambda>" (X.env.qual ++ "<lambda>") params (.expr body) scope X.env dV .none none pos ln) Q E s := by
  obtain ⟨q, eq⟩ : ∃ q : Str, q = X.env.qual ++ "<lambda>" := ⟨_, rfl⟩
  rw [← eq] at hm h ⊢
  obtain ⟨ps, hP, ht, ha⟩ := ok.all _ hm
  have hP : H P = some (.tbl ps) := hP
  have oP : s.heap.get? P = some { cls := .none, data := .fields ps } := I.hok P _ hP
  have off := new_off I
  cases hc : codeAmong pos ps.toList with
  | none =>
    refine fun_new (mg := X.mg) (c := c) (P := P) (ps := ps) (closure_ok hfree) I.ok.glob (I.mod.glob.keeps I.bk) m.code m.hd oP ht hc m.gP m.bi fun c2 P2 ctv h2 tk hx hge hlt hrec htb hp hd ht2 => ?_
    obtain ⟨c3, oc, vs, t, e3, hoc, hdd, hv⟩ := hrec
    cases e3
    have big : s.heap.objs.size ≤ h2.objs.size := Nat.le_trans hge (Nat.le_of_lt hlt)
    have nc : H c2 = none := I.hok.fresh hge
    have nP2 : H P2 = none := I.hok.fresh hp
    have ne : c2 ≠ P2 := by
      obtain ⟨_, _, _, _, _, _, _, _, _, _, _, _, _, _, _, _, _, _, z⟩ := hd
      exact z
    obtain ⟨ob, eob⟩ : ∃ ob, ob = obL q params body scope (cloFrom X.env.cells scope.names []) ((X.mg "__name__").getD .none) c2 ctv dV := ⟨_, rfl⟩
    have live : ob.isFreed = false := by rw [eob]; rfl
    rw [← eob]
    have kp : ∀ b o, h2.get? b = some o → (h2.push ob).get? b = some o := fun b o e => Heap.get?_push_of_some _ e
    have J := inv_code (q := q) (tk := tk) (more := #[rawInt pos.line, rawInt pos.col, .ref c2]) (h2 := h2.push ob) I hP (fun b o hb e => kp _ _ (hx b o hb e)) (kp _ _ htb) hge hp ne ⟨hd.keeps kp, oc, vs, t, kp _ _ hoc, hdd, hv⟩ (kp _ _ ht2)
    obtain ⟨H1, e1⟩ : ∃ H1 : Hp, H1 = upd (upd (upd H P (.tbl (ps ++ #[rawInt pos.line, rawInt pos.col, .ref c2]))) c2 (CodeP c2 P2 q)) P2 (.tbl #[]) := ⟨_, rfl⟩
    rw [← e1] at J
    have Pc : P ≠ c2 := ne_of_none hP nc
    have PP : P ≠ P2 := ne_of_none hP nP2
    have a1 : H1 P = some (.tbl (ps ++ #[rawInt pos.line, rawInt pos.col, .ref c2])) := by rw [e1, upd_ne PP, upd_ne Pc, upd_same]
    have a2 : H1 c2 = some (CodeP c2 P2 q) := by rw [e1, upd_ne ne, upd_same]
    have a3 : H1 P2 = some (.tbl #[]) := by rw [e1, upd_same]
    have a4 : ∀ b, b ≠ P → b ≠ c2 → b ≠ P2 → H1 b = H b := fun b z1 z2 z3 => by rw [e1, upd_ne z3, upd_ne z2, upd_ne z1]
    have ext : LamX.ExtN H H1 := fun b o e n => by
      rw [a4 b (fun z => n ps (by rw [z, hP] at e; exact (Option.some.inj e).symm)) (ne_of_none e nc) (ne_of_none e nP2)]
      exact e
    have eL : (ps ++ #[rawInt pos.line, rawInt pos.col, .ref c2]).toList = ps.toList ++ [rawInt pos.line, rawInt pos.col, .ref c2] := by simp
    have tab : ∀ p ∈ T, p.1 ≠ P2 := fun p hp => by
      obtain ⟨r, er⟩ := (ok.all p hp).at
      exact ne_of_none er nP2
    refine h h2.objs.size c2 P2 H1 _ ((P2, qin q) :: T) J ext ⟨fun p hp => .tail _ (ok.sub p hp), fun p hp r hr e => ?_, fun p hp => ?_⟩ ⟨⟨_, _, by rw [← eq, ← eob]; exact Heap.get?_push_size _ live⟩, ?_, off _ big, by rw [← eq]; exact a2⟩ (.head _) (fun b o e n => ⟨kp _ _ (hx b o (fun z => by rw [z, hP] at n; cases n) e), ?_⟩)
    · rcases List.mem_cons.mp hp with rfl | hp2 <;> rcases List.mem_cons.mp hr with rfl | hr2
      · rfl
      · exact absurd e.symm (tab r hr2)
      · exact absurd e (tab p hp2)
      · exact ok.fn p hp2 r hr2 e
    · rcases List.mem_cons.mp hp with rfl | hp2
      · exact ⟨#[], a3, True.intro, fun pos cv hc => by
          have z : codeAmong pos [] = some cv := hc
          simp [codeAmong] at z⟩
      · by_cases hb : p.1 = P
        · have e2 : p.2 = q := ok.fn p hp2 _ hm hb
          rw [hb, e2]
          refine ⟨_, a1, by rw [eL]; exact PySem.TriplesOk_snoc _ _ _ _ ht, fun pos2 cv hcv => ?_⟩
          rw [eL] at hcv
          rcases LamX.among_app _ ht hcv with z | z
          · obtain ⟨c0, P0, y1, y2, y3⟩ := ha pos2 cv z
            exact ⟨c0, P0, y1, ext _ _ y2 codeP_ne, .tail _ y3⟩
          · exact ⟨c2, P2, z, a2, .head _⟩
        · obtain ⟨r, y1, y2, y3⟩ := ok.all p hp2
          refine ⟨r, by rw [a4 p.1 hb (ne_of_none y1 nc) (ne_of_none y1 nP2)]; exact y1, y2, fun pos2 cv hcv => ?_⟩
          obtain ⟨c0, P0, z1, z2, z3⟩ := y3 pos2 cv hcv
          exact ⟨c0, P0, z1, ext _ _ z2 codeP_ne, .tail _ z3⟩
    · rw [a4 _ (Nat.ne_of_gt (Nat.lt_of_lt_of_le (Heap.lt_size oP) big)) (Nat.ne_of_gt hlt) (Nat.ne_of_gt (Heap.lt_size ht2))]
      exact I.hok.fresh big
    · rw [a4 b (fun z => by rw [z, hP] at n; cases n) (fun z => Nat.lt_irrefl _ (Nat.lt_of_lt_of_le (Heap.lt_size (z ▸ e)) hge)) (fun z => Nat.lt_irrefl _ (Nat.lt_of_lt_of_le (Heap.lt_size (z ▸ e)) hp))]
      exact n
  | some cv =>
    obtain ⟨c2, P2, e, hco, hin⟩ := ha pos cv hc
    subst e
    refine fun_old (mg := X.mg) (c := c) (P := P) (ps := ps) (closure_ok hfree) I.ok.glob (I.mod.glob.keeps I.bk) m.code m.hd oP ht hc m.bi fun ctv h2 tk hx big => ?_
    obtain ⟨ob, eob⟩ : ∃ ob, ob = obL q params body scope (cloFrom X.env.cells scope.names []) ((X.mg "__name__").getD .none) c2 ctv dV := ⟨_, rfl⟩
    have live : ob.isFreed = false := by rw [eob]; rfl
    show Q (.ref h2.objs.size) { s with heap := h2.push (obL q params body scope (cloFrom X.env.cells scope.names []) ((X.mg "__name__").getD .none) c2 ctv dV), toks := tk }
    rw [← eob]
    have kp : ∀ b o, s.heap.get? b = some o → (h2.push ob).get? b = some o := fun b o e => Heap.get?_push_of_some _ (hx b o e)
    exact h h2.objs.size c2 P2 H { s with heap := h2.push ob, toks := tk } T (I.kept kp) (LamX.ExtN.refl H) ok ⟨⟨_, _, by rw [← eq, ← eob]; exact Heap.get?_push_size _ live⟩, I.hok.fresh big, off _ big, by rw [← eq]; exact hco⟩ hin (fun b o e n => ⟨kp b o e, n⟩)
end
end LnX

set_option Elab.async false
set_option linter.all false
set_option maxRecDepth 100000
set_option maxHeartbeats 2000000
/-! lambdas: what is made, and its run -/
namespace LnX
open PySem PySem.Spec PySem.Calls PyProof.Rows L2
/-- a made lambda, f its function: what it binds when it is called without arguments -/
structure Lam (X : Cx) (s : Shared) (H : Hp) (body : Expr) (scope : Scope) (names : List Str) (f c2 P2 : Addr) : Prop where
  ex : ∃ (fd : FuncData) (keep : List (Addr × Obj)) (bs : List (Str × Value)), s.heap.get? f = some { cls := .type "function", data := .func fd } ∧ fd.scope = scope ∧ fd.body = .expr body ∧ fd.globals = mainGlobals ∧ fd.closure = cloFrom X.env.cells scope.names [] ∧ fd.qualname = X.env.qual ++ "<lambda>" ∧ fd.code = .ref c2 ∧ fd.builtins = builtinsNs ∧ bs.map (·.1) = names ∧
    (∀ p ∈ keep, s.heap.get? p.1 = some p.2 ∧ H p.1 = none ∧ p.1 ∉ frs X.stack) ∧
    ∀ (A : Around) (Q : List (Str × Value) → Shared → Prop) (E : Value → Shared → Prop) (s1 : Shared), (∀ p ∈ keep, s1.heap.get? p.1 = some p.2) → Q bs s1 → wpAny (model X.prog X.w) A (bindArgs fd ⟨[], []⟩) Q E s1
  no : H f = none
  fr : f ∉ frs X.stack
  co : H c2 = some (CodeP c2 P2 (X.env.qual ++ "<lambda>"))
section
variable {X : Cx} {pins : List (Addr × Obj)} {σ : L2.St} {H HZ : Hp} {s s1 : Shared} {T0 T : List (Addr × Str)} {c P : Addr} {params : Arguments} {body : Expr} {scope : Scope} {pos : Pos} {E : Value → Shared → Prop} {Q : Value → Shared → Prop} {names : List Str}
/-- what is known behind the making -/
def MadeQ (X : Cx) (pins : List (Addr × Obj)) (σ : L2.St) (H : Hp) (T0 : List (Addr × Str)) (body : Expr) (scope : Scope) (names : List Str) (Q : Value → Shared → Prop) : Prop :=
  ∀ f c2 P2 H1 s2 T1, Inv X pins σ H1 s2 → LamX.ExtN H H1 → TOk T0 H1 T1 → Lam X s2 H1 body scope names f c2 P2 → (P2, qin (X.env.qual ++ "<lambda>")) ∈ T1 → Q (.ref f) s2
theorem mk0 (I : Inv X pins σ H s) (m : Maker X s c P) (hm : (P, X.env.qual ++ "<lambda>") ∈ T) (ok : TOk T0 H T) (hfree : ∀ y ∈ scope.names, y.2 = .free → ∃ c, X.env.cells.lookup y.1 = some c) (hdef : defaultsOf params X.env = ([], []))
    (hbind : ∀ (q : Str) (cl : List (Str × Addr)) (pm cv ctv : Value), bindArgs (fnL q params body scope cl pm cv ctv .none) ⟨[], []⟩ = pure []) (h : MadeQ X pins σ H T0 body scope [] Q) : wpAny (model X.prog X.w) X.A (eval (.Lambda params body scope pos) X.env) Q E s := by
  refine PySem.W.kla_eval hdef ?_
  rw [makeFunction_eq]
  simp only [List.zip_nil_right, List.filterMap_nil, List.isEmpty_nil, if_true, pure_bind]
  refine tail_ok I m hm ok hfree fun f c2 P2 H1 s2 T1 J ext ok1 lf hin _ => h f c2 P2 H1 s2 T1 J ext ok1 ⟨?_, lf.no, lf.fr, lf.co⟩ hin
  obtain ⟨pm, ctv, e⟩ := lf.fn
  exact ⟨_, [], [], e, rfl, rfl, rfl, rfl, rfl, rfl, rfl, rfl, (fun p hp => nomatch hp), fun A Q E s1 _ q => by rw [hbind]; exact wpAny_pure q⟩
theorem mkD {a0 : Str} {de : Expr} (I : Inv X pins σ H s) (m : Maker X s c P) (hm : (P, X.env.qual ++ "<lambda>") ∈ T) (ok : TOk T0 H T) (hfree : ∀ y ∈ scope.names, y.2 = .free → ∃ c, X.env.cells.lookup y.1 = some c) (hdef : defaultsOf params X.env = ([eval de X.env], []))
    (hkw : (params.kwonlyargs.zip ([] : List (Option Value))).filterMap (fun (a, d) => d.map (a.arg, ·)) = []) (hev : ∀ (s : Shared) (Q : Value → Shared → Prop) (E : Value → Shared → Prop), (∀ u tk, Q u { s with toks := tk }) → wpAny (model X.prog X.w) X.A (eval de X.env) Q E s)
    (hbind : ∀ (q : Str) (cl : List (Str × Addr)) (pm cv ctv : Value) (d : Addr), ∃ kk, bindArgs (fnL q params body scope cl pm cv ctv (.ref d)) ⟨[], []⟩ = seqItems? (.ref d) >>= kk ∧ ∀ u, kk (some #[u]) = pure [(a0, u)]) (h : MadeQ X pins σ H T0 body scope [a0] Q) :
    wpAny (model X.prog X.w) X.A (eval (.Lambda params body scope pos) X.env) Q E s := by
  rw [arm_eval_Lambda, hdef]
  show wpAny _ X.A (do let dv ← (do let v ← eval de X.env; return v :: (← holding [v] (evalAll []))); let kdv ← holding dv (evalAllOpt []); makeFunction "<lambda>" (X.env.qual ++ "<lambda>") params (.expr body) scope X.env dv kdv [] pos pos.line) Q E s
  refine wpAny_bind (wpAny_bind (hev _ _ _ fun u tk => ?_))
  refine wpAny_bind (wpAny_holding (wpAny_pure (wpAny_pure (wpAny_bind (wpAny_holding (wpAny_pure ?_))))))
  have I0 : Inv X pins σ H { s with toks := tk } := I.tok _
  rw [makeFunction_eq]
  simp only [List.zip_nil_right, List.filterMap_nil, List.isEmpty_nil, List.isEmpty_cons, if_true, Bool.false_eq_true, if_false, pure_bind]
  refine wpAny_bind (wpAny_newTextTuple ?_)
  have kp : ∀ b o, s.heap.get? b = some o → (s.heap.push (dObj u)).get? b = some o := fun b o e => Heap.get?_push_of_some _ e
  have J : Inv X pins σ H { s with heap := s.heap.push (dObj u), toks := tk } := I0.kept (t' := tk) kp
  have dn : H s.heap.objs.size = none := I.hok.fresh (Nat.le_refl _)
  have dg : (s.heap.push (dObj u)).get? s.heap.objs.size = some (dObj u) := Heap.get?_push_size _ rfl
  obtain ⟨d, ed⟩ : ∃ d, d = s.heap.objs.size := ⟨_, rfl⟩
  have df : d ∉ frs X.stack := by rw [ed]; exact new_off I _ (Nat.le_refl _)
  rw [← ed] at dn dg
  show wpAny _ _ (makeTail "<lambda>" (X.env.qual ++ "<lambda>") params (.expr body) scope X.env (.ref s.heap.objs.size) .none none pos pos.line) Q E { s with heap := s.heap.push (dObj u), toks := tk }
  rw [← ed]
  refine tail_ok J ⟨m.code, m.hd.keeps kp, ?_, m.gP⟩ hm ok hfree fun f c2 P2 H1 s2 T1 J1 ext ok1 lf hin old => h f c2 P2 H1 s2 T1 J1 ext ok1 ⟨?_, lf.no, lf.fr, lf.co⟩ hin
  · obtain ⟨bm, ob, b1, b2, b3, b4, b5, b6⟩ := m.bi
    exact ⟨bm, ob, b1, b2, b3, b4, kp _ _ b5, b6⟩
  · obtain ⟨pm, ctv, e⟩ := lf.fn
    obtain ⟨dg2, dn2⟩ := old d _ dg dn
    obtain ⟨kk, b1, b2⟩ := hbind (X.env.qual ++ "<lambda>") (cloFrom X.env.cells scope.names []) pm (.ref c2) ctv d
    refine ⟨_, [(d, dObj u)], [(a0, u)], e, rfl, rfl, rfl, rfl, rfl, rfl, rfl, rfl, (fun p hp => by rw [List.mem_singleton.mp hp]; exact ⟨dg2, dn2, df⟩), fun A Q E s1 hk q => ?_⟩
    rw [b1]
    refine wpAny_bind (wpAny_seqItems (hk (d, dObj u) List.mem_cons_self) rfl ?_)
    rw [b2]
    exact wpAny_pure q
end
end LnX

set_option Elab.async false
set_option linter.all false
set_option maxRecDepth 100000
set_option maxHeartbeats 2000000
/-! lambdas: the run -/
namespace LnX
open PySem PySem.Spec PySem.Calls PyProof.Rows L2
section
variable {X : Cx} {pins : List (Addr × Obj)} {σ : L2.St} {H HZ : Hp} {s s1 : Shared} {scope : Scope} {names : List Str}
theorem lam_inv {A : Around} {outer : List Env} {E : XK} {bs : List (Str × Value)} {f c2 : Addr} {h1 : Heap} {tk : Nat} (I : Inv X pins σ H s) (L : LamG X.N X.env.scope scope names) (e0 : Env0 X.prog X.w X.K X.mg X.base A outer s1 HZ) (hd : A.handled = none) (un : Un (frs X.stack) [] H HZ s.heap s1.heap)
    (hns : h1.Ns s1.heap.objs.size fun y => bs.reverse.lookup y) (kp : ∀ b o, s1.heap.get? b = some o → h1.get? b = some o) : Inv (LamX.lamCx X A outer s1 HZ E scope f c2) [] σ HZ { s1 with heap := h1, toks := tk } := by
  have cells : ∀ {y c}, (cloFrom X.env.cells scope.names []).lookup y = some c → X.env.cells.lookup y = some c := fun {y c} e => by
    rcases cloFrom_mem (PySem.mem_of_lookup e) with hm | ⟨h1, h2⟩
    · cases hm
    · obtain ⟨c1, hc⟩ := L.has I.ok _ h1 rfl
      have hc : X.env.cells.lookup y = some c1 := hc
      rw [h2, hc]
      rfl
  have there : ∀ {y}, scope.names.lookup y = some .free → ∃ c, (cloFrom X.env.cells scope.names []).lookup y = some c := fun {y} hl =>
    mem_lookup (cloFrom_has (cells := X.env.cells) (acc := []) (show (y, NameKind.free) ∈ scope.names from PySem.mem_of_lookup hl))
  have cellK : ∀ {c : Addr} {v : Option Value}, H c = none → s.heap.IsCell c v → h1.IsCell c v := fun {c v} n ⟨o, ho, hd⟩ => by
    obtain ⟨sl, q⟩ := un.any ho n (by simp)
    exact ⟨_, kp _ _ q, hd⟩
  have noA : ∀ b : Addr, b ∉ (LamX.lamCx X A outer s1 HZ E scope f c2).ex := fun b z => absurd (show b ∈ ([] : List Addr) from z) (by simp)
  have cel : ∀ y, scope.names.lookup y ≠ some .cell := fun y hl => (L.own _ (PySem.mem_of_lookup hl)).1 rfl
  refine ⟨⟨e0.mod, L.kind, rfl, rfl, Nat.le_refl _, fun y z c e1 e2 => I.ok.inj y z c (cells e1) (cells e2), fun y hy => ?_, fun y c z _ => Bool.noConfusion (show false = true from z), fun _ => hd, Around.frames_deeper e0.frames, .inr ⟨rfl, rfl⟩,
      fun b z => absurd z (noA b), e0.bs, e0.bsz, fun b _ _ => noA b, fun b z => absurd z (noA b), e0.funs, e0.frf⟩,
    rfl, e0.bare, Un.kept kp, ⟨_, hns, fun i y v e1 e2 e3 => ?_⟩, fun y c e => ?_, e0.hok.fresh (Nat.le_refl _), fun y c e => ?_, fun r hr => absurd (show r ∈ ([] : List (Addr × Obj)) ++ [] from hr) (by simp), e0.hok.kept kp, I.len⟩
  · have hy : scope.names.lookup y = some .cell ∨ scope.names.lookup y = some .free := hy
    exact hy.elim (fun z => absurd z (cel y)) there
  · have e3 : Vis scope y := e3
    rcases e3 with k | k | k
    · exact absurd (List.mem_of_getElem? e1) ((L.own _ (PySem.mem_of_lookup k)).2 rfl)
    · exact absurd k (cel y)
    · obtain ⟨m, hn, hl⟩ := I.loc
      obtain ⟨w, r, z⟩ := hl i y v e1 e2 (.inr (L.free _ (PySem.mem_of_lookup k) rfl))
      obtain ⟨c3, h3⟩ := there k
      refine ⟨w, r, .inr ⟨.inr k, c3, h3, ?_⟩⟩
      have c1 := cells h3
      rcases z with ⟨k2, _⟩ | ⟨_, c4, e4, z⟩
      · have k2 : X.env.scope.names.lookup y = some .local := k2
        rcases L.free _ (PySem.mem_of_lookup k) rfl with k3 | k3 <;> rw [show X.env.scope.names.lookup y = _ from k3] at k2 <;> cases k2
      · rw [c1] at e4
        cases e4
        exact cellK (I.freeC y _ c1) z
  · obtain ⟨w, z⟩ := I.cell y c (cells e)
    exact ⟨w, cellK (I.freeC y c (cells e)) z⟩
  · obtain ⟨v, o, ho, hd⟩ := I.cell y c (cells e)
    exact un.free c o ho (I.freeC y c (cells e)) (by simp)
/-- the lambda at f is called without arguments, anywhere below -/
theorem run_lam {A : Around} {outer : List Env} {E : XK} {body : Expr} {f c2 P2 : Addr} {k : Nat} {tb : TE} {Q : VK} (I : Inv X pins σ H s) (L : LamG X.N X.env.scope scope names) (lm : Lam X s H body scope names f c2 P2) (e0 : Env0 X.prog X.w X.K X.mg X.base A outer s1 HZ) (hr : Room (k + 1) A)
    (un : Un (frs X.stack) [] H HZ s.heap s1.heap) (hco : HZ c2 = some (CodeP c2 P2 (X.env.qual ++ "<lambda>"))) (hbody : Room k (A.deeper (LamX.lamEnv X scope s1.heap.objs.size f c2)) → PE (LamX.lamCx X A outer s1 HZ E scope f c2) body tb) (ht : tb σ HZ Q) :
    codeAny (model X.prog X.w) A (.call (.ref f) ⟨[], []⟩) (CR (L2.CX X.prog X.w) outer X.prog X.w HZ s1 Q E) s1 := by
  obtain ⟨fd, keep, bs, of, esc, ebd, egl, ecl, eqn, ecd, ebi, ebs, hk, hbind⟩ := lm.ex
  have of1 := un.keep f _ of lm.no lm.fr (by simp)
  have hk1 : ∀ p ∈ keep, s1.heap.get? p.1 = some p.2 := fun p hp => un.keep _ _ (hk p hp).1 (hk p hp).2.1 (hk p hp).2.2 (by simp)
  obtain ⟨⟨_, oc, vs, t, hoc, hdc, hvc⟩, _, _⟩ := e0.hok c2 _ hco
  have lim : s1.heap.NoLimit := e0.mod.nolimit.keeps fun b o e => (e0.bs b o e).1
  refine PySem.W.kla_callFunE hr.depth of1 rfl (by rw [esc]; exact L.co) (by rw [esc]; exact L.gen) ebd ⟨c2, oc, vs, t, ecd, hoc, hdc, by rw [eqn]; exact hvc⟩ (hbind _ _ _ _ hk1 ?_)
  rw [esc, egl, ecl, eqn, ecd, ebi]
  refine wpAny_newFunctionEnv (fun y hy => (L.own y hy).1) (fun y hy => L.par y.1 (by rw [← ebs]; exact List.mem_map.mpr ⟨y, hy, rfl⟩)) (fun h1 hns hsb => ⟨lim.fresh _ hsb, ?_⟩) L.kind
  show codeAny _ _ (.expr body (LamX.lamEnv X scope s1.heap.objs.size f c2)) _ _
  have kp : ∀ b o, s1.heap.get? b = some o → h1.get? b = some o := fun b o e => hsb.extBut b o (Nat.ne_of_lt (Heap.lt_size e)) (Heap.get?_push_of_some _ e)
  have J : Inv (LamX.lamCx X A outer s1 HZ E scope f c2) [] σ HZ { s1 with heap := h1, toks := s1.toks + bs.length } := lam_inv I L e0 hr.hd un hns kp
  refine PySem.W.kla_codeExpr (wpAny_mono ((hbody (hr.deeper _)).run [] _ _ HZ Q J ht) (fun v s2 hq => ?_) fun e s2 hq => hq)
  obtain ⟨w, H2, J2, rv, q⟩ := hq
  exact ⟨w, H2, J2.os, J2.bare, J2.base, J2.hok, rv, q⟩
end
end LnX

set_option Elab.async false
set_option linter.all false
set_option maxRecDepth 100000
set_option maxHeartbeats 2000000
/-! f(*rest, **more) where nothing is left over, at the level of the model -/
namespace LnX
open PySem PySem.Spec PySem.Calls PyProof.Rows
/-- an empty dict at a -/
def EmptyD (h : Heap) (a : Addr) : Prop := ∃ o n, h.get? a = some o ∧ o.cls = .type "dict" ∧ o.data = .dict #[] n
section
variable {prog : Program} {w : World} {A : Around} {E : Value → Shared → Prop} {s : Shared}
theorem EmptyD.keeps {h h2 : Heap} {a : Addr} (e : EmptyD h a) (k : ∀ b o, h.get? b = some o → h2.get? b = some o) : EmptyD h2 a := let ⟨o, n, z, r⟩ := e; ⟨o, n, k _ _ z, r⟩
theorem EmptyD.typ {a : Addr} (e : EmptyD s.heap a) : s.TypeIs (.ref a) "dict" := let ⟨o, _, z, c, _⟩ := e; ⟨o, z, c⟩
theorem merge_empty {d a : Addr} {Q : Unit → Shared → Prop} (hd : EmptyD s.heap d) (ha : EmptyD s.heap a) (hs : (a == sysModules) = false) (q : Q () s) : wpAny (model prog w) A (mergeMapping d (.ref a) true) Q E s := by
  obtain ⟨od, nd, d1, d2, d3⟩ := id hd
  obtain ⟨oa, na, a1, a2, a3⟩ := id ha
  unfold mergeMapping
  refine wpAny_bind (wpAny_isInstance ha.typ isSubtype_dict_dict ?_)
  dsimp only
  rw [if_pos rfl]
  refine wpAny_bind (wpAny_specialOf ha.typ F.slot_dict_iter.lookup ?_)
  refine wpAny_bind (wpAny_pure ?_)
  simp only [beq_self_eq_true]
  rw [if_neg (show ¬ (a == sysModules) = true by rw [hs]; exact Bool.false_ne_true)]
  refine wpAny_bind (wpAny_dictEntries d1 d3 ?_)
  rw [if_pos (show (#[] : Array DictEntry).isEmpty = true from rfl)]
  refine wpAny_bind (wpAny_dictEntries a1 a3 ?_)
  refine wpAny_bind (wpAny_of_eq (a := PUnit.unit) rfl ?_)
  refine wpAny_bind (wpAny_dictEntries a1 a3 (wpAny_bind (wpAny_dictEpoch a1 a3 ?_)))
  refine wpAny_bind (wpAny_of_eq (a := PUnit.unit) rfl ?_)
  exact wpAny_pure q
theorem merged_one {f : Value} {a : Addr} {y : Sem Value} {Q : Addr → Shared → Prop} (hs : (a == sysModules) = false) (hb : sysModules < s.heap.objs.size)
    (h : wpAny (model prog w) A y (fun v s1 => v = .ref a ∧ EmptyD s1.heap a ∧ EmptyD s1.heap s.heap.objs.size ∧ Q s.heap.objs.size s1) E { s with heap := s.heap.push { cls := .type "dict", data := .dict #[] } }) : wpAny (model prog w) A (mergedKeywords f [(none, y)]) Q E s := by
  unfold mergedKeywords
  refine wpAny_bind (wpAny_alloc (wpAny_bind (wpAny_holding ?_)))
  dsimp only
  rw [List.forIn_cons]
  refine wpAny_bind (wpAny_bind (wpAny_bind ?_))
  rw [if_pos (show ([] : List (Str × Sem Value)).isEmpty = true from rfl)]
  refine wpAny_pure ?_
  refine wpAny_bind (wpAny_mono h (fun v s1 h1 => ?_) fun _ _ z => z)
  obtain ⟨rfl, h2, h3, h4⟩ := h1
  refine wpAny_bind (wpAny_onRaise (wpAny_holding (wpAny_tryCatch (wpAny_onRaise (merge_empty h3 h2 hs ?_)))))
  refine wpAny_pure ?_
  dsimp only
  rw [List.forIn_nil]
  refine wpAny_pure ?_
  rw [if_pos (show ([] : List (Str × Sem Value)).isEmpty = true from rfl)]
  exact wpAny_pure (wpAny_pure h4)
theorem keywords_empty {f : Value} {d : Addr} {Q : List (Str × Value) → Shared → Prop} (hd : EmptyD s.heap d) (q : Q [] s) : wpAny (model prog w) A (keywordsIn f d) Q E s := by
  obtain ⟨o, n, d1, d2, d3⟩ := hd
  unfold keywordsIn
  refine wpAny_bind (wpAny_dictEntries d1 d3 ?_)
  refine wpAny_bind (wpAny_of_eq (a := []) rfl ?_)
  exact wpAny_pure q
/-- f(*x, **y) with nothing in x, nothing in y -/
theorem call_rest {f a : Addr} {pos : Pos} {x y : Sem Value} {Q : Value → Shared → Prop} (hs : (a == sysModules) = false)
    (h : wpAny (model prog w) A x (fun v s1 => sysModules < s1.heap.objs.size ∧ wpAny (model prog w) A y (fun u s2 => u = .ref a ∧ EmptyD s2.heap a ∧ EmptyD s2.heap s1.heap.objs.size ∧
      PySem.W.StarOf (model prog w) A E v (fun us s3 => us = [] ∧ EmptyD s3.heap s1.heap.objs.size ∧ PySem.W.FnAt f s3.heap ∧ wpAny (model prog w) A (call (.ref f) []) Q E s3) s2) E { s1 with heap := s1.heap.push { cls := .type "dict", data := .dict #[] } }) E s) :
    wpAny (model prog w) A (callWith pos (.ref f) [] [(true, (do let v ← x; standAt pos; pure v))] [(none, (do let v ← y; standAt pos; pure v))]) Q E s := by
  unfold callWith
  refine wpAny_bind (wpAny_holding ?_)
  unfold evalArgs
  refine wpAny_bind (wpAny_bind (wpAny_mono h (fun v s1 h1 => wpAny_bind (wpAny_standAt (wpAny_pure (wpAny_bind (wpAny_pure ?_))))) fun _ _ z => z))
  obtain ⟨hb, h2⟩ := h1
  refine wpAny_holding ?_
  dsimp only
  rw [if_neg (show ¬ ([(none, (do let v ← y; standAt pos; pure v))] : List (Option Str × Sem Value)).all (fun e => e.1.isSome) = true from Bool.false_ne_true)]
  refine wpAny_bind (merged_one hs hb (wpAny_bind (wpAny_mono h2 (fun u s2 h3 => wpAny_bind (wpAny_standAt (wpAny_pure ?_))) fun _ _ z => z)))
  obtain ⟨eu, e1, e2, st⟩ := h3
  refine ⟨eu, e1, e2, ?_⟩
  unfold PySem.W.StarOf at st
  refine wpAny_bind (wpAny_bind (wpAny_mono st (fun b s3 h4 => ?_) fun _ _ z => z))
  obtain ⟨rfl, h5⟩ := h4
  rw [if_neg Bool.false_ne_true]
  refine wpAny_holding (wpAny_mono h5 (fun us s4 h6 => ?_) fun _ _ z => z)
  obtain ⟨rfl, e3, hf, h7⟩ := h6
  refine wpAny_bind (wpAny_holding (keywords_empty e3 (wpAny_pure ?_)))
  refine wpAny_bind (wpAny_standAt ?_)
  obtain ⟨oc, od, fd, sl, ef⟩ := hf
  have L : PySem.W.Looks (model prog w) s4.heap (keeperOf (.ref f)) .frame := (PySem.W.Looks.ld (part := none) ef).andThen .now
  refine wpAny_bind (L.here ?_)
  show wpAny _ _ (do let r ← callMarked starredCall (.ref f) [] []; holding [r] point; pure r) _ _ _
  refine wpAny_bind ?_
  unfold callMarked
  exact Calls.wpAny_keep (wpAny_mono h7 (fun r s5 q => wpAny_bind (wpAny_holding (wpAny_point (wpAny_pure q)))) fun _ _ z => z)
end
end LnX

set_option Elab.async false
set_option linter.all false
set_option maxRecDepth 100000
set_option maxHeartbeats 2000000
/-! a lambda called in the def that got it -/
namespace LnX
open PySem PySem.Spec PySem.Calls PyProof.Rows L2
/-- the def that got the lambda, entered at s2 -/
abbrev Zg (CXg : CXT) (X : Cx) (Ng : List Str) (qg : Str) (sg : Scope) (g : Addr) (cdg : Value) (s2 : Shared) (H2 : Hp) (Eg : XK) : Cx := cxOf CXg X.prog X.w X.K X.mg X.base Ng qg sg g cdg X.A X.stack s2 H2 Eg
section
variable {X : Cx} {pins pinsZ : List (Addr × Obj)} {σ σZ : L2.St} {H H2 HZ : Hp} {s s2 sZ : Shared} {scope : Scope} {names : List Str} {CXg : CXT} {Eg : XK} {Ng : List Str} {qg : Str} {sg : Scope} {g f c2 P2 : Addr} {cdg : Value} {body : Expr} {k : Nat} {pn : List (Addr × Obj)} {xe : Value → Shared → Prop} {W : WX} {E : XK} {tb : TE} {Q : VK}
theorem act_run (I : Inv X pins σ H s) (L : LamG X.N X.env.scope scope names) (lm : Lam X s H body scope names f c2 P2) (un : Un (frs X.stack) [] H H2 s.heap s2.heap) (tk : Takes ((Zg CXg X Ng qg sg g cdg s2 H2 Eg).tr pn xe) W) (hW : ∀ cls d σ' H', E cls d H' → W cls d σ' H')
    (hr : Room (k + 1) (X.A.deeper (envOfC qg sg s2.heap.objs.size g cdg))) (hbody : ∀ (A : Around) (outer : List Env) (s : Shared) (H : Hp), Room k (A.deeper (LamX.lamEnv X scope s.heap.objs.size f c2)) → PE (LamX.lamCx X A outer s H E scope f c2) body tb)
    (IZ : Inv ((Zg CXg X Ng qg sg g cdg s2 H2 Eg).tr pn xe) pinsZ σZ HZ sZ) (hco : HZ c2 = some (CodeP c2 P2 (X.env.qual ++ "<lambda>"))) (ht : tb σ HZ Q) :
    wpAny (model X.prog X.w) (X.A.deeper (envOfC qg sg s2.heap.objs.size g cdg)) (call (.ref f) []) (EP ((Zg CXg X Ng qg sg g cdg s2 H2 Eg).tr pn xe) pinsZ σZ Q) xe sZ := by
  have u2 : Un (frs X.stack) [] H2 HZ s2.heap sZ.heap := IZ.base
  have rc := run_lam (outer := envOfC qg sg s2.heap.objs.size g cdg :: X.stack) (E := E) I L lm IZ.env0 hr (un.trans u2) hco (fun hr2 => hbody _ _ sZ HZ hr2) ht
  have hx : Passes (L2.CX X.prog X.w) ((Zg CXg X Ng qg sg g cdg s2 H2 Eg).tr pn xe) E := passes_call tk hW
  refine wpAny_call (codeAny_mono rc fun r s3 hq => ?_)
  cases r with
  | error e => exact hx pinsZ σZ HZ sZ e s3 IZ hq
  | ok fl =>
    cases fl with
    | ret u => exact IZ.after hq
    | next => exact False.elim hq
    | brk => exact False.elim hq
    | cont => exact False.elim hq
theorem fn_at (lm : Lam X s H body scope names f c2 P2) (un : Un (frs X.stack) [] H HZ s.heap sZ.heap) : PySem.W.FnAt f sZ.heap := by
  obtain ⟨fd, _, _, of, _⟩ := lm.ex
  exact ⟨_, _, _, _, un.keep f _ of lm.no lm.fr (by simp)⟩
/-- a() -/
theorem act0 {i : Nat} {a : Str} {p1 p2 : Pos} (I : Inv X pins σ H s) (L : LamG X.N X.env.scope scope names) (lm : Lam X s H body scope names f c2 P2) (un : Un (frs X.stack) [] H H2 s.heap s2.heap) (tk : Takes ((Zg CXg X Ng qg sg g cdg s2 H2 Eg).tr pn xe) W) (hW : ∀ cls d σ' H', E cls d H' → W cls d σ' H')
    (hr : Room (k + 1) (X.A.deeper (envOfC qg sg s2.heap.objs.size g cdg))) (hbody : ∀ (A : Around) (outer : List Env) (s : Shared) (H : Hp), Room k (A.deeper (LamX.lamEnv X scope s.heap.objs.size f c2)) → PE (LamX.lamCx X A outer s H E scope f c2) body tb)
    (hN : Ng[i]? = some a) (hv : Vis sg a) (hd : (a == ("__debug__" : Str)) = false := by decide) (hcd : (a == ("__classdict__" : Str)) = false := by decide) :
    PE ((Zg CXg X Ng qg sg g cdg s2 H2 Eg).tr pn xe) (.Call (.Name a p1) [] [] p2) (fun σZ HZ Q => σZ[i]? = some (some (.ref f)) ∧ HZ c2 = some (CodeP c2 P2 (X.env.qual ++ "<lambda>")) ∧ tb σ HZ Q) := by
  refine ⟨fun pinsZ sZ σZ HZ Q IZ h => ?_⟩
  obtain ⟨hs, hc, ht⟩ := h
  refine wpAny_Call_Name_kw (thn ((pe_var (pos := p1) (i := i) hN hv hd hcd).run pinsZ sZ σZ HZ (fun v H1 => v = .ref f ∧ H1 = HZ) IZ ⟨.ref f, hs, rfl, rfl⟩) fun u s1 hu => ?_)
  obtain ⟨v, H1, I1, r1, rfl, rfl⟩ := hu
  obtain rfl : u = Value.ref f := r1
  exact PySem.W.callWith_F0 (fn_at lm (un.trans I1.base)) (act_run I L lm un tk hW hr hbody I1 hc ht)
theorem empty_dk (I : Inv X pins σ H s) {a : Addr} (e : H a = some (.dK [])) : (a == sysModules) = false ∧ EmptyD s.heap a := by
  obtain ⟨_, ns, vs, kv, o, es, ep, e1, ex, e2, _, e3, _⟩ := dk_of I.hok e
  cases kv
  have l := e3.length
  refine ⟨ns, o, ep, e1, ex.1, ?_⟩
  have : es = #[] := by
    have z : 0 = es.size := by simpa using l.symm
    exact Array.eq_empty_of_size_eq_zero z.symm
  rw [e2, this]
/-- a(*r, **m) -/
theorem actS {i j l : Nat} {a r m : Str} {p1 p2 p3 p4 p5 p6 : Pos} (I : Inv X pins σ H s) (L : LamG X.N X.env.scope scope names) (lm : Lam X s H body scope names f c2 P2) (un : Un (frs X.stack) [] H H2 s.heap s2.heap) (tk : Takes ((Zg CXg X Ng qg sg g cdg s2 H2 Eg).tr pn xe) W) (hW : ∀ cls d σ' H', E cls d H' → W cls d σ' H')
    (hr : Room (k + 1) (X.A.deeper (envOfC qg sg s2.heap.objs.size g cdg))) (hbody : ∀ (A : Around) (outer : List Env) (s : Shared) (H : Hp), Room k (A.deeper (LamX.lamEnv X scope s.heap.objs.size f c2)) → PE (LamX.lamCx X A outer s H E scope f c2) body tb)
    (hN : Ng[i]? = some a) (hv : Vis sg a) (hN2 : Ng[j]? = some r) (hv2 : Vis sg r) (hN3 : Ng[l]? = some m) (hv3 : Vis sg m)
    (hd : (a == ("__debug__" : Str)) = false := by decide) (hcd : (a == ("__classdict__" : Str)) = false := by decide) (hd2 : (r == ("__debug__" : Str)) = false := by decide) (hcd2 : (r == ("__classdict__" : Str)) = false := by decide) (hd3 : (m == ("__debug__" : Str)) = false := by decide) (hcd3 : (m == ("__classdict__" : Str)) = false := by decide) :
    PE ((Zg CXg X Ng qg sg g cdg s2 H2 Eg).tr pn xe) (.Call (.Name a p1) [.Starred (.Name r p2) p3] [⟨none, .Name m p4, p5⟩] p6)
      (fun σZ HZ Q => σZ[i]? = some (some (.ref f)) ∧ (∃ tr, σZ[j]? = some (some (.ref tr)) ∧ HZ tr = some (.tup [])) ∧ (∃ dm, σZ[l]? = some (some (.ref dm)) ∧ HZ dm = some (.dK [])) ∧ HZ c2 = some (CodeP c2 P2 (X.env.qual ++ "<lambda>")) ∧ tb σ HZ Q) := by
  refine ⟨fun pinsZ sZ σZ HZ Q IZ h => ?_⟩
  obtain ⟨hs, ⟨tr, hs2, ht2⟩, ⟨dm, hs3, ht3⟩, hc, ht⟩ := h
  refine wpAny_Call_Name_kw (thn ((pe_var (pos := p1) (i := i) hN hv hd hcd).run pinsZ sZ σZ HZ (fun v H1 => v = .ref f ∧ H1 = HZ) IZ ⟨.ref f, hs, rfl, rfl⟩) fun u s1 hu => ?_)
  obtain ⟨v, H1, I1, r1, rfl, rfl⟩ := hu
  obtain rfl : u = Value.ref f := r1
  obtain ⟨nsys, _⟩ := empty_dk I1 ht3
  refine call_rest (a := dm) nsys (thn ((pe_var (pos := p2) (i := j) hN2 hv2 hd2 hcd2).run pinsZ s1 σZ H1 (fun v H => v = .ref tr ∧ H = H1) I1 ⟨.ref tr, hs2, rfl, rfl⟩) fun u s3 hu => ?_)
  obtain ⟨v, H3, I3, r3, rfl, rfl⟩ := hu
  obtain rfl : u = Value.ref tr := r3
  obtain ⟨n, en⟩ : ∃ n, n = s3.heap.objs.size := ⟨_, rfl⟩
  obtain ⟨o, eo⟩ : ∃ o : Obj, o = { cls := .type "dict", data := .dict #[] } := ⟨_, rfl⟩
  have kp : ∀ b ob, s3.heap.get? b = some ob → (s3.heap.push o).get? b = some ob := fun b ob e => Heap.get?_push_of_some _ e
  have I4 : Inv ((Zg CXg X Ng qg sg g cdg s2 H2 Eg).tr pn xe) (pinsZ ++ [(n, o)]) σZ H3 { s3 with heap := s3.heap.push o } := (I3.kept (t' := s3.toks) kp).pins_of fun p hp => by
    rcases List.mem_append.mp hp with z | z
    · obtain ⟨a1, a2⟩ := I3.pin p (List.mem_append_right _ z)
      exact ⟨kp _ _ a1, a2⟩
    · rw [List.mem_singleton.mp z, en]
      exact ⟨Heap.get?_push_size _ (by rw [eo]; rfl), I3.hok.fresh (Nat.le_refl _), Nat.ne_of_gt I3.lt, I3.nofs (Nat.le_refl _), fun v z => by rw [eo] at z; cases z⟩
  have nd : ∀ {pinsq : List (Addr × Obj)} {σq : L2.St} {Hq : Hp} {sq : Shared}, Inv ((Zg CXg X Ng qg sg g cdg s2 H2 Eg).tr pn xe) (pinsZ ++ [(n, o)]) σq Hq sq → EmptyD sq.heap s3.heap.objs.size := fun {pinsq σq Hq sq} Iq => by
    have e := (Iq.pin (n, o) (List.mem_append_right _ (List.mem_append_right _ List.mem_cons_self))).1
    rw [← en]
    exact ⟨o, 0, e, by rw [eo], by rw [eo]⟩
  rw [← eo]
  refine ⟨StX.env0_big I3.env0, thn ((pe_var (pos := p4) (i := l) hN3 hv3 hd3 hcd3).run _ _ σZ H3 (fun v H => v = .ref dm ∧ H = H3) I4 ⟨.ref dm, hs3, rfl, rfl⟩) fun u s5 hu => ?_⟩
  obtain ⟨v, H5, I5, r5, rfl, rfl⟩ := hu
  obtain rfl : u = Value.ref dm := r5
  refine ⟨rfl, (empty_dk I5 ht3).2, nd (pinsq := pinsZ) I5, L2.star_tup I5 (.inl (.inl ht2)) fun us s6 I6 rv => ?_⟩
  cases rv
  have I7 := I6.unpinned
  exact ⟨rfl, nd (pinsq := pinsZ) I6, fn_at lm (un.trans I7.base), act_run I L lm un tk hW hr hbody I7 hc ht⟩
end
end LnX

set_option Elab.async false
set_option linter.all false
set_option maxRecDepth 100000
set_option maxHeartbeats 2000000
/-! x(lambda), o.run(e, lambda): a lambda handed on -/
namespace LnX
open PySem PySem.Spec PySem.Calls PyProof.Rows L2
/-- tables and code objects stay -/
def KeepT (H H' : Hp) : Prop := ∀ b o, H b = some o → ((∃ ps, o = .tbl ps) ∨ ∃ φ, o = .ext φ) → H' b = some o
theorem KeepT.refl (H : Hp) : KeepT H H := fun _ _ e _ => e
theorem KeepT.trans {H H1 H2 : Hp} (a : KeepT H H1) (b : KeepT H1 H2) : KeepT H H2 := fun c o e z => b c o (a c o e z) z
theorem KeepT.of {H H' : Hp} (e : ∀ b o, H b = some o → H' b = some o) : KeepT H H' := fun b o h _ => e b o h
theorem KeepT.upd {H : Hp} {a : Addr} {o : HO} (h : H a = none ∨ ∃ u, H a = some u ∧ (∀ ps, u ≠ .tbl ps) ∧ ∀ φ, u ≠ .ext φ) : KeepT H (upd H a o) := fun b u e z => by
  have ne : b ≠ a := fun q => by
    rw [q] at e
    rcases h with n | ⟨u2, e2, n1, n2⟩
    · rw [n] at e; cases e
    · rw [e2] at e
      cases e
      rcases z with ⟨ps, z⟩ | ⟨φ, z⟩
      · exact n1 ps z
      · exact n2 φ z
  rw [upd_ne ne]
  exact e
theorem codeP_ext (c P : Addr) (q : Str) : ∃ φ, CodeP c P q = .ext φ := ⟨_, rfl⟩
theorem TOk.keep {T0 T : List (Addr × Str)} {H H' : Hp} (t : TOk T0 H T) (k : KeepT H H') : TOk T0 H' T := ⟨t.sub, t.fn, fun p hp => by
  obtain ⟨ps, h1, h2, h3⟩ := t.all p hp
  refine ⟨ps, k _ _ h1 (.inl ⟨_, rfl⟩), h2, fun pos cv hc => ?_⟩
  obtain ⟨c, P2, e1, e2, e3⟩ := h3 pos cv hc
  exact ⟨c, P2, e1, k _ _ e2 (.inr (codeP_ext c P2 _)), e3⟩⟩
theorem TabsC.keep {T0 : List (Addr × Str)} {H H' : Hp} (t : TabsC T0 H) (k : KeepT H H') : TabsC T0 H' := let ⟨T, h⟩ := t; ⟨T, h.keep k⟩
/-- a code object c, made here, with the table P -/
def CodeAt (T0 : List (Addr × Str)) (H : Hp) (c P : Addr) (q : Str) : Prop := ∃ T, TOk T0 H T ∧ H c = some (CodeP c P q) ∧ (P, qin q) ∈ T
theorem CodeAt.keep {T0 : List (Addr × Str)} {H H' : Hp} {c P : Addr} {q : Str} (t : CodeAt T0 H c P q) (k : KeepT H H') : CodeAt T0 H' c P q := let ⟨T, h, e, m⟩ := t; ⟨T, h.keep k, k _ _ e (.inr (codeP_ext c P q)), m⟩
theorem CodeAt.tabs {T0 : List (Addr × Str)} {H : Hp} {c P : Addr} {q : Str} (t : CodeAt T0 H c P q) : TabsC T0 H := let ⟨T, h, _, _⟩ := t; ⟨T, h⟩
/-- the maker's code object: a written def's, or a lambda's -/
def MakeAt (X : Cx) (T0 : List (Addr × Str)) (H : Hp) : Prop := ∃ T c P, X.env.code = .ref c ∧ TOk T0 H T ∧ (P, X.env.qual ++ "<lambda>") ∈ T ∧ ((∃ P0, P0 = P ∧ LamX.TabB X.base X.mg c P) ∨ ((∃ c0 P0, LamX.TabB X.base X.mg c0 P0) ∧ ∃ q, H c = some (CodeP c P q)))
section
variable {X : Cx} {pins : List (Addr × Obj)} {σ : L2.St} {H : Hp} {s : Shared} {T0 : List (Addr × Str)}
theorem maker_of (I : Inv X pins σ H s) (m : MakeAt X T0 H) : ∃ T c P, Maker X s c P ∧ (P, X.env.qual ++ "<lambda>") ∈ T ∧ TOk T0 H T := by
  obtain ⟨T, c, P, hc, ok, hm, h⟩ := m
  refine ⟨T, c, P, ?_, hm, ok⟩
  rcases h with ⟨_, _, TB⟩ | ⟨⟨c0, P0, TB⟩, q, e⟩
  · exact ⟨hc, TB.code.keeps I.bk, TB.bm.keeps I.bk, TB.gP⟩
  · obtain ⟨⟨hd, _⟩, _, _⟩ := I.hok c _ e
    obtain ⟨ps, hP, _⟩ := ok.all _ hm
    have hP : H P = some (.tbl ps) := hP
    obtain ⟨bm, ob, b1, b2, b3, b4, b5, b6⟩ := TB.bm
    have off : ∀ b o, X.base.get? b = some o → b ≠ P := fun b o eb z => by
      have := (I.bs b o eb).2
      rw [z, hP] at this
      cases this
    refine ⟨hc, hd, ⟨bm, ob, b1, b2, b3, off bm ob b5, I.bk _ _ b5, b6⟩, ?_⟩
    obtain ⟨o, _, _, eo, _⟩ := I.mod.glob
    exact off mainGlobals o eo
end
/-- the lambda's form: no default, or one constant -/
structure Form (X : Cx) (params : Arguments) (body : Expr) (scope : Scope) (names : List Str) : Prop where
  sc : LamG X.N X.env.scope scope names
  make : ∀ {pins : List (Addr × Obj)} {σ : L2.St} {H : Hp} {s : Shared} {T0 T : List (Addr × Str)} {c P : Addr} {pos : Pos} {E : Value → Shared → Prop} {Q : Value → Shared → Prop}, Inv X pins σ H s → Maker X s c P → (P, X.env.qual ++ "<lambda>") ∈ T → TOk T0 H T →
    MadeQ X pins σ H T0 body scope names Q → wpAny (model X.prog X.w) X.A (eval (.Lambda params body scope pos) X.env) Q E s
section
variable {X : Cx} {params : Arguments} {body : Expr} {scope : Scope}
theorem form0 (L : LamG X.N X.env.scope scope []) (hdef : defaultsOf params X.env = ([], [])) (hbind : ∀ (q : Str) (cl : List (Str × Addr)) (pm cv ctv : Value), bindArgs (fnL q params body scope cl pm cv ctv .none) ⟨[], []⟩ = pure []) : Form X params body scope [] :=
  ⟨L, fun I m hm ok h => mk0 I m hm ok (L.has I.ok) hdef hbind h⟩
theorem formD {a0 : Str} {de : Expr} (L : LamG X.N X.env.scope scope [a0]) (hdef : defaultsOf params X.env = ([eval de X.env], [])) (hkw : (params.kwonlyargs.zip ([] : List (Option Value))).filterMap (fun (a, d) => d.map (a.arg, ·)) = [])
    (hev : ∀ (s : Shared) (Q : Value → Shared → Prop) (E : Value → Shared → Prop), (∀ u tk, Q u { s with toks := tk }) → wpAny (model X.prog X.w) X.A (eval de X.env) Q E s)
    (hbind : ∀ (q : Str) (cl : List (Str × Addr)) (pm cv ctv : Value) (d : Addr), ∃ kk, bindArgs (fnL q params body scope cl pm cv ctv (.ref d)) ⟨[], []⟩ = seqItems? (.ref d) >>= kk ∧ ∀ u, kk (some #[u]) = pure [(a0, u)]) : Form X params body scope [a0] :=
  ⟨L, fun I m hm ok h => mkD I m hm ok (L.has I.ok) hdef hkw hev hbind h⟩
end
/-! ### x(lambda) -/
/-- the def x calls what it got; TT: what it makes of the lambda's reading -/
def Gives1 (X : Cx) (Ng : List Str) (x : Str) (sg : Scope) (g : Addr) (cdg : Value) (bg : List Stmt) (a : Str) (q : Str) (TT : (XK → Hp → VK → Prop) → Hp → VK → Prop) : Prop :=
  ∀ (f c2 P2 : Addr) (s2 : Shared) (H2 : Hp) (Q : VK) (tl : XK → Hp → VK → Prop),
    (∀ (W : WX) (pn : List (Addr × Obj)) (xe : Value → Shared → Prop) (E : XK) (p1 p2 : Pos), Takes ((Zg C8.CX0 X Ng x sg g cdg s2 H2 C8.E0).tr pn xe) W → (∀ cls d σ' H', E cls d H' → W cls d σ' H') →
      PE ((Zg C8.CX0 X Ng x sg g cdg s2 H2 C8.E0).tr pn xe) (.Call (.Name a p1) [] [] p2) (fun σZ HZ Q => σZ[0]? = some (some (.ref f)) ∧ HZ c2 = some (CodeP c2 P2 q) ∧ tl E HZ Q)) →
    H2 c2 = some (CodeP c2 P2 q) → TT tl H2 Q → ∃ t, PSs (Zg C8.CX0 X Ng x sg g cdg s2 H2 C8.E0).nox bg t ∧ t { nx := fun _ H' => Q .non H', rt := Q } (L2.start Ng [.ref f]) H2
/-- behind the making of a lambda -/
def afterM (X : Cx) (T0 : List (Addr × Str)) (H : Hp) (k : Addr → Addr → Hp → Prop) : Prop := MakeAt X T0 H ∧ ∀ c2 P2 H1, LamX.ExtN H H1 → TabsC T0 H1 → CodeAt T0 H1 c2 P2 (X.env.qual ++ "<lambda>") → k c2 P2 H1
def tL1 (X : Cx) (T0 : List (Addr × Str)) (TT : (XK → Hp → VK → Prop) → Hp → VK → Prop) (t : Addr → Addr → XK → TE) : TE := fun σ H Q => afterM X T0 H fun c2 P2 H1 => TT (fun E H' Q' => t c2 P2 E σ H' Q') H1 Q
section
variable {X : Cx}
theorem pe_lam1 {T0 : List (Addr × Str)} {TT : (XK → Hp → VK → Prop) → Hp → VK → Prop} {x a : Str} {g : Addr} {k : Nat} {pg : Arguments} {bg : List Stmt} {sg : Scope} {dV kV doc pm cdv ct oc : Value} {an od : Option Addr} {osl : Array (Option Value)} {Ng names : List Str} {params : Arguments} {body : Expr} {scope : Scope}
    {t : Addr → Addr → XK → TE} {p lpos pos : Pos} (hg : Gl X x) (hm : X.mg x = some (.ref g)) (hk : PySem.W.keepIn X.K (.ref g) = true) (lk : X.K.lookup g = some ⟨oc, od, .func (PySem.W.fnOf x x pg bg sg dV kV doc pm an cdv ct), osl⟩) (hcg : PySem.W.codeIn X.K cdv x = true)
    (hb : L2.Binds X.K (PySem.W.fnOf x x pg bg sg dV kV doc pm an cdv ct) [a] []) (Sg : FnScope Ng [a] sg) (hNg : Ng[0]? = some a) (hva : Vis sg a) (hG : Gives1 X Ng x sg g cdv bg a (X.env.qual ++ "<lambda>") TT) (hr : Room (k + 2) X.A) (F : Form X params body scope names)
    (hbody : ∀ (A : Around) (outer : List Env) (s : Shared) (H : Hp) (E : XK) (f c2 P2 : Addr), Room k (A.deeper (LamX.lamEnv X scope s.heap.objs.size f c2)) → PE (LamX.lamCx X A outer s H E scope f c2) body (t c2 P2 E))
    (hdb : (x == ("__debug__" : Str)) = false := by decide) (hd : (a == ("__debug__" : Str)) = false := by decide) (hcd : (a == ("__classdict__" : Str)) = false := by decide) : PE X (.Call (.Name x p) [.Lambda params body scope lpos] [] pos) (tL1 X T0 TT t) := by
  refine ⟨fun pins s σ H Q I h => ?_⟩
  obtain ⟨hM, h⟩ := h
  obtain ⟨T, c, P, m, hm2, ok⟩ := maker_of I hM
  refine wpAny_Call_Name_kw (ld_glob I hg hm ?_ hdb)
  refine PySem.W.callWith_K (h₀ := X.base) I.ok.mod.kin hk ?_ (by rfl) (by rfl)
  show wpAny _ _ (spliced ((false, eval (.Lambda params body scope lpos) X.env) :: backTo pos (starEach [] X.env))) _ _ s
  refine Calls.spliced_cons (F.make I m hm2 ok fun f c2 P2 H1 s2 T1 I1 eN ok1 lm hin => ?_)
  refine Calls.spliced_nil ⟨I1.kIn, ?_⟩
  have rc : codeAny (model X.prog X.w) X.A (.call (.ref g) ⟨[.ref f], []⟩) (CR C8.CX0 X.stack X.prog X.w H1 s2 Q C8.E0) s2 := by
    refine LamX.run_ofS (N := Ng) (ps := [a]) (us := [.ref f]) (vs := [.ref f]) lk hcg Sg hr I1.env0 (hb s2 [.ref f] I1.kIn rfl) (.cons rfl .nil) rfl fun hr2 => ?_
    obtain ⟨t2, ht2, hq2⟩ := hG f c2 P2 s2 H1 Q (fun E H' Q' => t c2 P2 E σ H' Q') (fun W pn xe E p1 p2 tk hW => act0 (i := 0) I1 F.sc lm Un.refl tk hW hr2 (fun A outer s H hr3 => hbody A outer s H E f c2 P2 hr3) hNg hva hd hcd) lm.co (h c2 P2 H1 eN ⟨T1, ok1⟩ ⟨T1, ok1, lm.co, hin⟩)
    exact ⟨t2, ht2.nox, hq2⟩
  refine wpAny_call (codeAny_mono rc fun r s3 hq => ?_)
  cases r with
  | error e => exact (show False from hq).elim
  | ok fl =>
    cases fl with
    | ret u => exact I1.after hq
    | next => exact False.elim hq
    | brk => exact False.elim hq
    | cont => exact False.elim hq
end
end LnX

set_option Elab.async false
set_option linter.all false
set_option maxRecDepth 100000
set_option maxHeartbeats 2000000
/-! o.run(e, lambda), run a method with *rest, **more -/
namespace LnX
open PySem PySem.Spec PySem.Calls PyProof.Rows L2
section
variable {P : Program} {w : World} {K : PySem.W.Frag} {mg : Str → Option Value} {base : Heap} {k : Nat} {g : Addr} {name qual : Str} {params : Arguments} {body : List Stmt} {scope : Scope} {dV kV doc pm cdv ct oc : Value} {an od : Option Addr} {osl : Array (Option Value)} {N : List Str} {p1 p2 p3 p4 p5 : Str}
  {A : Around} {outer : List Env} {s : Shared} {H : Hp} {Q : VK} {E : XK}
/-- a def with three parameters, *p4, **p5, called with three arguments -/
theorem run_rest {CX : CXT} {u1 u2 u3 : Value} {v1 v2 v3 : V} (hCX : StX.CXUp CX) (lk : K.lookup g = some ⟨oc, od, .func (PySem.W.fnOf name qual params body scope dV kV doc pm an cdv ct), osl⟩) (hcd : PySem.W.codeIn K cdv qual = true) (S : FnScope N [p1, p2, p3, p4, p5] scope) (hr : Room (k + 1) A) (e0 : Env0 P w K mg base A outer s H)
    (hb : bindArgs (PySem.W.fnOf name qual params body scope dV kV doc pm an cdv ct) ⟨[u1, u2, u3], []⟩ = (newTuple [] >>= fun t => (alloc ({ cls := .type "dict", data := .dict #[] } : Obj) : Sem Addr) >>= fun d => pure [(p1, u1), (p2, u2), (p3, u3), (p4, t), (p5, Value.ref d)])) (r : Vals [v1, v2, v3] [u1, u2, u3])
    (hbody : ∀ (s2 : Shared) (H2 : Hp) (tr dm : Addr), Un (frs outer) [] H H2 s.heap s2.heap → H tr = none → H dm = none → dm ≠ tr → H2 = upd (upd H tr (.tup [])) dm (.dK []) → Room k (A.deeper (envOfC qual scope s2.heap.objs.size g cdv)) →
      ∃ t, PSs (cxOf CX P w K mg base N qual scope g cdv A outer s2 H2 E) body t ∧ t { nx := fun _ H' => Q .non H', rt := Q } (L2.start N [v1, v2, v3, .ref tr, .ref dm]) H2) : codeAny (model P w) A (.call (.ref g) ⟨[u1, u2, u3], []⟩) (CR CX outer P w H s Q E) s := by
  have kin : K.In s.heap := e0.mod.kin.keeps fun b o e => (e0.bs b o e).1
  refine codeAny_call_function hr.depth (kin _ _ lk) rfl S.co S.gen rfl (PySem.W.codeRec_of kin hcd) ?_
  rw [hb]
  refine wpAny_bind (wpAny_newTuple (wpAny_bind (wpAny_alloc (wpAny_pure ?_))) (Nat.zero_le _))
  have n1 : H s.heap.objs.size = none := e0.hok.fresh (Nat.le_refl _)
  obtain ⟨o1, eo1⟩ : ∃ o1 : Obj, o1 = { cls := .type "tuple", data := .seq ([] : List Value).toArray } := ⟨_, rfl⟩
  obtain ⟨o2, eo2⟩ : ∃ o2 : Obj, o2 = { cls := .type "dict", data := .dict #[] } := ⟨_, rfl⟩
  rw [← eo1, ← eo2]
  obtain ⟨sA, esA⟩ : ∃ sA : Shared, sA = { s with heap := s.heap.push o1 } := ⟨_, rfl⟩
  have f1 : ObjOk P w (upd H s.heap.objs.size (.tup [])) (s.heap.push o1) s.heap.objs.size (.tup []) := ⟨Nat.zero_le _, [], .nil, ⟨o1, Heap.get?_push_size _ (by rw [eo1]; rfl), by rw [eo1], 0, by rw [eo1]⟩⟩
  have eA : Env0 P w K mg base A outer sA (upd H s.heap.objs.size (.tup [])) := by rw [esA]; exact StX.env0_laid e0 f1
  have uA : Un (frs outer) [] H (upd H s.heap.objs.size (.tup [])) s.heap sA.heap := by rw [esA]; exact StX.un_laid n1
  have hA : sA.heap = s.heap.push o1 := by rw [esA]
  have n2 : upd H s.heap.objs.size (.tup []) sA.heap.objs.size = none := eA.hok.fresh (Nat.le_refl _)
  have ne : sA.heap.objs.size ≠ s.heap.objs.size := by
    rw [hA, Heap.size_push]
    exact Nat.succ_ne_self _
  have m2 : H sA.heap.objs.size = none := by
    have z := n2
    rw [upd_ne ne] at z
    exact z
  obtain ⟨sB, esB⟩ : ∃ sB : Shared, sB = { sA with heap := sA.heap.push o2 } := ⟨_, rfl⟩
  have f2 := dk_empty (P := P) (w := w) (H := upd (upd H s.heap.objs.size (.tup [])) sA.heap.objs.size (.dK [])) sA.heap (StX.env0_big eA)
  rw [← eo2] at f2
  have eB : Env0 P w K mg base A outer sB (upd (upd H s.heap.objs.size (.tup [])) sA.heap.objs.size (.dK [])) := by rw [esB]; exact StX.env0_laid eA f2
  have uB : Un (frs outer) [] H (upd (upd H s.heap.objs.size (.tup [])) sA.heap.objs.size (.dK [])) s.heap sB.heap := by rw [esB]; exact uA.trans (StX.un_laid n2)
  have es : ({ s with heap := (s.heap.push o1).push o2 } : Shared) = sB := by rw [esB, esA]
  have e1 : (s.heap.push o1).objs.size = sA.heap.objs.size := by rw [hA]
  rw [es, e1]
  have os2 : sB.os = s.os := by rw [esB, esA]
  have up : ∀ (e : Value) (s' : Shared), CX outer (upd (upd H s.heap.objs.size (.tup [])) sA.heap.objs.size (.dK [])) sB E e s' → CX outer H s E e s' := fun e s' z =>
    hCX outer s H sB _ E e s' uB (fun b o q => by rw [← es]; exact Heap.get?_push_of_some _ (Heap.get?_push_of_some _ q)) os2 z
  have lim : sB.heap.NoLimit := e0.mod.nolimit.keeps fun b o e => (eB.bs b o e).1
  obtain ⟨H2, eH⟩ : ∃ H2 : Hp, H2 = upd (upd H s.heap.objs.size (.tup [])) sA.heap.objs.size (.dK []) := ⟨_, rfl⟩
  rw [← eH] at eB uB up
  have rv : Vals [v1, v2, v3, .ref s.heap.objs.size, .ref sA.heap.objs.size] [u1, u2, u3, .ref s.heap.objs.size, .ref sA.heap.objs.size] := r.append (.cons rfl (.cons rfl .nil))
  refine wpAny_newFunctionEnv_cells (s := sB) S.kind (fun y hy => (S.par y.1 (List.of_mem_zip (show y ∈ List.zip [p1, p2, p3, p4, p5] [u1, u2, u3, .ref s.heap.objs.size, .ref sA.heap.objs.size] from hy)).1).imp id fun z => ⟨z, PySem.W.cellsFrom_some _ _ _ (.inl z)⟩) fun env he s1 x => ?_
  cases he
  refine ⟨lim.keeps x.toInCall.keep, codeAny_func ?_⟩
  obtain ⟨t, ht, hq⟩ := hbody sB H2 s.heap.objs.size sA.heap.objs.size uB n1 m2 ne eH (hr.deeper _)
  have I := inv_start (CX := CX) (E := E) (vs := [v1, v2, v3, .ref s.heap.objs.size, .ref sA.heap.objs.size]) S hr.hd eB rfl rv x
  refine wpAny_mono (ht.run [] s1 _ H2 _ I hq) (fun fl s3 h3 => ?_) fun e s3 h3 => ?_
  · have done : ∀ {σ3 : L2.St} {H3 : Hp} {v : V} {u : Value}, Inv (cxOf CX P w K mg base N qual scope g cdv A outer sB H2 E) [] σ3 H3 s3 → RelV v u → Q v H3 → CE outer P w H s Q u s3 := fun {σ3 H3 v u} J rv q => ⟨v, H3, J.os.trans os2, J.bare, uB.trans J.base, J.hok, rv, q⟩
    cases fl with
    | ret u => obtain ⟨v, σ3, H3, J, rv, q⟩ := h3; exact done J rv q
    | next => obtain ⟨σ3, H3, J, q⟩ := h3; exact done (v := .non) (u := .none) J rfl q
    | brk => obtain ⟨_, _, _, q⟩ := h3; exact q.elim
    | cont => obtain ⟨_, _, _, q⟩ := h3; exact q.elim
  · exact wpAny_mono h3 (fun _ s4 z => up e s4 z) fun e2 s4 z => up e2 s4 z
end
/-- the method calls what it got as its third argument, with *rest, **more; TT: what it makes of the lambda's reading -/
def GivesR (X : Cx) (Ng : List Str) (qg : Str) (sg : Scope) (g : Addr) (cdg : Value) (bg : List Stmt) (a r m : Str) (q : Str) (TT : (XK → Hp → VK → Prop) → V → V → Hp → VK → XK → Prop) : Prop :=
  ∀ (f c2 P2 : Addr) (s2 : Shared) (H2 : Hp) (v1 v2 : V) (tr dm : Addr) (Q : VK) (E : XK) (tl : XK → Hp → VK → Prop),
    (∀ (W : WX) (pn : List (Addr × Obj)) (xe : Value → Shared → Prop) (E2 : XK) (p1 p2 p3 p4 p5 p6 : Pos), Takes ((Zg (L2.CX X.prog X.w) X Ng qg sg g cdg s2 H2 E).tr pn xe) W → (∀ cls d σ' H', E2 cls d H' → W cls d σ' H') →
      PE ((Zg (L2.CX X.prog X.w) X Ng qg sg g cdg s2 H2 E).tr pn xe) (.Call (.Name a p1) [.Starred (.Name r p2) p3] [⟨none, .Name m p4, p5⟩] p6)
        (fun σZ HZ Q => σZ[2]? = some (some (.ref f)) ∧ (∃ tr, σZ[3]? = some (some (.ref tr)) ∧ HZ tr = some (.tup [])) ∧ (∃ dm, σZ[4]? = some (some (.ref dm)) ∧ HZ dm = some (.dK [])) ∧ HZ c2 = some (CodeP c2 P2 q) ∧ tl E2 HZ Q)) →
    H2 c2 = some (CodeP c2 P2 q) → H2 tr = some (.tup []) → H2 dm = some (.dK []) → TT tl v1 v2 H2 Q E →
    ∃ t, PSs (Zg (L2.CX X.prog X.w) X Ng qg sg g cdg s2 H2 E) bg t ∧ t { nx := fun _ H' => Q .non H', rt := Q } (L2.start Ng [v1, v2, .ref f, .ref tr, .ref dm]) H2
def tLR (X : Cx) (T0 : List (Addr × Str)) (C : Addr) (mt : Str) (TT : (XK → Hp → VK → Prop) → V → V → Hp → VK → XK → Prop) (E : XK) (to te : TE) (t : Addr → Addr → XK → TE) : TE := fun σ H Q => to σ H fun ov H1 => ∃ o dx fs, ov = .ref o ∧ H1 o = some (.ins C dx fs) ∧ fs.lookup mt = none ∧
  te σ H1 fun cv H2 => afterM X T0 H2 fun c2 P2 H3 => ∀ tr dm, H3 tr = none → H3 dm = none → dm ≠ tr → TT (fun E2 H' Q' => t c2 P2 E2 σ H' Q') (.ref o) cv (upd (upd H3 tr (.tup [])) dm (.dK [])) Q E
section
variable {X : Cx}
theorem pe_lamR {T0 : List (Addr × Str)} {TT : (XK → Hp → VK → Prop) → V → V → Hp → VK → XK → Prop} {C g : Addr} {mt a r m qg pA pB : Str} {k : Nat} {pg : Arguments} {bg : List Stmt} {sg : Scope} {dV kV doc pm cdv ct oc : Value} {an od : Option Addr} {osl : Array (Option Value)} {Ng names : List Str} {params : Arguments} {body o e1 : Expr} {scope : Scope}
    {to te : TE} {t : Addr → Addr → XK → TE} {E : XK} {lpos pos apos : Pos} {pl : Sem Bool} (ho : PE X o to) (c : Cls X.K C) (hm : Meth X.K C mt g) (he1 : PE X e1 te) (lk : X.K.lookup g = some ⟨oc, od, .func (PySem.W.fnOf mt qg pg bg sg dV kV doc pm an cdv ct), osl⟩) (hcg : PySem.W.codeIn X.K cdv qg = true)
    (hb : ∀ u1 u2 u3, bindArgs (PySem.W.fnOf mt qg pg bg sg dV kV doc pm an cdv ct) ⟨[u1, u2, u3], []⟩ = (newTuple [] >>= fun t => (alloc ({ cls := .type "dict", data := .dict #[] } : Obj) : Sem Addr) >>= fun d => pure [(pA, u1), (pB, u2), (a, u3), (r, t), (m, Value.ref d)]))
    (Sg : FnScope Ng [pA, pB, a, r, m] sg) (hG : GivesR X Ng qg sg g cdv bg a r m (X.env.qual ++ "<lambda>") TT) (hr : Room (k + 2) X.A) (hx : Passes (L2.CX X.prog X.w) X E) (F : Form X params body scope names)
    (hbody : ∀ (A : Around) (outer : List Env) (s : Shared) (H : Hp) (E : XK) (f c2 P2 : Addr), Room k (A.deeper (LamX.lamEnv X scope s.heap.objs.size f c2)) → PE (LamX.lamCx X A outer s H E scope f c2) body (t c2 P2 E))
    (hst : starEach [e1, .Lambda params body scope lpos] X.env = [(false, eval e1 X.env), (false, eval (.Lambda params body scope lpos) X.env)] := by rfl)
    (ht : eval (.Call (.Attribute o mt apos) [e1, .Lambda params body scope lpos] [] pos) X.env = (do
      let ov ← eval o X.env
      standAt apos.atName
      let (f, first) ← holding [ov] (getMethod ov mt pl)
      callWith pos f first (backTo pos (starEach [e1, .Lambda params body scope lpos] X.env)) (backToKw pos (keywordEach [] X.env))) := by rfl)
    (hd : (a == ("__debug__" : Str)) = false := by decide) (hcd : (a == ("__classdict__" : Str)) = false := by decide) (hd2 : (r == ("__debug__" : Str)) = false := by decide) (hcd2 : (r == ("__classdict__" : Str)) = false := by decide) (hd3 : (m == ("__debug__" : Str)) = false := by decide) (hcd3 : (m == ("__classdict__" : Str)) = false := by decide)
    (hv : Vis sg a := by decide) (hv2 : Vis sg r := by decide) (hv3 : Vis sg m := by decide) (n2 : Ng[2]? = some a := by rfl) (n3 : Ng[3]? = some r := by rfl) (n4 : Ng[4]? = some m := by rfl) :
    PE X (.Call (.Attribute o mt apos) [e1, .Lambda params body scope lpos] [] pos) (tLR X T0 C mt TT E to te t) := by
  refine ⟨fun pins s σ H Q I h => ?_⟩
  refine PySem.W.methodCall_KW (pl := pl) (thn (ho.run pins s σ H _ I h) fun u s1 hu => ?_) ht
  obtain ⟨ov, H1, I1, r1, o, dx, fs, rfl, eo, lo, q1⟩ := hu
  obtain rfl : u = Value.ref o := r1
  refine getmeth_ok I1 eo c hm lo ?_
  refine PySem.W.callWith_K (first := [.ref o]) (h₀ := X.base) I.ok.mod.kin hm.kp ?_ (by rw [hst]; rfl) (by rfl)
  show wpAny _ _ (spliced (backTo pos (starEach [e1, .Lambda params body scope lpos] X.env))) _ _ s1
  rw [hst]
  refine Calls.spliced_cons (thn (he1.run pins s1 σ H1 _ I1 q1) fun u2 s2 hu2 => ?_)
  obtain ⟨cv, H2, I2, r2, hM, h2⟩ := hu2
  obtain ⟨T, cc, PP, mk, hm2, ok⟩ := maker_of I2 hM
  refine Calls.spliced_cons (F.make I2 mk hm2 ok fun f c2 P2 H3 s3 T1 I3 eN ok1 lm hin => ?_)
  refine Calls.spliced_nil ⟨I3.kIn, ?_⟩
  have after := h2 c2 P2 H3 eN ⟨T1, ok1⟩ ⟨T1, ok1, lm.co, hin⟩
  have rc : codeAny (model X.prog X.w) X.A (.call (.ref g) ⟨[.ref o, u2, .ref f], []⟩) (CR (L2.CX X.prog X.w) X.stack X.prog X.w H3 s3 Q E) s3 := by
    refine run_rest (N := Ng) (v1 := .ref o) (v2 := cv) (v3 := .ref f) StX.cxUp lk hcg Sg hr I3.env0 (hb _ _ _) (.cons rfl (.cons r2 (.cons rfl .nil))) fun s4 H4 tr dm un n1 nn ne eH hr2 => ?_
    have c4 : H4 c2 = some (CodeP c2 P2 (X.env.qual ++ "<lambda>")) := by rw [eH, upd_ne (ne_of_none lm.co nn), upd_ne (ne_of_none lm.co n1)]; exact lm.co
    have t4 : H4 tr = some (.tup []) := by rw [eH, upd_ne ne.symm, upd_same]
    have d4 : H4 dm = some (.dK []) := by rw [eH, upd_same]
    refine hG f c2 P2 s4 H4 (.ref o) cv tr dm Q E (fun E2 H' Q' => t c2 P2 E2 σ H' Q') (fun W pn xe E2 p1 p2 p3 p4 p5 p6 tk hW => actS (i := 2) (j := 3) (l := 4) I3 F.sc lm un tk hW hr2 (fun A outer s H hr3 => hbody A outer s H E2 f c2 P2 hr3) n2 hv n3 hv2 n4 hv3 hd hcd hd2 hcd2 hd3 hcd3) c4 t4 d4 ?_
    rw [eH]
    exact after tr dm n1 nn ne
  refine wpAny_call (codeAny_mono rc fun r s5 hq => ?_)
  cases r with
  | error e => exact hx pins σ H3 s3 e s5 I3 hq
  | ok fl =>
    cases fl with
    | ret u => exact I3.after hq
    | next => exact False.elim hq
    | brk => exact False.elim hq
    | cont => exact False.elim hq
end
end LnX

set_option Elab.async false
set_option linter.all false
set_option maxRecDepth 100000
set_option maxHeartbeats 2000000
/-! with: its manager's methods, also where an exception is on its way -/
namespace WiX
open PySem PySem.Spec PyProof.Rows L2
abbrev NoE : XK := fun _ _ _ => False
/-- what a def promises where the exception at a is handled: it raises nothing -/
structure FnQ (P : Program) (w : World) (K : PySem.W.Frag) (mg : Str → Option Value) (base : Heap) (k : Nat) (f : Addr) (fd : FuncData) (ps : List Str) (sp : Sp) : Prop where
  few : ∀ vs H Q E, sp vs H Q E → vs.length = ps.length
  go : ∀ (A : Around) (outer : List Env) (s : Shared) (H : Hp) (us : List Value) (vs : List V) (Q : VK) (a : Addr), Room k A → Env0 P w K mg base A outer s H → BindsTo s fd ⟨us, []⟩ (ps.zip us) → Vals vs us → sp vs H Q NoE →
    codeAny (model P w) (A.mark (some (.ref a))) (.call (.ref f) ⟨us, []⟩) (CR C8.CX0 outer P w H s Q NoE) s
theorem inv_mark {X : Cx} {σ : L2.St} {H : Hp} {s : Shared} (I : Inv X [] σ H s) (a : Addr) : Inv (X.suite a []) [] σ H s :=
  ⟨I.ok.suite a [], I.os, I.bare, I.base, I.loc, I.cell, I.free, I.freeC, (fun p hp => nomatch hp), I.hok, I.len⟩
section
variable {P : Program} {w : World} {K : PySem.W.Frag} {mg : Str → Option Value} {base : Heap} {k : Nat} {f : Addr} {x q : Str} {st : Stmt} {fd : FuncData} {N ps : List Str} {sp : Sp}
/-- by its body, read in a suite's context -/
theorem fnq_of (F : Fun K x q st f fd) (S : FnScope N ps (defScope st)) (few : ∀ vs H Q E, sp vs H Q E → vs.length = ps.length)
    (body : ∀ (A : Around) (outer : List Env) (s : Shared) (H : Hp) (vs : List V) (Q : VK) (cd : Value) (a : Addr), sp vs H Q NoE →
      ∃ t, PSs ((cxOf C8.CX0 P w K mg base N q (defScope st) f cd A outer s H NoE).suite a []) (defBody st) t ∧ t { nx := fun _ H' => Q .non H', rt := Q } (L2.start N vs) H) : FnQ P w K mg base (k + 1) f fd ps sp := by
  obtain ⟨oc, od, kV, doc, pm, an, cd, ct, sl, rfl, lk, hc⟩ := F.ex
  refine ⟨few, fun A outer s H us vs Q a hr e0 hb rv hsp => ?_⟩
  have long := few _ _ _ _ hsp
  have kin : K.In s.heap := e0.mod.kin.keeps fun b o e => (e0.bs b o e).1
  have lim : s.heap.NoLimit := e0.mod.nolimit.keeps fun b o e => (e0.bs b o e).1
  refine codeAny_call_function (by have := hr.dp; show A.depth < _; omega) (kin _ _ lk) rfl S.co S.gen rfl (PySem.W.codeRec_of kin hc) (hb _ _ _ _ ?_)
  refine wpAny_newFunctionEnv_cells S.kind (fun y hy => (S.par y.1 (List.of_mem_zip hy).1).imp id fun z => ⟨z, PySem.W.cellsFrom_some _ _ _ (.inl z)⟩) fun env he s1 n1 => ?_
  cases he
  refine ⟨lim.keeps n1.toInCall.keep, codeAny_func ?_⟩
  obtain ⟨t, ht, hq⟩ := body A outer s H vs Q cd a hsp
  have J := inv_mark (inv_start (CX := C8.CX0) (E := NoE) S hr.hd e0 long rv n1) a
  refine wpAny_mono (ht.run [] s1 _ H _ J hq) (fun fl s2 h2 => ?_) fun _ _ z => z.elim
  have done : ∀ {σ2 : L2.St} {H2 : Hp} {v : V} {u : Value}, Inv ((cxOf C8.CX0 P w K mg base N q (defScope st) f cd A outer s H NoE).suite a []) [] σ2 H2 s2 → RelV v u → Q v H2 → CE outer P w H s Q u s2 := fun {σ2 H2 v u} I r z => ⟨v, H2, I.os, I.bare, I.base, I.hok, r, z⟩
  cases fl with
  | ret u => obtain ⟨v, σ2, H2, I, r, z⟩ := h2; exact done I r z
  | next => obtain ⟨σ2, H2, I, z⟩ := h2; exact done (v := .non) (u := .none) I rfl z
  | brk => obtain ⟨_, _, _, z⟩ := h2; exact z.elim
  | cont => obtain ⟨_, _, _, z⟩ := h2; exact z.elim
end
end WiX

set_option Elab.async false
set_option linter.all false
set_option maxRecDepth 100000
set_option maxHeartbeats 2000000
/-! with, at the level of the model: what is raised in its block goes through the exit -/
namespace WiX
open PySem PySem.Spec PyProof.Rows PySem.W
section
variable {prog : Program} {w : World} {A : Around} {E : Value → Shared → Prop} {s : Shared} {env : Env} {K : Frag} {x C fe fx : Addr} {ox : Obj} {od : Option Obj} {pos : Pos}
/-- the exit is called with the exception, answers None, and on it goes -/
def Thru (prog : Program) (w : World) (A : Around) (E : Value → Shared → Prop) (env : Env) (x fx : Addr) (Q : Flow → Shared → Prop) (e : Value) (s : Shared) : Prop :=
  e ≠ byPass ∧ wpAny (model prog w) A (typeOf e) (fun te s1 => wpAny (model prog w) A (tracebackOf e) (fun tb s2 =>
    codeAny (model prog w) (A.mark (some e)) (.call (.ref fx) ⟨[.ref x, te, e, tb], []⟩) (fun r s3 => match r with
      | .ok (.ret u) => u = .none ∧ wpAny (model prog w) A (passOn "with" e env) Q E s3
      | _ => False) s2) E s1) E s
def Noted (prog : Program) (w : World) (A : Around) (E : Value → Shared → Prop) (env : Env) (x fx : Addr) (Q : Flow → Shared → Prop) (e : Value) (s : Shared) : Prop :=
  wpAny (model prog w) A (noteFrame e env) (fun _ s1 => wpAny (model prog w) A (setFlight e none) (fun _ s2 => Thru prog w A E env x fx Q e s2) E s1) E s
theorem wi_core {bdy : Sem Flow} {Q : Flow → Shared → Prop} (X : K.In s.heap) (I : InstAt s.heap x ox C od) (he : findIn K (.ref C) "__enter__" = some (some (.ref fe))) (hfe : isFn K (.ref fe) = true) (hx : findIn K (.ref C) "__exit__" = some (some (.ref fx))) (hfx : isFn K (.ref fx) = true)
    (h : wpAny (model prog w) A (call (.ref fe) [.ref x]) (fun _ s2 => wpAny (model prog w) A bdy (KwOut prog w A E x fx Q) (Noted prog w A E env x fx Q) s2) E s) : wpAny (model prog w) A (withItem false pos env (pure (.ref x)) none bdy) Q E s := by
  obtain ⟨cd, hcd, ae⟩ := kw_along he
  obtain ⟨cd2, hcd2, ax⟩ := kw_along hx
  obtain rfl : cd = cd2 := Option.some.inj (hcd.symm.trans hcd2)
  cases s with
  | mk hh g d tt os =>
  have a1 : Looks (model prog w) hh (specialOnItsLine (.ref x) "__enter__") (some (.ref fe), cd.mro) := kw_special X I hcd ae
  have a2 : Looks (model prog w) hh (specialOnItsLine (.ref x) "__exit__") (some (.ref fx), cd.mro) := kw_special X I hcd ax
  have a3 : Looks (model prog w) hh (bindSpecial (.ref fe) (.ref x)) (.ref fe, [.ref x]) := bind_fn X _ (beq_iff_eq.mp hfe)
  have a4 : Looks (model prog w) hh (bindSpecial (.ref fx) (.ref x)) (.ref fx, [.ref x]) := bind_fn X _ (beq_iff_eq.mp hfx)
  have a5 : Looks (model prog w) hh (aMethodOfAnotherBuiltinTypeStops (.ref fe) cd.mro) () := Looks.of_pure rfl
  have a6 : Looks (model prog w) hh (aMethodOfAnotherBuiltinTypeStops (.ref fx) cd.mro) () := Looks.of_pure rfl
  unfold withItem
  refine wpAny_bind (wpAny_pure (wpAny_bind (wpAny_standAt ?_)))
  simp only [Bool.false_eq_true, if_false]
  kw_lk
  refine wpAny_mono h (fun _ s2 h2 => ?_) fun _ _ z => z
  kw_lk
  refine wpAny_attempt (kw_held ?_)
  show wpAny _ _ bdy _ _ _
  refine wpAny_mono h2 (fun f s3 h3 => ?_) fun e s3 h3 => ?_
  · kw_lk
    refine wpAny_mono h3 (fun _ s4 h4 => ?_) fun _ _ z => z
    kw_lk
    exact h4
  · refine wpAny_bind (wpAny_mono h3 (fun _ s4 h4 => ?_) fun _ _ z => z)
    refine wpAny_bind (wpAny_mono h4 (fun _ s5 h5 => ?_) fun _ _ z => z)
    obtain ⟨nb, h5⟩ := h5
    refine wpAny_bind (wpAny_standAt (wpAny_holding ?_))
    refine wpAny_bind (wpAny_mono h5 (fun te s6 h6 => ?_) fun _ _ z => z)
    refine wpAny_bind (wpAny_mono h6 (fun tb s7 h7 => ?_) fun _ _ z => z)
    refine wpAny_bind ?_
    unfold withItem.marked
    refine wpAny_bind (wpAny_run (codeAny_mono h7 fun r s8 h8 => ?_) fun z => nb (Option.some.inj z))
    match r, h8 with
    | .ok (.ret u), h8 =>
      obtain ⟨rfl, h9⟩ := h8
      exact wpAny_pure (wpAny_bind (wpAny_pure (wpAny_bind (wpAny_pure h9))))
end
end WiX

set_option Elab.async false
set_option linter.all false
set_option maxRecDepth 100000
set_option maxHeartbeats 2000000
/-! with over the layer: both ways through the exit -/
namespace WiX
open PySem PySem.Spec PyProof.Rows L2
/-- an exception's record a and its traceback's T in the heap -/
structure Rec2 (h : Heap) (a T : Addr) (cls : Value) (d : Option Addr) : Prop where
  at_ : ∃ (oe : Obj) (vs : Array Value), h.get? a = some oe ∧ Zc cls d oe ∧ oe.data = .fields vs ∧ vs[1]? = some (.ref T)
  tr : ∃ (oT : Obj) (ts : Array Value), h.get? T = some oT ∧ oT.data = .fields ts ∧ ts[3]? = some .none
  ne : T ≠ a
theorem get1 {ts : Array Value} {v : Value} (h : ts[3]? = some v) : ∃ u, ts[1]? = some u := by
  have := (Array.getElem?_eq_some_iff.mp h).1
  exact ⟨_, Array.getElem?_eq_getElem (by omega)⟩
section
variable {M : Model} {A : Around} {E : Value → Shared → Prop} {s : Shared} {a T : Addr} {cls : Value} {d : Option Addr}
theorem Rec2.typ {Q : Value → Shared → Prop} (r : Rec2 s.heap a T cls d) (q : Q cls s) : wpAny M A (typeOf (.ref a)) Q E s := by
  obtain ⟨oe, vs, h1, hz, _⟩ := r.at_
  exact wpAny_typeOf_ref h1 (by rw [hz.1]; exact q)
theorem Rec2.tb {Q : Value → Shared → Prop} (r : Rec2 s.heap a T cls d) (q : ∀ v, (v = .none ∨ v = .ref T) → Q v s) : wpAny M A (tracebackOf (.ref a)) Q E s := by
  obtain ⟨oe, vs, h1, _, h3, h4⟩ := r.at_
  obtain ⟨oT, ts, k1, k2, k3⟩ := r.tr
  obtain ⟨u, hu⟩ := get1 k3
  unfold tracebackOf
  refine wpAny_bind (wpAny_field h1 h3 h4 ?_)
  refine wpAny_bind (wpAny_field k1 k2 hu ?_)
  by_cases z : (u == Value.none) = true
  · rw [if_pos z]
    exact wpAny_pure (q _ (.inl rfl))
  · rw [if_neg z]
    exact wpAny_pure (q _ (.inr rfl))
end
section
variable {X : Cx} {pins : List (Addr × Obj)} {σ : L2.St} {H : Hp} {s : Shared} {a T : Addr} {cls : Value} {d : Option Addr} {W : WX}
/-- on it flies, from the state behind what was called meanwhile -/
theorem fly_on {α : Type} {Q : α → Shared → Prop} {tag : String} (I : Inv X pins σ H s) (hs : X.stack = X.env :: X.outer) (hf : X.env.frame = some X.env.locals) (tk : Takes X W) (r : Rec2 s.heap a T cls d) (na : H a = none) (nT : H T = none)
    (old : ∀ c o, X.s_0.heap.get? c = some o → c ≠ a ∧ c ≠ T) (hp : ∀ p ∈ X.pn ++ pins, p.1 ≠ a ∧ p.1 ≠ T) (w : W cls d σ H) : wpAny (model X.prog X.w) X.A (PySem.passOn tag (.ref a) X.env : Sem α) Q X.xe s := by
  obtain ⟨oe, vs, e1, ez, e2, e3⟩ := r.at_
  obtain ⟨oT, ts, t1, t2, t3⟩ := r.tr
  obtain ⟨G, in_, out⟩ := restrict s.heap fun b => !(decide (b = a) || decide (b = T))
  have Gs : ∀ b o, G.get? b = some o → s.heap.get? b = some o ∧ b ≠ a ∧ b ≠ T := fun b o e => by
    by_cases h : b = a ∨ b = T
    · rw [out b (by rcases h with h | h <;> simp [h])] at e
      cases e
    · rw [not_or] at h
      rw [in_ b (by simp [h.1, h.2])] at e
      exact ⟨e, h.1, h.2⟩
  have Gi : ∀ b o, b ≠ a → b ≠ T → s.heap.get? b = some o → G.get? b = some o := fun b o h1 h2 e => by
    rw [in_ b (by simp [h1, h2])]
    exact e
  have J : Inv X pins σ H { s with heap := G } := I.less (fun b o e => (Gs b o e).1) Gi ⟨oe, vs, e1, e2⟩ ⟨oT, ts, t1, t2⟩ na nT old hp
  have low : ∀ b, (b = a ∨ b = T) → (PySem.W.hideAll G (frs X.stack)).get? b = none := fun b hb => by
    cases q : (PySem.W.hideAll G (frs X.stack)).get? b with
    | none => rfl
    | some o =>
      obtain ⟨_, h1, h2⟩ := Gs b o (PySem.W.of_hideAll _ q)
      exact (hb.elim h1 h2).elim
  have air : HandSPX.FlyingZ (PySem.W.hideAll G (frs X.stack)) (X.env :: X.outer) a (Zc cls d) s.heap := by
    refine ⟨fun b o e => (Gs b o (PySem.W.of_hideAll _ e)).1, low a (.inl rfl), ?_, oe, vs, T, oT, ts, e1, ez, e2, e3, low T (.inr rfl), r.ne, t1, t2, t3⟩
    rw [← hs]
    exact funFrames_none I.stack fun b hb => PySem.W.hideAll_none _ hb
  unfold PySem.passOn
  refine wpAny_bind (wpAny_field e1 e2 e3 ?_)
  rw [if_neg (show ¬ ((Value.ref T == Value.none) = true) from by simp)]
  have rest : wpAny (model X.prog X.w) X.A (setFlight (.ref a) X.env.frame) (fun _ s2 => wpAny (model X.prog X.w) X.A (throw (.ref a) : Sem α) Q X.xe s2) X.xe s := by
    rw [hf]
    refine HandSPX.setFlight_upZ air fun h2 held up => wpAny_throw (tk _ _ ?_)
    exact ⟨a, PySem.W.hideAll G (frs X.stack), { s with heap := G }, pins, σ, H, cls, d, rfl, J, fun b o e hb => PySem.W.hideAll_get _ e hb, Heap.UpToSlots.trans (Heap.UpToSlots.of_keeps fun b o e => (Gs b o e).1) up, .inr (.inr (by rw [← hs] at held; exact held)), na, rfl, I.bare, w⟩
  first
    | exact wpAny_bind (wpAny_pure (wpAny_bind rest))
    | exact wpAny_bind rest
/-- what is wished of an exception of the block: the exit answers None, then W -/
def wThru (sp : Sp) (x : Addr) (W : WX) : WX := fun cls d σ H => ∃ kv : V, RelV kv cls ∧ ∀ ev tv : V, sp [.ref x, kv, ev, tv] H (fun v H2 => v = .non ∧ W cls d σ H2) NoE
/-- an exception of the block meets the exit -/
theorem exc_thru {x fx : Addr} {k : Nat} {fd : FuncData} {ps : List Str} {sp : Sp} {D : Ends} {xe : Value → Shared → Prop} {u : Value} (hs : X.stack = X.env :: X.outer) (hf : X.env.frame = some X.env.locals) (hex : X.ex = []) (ok : X.Ok) (tk : Takes X W)
    (GX : FnQ X.prog X.w X.K X.mg X.base k fx fd ps sp) (hr : Room k X.A) (hb : Binds X.K fd ps []) (xx : XE (X.tr (X.pn ++ pins) xe) (wThru sp x W) u s) : Noted X.prog X.w X.A X.xe X.env x fx (SP X pins D) u s := by
  have fr : X.A.frames = some (X.env :: X.outer) := by rw [ok.frames, hs]
  obtain ⟨a, B, sI, pins2, σ2, H2, cls, d, rfl, J0, nb, up, sky, na, os, ag, kv, rk, hw⟩ := xx
  have J : Inv X pins σ2 H2 sI := J0.ofTry ok
  rw [show (X.tr (X.pn ++ pins) xe).stack = X.env :: X.outer from hs] at sky
  have held : ∀ h1, HandSPX.HeldZ B (X.env :: X.outer) a (Zc cls d) X.env.locals h1 → s.heap.UpToSlots h1 → wpAny (model X.prog X.w) X.A (setFlight (.ref a) none) (fun _ s2 => Thru X.prog X.w X.A X.xe X.env x fx (SP X pins D) (.ref a) s2) X.xe { s with heap := h1 } := fun h1 hh up1 => by
    refine HandSPX.landsZ hh fun h3 fl up3 => ⟨ref_ne_byPass a, ?_⟩
    have I3 : Inv X pins σ2 H2 { s with heap := h3 } := J.landed nb fl.1 ((up.trans up1).trans up3) os ag
    obtain ⟨k1, k2, k3, oe, vs, T, oT, ts, e1, ez, e2, e3, nT0, ne, t1, t2, t3⟩ := fl
    have nT : H2 T = none := (J.inGround nb).gone nT0
    have R3 : Rec2 h3 a T cls d := ⟨⟨oe, vs, e1, ez, e2, e3⟩, ⟨oT, ts, t1, t2, t3⟩, ne⟩
    have off : ∀ (b : Addr) (o : Obj) (fv : Array Value), h3.get? b = some o → o.data = .fields fv → b ∉ frs X.stack := fun b o fv e dd hm => by
      rw [hs] at hm
      obtain ⟨_, o2, e4, hn⟩ := k3.mem hm
      rw [e] at e4
      cases e4
      exact hn _ dd
    have fa := off a oe vs e1 e2
    have fT := off T oT ts t1 t2
    have apart : ∀ b o, sI.heap.get? b = some o → b ≠ a ∧ b ≠ T := fun b o e => by
      by_cases hb : b ∈ frs X.stack
      · exact ⟨fun z => fa (z ▸ hb), fun z => fT (z ▸ hb)⟩
      · have q := nb b o e hb
        exact ⟨(fun z => by rw [z, k2] at q; cases q), (fun z => by rw [z, nT0] at q; cases q)⟩
    have old : ∀ c o, X.s_0.heap.get? c = some o → c ≠ a ∧ c ≠ T := fun c o e => by
      obtain ⟨o2, q⟩ := J.base.there c o e (by rw [hex]; simp)
      exact apart c o2 q
    refine Rec2.typ (d := d) R3 (Rec2.tb (cls := cls) (d := d) R3 fun tb htb => ?_)
    obtain ⟨tv, rt⟩ : ∃ tv : V, RelV tv tb := by
      rcases htb with rfl | rfl
      · exact ⟨.non, rfl⟩
      · exact ⟨.ref T, rfl⟩
    have hq := hw (.ref a) tv
    have rv : Vals [V.ref x, kv, .ref a, tv] [.ref x, cls, .ref a, tb] := .cons rfl (.cons rk (.cons rfl (.cons rt .nil)))
    have len : ([Value.ref x, cls, .ref a, tb] : List Value).length = ps.length := by rw [← rv.length]; exact GX.few _ _ _ _ hq
    have bd := hb { s with heap := h3 } [Value.ref x, cls, .ref a, tb] I3.kIn (by rw [List.append_nil]; exact len)
    rw [List.append_nil] at bd
    refine codeAny_mono (GX.go X.A X.stack { s with heap := h3 } H2 _ _ _ a hr I3.env0 bd rv hq) fun r s6 h6 => ?_
    match r, h6 with
    | .ok (.ret u6), h6 =>
      have R6 : Rec2 s6.heap a T cls d := by
        obtain ⟨_, H6, _, _, un, _⟩ := h6
        exact ⟨⟨oe, vs, un.keep a oe e1 na fa (by simp), ez, e2, e3⟩, ⟨oT, ts, un.keep T oT t1 nT fT (by simp), t2, t3⟩, ne⟩
      have free : ∀ {H6 : Hp} , Un (frs X.stack) [] H2 H6 h3 s6.heap → H6 a = none ∧ H6 T = none := fun {H6} un => ⟨un.free a oe e1 na (by simp), un.free T oT t1 nT (by simp)⟩
      have fr6 := h6
      obtain ⟨v6, H6, os6, ag6, un, ok6, rv6, ev, q6⟩ := h6
      have I6 : Inv X pins σ2 H6 s6 := by
        obtain ⟨w6, H7, J7, _, ew⟩ := I3.after (Q := fun v H => v = v6 ∧ H = H6) ⟨v6, H6, os6, ag6, un, ok6, rv6, rfl, rfl⟩
        rw [← ew.2]
        exact J7
      subst ev
      exact ⟨rv6, fly_on I6 hs hf tk R6 (free un).1 (free un).2 old (fun p hp => apart p.1 p.2 (J.pin p hp).1) q6⟩
  show wpAny _ _ (noteFrame (.ref a) X.env) _ _ _
  rcases sky with ⟨hB, hn, hl, oe, vs, he0, hz, hd, hv1⟩ | fl | hh
  · exact HandSPX.look_newZ Zc.steady fr hl hf he0 hB hn hd hv1 hz held
  · exact HandSPX.looks_onZ Zc.steady fr hf fl held
  · exact HandSPX.againZ hf hh.2.2.2 (held s.heap hh (Heap.UpToSlots.refl _))
end
end WiX

set_option Elab.async false
set_option linter.all false
set_option maxRecDepth 100000
set_option maxHeartbeats 2000000
/-! with e: suite, as a rule -/
namespace WiX
open PySem PySem.Spec PyProof.Rows L2
/-- what the manager's class must have -/
structure Mgr (K : PySem.W.Frag) (C fe fx : Addr) : Prop where
  en : PySem.W.findIn K (.ref C) "__enter__" = some (some (.ref fe))
  ef : PySem.W.isFn K (.ref fe) = true
  ex : PySem.W.findIn K (.ref C) "__exit__" = some (some (.ref fx))
  xf : PySem.W.isFn K (.ref fx) = true
/-- the exit, nothing raised -/
def outS (sp : Sp) (x : Addr) (k : Hp → Prop) (H : Hp) : Prop := sp [.ref x, .non, .non, .non] H (fun _ H2 => k H2) NoE
def outE (sp : Sp) (x : Addr) (D : Ends) : Ends := { nx := fun σ => outS sp x (D.nx σ), bk := fun σ => outS sp x (D.bk σ), ct := fun σ => outS sp x (D.ct σ), rt := fun v => outS sp x (D.rt v) }
def tWith (C : Addr) (tc : TE) (spE spX : Sp) (E : XK) (tb : WX → TS) (W : WX) : TS := fun D σ H => tc σ H fun m H1 => ∃ x dx fs, m = .ref x ∧ H1 x = some (.ins C dx fs) ∧ spE [.ref x] H1 (fun _ H2 => tb (wThru spX x W) (outE spX x D) σ H2) E
section
variable {X : Cx} {CX : CXT} {ke kx kq : Nat} {C fe fx : Addr} {fde fdx : FuncData} {pe px : List Str} {spE spX : Sp} {E : XK} {ctx : Expr} {body : List Stmt} {tc : TE} {tb : WX → TS} {W : WX} {pos : Pos}
theorem ps_with (hs : X.stack = X.env :: X.outer) (hf : X.env.frame = some X.env.locals) (hex : X.ex = []) (m : Mgr X.K C fe fx) (hc : PE X ctx tc)
    (GE : FnOk X.prog X.w X.K X.mg X.base CX ke fe fde pe spE) (re : Room ke X.A) (be : Binds X.K fde pe []) (xe : Passes CX X E)
    (GX : FnOk X.prog X.w X.K X.mg X.base C8.CX0 kx fx fdx px spX) (rx : Room kx X.A) (GQ : FnQ X.prog X.w X.K X.mg X.base kq fx fdx px spX) (rq : Room kq X.A) (bx : Binds X.K fdx px []) (tk : Takes X W)
    (hb : ∀ (W : WX) (pn : List (Addr × Obj)) (xe : Value → Shared → Prop), Takes (X.tr pn xe) W → PSs (X.tr pn xe) body (tb W)) : PS X (.With [⟨ctx, none⟩] body pos) (tWith C tc spE spX E tb W) := by
  refine ⟨fun pins s σ H D I h => PySem.W.kw_exec0 (thn (hc.run pins s σ H _ I h) fun u s1 hu => ?_)⟩
  obtain ⟨v, H1, I1, rv, x, dx, fs, ev, e1, q⟩ := hu
  subst ev
  obtain rfl : u = Value.ref x := rv
  obtain ⟨_, O, _⟩ := ins_get I1.hok e1
  obtain ⟨od, J, _⟩ := O.look
  refine wi_core (K := X.K) I1.kIn J m.en m.ef m.ex m.xf (thn (run_fn (dvs := []) (us := [.ref x]) (vs := [.ref x]) GE re be .nil xe I1 (.cons rfl .nil) q) fun _ s2 h2 => ?_)
  obtain ⟨_, H2, I2, _, q2⟩ := h2
  have ok := I2.ok
  have t2 : Takes (X.tr (X.pn ++ pins) (Noted X.prog X.w X.A X.xe X.env x fx (SP X pins D))) (wThru spX x W) := fun _ _ xx => exc_thru hs hf hex ok tk GQ rq bx xx
  refine wpAny_mono ((hb (wThru spX x W) (X.pn ++ pins) _ t2).run [] s2 σ H2 (outE spX x D) (I2.toTry _) q2) (fun f s3 h3 => ?_) fun _ _ z => z
  have leave : ∀ {k : Hp → Prop} {σ3 : L2.St} {H3 : Hp}, Inv X pins σ3 H3 s3 → outS spX x k H3 → wpAny (model X.prog X.w) X.A (call (.ref fx) [.ref x, .none, .none, .none]) (fun _ s4 => ∃ H4, Inv X pins σ3 H4 s4 ∧ k H4) X.xe s3 := fun {k σ3 H3} I3 q3 =>
    thn (run_fn (dvs := []) (us := [.ref x, .none, .none, .none]) (vs := [.ref x, .non, .non, .non]) GX rx bx .nil C8.pass0 I3 (.cons rfl (.cons rfl (.cons rfl (.cons rfl .nil)))) q3) fun _ s4 ⟨_, H4, I4, _, q4⟩ => ⟨H4, I4, q4⟩
  show wpAny _ _ (call (.ref fx) [.ref x, .none, .none, .none]) _ _ s3
  cases f with
  | next =>
    obtain ⟨σ3, H3, I3, q3⟩ := h3
    exact thn (leave (I3.ofTry ok) q3) fun _ s4 ⟨H4, I4, q4⟩ => ⟨σ3, H4, I4, q4⟩
  | brk =>
    obtain ⟨σ3, H3, I3, q3⟩ := h3
    exact thn (leave (I3.ofTry ok) q3) fun _ s4 ⟨H4, I4, q4⟩ => ⟨σ3, H4, I4, q4⟩
  | cont =>
    obtain ⟨σ3, H3, I3, q3⟩ := h3
    exact thn (leave (I3.ofTry ok) q3) fun _ s4 ⟨H4, I4, q4⟩ => ⟨σ3, H4, I4, q4⟩
  | ret u3 =>
    obtain ⟨v3, σ3, H3, I3, rv3, q3⟩ := h3
    exact thn (leave (I3.ofTry ok) q3) fun _ s4 ⟨H4, I4, q4⟩ => ⟨v3, σ3, H4, I4, rv3, q4⟩
end
end WiX

set_option Elab.async false
set_option linter.all false
set_option maxRecDepth 100000
set_option maxHeartbeats 1000000
/-! _law_fails over lambdas of any maker; frames; == of data whatever the texts. -/
namespace SW
open PySem PySem.Spec PyProof.Rows L2
theorem gives1_fails {X : Cx} {g CF fI : Addr} {cdg : Value} {q : Str} (R : PySem.ReX.ReTxt X.K X.mg CF fI) (T : IsFacts X.K CF) (mI : X.mg "isinstance" = none) (mR : X.mg "RuntimeError" = none) (mV : X.mg "ValueError" = none) (mL : X.mg "LookupError" = none)
    (k1 : PySem.W.kitOne X.K (.ref CF) (.type "RuntimeError") = some true) (k2 : PySem.W.kitAny X.K (.ref CF) [.type "ValueError", .type "LookupError"] = some false) :
    LnX.Gives1 X ["asked", "caught", "e"] "_law_fails" (defScope sFails) g cdg (defBody sFails) "asked" q (TFails CF) := by
  intro f c' P2 s H Q tl act hc h
  refine ⟨_, pss_cons (ps_set (i := 1) scFails.nd rfl (Or.inl rfl) pe_non)
    (pss_cons (ps_try_keep (X := (cxOf C8.CX0 X.prog X.w X.K X.mg X.base ["asked", "caught", "e"] "_law_fails" (defScope sFails) g cdg X.A X.stack s H C8.E0).nox) (i := 2) (j := 1) (c := .ref CF)
        (tb := fun W D σ H => ∃ Ech : XK, (∀ cls d σ' H', Ech cls d H' → W cls d σ' H') ∧ σ[0]? = some (some (.ref f)) ∧ H c' = some (LnX.CodeP c' P2 q) ∧ tl Ech H fun _ H' => D.nx σ H')
        (x := "Fails") rfl rfl rfl scFails.nd rfl rfl rfl rfl (by show 2 < 3; decide) (by decide) ⟨by rfl, by decide, .inl R.gC⟩ LamX.takes0 (fun W pn xe tk _ => ?_))
    (pss_cons (ps_if (pt_cmp (pc_isN (pv 1))) (pss_one (ps_ret pe_str)) pss_nil)
    (pss_cons (ps_if (PW.pt (pw_or
        (pt_not (pt_val (pe_callB (call_isiEO R T) (by rfl) mI boot_isinstance (pa_cons (pv 1) (pa_cons (pe_bltn (v := .ty "RuntimeError") (u := .type "RuntimeError") (by rfl) mR (by decide +kernel) rfl) pa_nil)))))
        (pw_or1 (pt_val (pe_callB (call_isiEOT R T) (by rfl) mI boot_isinstance (pa_cons (pv 1) (pa_cons (pe_tup (pa_cons (pe_bltn (v := .ty "ValueError") (u := .type "ValueError") (by rfl) mV (by decide +kernel) rfl)
          (pa_cons (pe_bltn (v := .ty "LookupError") (u := .type "LookupError") (by rfl) mL (by decide +kernel) rfl) pa_nil))) pa_nil)))))))
      (pss_one (ps_ret pe_str)) pss_nil)
    (pss_one (ps_ret (pe_word R (pv 1))))))), ?_⟩
  · refine ⟨fun pins s' σ H' D I h' => ?_⟩
    obtain ⟨Ech, hW, h1, h2, h3⟩ := h'
    exact (pss_one (ps_expr (act W pn xe Ech _ _ tk hW))).run pins s' σ H' D I ⟨h1, h2, h3⟩
  · refine ⟨_, fun cls d σ' H' ⟨ec, dd, z, ed, hd, hq⟩ => ⟨true, by rw [ec]; exact R.te, fun _ hl a na => ?_, fun z => Bool.noConfusion z⟩, rfl, hc, h _⟩
    subst ec
    subst ed
    obtain ⟨v0, v1, v2, rfl⟩ : ∃ v0 v1 v2 : Option V, σ' = [v0, v1, v2] := by
      match σ', hl with
      | [v0, v1, v2], _ => exact ⟨v0, v1, v2, rfl⟩
    have ea : (upd H' a (EO a (.ref CF) (some dd))) a = some (EO a (.ref CF) (some dd)) := upd_same
    have edd : (upd H' a (EO a (.ref CF) (some dd))) dd = some (.xd [("word", .str z)]) := by
      rw [upd_ne (ne_of_none hd na)]
      exact hd
    have sm := same_new (o := EO a (.ref CF) (some dd)) na
    generalize upd H' a (EO a (.ref CF) (some dd)) = H1 at ea edd sm ⊢
    refine ⟨_, rfl, _, rfl, ?_⟩
    refine iteF ?_
    refine ⟨_, rfl, a, dd, _, _, _, true, rfl, .ty "RuntimeError", ea, edd, k1, _, rfl, ?_⟩
    refine iteF ?_
    refine ⟨_, rfl, (by show 2 ≤ sizeLine; decide), fun tp ntp => ?_⟩
    have s2 := same_new (o := .tup [.ty "ValueError", .ty "LookupError"]) ntp
    refine ⟨a, dd, tp, _, _, _, false, rfl, upd_same, .cons (.ty "ValueError") (.cons (.ty "LookupError") .nil), s2 _ _ ea, s2 _ _ edd, k2, _, rfl, ?_⟩
    refine iteF ?_
    exact ⟨_, rfl, a, dd, _, rfl, s2 _ _ ea, s2 _ _ edd, hq _ (sm.trans s2)⟩
/-! frames -/
/-- all but what stands in l stays -/
def Fr (l : List Addr) (H H' : Hp) : Prop := ∀ b o, H b = some o → b ∉ l → H' b = some o
theorem Fr.of {l : List Addr} {H H' : Hp} (s : Same H H') : Fr l H H' := fun b o e _ => s b o e
theorem Fr.refl {l : List Addr} {H : Hp} : Fr l H H := fun _ _ e _ => e
theorem Fr.trans {l : List Addr} {H H1 H2 : Hp} (a : Fr l H H1) (b : Fr l H1 H2) : Fr l H H2 := fun c o e n => b c o (a c o e n) n
theorem Fr.mono {l m : List Addr} {H H' : Hp} (a : Fr l H H') (h : ∀ x ∈ l, x ∈ m) : Fr m H H' := fun c o e n => a c o e fun z => n (h c z)
theorem Fr.one {a : Addr} {H : Hp} {o : HO} : Fr [a] H (upd H a o) := fun b u e n => by
  rw [upd_ne (fun z => n (by rw [z]; exact List.mem_cons_self))]
  exact e
theorem Fr.new {l : List Addr} {a : Addr} {H : Hp} {o : HO} (n : H a = none) : Fr l H (upd H a o) := Fr.of (same_new n)
/-- no table, no code object -/
def plainO (o : HO) : Prop := (∀ ps, o ≠ .tbl ps) ∧ ∀ φ, o ≠ .ext φ
theorem Fr.keepT {l : List Addr} {H H' : Hp} (f : Fr l H H') (h : ∀ x ∈ l, H x = none ∨ ∃ o, H x = some o ∧ plainO o) : LnX.KeepT H H' := fun b o e z => f b o e fun hm => by
  rcases h b hm with n | ⟨o2, e2, p1, p2⟩
  · rw [e] at n; cases n
  · rw [e] at e2
    cases e2
    rcases z with ⟨ps, z⟩ | ⟨φ, z⟩
    · exact p1 ps z
    · exact p2 φ z
/-- what the tables of code objects leave alone -/
theorem xk {H H' : Hp} (e : LamX.ExtN H H') {b : Addr} {o : HO} (h : H b = some o) (n : ∀ ps, o ≠ .tbl ps) : H' b = some o := e b o h n
/-! == and != of data, whatever the texts -/
section
variable {X : Cx}
def rEqP (K : PySem.W.Frag) (g : Bool → Bool) : R2 := fun x y H Q => ∃ d e, Dp K H x d ∧ Dp K H y e ∧ d.plain = true ∧ e.plain = true ∧ d.depth ≤ 64 ∧ Q (.bl (g (PyData.eqv d e))) H
theorem op_eqP (hu : X.A.units + 64 < cLine) : OpR X (compareOp .Eq) (rEqP X.K id) := by
  intro pins s σ H x y v u Q I rx ry h
  obtain ⟨d, e, hd, he, sd, se, dp, q⟩ := h
  obtain ⟨as, r1⟩ := Dp.reads I d x v hd rx
  obtain ⟨bs, r2⟩ := Dp.reads I e y u he ry
  have : min d.depth e.depth ≤ d.depth := Nat.min_le_left _ _
  exact SeqAt.eq_plain r1 r2 sd se (by omega) ⟨.bl _, H, I, rfl, q⟩
theorem op_neP (hu : X.A.units + 64 < cLine) : OpR X (compareOp .NotEq) (rEqP X.K (!·)) := by
  intro pins s σ H x y v u Q I rx ry h
  obtain ⟨d, e, hd, he, sd, se, dp, q⟩ := h
  obtain ⟨as, r1⟩ := Dp.reads I d x v hd rx
  obtain ⟨bs, r2⟩ := Dp.reads I e y u he ry
  have : min d.depth e.depth ≤ d.depth := Nat.min_le_left _ _
  exact SeqAt.ne_plain r1 r2 sd se (by omega) ⟨.bl _, H, I, rfl, q⟩
theorem passesN (X : Cx) : Passes (L2.CX X.prog X.w) X WiX.NoE := passes_call LamX.takes0 (fun _ _ _ _ h => h)
end
end SW

set_option Elab.async false
set_option linter.all false
set_option maxRecDepth 100000
set_option maxHeartbeats 1000000
/-! Contexts with their is_busy; tokens. -/
namespace SW
open PySem PySem.Spec PyProof.Rows L2
/-- a context at p that is in use, or not -/
def CtxB (C : Addr) (H : Hp) (p d : Addr) (m : Mp) (b : Bool) : Prop := (∃ dx, H p = some (.ins C dx (flds b d))) ∧ H d = some (.dK (kv m))
theorem CtxB.at {C : Addr} {H : Hp} {p d : Addr} {m : Mp} {b : Bool} (c : CtxB C H p d m b) : CtxAt C H p d m := let ⟨⟨dx, e⟩, h⟩ := c; ⟨⟨dx, b, e⟩, h⟩
theorem CtxB.fr {C : Addr} {H H' : Hp} {p d : Addr} {m : Mp} {b : Bool} {l : List Addr} (c : CtxB C H p d m b) (f : Fr l H H') (h1 : p ∉ l) (h2 : d ∉ l) : CtxB C H' p d m b := let ⟨⟨dx, e⟩, h⟩ := c; ⟨⟨dx, f _ _ e h1⟩, f _ _ h h2⟩
theorem CtxAt.fr {C : Addr} {H H' : Hp} {p d : Addr} {m : Mp} {l : List Addr} (c : CtxAt C H p d m) (f : Fr l H H') (h1 : p ∉ l) (h2 : d ∉ l) : CtxAt C H' p d m := let ⟨⟨dx, b, e⟩, h⟩ := c; ⟨⟨dx, b, f _ _ e h1⟩, f _ _ h h2⟩
theorem CtxB.x {C : Addr} {H H' : Hp} {p d : Addr} {m : Mp} {b : Bool} (c : CtxB C H p d m b) (e : LamX.ExtN H H') : CtxB C H' p d m b := let ⟨⟨dx, e1⟩, h⟩ := c; ⟨⟨dx, e _ _ e1 (by intro _ z; cases z)⟩, e _ _ h (by intro _ z; cases z)⟩
theorem flds_ne {b : Bool} {d : Addr} : flds b d ≠ [] := fun z => by
  have := flds_busy b d
  rw [z] at this
  cases this
theorem put_busy (b c : Bool) (d : Addr) : putF "is_busy" (.bl c) (flds b d) = flds c d := by
  have e : ∀ (b : Bool), flds b d = [(("is_busy" : Str), V.bl b), (("_held" : Str), V.ref d)] := fun b => by with_unfolding_all rfl
  rw [e, e]
  with_unfolding_all rfl
/-- tokens -/
abbrev cTok : Stmt := top 7
abbrev sTok : Stmt := inClass cTok 0
def tfl (p : Addr) (k : Str) (old : V) (u : Bool) : List (Str × V) := [("context", .ref p), ("variable", .str k), ("old", old), ("is_used", .bl u)]
def TokAt (T : Addr) (H : Hp) (t p : Addr) (k : Str) (old : V) (u : Bool) : Prop := ∃ dt, H t = some (.ins T dt (tfl p k old u))
theorem TokAt.fr {T : Addr} {H H' : Hp} {t p : Addr} {k : Str} {old : V} {u : Bool} {l : List Addr} (c : TokAt T H t p k old u) (f : Fr l H H') (h1 : t ∉ l) : TokAt T H' t p k old u := let ⟨dx, e⟩ := c; ⟨dx, f _ _ e h1⟩
theorem TokAt.x {T : Addr} {H H' : Hp} {t p : Addr} {k : Str} {old : V} {u : Bool} (c : TokAt T H t p k old u) (e : LamX.ExtN H H') : TokAt T H' t p k old u := let ⟨dx, e1⟩ := c; ⟨dx, e _ _ e1 (by intro _ z; cases z)⟩
theorem tfl_c (p : Addr) (k : Str) (old : V) (u : Bool) : (tfl p k old u).lookup ("context" : Str) = some (.ref p) := by with_unfolding_all rfl
theorem tfl_v (p : Addr) (k : Str) (old : V) (u : Bool) : (tfl p k old u).lookup ("variable" : Str) = some (.str k) := by with_unfolding_all rfl
theorem tfl_o (p : Addr) (k : Str) (old : V) (u : Bool) : (tfl p k old u).lookup ("old" : Str) = some old := by with_unfolding_all rfl
theorem tfl_u (p : Addr) (k : Str) (old : V) (u : Bool) : (tfl p k old u).lookup ("is_used" : Str) = some (.bl u) := by with_unfolding_all rfl
theorem put_used (p : Addr) (k : Str) (old : V) (u c : Bool) : putF "is_used" (.bl c) (tfl p k old u) = tfl p k old c := by with_unfolding_all rfl
theorem tfl_made (p : Addr) (k : Str) (old : V) (u : Bool) : putF "is_used" (.bl u) (putF "old" old (putF "variable" (.str k) (putF "context" (.ref p) []))) = tfl p k old u := by with_unfolding_all rfl
/-- the value of a variable, or None -/
def oldV : Option Int → V
  | none => .non
  | some v => .int v
structure TkC (K : PySem.W.Frag) (T : Addr) : Prop where
  cl : Cls K T
  nC : NoAttr K T "context"
  nV : NoAttr K T "variable"
  nO : NoAttr K T "old"
  nU : NoAttr K T "is_used"
/-- what is known of the class of contexts -/
structure CKit (P : Program) (w : World) (K : PySem.W.Frag) (mg : Str → Option Value) (base : Heap) (C CF : Addr) where
  T : TxC K mg C
  (fI T0 fG fH fL fP fS fD fY fW : Addr)
  (dI dG dH dL dP dS dD dY dW : FuncData)
  M : Mk K C fI
  GI : FnOk P w K mg base CX0 1 fI dI ["self", "pairs"] (spInit K C)
  bI : Binds K dI ["self", "pairs"] []
  b0 : Binds K dI ["self", "pairs"] [.ref T0]
  t0 : ∀ H, SqT K H T0 []
  GG : FnOk P w K mg base (L2.CX P w) 3 fG dG ["self", "variable"] (spGet CF C)
  GH : FnOk P w K mg base CX0 1 fH dH ["self", "variable"] (spHas C)
  GL : FnOk P w K mg base CX0 1 fL dL ["self"] (spLen C)
  GP : FnOk P w K mg base CX0 1 fP dP ["self"] (spPairs K C)
  GS : FnOk P w K mg base CX0 1 fS dS ["self", "variable", "value"] (spSet C)
  GD : FnOk P w K mg base CX0 1 fD dD ["self", "variable"] (spDrop C)
  GY : FnOk P w K mg base CX0 3 fY dY ["self"] (spCopy C)
  GW : FnOk P w K mg base CX0 1 fW dW ["self", "other"] (spSame C)
  bG : Binds K dG ["self", "variable"] []
  bH : Binds K dH ["self", "variable"] []
  bL : Binds K dL ["self"] []
  bP : Binds K dP ["self"] []
  bS : Binds K dS ["self", "variable", "value"] []
  bD : Binds K dD ["self", "variable"] []
  bY : Binds K dY ["self"] []
  bW : Binds K dW ["self", "other"] []
  mP : Meth K C "pairs" fP
  mD : Meth K C "drop" fD
  mY : Meth K C "copy" fY
  mW : Meth K C "is_same" fW
  sG : PySem.W.findIn K (.ref C) "__getitem__" = some (some (.ref fG))
  sH : PySem.W.findIn K (.ref C) "__contains__" = some (some (.ref fH))
  sL : PySem.W.findIn K (.ref C) "__len__" = some (some (.ref fL))
  sS : PySem.W.findIn K (.ref C) "__setitem__" = some (some (.ref fS))
  iG : PySem.W.isFn K (.ref fG) = true
  iH : PySem.W.isFn K (.ref fH) = true
  iL : PySem.W.isFn K (.ref fL) = true
  iS : PySem.W.isFn K (.ref fS) = true
  jG : PySem.W.fnIn K fG = true
  nq : PySem.W.noSeq K C = true
def spTok (T C : Addr) : Sp := fun vs H Q _ => ∃ (t dt p d : Addr) (m : Mp) (k : Str), vs = [.ref t, .ref p, .str k] ∧ H t = some (.ins T dt []) ∧ CtxAt C H p d m ∧
  ∀ H', H' t = some (.ins T dt (tfl p k (oldV (aget m k)) false)) → Fr [t] H H' → Q .non H'
theorem ctx_off {C : Addr} {H : Hp} {p d : Addr} {m : Mp} (c : CtxAt C H p d m) {t T dt : Addr} {fs : List (Str × V)} (h : H t = some (.ins T dt fs)) (n : ∀ b, fs ≠ flds b d) : p ≠ t ∧ d ≠ t := by
  obtain ⟨⟨dx, b, e⟩, h2⟩ := c
  exact ⟨ne_of e h (by intro z; injection z with _ _ z2; exact n b z2.symm), ne_of h2 h (by intro z; cases z)⟩
section
variable {P : Program} {w : World} {K : PySem.W.Frag} {mg : Str → Option Value} {base : Heap}
theorem scTok : FnScope ["self", "context", "variable"] ["self", "context", "variable"] (defScope sTok) := ⟨rfl, rfl, rfl, by decide +kernel, rfl, by decide +kernel, by decide +kernel⟩
theorem ok_tok {f C CF T : Addr} {fd : FuncData} (F : Fun K "__init__" "Token.__init__" sTok f fd) (Z : CKit P w K mg base C CF) (t : TkC K T) : FnOk P w K mg base CX0 5 f fd ["self", "context", "variable"] (spTok T C) := by
  refine F.ok scTok (fun vs H Q E h => ?_) (fun cdv A outer s H vs Q E hr h => ?_)
  · obtain ⟨t, dt, p, d, m, k, rfl, _⟩ := h
    rfl
  · obtain ⟨x, dt, p, d, m, k, rfl, hx, c, q⟩ := h
    have hr1 : Room 1 _ := hr.mono (by decide)
    have hr4 : Room 4 _ := hr.mono (by decide)
    refine ⟨_, PSs.nox (pss_cons (ps_fld (pv 0) (pv 1) rfl) (pss_cons (ps_fld (pv 0) (pv 2) rfl)
      (pss_cons (ps_fld (pv 0) (pe_ifExp (pt_cmpR (op_in_own Z.sH Z.iH Z.GH hr1 Z.bH pass0) (pv 2) (pv 1) rfl) (pe_own (E := WiX.NoE) Z.sG Z.iG Z.jG Z.GG hr4 Z.bG (passesN _) (pv 1) (pv 2) (fun _ _ => rfl)) pe_non) rfl)
      (pss_one (ps_fld (pv 0) pe_bl rfl))))), ?_⟩
    obtain ⟨n1, n2⟩ := ctx_off c hx (fun b z => flds_ne z.symm)
    have ke : ∀ (H1 : Hp), Fr [x] H H1 → CtxAt C H1 p d m := fun H1 f => c.fr f (by simpa using n1) (by simpa using n2)
    refine ⟨_, rfl, _, rfl, x, T, dt, [], rfl, hx, t.cl, t.nC, (by show 0 < 1000; decide), ?_⟩
    have f1 : Fr [x] H (upd H x (.ins T dt (putF "context" (.ref p) []))) := Fr.one
    have e1 : (upd H x (.ins T dt (putF "context" (.ref p) []))) x = some (.ins T dt (putF "context" (.ref p) [])) := upd_same
    generalize (upd H x (.ins T dt (putF "context" (.ref p) []))) = H1 at f1 e1 ⊢
    refine ⟨_, rfl, _, rfl, x, T, dt, _, rfl, e1, t.cl, t.nV, (by show 1 < 1000; decide), ?_⟩
    obtain ⟨g, eg⟩ : ∃ g, g = putF "variable" (.str k) (putF "context" (.ref p) []) := ⟨_, rfl⟩
    have f2 : Fr [x] H (upd H1 x (.ins T dt g)) := f1.trans Fr.one
    have e2 : (upd H1 x (.ins T dt g)) x = some (.ins T dt g) := upd_same
    rw [← eg]
    generalize (upd H1 x (.ins T dt g)) = H2 at f2 e2 ⊢
    have gl : g.length < 1000 := by rw [eg]; show 2 < 1000; decide
    have c2 := ke H2 f2
    obtain ⟨⟨dx, b, e⟩, _⟩ := id c2
    have last : ∀ o : V, o = oldV (aget m k) → Q .non (upd (upd H2 x (.ins T dt (putF "old" o g))) x (.ins T dt (putF "is_used" (.bl false) (putF "old" o g)))) := fun o eo => by
      refine q _ ?_ ((f2.trans Fr.one).trans Fr.one)
      rw [upd_same, eg, eo, tfl_made]
    refine ⟨_, rfl, _, rfl, p, dx, _, rfl, e, p, d, m, k, rfl, c2, _, rfl, _, rfl, ?_⟩
    cases ev : aget m k with
    | none => exact iteF ⟨_, rfl, x, T, dt, g, rfl, e2, t.cl, t.nO, gl, _, rfl, x, T, dt, _, rfl, upd_same, t.cl, t.nU, (by rw [eg]; show 3 < 1000; decide), last .non (by rw [ev]; rfl)⟩
    | some v => exact iteT ⟨_, rfl, _, rfl, p, dx, _, rfl, e, p, d, m, k, rfl, c2, fun v' e' => by
        rw [ev] at e'
        cases e'
        exact ⟨_, rfl, x, T, dt, g, rfl, e2, t.cl, t.nO, gl, _, rfl, x, T, dt, _, rfl, upd_same, t.cl, t.nU, (by rw [eg]; show 3 < 1000; decide), last (.int v) (by rw [ev]; rfl)⟩, fun z => by rw [ev] at z; cases z⟩
end
end SW

set_option Elab.async false
set_option linter.all false
set_option maxRecDepth 100000
set_option maxHeartbeats 1000000
/-! Within: entered, left; the room. -/
namespace SW
open PySem PySem.Spec PyProof.Rows L2
abbrev cWin : Stmt := top 68
abbrev sWinI : Stmt := inClass cWin 0
abbrev sEnter : Stmt := inClass cWin 1
abbrev sExit : Stmt := inClass cWin 2
def wfl (r p : Addr) (e : V) : List (Str × V) := [("room", .ref r), ("context", .ref p), ("elder", e)]
def rfl_ (bk : V) (le : Addr × List V) (p : Addr) : List (Str × V) := [("_book", bk), ("_events", .ref le.1), ("now", .ref p)]
theorem wfl_r (r p : Addr) (e : V) : (wfl r p e).lookup ("room" : Str) = some (.ref r) := by with_unfolding_all rfl
theorem wfl_c (r p : Addr) (e : V) : (wfl r p e).lookup ("context" : Str) = some (.ref p) := by with_unfolding_all rfl
theorem wfl_e (r p : Addr) (e : V) : (wfl r p e).lookup ("elder" : Str) = some e := by with_unfolding_all rfl
theorem wfl_put (r p : Addr) (e e' : V) : putF "elder" e' (wfl r p e) = wfl r p e' := by with_unfolding_all rfl
theorem wfl_made (r p : Addr) (e : V) : putF "elder" e (putF "context" (.ref p) (putF "room" (.ref r) [])) = wfl r p e := by with_unfolding_all rfl
theorem rfl_b (bk : V) (le : Addr × List V) (p : Addr) : (rfl_ bk le p).lookup ("_book" : Str) = some bk := by with_unfolding_all rfl
theorem rfl_e (bk : V) (le : Addr × List V) (p : Addr) : (rfl_ bk le p).lookup ("_events" : Str) = some (.ref le.1) := by with_unfolding_all rfl
theorem rfl_n (bk : V) (le : Addr × List V) (p : Addr) : (rfl_ bk le p).lookup ("now" : Str) = some (.ref p) := by with_unfolding_all rfl
theorem rfl_put (bk : V) (le : Addr × List V) (p q : Addr) : putF "now" (.ref q) (rfl_ bk le p) = rfl_ bk le q := by with_unfolding_all rfl
theorem rfl_made (bk : V) (le : Addr × List V) (p : Addr) : putF "now" (.ref p) (putF "_events" (.ref le.1) (putF "_book" bk [])) = rfl_ bk le p := by with_unfolding_all rfl
/-- a room at r whose current context is p; its log is empty -/
def RoomAt (R : Addr) (H : Hp) (r : Addr) (le : Addr × List V) (p : Addr) : Prop := ∃ dr bk, H r = some (.ins R dr (rfl_ bk le p)) ∧ H le.1 = some (.lst le.2)
theorem RoomAt.fr {R : Addr} {H H' : Hp} {r : Addr} {le : Addr × List V} {p : Addr} {l : List Addr} (c : RoomAt R H r le p) (f : Fr l H H') (h1 : r ∉ l) (h2 : le.1 ∉ l) : RoomAt R H' r le p := let ⟨dr, bk, e, e2⟩ := c; ⟨dr, bk, f _ _ e h1, f _ _ e2 h2⟩
theorem RoomAt.x {R : Addr} {H H' : Hp} {r : Addr} {le : Addr × List V} {p : Addr} (c : RoomAt R H r le p) (e : LamX.ExtN H H') : RoomAt R H' r le p := let ⟨dr, bk, e1, e2⟩ := c; ⟨dr, bk, e _ _ e1 (by intro _ z; cases z), e _ _ e2 (by intro _ z; cases z)⟩
def WinAt (W : Addr) (H : Hp) (x r p : Addr) (e : V) : Prop := ∃ dx, H x = some (.ins W dx (wfl r p e))
theorem WinAt.fr {W : Addr} {H H' : Hp} {x r p : Addr} {e : V} {l : List Addr} (c : WinAt W H x r p e) (f : Fr l H H') (h1 : x ∉ l) : WinAt W H' x r p e := let ⟨dx, h⟩ := c; ⟨dx, f _ _ h h1⟩
structure WnC (K : PySem.W.Frag) (W : Addr) : Prop where
  cl : Cls K W
  nR : NoAttr K W "room"
  nC : NoAttr K W "context"
  nE : NoAttr K W "elder"
structure RoC (K : PySem.W.Frag) (R : Addr) : Prop where
  cl : Cls K R
  nB : NoAttr K R "_book"
  nE : NoAttr K R "_events"
  nN : NoAttr K R "now"
/-- the fields tell the things apart -/
theorem room_ctx {R C : Addr} {H : Hp} {r : Addr} {le : Addr × List V} {p q d : Addr} {m : Mp} {b : Bool} (h : RoomAt R H r le p) (c : CtxB C H q d m b) : r ≠ q ∧ r ≠ d ∧ le.1 ≠ q ∧ le.1 ≠ d := by
  obtain ⟨dr, bk, e1, e2⟩ := h
  obtain ⟨⟨dx, e3⟩, e4⟩ := c
  have z0 : ∀ b d, rfl_ bk le p ≠ flds b d := fun b d z => by
    have := congrArg (fun l => List.lookup ("now" : Str) l) z
    simp only [rfl_n] at this
    rw [flds_no b d (by decide +kernel) (by decide +kernel)] at this
    cases this
  exact ⟨ne_of e1 e3 (by intro z; injection z with _ _ z; exact z0 _ _ z), ne_of e1 e4 (by intro z; cases z), ne_of e2 e3 (by intro z; cases z), ne_of e2 e4 (by intro z; cases z)⟩
theorem win_ctx {W C : Addr} {H : Hp} {x r p q d : Addr} {e : V} {m : Mp} {b : Bool} (h : WinAt W H x r p e) (c : CtxB C H q d m b) : x ≠ q ∧ x ≠ d := by
  obtain ⟨dr, e1⟩ := h
  obtain ⟨⟨dx, e3⟩, e4⟩ := c
  have z0 : ∀ b d, wfl r p e ≠ flds b d := fun b d z => by
    have := congrArg (fun l => List.lookup ("room" : Str) l) z
    simp only [wfl_r] at this
    rw [flds_no b d (by decide +kernel) (by decide +kernel)] at this
    cases this
  exact ⟨ne_of e1 e3 (by intro z; injection z with _ _ z; exact z0 _ _ z), ne_of e1 e4 (by intro z; cases z)⟩
theorem win_room {W R : Addr} {H : Hp} {x r p s : Addr} {le : Addr × List V} {q : Addr} {e : V} (h : WinAt W H x r p e) (c : RoomAt R H s le q) : x ≠ s ∧ x ≠ le.1 := by
  obtain ⟨dr, e1⟩ := h
  obtain ⟨_, bk, e3, e4⟩ := c
  have z0 : wfl r p e ≠ rfl_ bk le q := fun z => by
    have := congrArg (fun l => List.lookup ("room" : Str) l) z
    simp only [wfl_r] at this
    have z2 : (rfl_ bk le q).lookup ("room" : Str) = none := by with_unfolding_all rfl
    rw [z2] at this
    cases this
  exact ⟨ne_of e1 e3 (by intro z; injection z with _ _ z; exact z0 z), ne_of e1 e4 (by intro z; cases z)⟩
theorem room_le {R : Addr} {H : Hp} {r : Addr} {le : Addr × List V} {p : Addr} (h : RoomAt R H r le p) : le.1 ≠ r := by
  obtain ⟨_, _, e1, e2⟩ := h
  exact ne_of e2 e1 (by intro z; cases z)
theorem ctx_pd {C : Addr} {H : Hp} {p d : Addr} {m : Mp} {b : Bool} (h : CtxB C H p d m b) : d ≠ p := by
  obtain ⟨⟨_, e1⟩, e2⟩ := h
  exact ne_of e2 e1 (by intro z; cases z)
/-! promises -/
def spWinI (W : Addr) : Sp := fun vs H Q _ => ∃ (x dx r p : Addr), vs = [.ref x, .ref r, .ref p] ∧ H x = some (.ins W dx []) ∧ ∀ H', WinAt W H' x r p .non → Fr [x] H H' → Q .non H'
def spEnter (W C R CF : Addr) : Sp := fun vs H Q E => ∃ (x r p d : Addr) (le : Addr × List V) (q : Addr) (m : Mp) (b : Bool) (e : V), vs = [.ref x] ∧ WinAt W H x r p e ∧ RoomAt R H r le q ∧ CtxB C H p d m b ∧
  (b = false → ∀ H', WinAt W H' x r p (.ref q) → RoomAt R H' r le p → CtxB C H' p d m true → Fr [x, r, p] H H' → Q (.ref p) H') ∧
  (b = true → ∀ z, H z = none → E (.ref CF) (some z) (upd H z (.xd [("word", .str "entered")])))
def spExit (W C R : Addr) : Sp := fun vs H Q _ => ∃ (x r p d : Addr) (le : Addr × List V) (q q2 : Addr) (m : Mp) (b : Bool) (u1 u2 u3 : V), vs = [.ref x, u1, u2, u3] ∧ WinAt W H x r p (.ref q) ∧ RoomAt R H r le q2 ∧ CtxB C H p d m b ∧
  ∀ H', RoomAt R H' r le q → CtxB C H' p d m false → Fr [r, p] H H' → Q .non H'
section
variable {P : Program} {w : World} {K : PySem.W.Frag} {mg : Str → Option Value} {base : Heap}
theorem scWinI : FnScope ["self", "room", "context"] ["self", "room", "context"] (defScope sWinI) := ⟨rfl, rfl, rfl, by decide +kernel, rfl, by decide +kernel, by decide +kernel⟩
theorem ok_winI {f W : Addr} {fd : FuncData} (F : Fun K "__init__" "Within.__init__" sWinI f fd) (t : WnC K W) : FnOk P w K mg base CX0 1 f fd ["self", "room", "context"] (spWinI W) := by
  refine F.ok scWinI (fun vs H Q E h => ?_) (fun cdv A outer s H vs Q E hr h => ?_)
  · obtain ⟨x, dx, r, p, rfl, _⟩ := h
    rfl
  · obtain ⟨x, dx, r, p, rfl, hx, q⟩ := h
    refine ⟨_, PSs.nox (pss_cons (ps_fld (pv 0) (pv 1) rfl) (pss_cons (ps_fld (pv 0) (pv 2) rfl) (pss_one (ps_fld (pv 0) pe_non rfl)))), ?_⟩
    refine ⟨_, rfl, _, rfl, x, W, dx, [], rfl, hx, t.cl, t.nR, (by show 0 < 1000; decide), ?_⟩
    refine ⟨_, rfl, _, rfl, x, W, dx, _, rfl, upd_same, t.cl, t.nC, (by show 1 < 1000; decide), ?_⟩
    refine ⟨_, rfl, x, W, dx, _, rfl, upd_same, t.cl, t.nE, (by show 2 < 1000; decide), ?_⟩
    refine q _ ⟨dx, ?_⟩ ((Fr.one.trans Fr.one).trans Fr.one)
    rw [upd_same, wfl_made]
theorem scEnter : FnScope ["self"] ["self"] (defScope sEnter) := ⟨rfl, rfl, rfl, by decide +kernel, rfl, by decide +kernel, by decide +kernel⟩
theorem ok_enter {f W C R CF fI : Addr} {fd : FuncData} (F : Fun K "__enter__" "Within.__enter__" sEnter f fd) (t : WnC K W) (T : TxC K mg C) (RR : RoC K R) (X : PySem.ReX.ReTxt K mg CF fI) : FnOk P w K mg base (L2.CX P w) 3 f fd ["self"] (spEnter W C R CF) := by
  refine F.okX scEnter (fun vs H Q E h => ?_) (fun cdv A outer s H vs Q E hr h => ?_)
  · obtain ⟨x, r, p, d, le, q, m, b, e, rfl, _⟩ := h
    rfl
  · obtain ⟨x, r, p, d, le, q, m, b, e, rfl, hx, hR, hc, q1, q2⟩ := h
    refine ⟨_, pss_cons (ps_if (pt_val (pe_fld (pe_fld (pv 0) rfl) rfl)) (pss_one (ps_raiseRe rfl X hr (takes_of rfl rfl rfl rfl) (by exact (pa_cons pe_str pa_nil)))) pss_nil)
      (pss_cons (ps_fld (pv 0) (pe_fld (pe_fld (pv 0) rfl) rfl) rfl)
      (pss_cons (ps_fld (pe_fld (pv 0) rfl) (pe_fld (pv 0) rfl) rfl)
      (pss_cons (ps_fld (pe_fld (pv 0) rfl) pe_bl rfl)
      (pss_one (ps_ret (pe_fld (pv 0) rfl)))))), ?_⟩
    obtain ⟨n1, n2⟩ := win_ctx hx hc
    obtain ⟨n3, n4⟩ := win_room hx hR
    obtain ⟨n5, n6, n7, n8⟩ := room_ctx hR hc
    have n9 := room_le hR
    have n10 := ctx_pd hc
    obtain ⟨dx, ex⟩ := hx
    obtain ⟨dr, bk, er, el⟩ := hR
    obtain ⟨⟨dp, ep⟩, ed⟩ := hc
    refine ⟨_, rfl, x, W, dx, _, _, rfl, ex, t.cl, t.nC, wfl_c r p e, p, C, dp, _, _, rfl, ep, T.cl, T.nB, flds_busy b d, b, rfl, ?_⟩
    cases b with
    | true => exact iteT ⟨_, rfl, fun z hz => q2 rfl z hz⟩
    | false =>
      refine iteF ?_
      refine ⟨_, rfl, x, W, dx, _, _, rfl, ex, t.cl, t.nR, wfl_r r p e, r, R, dr, _, _, rfl, er, RR.cl, RR.nN, rfl_n bk le q, ?_⟩
      refine ⟨_, rfl, x, W, dx, _, rfl, ex, t.cl, t.nE, (by show 3 < 1000; decide), ?_⟩
      rw [wfl_put]
      have f1 : Fr [x, r, p] H (upd H x (.ins W dx (wfl r p (.ref q)))) := Fr.one.mono (by simp)
      have ex1 : (upd H x (.ins W dx (wfl r p (.ref q)))) x = some (.ins W dx (wfl r p (.ref q))) := upd_same
      have er1 : (upd H x (.ins W dx (wfl r p (.ref q)))) r = some (.ins R dr (rfl_ bk le q)) := by rw [upd_ne n3.symm]; exact er
      have ep1 : (upd H x (.ins W dx (wfl r p (.ref q)))) p = some (.ins C dp (flds false d)) := by rw [upd_ne n1.symm]; exact ep
      generalize (upd H x (.ins W dx (wfl r p (.ref q)))) = H1 at f1 ex1 er1 ep1 ⊢
      refine ⟨_, rfl, x, W, dx, _, _, rfl, ex1, t.cl, t.nC, wfl_c r p _, ?_⟩
      refine ⟨_, rfl, x, W, dx, _, _, rfl, ex1, t.cl, t.nR, wfl_r r p _, r, R, dr, _, rfl, er1, RR.cl, RR.nN, (by show 3 < 1000; decide), ?_⟩
      rw [rfl_put]
      have f2 : Fr [x, r, p] H (upd H1 r (.ins R dr (rfl_ bk le p))) := f1.trans (Fr.one.mono (by simp))
      have er2 : (upd H1 r (.ins R dr (rfl_ bk le p))) r = some (.ins R dr (rfl_ bk le p)) := upd_same
      have ex2 : (upd H1 r (.ins R dr (rfl_ bk le p))) x = some (.ins W dx (wfl r p (.ref q))) := by rw [upd_ne n3]; exact ex1
      have ep2 : (upd H1 r (.ins R dr (rfl_ bk le p))) p = some (.ins C dp (flds false d)) := by rw [upd_ne n5.symm]; exact ep1
      generalize (upd H1 r (.ins R dr (rfl_ bk le p))) = H2 at f2 ex2 er2 ep2 ⊢
      refine ⟨_, rfl, x, W, dx, _, _, rfl, ex2, t.cl, t.nC, wfl_c r p _, p, C, dp, _, rfl, ep2, T.cl, T.nB, (by show 2 < 1000; decide), ?_⟩
      rw [put_busy]
      have f3 : Fr [x, r, p] H (upd H2 p (.ins C dp (flds true d))) := f2.trans (Fr.one.mono (by simp))
      have er3 : (upd H2 p (.ins C dp (flds true d))) r = some (.ins R dr (rfl_ bk le p)) := by rw [upd_ne n5]; exact er2
      have ex3 : (upd H2 p (.ins C dp (flds true d))) x = some (.ins W dx (wfl r p (.ref q))) := by rw [upd_ne n1]; exact ex2
      have ep3 : (upd H2 p (.ins C dp (flds true d))) p = some (.ins C dp (flds true d)) := upd_same
      generalize (upd H2 p (.ins C dp (flds true d))) = H3 at f3 ex3 er3 ep3 ⊢
      exact ⟨_, rfl, x, W, dx, _, _, rfl, ex3, t.cl, t.nC, wfl_c r p _, q1 rfl H3 ⟨dx, ex3⟩ ⟨dr, bk, er3, f3 _ _ el (by simp [n4.symm, n9, n7])⟩ ⟨⟨dp, ep3⟩, f3 _ _ ed (by simp [n2.symm, n6.symm, n10])⟩ f3⟩
theorem scExit : FnScope ["self", "kind", "value", "trace"] ["self", "kind", "value", "trace"] (defScope sExit) := ⟨rfl, rfl, rfl, by decide +kernel, rfl, by decide +kernel, by decide +kernel⟩
/-- the exit's body, wherever it is read -/
theorem exit_read {W C R : Addr} {H : Hp} {Q : VK} {E : XK} {vs : List V} (t : WnC K W) (T : TxC K mg C) (RR : RoC K R) (h : spExit W C R vs H Q E) :
    tSeq (sFld K (tFld K (tVar 0) "room") (tFld K (tVar 0) "elder") "now") (sFld K (tFld K (tVar 0) "context") (tC (.bl false)) "is_busy") { nx := fun _ H' => Q .non H', rt := Q } (L2.start ["self", "kind", "value", "trace"] vs) H := by
  obtain ⟨x, r, p, d, le, q, q2, m, b, u1, u2, u3, rfl, hx, hR, hc, q1⟩ := h
  obtain ⟨n1, n2⟩ := win_ctx hx hc
  obtain ⟨n3, n4⟩ := win_room hx hR
  obtain ⟨n5, n6, n7, n8⟩ := room_ctx hR hc
  have n9 := room_le hR
  have n10 := ctx_pd hc
  obtain ⟨dx, ex⟩ := hx
  obtain ⟨dr, bk, er, el⟩ := hR
  obtain ⟨⟨dp, ep⟩, ed⟩ := hc
  refine ⟨_, rfl, x, W, dx, _, _, rfl, ex, t.cl, t.nE, wfl_e r p _, ?_⟩
  refine ⟨_, rfl, x, W, dx, _, _, rfl, ex, t.cl, t.nR, wfl_r r p _, r, R, dr, _, rfl, er, RR.cl, RR.nN, (by show 3 < 1000; decide), ?_⟩
  rw [rfl_put]
  have f2 : Fr [r, p] H (upd H r (.ins R dr (rfl_ bk le q))) := Fr.one.mono (by simp)
  have er2 : (upd H r (.ins R dr (rfl_ bk le q))) r = some (.ins R dr (rfl_ bk le q)) := upd_same
  have ex2 : (upd H r (.ins R dr (rfl_ bk le q))) x = some (.ins W dx (wfl r p (.ref q))) := by rw [upd_ne n3]; exact ex
  have ep2 : (upd H r (.ins R dr (rfl_ bk le q))) p = some (.ins C dp (flds b d)) := by rw [upd_ne n5.symm]; exact ep
  generalize (upd H r (.ins R dr (rfl_ bk le q))) = H2 at f2 ex2 er2 ep2 ⊢
  refine ⟨_, rfl, x, W, dx, _, _, rfl, ex2, t.cl, t.nC, wfl_c r p _, p, C, dp, _, rfl, ep2, T.cl, T.nB, (by show 2 < 1000; decide), ?_⟩
  rw [put_busy]
  have f3 : Fr [r, p] H (upd H2 p (.ins C dp (flds false d))) := f2.trans (Fr.one.mono (by simp))
  have er3 : (upd H2 p (.ins C dp (flds false d))) r = some (.ins R dr (rfl_ bk le q)) := by rw [upd_ne n5]; exact er2
  have ep3 : (upd H2 p (.ins C dp (flds false d))) p = some (.ins C dp (flds false d)) := upd_same
  generalize (upd H2 p (.ins C dp (flds false d))) = H3 at f3 er3 ep3 ⊢
  exact q1 H3 ⟨dr, bk, er3, f3 _ _ el (by simp [n9, n7])⟩ ⟨⟨dp, ep3⟩, f3 _ _ ed (by simp [n6.symm, n10])⟩ f3
theorem exit_few {W C R : Addr} (vs : List V) (H : Hp) (Q : VK) (E : XK) (h : spExit W C R vs H Q E) : vs.length = (["self", "kind", "value", "trace"] : List Str).length := by
  obtain ⟨x, r, p, d, le, q, q2, m, b, u1, u2, u3, rfl, _⟩ := h
  rfl
theorem ok_exit {f W C R : Addr} {fd : FuncData} (F : Fun K "__exit__" "Within.__exit__" sExit f fd) (t : WnC K W) (T : TxC K mg C) (RR : RoC K R) : FnOk P w K mg base C8.CX0 1 f fd ["self", "kind", "value", "trace"] (spExit W C R) := by
  refine F.ok scExit exit_few (fun cdv A outer s H vs Q E hr h => ?_)
  exact ⟨_, PSs.nox (pss_cons (ps_fld (pe_fld (pv 0) rfl) (pe_fld (pv 0) rfl) rfl) (pss_one (ps_fld (pe_fld (pv 0) rfl) pe_bl rfl))), exit_read t T RR h⟩
theorem okq_exit {f W C R : Addr} {fd : FuncData} (F : Fun K "__exit__" "Within.__exit__" sExit f fd) (t : WnC K W) (T : TxC K mg C) (RR : RoC K R) : WiX.FnQ P w K mg base 1 f fd ["self", "kind", "value", "trace"] (spExit W C R) := by
  refine WiX.fnq_of F scExit exit_few (fun A outer s H vs Q cd a h => ?_)
  exact ⟨_, (pss_cons (ps_fld (pe_fld (pv 0) rfl) (pe_fld (pv 0) rfl) rfl) (pss_one (ps_fld (pe_fld (pv 0) rfl) pe_bl rfl))), exit_read t T RR h⟩
end
end SW

set_option Elab.async false
set_option linter.all false
set_option maxRecDepth 100000
set_option maxHeartbeats 1000000
/-! The room's plain methods. -/
namespace SW
open PySem PySem.Spec PyProof.Rows L2
theorem same_make {H : Hp} {x dx C : Addr} (nx : H x = none) (nd : H dx = none) : Same H (upd (upd H dx (.own x)) x (.ins C dx [])) := fun b o e => by
  rw [upd_ne (ne_of_none e nx), upd_ne (ne_of_none e nd)]
  exact e
theorem same_frNew {H H1 H2 : Hp} {x : Addr} (s : Same H H1) (f : Fr [x] H1 H2) (n : H x = none) : Same H H2 := fun b o e => f b o (s b o e) (by simpa using ne_of_none e n)
theorem fr_frNew {l : List Addr} {H H1 H2 : Hp} {x : Addr} (s : Fr l H H1) (f : Fr [x] H1 H2) (n : H x = none) : Fr l H H2 := fun b o e m => f b o (s b o e m) (by simpa using ne_of_none e n)
abbrev cRoom : Stmt := top 70
abbrev sRInit : Stmt := inClass cRoom 0
abbrev sPut : Stmt := inClass cRoom 1
abbrev sRDrop : Stmt := inClass cRoom 2
abbrev sRead : Stmt := inClass cRoom 3
abbrev sHold : Stmt := inClass cRoom 6
abbrev sReset : Stmt := inClass cRoom 7
abbrev sRCopy : Stmt := inClass cRoom 8
abbrev sRun : Stmt := inClass cRoom 9
abbrev sWithin : Stmt := inClass cRoom 10
abbrev sLog : Stmt := inClass cRoom 12
/-- what a reset makes of the pairs -/
def rset (m : Mp) (k : Str) : Option Int → Mp
  | none => adrop m k
  | some v => aput m k v
def spRInit (K : PySem.W.Frag) (R C : Addr) : Sp := fun vs H Q _ => ∃ (r dr : Addr) (bv : V) (t : BK.Tr), vs = [.ref r, bv] ∧ H r = some (.ins R dr []) ∧ BK.TrAt K H bv t ∧ BK.faultT t = none ∧
  ∀ (le : Addr × List V) (p d : Addr) (H' : Hp), le.2 = [] → H le.1 = none → H p = none → H d = none → RoomAt R H' r le p → CtxB C H' p d [] true → Fr [r] H H' → Q .non H'
def spPut (R C : Addr) : Sp := fun vs H Q _ => ∃ (r : Addr) (le : Addr × List V) (p d : Addr) (m : Mp) (k : Str) (v : Int), vs = [.ref r, .str k, .int v] ∧ RoomAt R H r le p ∧ CtxAt C H p d m ∧ m.length ≤ 100 ∧ ∀ H', H' d = some (.dK (kv (aput m k v))) → Fr [d] H H' → Q .non H'
def spRDrop (R C : Addr) : Sp := fun vs H Q _ => ∃ (r : Addr) (le : Addr × List V) (p d : Addr) (m : Mp) (k : Str), vs = [.ref r, .str k] ∧ RoomAt R H r le p ∧ CtxAt C H p d m ∧ (keys m).Nodup ∧ ∀ H', H' d = some (.dK (kv (adrop m k))) → Fr [d] H H' → Q .non H'
def spRead (R C CF : Addr) : Sp := fun vs H Q E => ∃ (r : Addr) (le : Addr × List V) (p d : Addr) (m : Mp) (k : Str), vs = [.ref r, .str k] ∧ RoomAt R H r le p ∧ CtxAt C H p d m ∧ (∀ v, aget m k = some v → Q (.int v) H) ∧
  (aget m k = none → ∀ x : Addr, H x = none → E (.ref CF) (some x) (upd H x (.xd [("word", .str "unset")])))
def spHold (R C T : Addr) : Sp := fun vs H Q _ => ∃ (r : Addr) (le : Addr × List V) (p d : Addr) (m : Mp) (k : Str) (v : Int), vs = [.ref r, .str k, .int v] ∧ RoomAt R H r le p ∧ CtxAt C H p d m ∧ m.length ≤ 100 ∧
  ∀ (t : Addr) H', H t = none → TokAt T H' t p k (oldV (aget m k)) false → H' d = some (.dK (kv (aput m k v))) → Fr [d] H H' → Q (.ref t) H'
def spReset (R C T CF : Addr) : Sp := fun vs H Q E => ∃ (r : Addr) (le : Addr × List V) (p d t q dq : Addr) (m mq : Mp) (k : Str) (o : Option Int) (u : Bool), vs = [.ref r, .ref t] ∧ RoomAt R H r le p ∧ CtxAt C H p d m ∧ (keys m).Nodup ∧ m.length ≤ 100 ∧ TokAt T H t q k (oldV o) u ∧ CtxAt C H q dq mq ∧
  (u = true → ∀ z, H z = none → E (.ref CF) (some z) (upd H z (.xd [("word", .str "used")]))) ∧
  (u = false → q ≠ p → ∀ z, H z = none → E (.ref CF) (some z) (upd H z (.xd [("word", .str "elsewhere")]))) ∧
  (u = false → q = p → ∀ H', TokAt T H' t q k (oldV o) true → H' d = some (.dK (kv (rset m k o))) → Fr [d, t] H H' → Q .non H')
def spRCopy (R C : Addr) : Sp := fun vs H Q _ => ∃ (r : Addr) (le : Addr × List V) (p d : Addr) (m : Mp), vs = [.ref r] ∧ RoomAt R H r le p ∧ CtxAt C H p d m ∧ m.length < 64 ∧ (keys m).Nodup ∧
  ∀ (p' d' : Addr) (m' : Mp) (H' : Hp), Same H H' → H p' = none → H d' = none → CtxB C H' p' d' m' false → Eqm m' m → m'.Perm m → Q (.ref p') H'
def spWithin (W : Addr) : Sp := fun vs H Q _ => ∃ (r p : Addr), vs = [.ref r, .ref p] ∧ ∀ (x : Addr) (H' : Hp), H x = none → WinAt W H' x r p .non → Same H H' → Q (.ref x) H'
def spLog (R : Addr) : Sp := fun vs H Q _ => ∃ (r : Addr) (le : Addr × List V) (p : Addr), vs = [.ref r] ∧ RoomAt R H r le p ∧ ∀ (l : Addr) (H' : Hp), H l = none → H' l = some (.lst le.2) → Same H H' → Q (.ref l) H'
theorem rlook {m : Str} (bk : V) (le : Addr × List V) (p : Addr) (h1 : ¬ m = "_book") (h2 : ¬ m = "_events") (h3 : ¬ m = "now") : (rfl_ bk le p).lookup m = none := by
  have e : ∀ s : Str, ¬ m = s → (m == s) = false := fun s h => beq_eq_false_iff_ne.mpr h
  unfold rfl_
  simp only [List.lookup, e _ h1, e _ h2, e _ h3]
section
variable {P : Program} {w : World} {K : PySem.W.Frag} {mg : Str → Option Value} {base : Heap} {R C CF T W : Addr}
theorem scPut : FnScope ["self", "variable", "value"] ["self", "variable", "value"] (defScope sPut) := ⟨rfl, rfl, rfl, by decide +kernel, rfl, by decide +kernel, by decide +kernel⟩
theorem ok_put {f : Addr} {fd : FuncData} (F : Fun K "put" "Room.put" sPut f fd) (Z : CKit P w K mg base C CF) (t : RoC K R) : FnOk P w K mg base CX0 2 f fd ["self", "variable", "value"] (spPut R C) := by
  refine F.ok scPut (fun vs H Q E h => ?_) (fun cdv A outer s H vs Q E hr h => ?_)
  · obtain ⟨r, le, p, d, m, k, v, rfl, _⟩ := h
    rfl
  · obtain ⟨r, le, p, d, m, k, v, rfl, ⟨dr, bk, er, el⟩, c, ml, q⟩ := h
    have hr1 : Room 1 _ := hr.mono (by decide)
    refine ⟨_, pss_one (ps_asg (pv 2) (pg_sub (pe_fld (pv 0) rfl) (pv 1) (set_own (E := E0) Z.nq Z.sS Z.iS Z.GS hr1 Z.bS pass0))), ?_⟩
    obtain ⟨⟨dx, b, e⟩, ed⟩ := id c
    exact ⟨_, rfl, _, rfl, r, R, dr, _, _, rfl, er, t.cl, t.nN, rfl_n bk le p, _, rfl, p, dx, _, rfl, e, p, d, m, k, v, rfl, c, ml, q _ upd_same Fr.one⟩
theorem scRDrop : FnScope ["self", "variable"] ["self", "variable"] (defScope sRDrop) := ⟨rfl, rfl, rfl, by decide +kernel, rfl, by decide +kernel, by decide +kernel⟩
theorem ok_rdrop {f : Addr} {fd : FuncData} (F : Fun K "drop" "Room.drop" sRDrop f fd) (Z : CKit P w K mg base C CF) (t : RoC K R) : FnOk P w K mg base CX0 2 f fd ["self", "variable"] (spRDrop R C) := by
  refine F.ok scRDrop (fun vs H Q E h => ?_) (fun cdv A outer s H vs Q E hr h => ?_)
  · obtain ⟨r, le, p, d, m, k, rfl, _⟩ := h
    rfl
  · obtain ⟨r, le, p, d, m, k, rfl, ⟨dr, bk, er, el⟩, c, nd, q⟩ := h
    have hr1 : Room 1 _ := hr.mono (by decide)
    refine ⟨_, pss_one (ps_expr (pe_meth (pe_fld (pv 0) rfl) Z.T.cl Z.mD Z.GD hr1 Z.bD .nil pass0 (pa_cons (pv 1) pa_nil))), ?_⟩
    obtain ⟨⟨dx, b, e⟩, ed⟩ := id c
    exact ⟨_, rfl, r, R, dr, _, _, rfl, er, t.cl, t.nN, rfl_n bk le p, p, dx, _, rfl, e, flds_no b d (by decide +kernel) (by decide +kernel), _, rfl, p, d, m, k, rfl, c, nd, fun H' e' f' => q H' e' fun b o eb nb => by
      rw [f' b (by simpa using nb)]
      exact eb⟩
theorem scRead : FnScope ["self", "variable"] ["self", "variable"] (defScope sRead) := ⟨rfl, rfl, rfl, by decide +kernel, rfl, by decide +kernel, by decide +kernel⟩
theorem ok_read {f : Addr} {fd : FuncData} (F : Fun K "read" "Room.read" sRead f fd) (Z : CKit P w K mg base C CF) (t : RoC K R) : FnOk P w K mg base (L2.CX P w) 5 f fd ["self", "variable"] (spRead R C CF) := by
  refine F.okX scRead (fun vs H Q E h => ?_) (fun cdv A outer s H vs Q E hr h => ?_)
  · obtain ⟨r, le, p, d, m, k, rfl, _⟩ := h
    rfl
  · obtain ⟨r, le, p, d, m, k, rfl, ⟨dr, bk, er, el⟩, c, q1, q2⟩ := h
    have hr4 : Room 4 _ := hr.mono (by decide)
    refine ⟨_, pss_one (ps_ret (pe_own (E := E) Z.sG Z.iG Z.jG Z.GG hr4 Z.bG (passes_call (takes_of rfl rfl rfl rfl) (fun _ _ _ _ h => h)) (pe_fld (pv 0) rfl) (pv 1) (fun _ _ => rfl))), ?_⟩
    obtain ⟨⟨dx, b, e⟩, ed⟩ := id c
    exact ⟨_, rfl, r, R, dr, _, _, rfl, er, t.cl, t.nN, rfl_n bk le p, _, rfl, p, dx, _, rfl, e, p, d, m, k, rfl, c, q1, q2⟩
theorem scWithin : FnScope ["self", "context"] ["self", "context"] (defScope sWithin) := ⟨rfl, rfl, rfl, by decide +kernel, rfl, by decide +kernel, by decide +kernel⟩
theorem ok_within {f fI : Addr} {fd fdI : FuncData} (F : Fun K "within" "Room.within" sWithin f fd) (M : Mk K W fI) (GI : FnOk P w K mg base CX0 1 fI fdI ["self", "room", "context"] (spWinI W)) (bI : Binds K fdI ["self", "room", "context"] []) (gW : mg "Within" = some (.ref W)) : FnOk P w K mg base CX0 3 f fd ["self", "context"] (spWithin W) := by
  refine F.ok scWithin (fun vs H Q E h => ?_) (fun cdv A outer s H vs Q E hr h => ?_)
  · obtain ⟨r, p, rfl, _⟩ := h
    rfl
  · obtain ⟨r, p, rfl, q⟩ := h
    have hr2 : Room 2 _ := hr.mono (by decide)
    refine ⟨_, pss_one (ps_ret (pe_make M GI hr2 rfl gW bI .nil pass0 (pa_cons (pv 0) (pa_cons (pv 1) pa_nil)))), ?_⟩
    refine ⟨_, rfl, _, rfl, fun x dx nx nd ne => ⟨x, dx, r, p, rfl, upd_same, fun H' wa f' => ⟨rfl, q x H' nx wa (same_frNew (same_make nx nd) f' nx)⟩⟩⟩
theorem scLog : FnScope ["self"] ["self"] (defScope sLog) := ⟨rfl, rfl, rfl, by decide +kernel, rfl, by decide +kernel, by decide +kernel⟩
theorem ok_log {f : Addr} {fd : FuncData} (F : Fun K "log" "Room.log" sLog f fd) (t : RoC K R) (mL : mg "list" = none) : FnOk P w K mg base CX0 1 f fd ["self"] (spLog R) := by
  refine F.ok scLog (fun vs H Q E h => ?_) (fun cdv A outer s H vs Q E hr h => ?_)
  · obtain ⟨r, le, p, rfl, _⟩ := h
    rfl
  · obtain ⟨r, le, p, rfl, ⟨dr, bk, er, el⟩, q⟩ := h
    refine ⟨_, pss_one (ps_ret (pe_callTy call_list_of (by rfl) mL boot_list (pa_cons (pe_fld (pv 0) rfl) pa_nil))), ?_⟩
    exact ⟨_, rfl, r, R, dr, _, _, rfl, er, t.cl, t.nE, rfl_e bk le p, le.1, le.2, rfl, .inl (SqL.of el), fun l nl => q l _ nl upd_same (same_new nl)⟩
theorem scRCopy : FnScope ["self"] ["self"] (defScope sRCopy) := ⟨rfl, rfl, rfl, by decide +kernel, rfl, by decide +kernel, by decide +kernel⟩
theorem ok_rcopy {f : Addr} {fd : FuncData} (F : Fun K "copy" "Room.copy" sRCopy f fd) (Z : CKit P w K mg base C CF) (t : RoC K R) : FnOk P w K mg base CX0 4 f fd ["self"] (spRCopy R C) := by
  refine F.ok scRCopy (fun vs H Q E h => ?_) (fun cdv A outer s H vs Q E hr h => ?_)
  · obtain ⟨r, le, p, d, m, rfl, _⟩ := h
    rfl
  · obtain ⟨r, le, p, d, m, rfl, ⟨dr, bk, er, el⟩, c, ml, nd, q⟩ := h
    have hr3 : Room 3 _ := hr.mono (by decide)
    refine ⟨_, pss_one (ps_ret (pe_meth0 (pe_fld (pv 0) rfl) Z.T.cl Z.mY Z.GY hr3 Z.bY .nil pass0)), ?_⟩
    obtain ⟨⟨dx, b, e⟩, ed⟩ := id c
    exact ⟨_, rfl, r, R, dr, _, _, rfl, er, t.cl, t.nN, rfl_n bk le p, p, dx, _, rfl, e, flds_no b d (by decide +kernel) (by decide +kernel), p, d, m, rfl, c, ml, nd, fun p' d' m' H' s' n1 n2 c' cb em pm => q p' d' m' H' s' n1 n2 ⟨cb, c'.dc⟩ em pm⟩
theorem scHold : FnScope ["self", "variable", "value", "token"] ["self", "variable", "value"] (defScope sHold) := ⟨rfl, rfl, rfl, by decide +kernel, rfl, by decide +kernel, by decide +kernel⟩
theorem ok_hold {f fI : Addr} {fd fdI : FuncData} (F : Fun K "hold" "Room.hold" sHold f fd) (Z : CKit P w K mg base C CF) (t : RoC K R) (M : Mk K T fI) (GI : FnOk P w K mg base CX0 5 fI fdI ["self", "context", "variable"] (spTok T C)) (bI : Binds K fdI ["self", "context", "variable"] []) (gT : mg "Token" = some (.ref T)) :
    FnOk P w K mg base CX0 7 f fd ["self", "variable", "value"] (spHold R C T) := by
  refine F.ok scHold (fun vs H Q E h => ?_) (fun cdv A outer s H vs Q E hr h => ?_)
  · obtain ⟨r, le, p, d, m, k, v, rfl, _⟩ := h
    rfl
  · obtain ⟨r, le, p, d, m, k, v, rfl, R0, c, ml, q⟩ := h
    have hr1 : Room 1 _ := hr.mono (by decide)
    have hr6 : Room 6 _ := hr.mono (by decide)
    refine ⟨_, pss_cons (ps_set (i := 3) scHold.nd rfl (Or.inl rfl) (pe_make M GI hr6 rfl gT bI .nil pass0 (pa_cons (pe_fld (pv 0) rfl) (pa_cons (pv 1) pa_nil))))
      (pss_cons (ps_asg (pv 2) (pg_sub (pe_fld (pv 0) rfl) (pv 1) (set_own (E := E0) Z.nq Z.sS Z.iS Z.GS hr1 Z.bS pass0)))
      (pss_one (ps_ret (pv 3)))), ?_⟩
    obtain ⟨dr, bk, er, el⟩ := id R0
    refine ⟨_, rfl, r, R, dr, _, _, rfl, er, t.cl, t.nN, rfl_n bk le p, _, rfl, fun x dx nx nd ne => ?_⟩
    have s0 := same_make (C := T) nx nd
    refine ⟨x, dx, p, d, m, k, rfl, upd_same, c.fr (Fr.of (l := []) s0) (by simp) (by simp), fun H1 e1 f1 => ⟨rfl, ?_⟩⟩
    have s1 : Same H H1 := same_frNew s0 f1 nx
    have c1 : CtxAt C H1 p d m := c.fr (Fr.of (l := []) s1) (by simp) (by simp)
    obtain ⟨dr1, bk1, er1, el1⟩ := R0.fr (Fr.of (l := []) s1) (by simp) (by simp)
    obtain ⟨⟨dx1, b1, ec1⟩, ed1⟩ := id c1
    have ndx : d ≠ x := ne_of ed1 e1 (by intro z; cases z)
    refine ⟨_, rfl, _, rfl, r, R, dr1, _, _, rfl, er1, t.cl, t.nN, rfl_n bk1 le p, _, rfl, p, dx1, _, rfl, ec1, p, d, m, k, v, rfl, c1, ml, _, rfl, ?_⟩
    exact q x _ nx ⟨dx, by rw [upd_ne ndx.symm]; exact e1⟩ upd_same ((Fr.of s1).trans Fr.one)
end
end SW

set_option Elab.async false
set_option linter.all false
set_option maxRecDepth 100000
set_option maxHeartbeats 1000000
/-! The room: made, a token reset. -/
namespace SW
open PySem PySem.Spec PyProof.Rows L2
section
variable {P : Program} {w : World} {K : PySem.W.Frag} {mg : Str → Option Value} {base : Heap} {R C CF T W : Addr}
theorem scReset : FnScope ["self", "token"] ["self", "token"] (defScope sReset) := ⟨rfl, rfl, rfl, by decide +kernel, rfl, by decide +kernel, by decide +kernel⟩
theorem tok_ctx {H : Hp} {t q p d : Addr} {k : Str} {o : V} {u : Bool} {m : Mp} (h : TokAt T H t q k o u) (c : CtxAt C H p d m) : t ≠ p ∧ t ≠ d := by
  obtain ⟨dt, e⟩ := h
  obtain ⟨n1, n2⟩ := ctx_off c e (fun b z => by
    have := congrArg (fun l => List.lookup ("variable" : Str) l) z
    simp only [tfl_v] at this
    rw [flds_no b d (by decide +kernel) (by decide +kernel)] at this
    cases this)
  exact ⟨n1.symm, n2.symm⟩
theorem tok_room {H : Hp} {t q r : Addr} {le : Addr × List V} {p : Addr} {k : Str} {o : V} {u : Bool} (h : TokAt T H t q k o u) (c : RoomAt R H r le p) : t ≠ r ∧ t ≠ le.1 := by
  obtain ⟨dt, e⟩ := h
  obtain ⟨dr, bk, e1, e2⟩ := c
  refine ⟨ne_of e e1 (by
    intro z
    injection z with _ _ z
    have := congrArg (fun l => List.lookup ("now" : Str) l) z
    simp only [rfl_n] at this
    have z2 : (tfl q k o u).lookup ("now" : Str) = none := by with_unfolding_all rfl
    rw [z2] at this
    cases this), ne_of e e2 (by intro z; cases z)⟩
theorem ok_reset {f fI : Addr} {fd : FuncData} (F : Fun K "reset" "Room.reset" sReset f fd) (Z : CKit P w K mg base C CF) (t : RoC K R) (tk : TkC K T) (X : PySem.ReX.ReTxt K mg CF fI) : FnOk P w K mg base (L2.CX P w) 4 f fd ["self", "token"] (spReset R C T CF) := by
  refine F.okX scReset (fun vs H Q E h => ?_) (fun cdv A outer s H vs Q E hr h => ?_)
  · obtain ⟨r, le, p, d, t, q, dq, m, mq, k, o, u, rfl, _⟩ := h
    rfl
  · obtain ⟨r, le, p, d, x, q, dq, m, mq, k, o, u, rfl, R0, c, nd, ml, x0, cq, q1, q2, q3⟩ := h
    have hr1 : Room 1 _ := hr.mono (by decide)
    refine ⟨_, pss_cons (ps_if (pt_val (pe_fld (pv 1) rfl)) (pss_one (ps_raiseRe rfl X hr (takes_of rfl rfl rfl rfl) (by exact (pa_cons pe_str pa_nil)))) pss_nil)
      (pss_cons (ps_if (pt_not (pt_val (pe_meth (pe_fld (pv 1) rfl) Z.T.cl Z.mW Z.GW hr1 Z.bW .nil pass0 (pa_cons (pe_fld (pv 0) rfl) pa_nil)))) (pss_one (ps_raiseRe rfl X hr (takes_of rfl rfl rfl rfl) (by exact (pa_cons pe_str pa_nil)))) pss_nil)
      (pss_cons (ps_if (pt_cmp (pc_isN (pe_fld (pv 1) rfl))) (pss_one (ps_expr (pe_meth (pe_fld (pv 0) rfl) Z.T.cl Z.mD Z.GD hr1 Z.bD .nil pass0 (pa_cons (pe_fld (pv 1) rfl) pa_nil))))
        (pss_one (ps_asg (pe_fld (pv 1) rfl) (pg_sub (pe_fld (pv 0) rfl) (pe_fld (pv 1) rfl) (set_own (E := E0) Z.nq Z.sS Z.iS Z.GS hr1 Z.bS pass0)))))
      (pss_one (ps_fld (pv 1) pe_bl rfl)))), ?_⟩
    obtain ⟨n1, n2⟩ := tok_ctx x0 c
    obtain ⟨dr, bk, er, el⟩ := id R0
    obtain ⟨⟨dx, b, e⟩, ed⟩ := id c
    obtain ⟨⟨dy, b2, e2⟩, ed2⟩ := id cq
    obtain ⟨dt, et⟩ := id x0
    refine ⟨_, rfl, x, T, dt, _, _, rfl, et, tk.cl, tk.nU, tfl_u q k _ u, u, rfl, ?_⟩
    cases u with
    | true => exact iteT ⟨_, rfl, fun z hz => q1 rfl z hz⟩
    | false =>
      refine iteF ?_
      refine ⟨_, rfl, x, T, dt, _, _, rfl, et, tk.cl, tk.nC, tfl_c q k _ false, q, dy, _, rfl, e2, flds_no b2 dq (by decide +kernel) (by decide +kernel), _, rfl, r, R, dr, _, _, rfl, er, t.cl, t.nN, rfl_n bk le p, q, dq, mq, p, d, m, rfl, cq, c, _, rfl, ?_⟩
      refine ite2 (fun hh => ?_) (fun hh => ?_)
      · have hqp : ¬ q = p := by simpa using hh
        exact ⟨_, rfl, fun z hz => q2 rfl hqp z hz⟩
      · have hqp : q = p := by simpa using hh
        have fin : ∀ H1, H1 d = some (.dK (kv (rset m k o))) → Fr [d] H H1 → Q .non (upd H1 x (.ins T dt (putF "is_used" (.bl true) (tfl q k (oldV o) false)))) := fun H1 e1 f1 => by
          refine q3 rfl hqp _ ⟨dt, ?_⟩ ?_ ((f1.mono (by simp)).trans (Fr.one.mono (by simp)))
          · rw [upd_same, put_used]
          · rw [upd_ne n2.symm]
            exact e1
        have there : ∀ H1, Fr [d] H H1 → H1 x = some (.ins T dt (tfl q k (oldV o) false)) := fun H1 f1 => f1 _ _ et (by simpa using n2)
        refine ⟨_, rfl, x, T, dt, _, _, rfl, et, tk.cl, tk.nO, tfl_o q k _ false, _, rfl, ?_⟩
        cases o with
        | none =>
          refine iteT ?_
          refine ⟨_, rfl, r, R, dr, _, _, rfl, er, t.cl, t.nN, rfl_n bk le p, p, dx, _, rfl, e, flds_no b d (by decide +kernel) (by decide +kernel), _, rfl, x, T, dt, _, _, rfl, et, tk.cl, tk.nV, tfl_v q k _ false, p, d, m, k, rfl, c, nd, fun H1 e1 k1 => ?_⟩
          have f1 : Fr [d] H H1 := fun b o eb nb => by
            rw [k1 b (by simpa using nb)]
            exact eb
          exact ⟨_, rfl, x, T, dt, _, rfl, there H1 f1, tk.cl, tk.nU, (by show 4 < 1000; decide), fin H1 e1 f1⟩
        | some v =>
          refine iteF ?_
          refine ⟨_, rfl, x, T, dt, _, _, rfl, et, tk.cl, tk.nO, tfl_o q k _ false, _, rfl, r, R, dr, _, _, rfl, er, t.cl, t.nN, rfl_n bk le p, _, rfl, x, T, dt, _, _, rfl, et, tk.cl, tk.nV, tfl_v q k _ false, p, dx, _, rfl, e, p, d, m, k, v, rfl, c, ml, ?_⟩
          exact ⟨_, rfl, x, T, dt, _, rfl, there _ Fr.one, tk.cl, tk.nU, (by show 4 < 1000; decide), fin _ upd_same Fr.one⟩
theorem scRInit : FnScope ["self", "book"] ["self", "book"] (defScope sRInit) := ⟨rfl, rfl, rfl, by decide +kernel, rfl, by decide +kernel, by decide +kernel⟩
theorem ok_rinit {f fN CB : Addr} {fd fdN : FuncData} (F : Fun K "__init__" "Room.__init__" sRInit f fd) (Z : CKit P w K mg base C CF) (t : RoC K R)
    (GN : FnOk P w K mg base (L2.CX P w) 17 fN fdN ["thing"] (BK.spNeed K CB)) (bN : Binds K fdN ["thing"] []) (gN : mg "need_book" = some (.ref fN)) (kN : PySem.W.keepIn K (.ref fN) = true) : FnOk P w K mg base CX0 18 f fd ["self", "book"] (spRInit K R C) := by
  refine F.ok scRInit (fun vs H Q E h => ?_) (fun cdv A outer s H vs Q E hr h => ?_)
  · obtain ⟨r, dr, bv, t, rfl, _⟩ := h
    rfl
  · obtain ⟨r, dr, bv, tb, rfl, er, htb, hf, q⟩ := h
    have hr2 : Room 2 _ := hr.mono (by decide)
    refine ⟨_, PSs.nox (pss_cons (ps_fld (pv 0) (pe_call (E := WiX.NoE) GN hr rfl gN kN bN .nil (passesN _) (pa_cons (pv 1) pa_nil)) rfl)
      (pss_cons (ps_fld (pv 0) (pe_lst pa_nil) rfl)
      (pss_cons (ps_fld (pv 0) (pe_make0 Z.M Z.GI hr2 rfl Z.T.mgC Z.b0 (dvs := [.ref Z.T0]) (.cons rfl .nil) pass0) rfl)
      (pss_one (ps_fld (pe_fld (pv 0) rfl) pe_bl rfl))))), ?_⟩
    refine ⟨_, rfl, bv, tb, rfl, htb, fun _ H1 s1 => ?_, fun p hp => by rw [hf] at hp; cases hp⟩
    have er1 := s1 _ _ er
    refine ⟨_, rfl, r, R, dr, [], rfl, er1, t.cl, t.nB, (by show 0 < 1000; decide), ?_⟩
    have f1 : Fr [r] H (upd H1 r (.ins R dr (putF "_book" bv []))) := (Fr.of s1).trans Fr.one
    have e1 : (upd H1 r (.ins R dr (putF "_book" bv []))) r = some (.ins R dr (putF "_book" bv [])) := upd_same
    generalize (upd H1 r (.ins R dr (putF "_book" bv []))) = H2 at f1 e1 ⊢
    refine ⟨Nat.zero_le _, fun le nl => ⟨_, rfl, r, R, dr, _, rfl, (by rw [upd_ne (ne_of_none e1 nl)]; exact e1), t.cl, t.nE, (by show 1 < 1000; decide), ?_⟩⟩
    have rl : r ≠ le := ne_of_none e1 nl
    obtain ⟨g, eg⟩ : ∃ g, g = putF "_events" (.ref le) (putF "_book" bv []) := ⟨_, rfl⟩
    rw [← eg]
    have nl0 : H le = none := by
      cases z : H le with
      | none => rfl
      | some o =>
        have := f1 le o z (by simpa using rl.symm)
        rw [nl] at this
        cases this
    have f2 : Fr [r] H (upd (upd H2 le (.lst [])) r (.ins R dr g)) := (f1.trans (Fr.new nl)).trans Fr.one
    have e2 : (upd (upd H2 le (.lst [])) r (.ins R dr g)) r = some (.ins R dr g) := upd_same
    have el2 : (upd (upd H2 le (.lst [])) r (.ins R dr g)) le = some (.lst []) := by rw [upd_ne rl.symm, upd_same]
    generalize (upd (upd H2 le (.lst [])) r (.ins R dr g)) = H3 at f2 e2 el2 ⊢
    intro p dp np ndp npd
    have s3 := same_make (C := C) np ndp
    refine ⟨p, dp, Z.T0, [], rfl, upd_same, ⟨[], Z.t0 _, .nil⟩, by decide, fun d H4 nd c4 cb k4 => ⟨rfl, ?_⟩⟩
    have s4 : Same H3 H4 := fun b o eb => k4 b o (s3 b o eb) (ne_of_none eb np)
    have e4 := s4 _ _ e2
    have nd3 : H3 d = none := s3.free nd
    have off : ∀ a, H3 a = none → a ≠ r := fun a na => (ne_of_none e2 na).symm
    have off0 : ∀ a, H3 a = none → H a = none := fun a na => by
      cases z : H a with
      | none => rfl
      | some o =>
        have := f2 a o z (by simpa using off a na)
        rw [na] at this
        cases this
    refine ⟨_, rfl, r, R, dr, g, rfl, e4, t.cl, t.nN, (by rw [eg]; show 2 < 1000; decide), ?_⟩
    have em : putF "now" (.ref p) g = rfl_ bv (le, []) p := by rw [eg, rfl_made bv (le, []) p]
    rw [em]
    have f5 : Fr [r] H (upd H4 r (.ins R dr (rfl_ bv (le, []) p))) := (f2.trans (Fr.of s4)).trans Fr.one
    have e5 : (upd H4 r (.ins R dr (rfl_ bv (le, []) p))) r = some (.ins R dr (rfl_ bv (le, []) p)) := upd_same
    obtain ⟨dx, cx⟩ := cb
    have cp5 : (upd H4 r (.ins R dr (rfl_ bv (le, []) p))) p = some (.ins C dx (flds false d)) := by rw [upd_ne (off p np)]; exact cx
    have cd5 : (upd H4 r (.ins R dr (rfl_ bv (le, []) p))) d = some (.dK (kv [])) := by rw [upd_ne (off d nd3)]; exact c4.dc
    have el5 : (upd H4 r (.ins R dr (rfl_ bv (le, []) p))) le = some (.lst []) := by rw [upd_ne rl.symm]; exact s4 _ _ el2
    generalize (upd H4 r (.ins R dr (rfl_ bv (le, []) p))) = H5 at f5 e5 cp5 cd5 el5 ⊢
    refine ⟨_, rfl, r, R, dr, _, _, rfl, e5, t.cl, t.nN, rfl_n bv (le, []) p, p, C, dx, _, rfl, cp5, Z.T.cl, Z.T.nB, (by show 2 < 1000; decide), ?_⟩
    rw [put_busy]
    have ndp2 : d ≠ p := ne_of cd5 cp5 (by intro z; cases z)
    refine q (le, []) p d _ rfl nl0 (off0 p np) (off0 d nd3) ⟨dr, bv, by rw [upd_ne (off p np).symm]; exact e5, by rw [upd_ne (ne_of_none el2 np)]; exact el5⟩ ⟨⟨dx, upd_same⟩, by rw [upd_ne ndp2]; exact cd5⟩ (fr_frNew f5 Fr.one (off0 p np))
end
end SW

set_option Elab.async false
set_option linter.all false
set_option maxRecDepth 100000
set_option maxHeartbeats 1000000
/-! Room.run: a deed done within a context. -/
namespace SW
open PySem PySem.Spec PyProof.Rows L2
def Leave (W C R : Addr) (x r p q : Addr) (H : Hp) (k : Hp → Prop) : Prop := ∃ le d m b q2, WinAt W H x r p (.ref q) ∧ RoomAt R H r le q2 ∧ CtxB C H p d m b ∧ ∀ H', RoomAt R H' r le q → CtxB C H' p d m false → Fr [r, p] H H' → k H'
theorem Leave.exit {W C R x r p q : Addr} {H : Hp} {k : Hp → Prop} (l : Leave W C R x r p q H k) (u1 u2 u3 : V) {Q : VK} {E : XK} (hq : ∀ H', k H' → Q .non H') : spExit W C R [.ref x, u1, u2, u3] H Q E := by
  obtain ⟨le, d, m, b, q2, h1, h2, h3, h4⟩ := l
  exact ⟨x, r, p, d, le, q, q2, m, b, u1, u2, u3, rfl, h1, h2, h3, fun H' a b c => hq H' (h4 H' a b c)⟩
/-- what run makes of its deed's reading -/
def TRun (W C R : Addr) : (XK → Hp → VK → Prop) → V → V → Hp → VK → XK → Prop := fun tl v1 v2 H Q E => ∃ r p d le q m, v1 = .ref r ∧ v2 = .ref p ∧ RoomAt R H r le q ∧ CtxB C H p d m false ∧
  ∀ x H1, H x = none → WinAt W H1 x r p (.ref q) → RoomAt R H1 r le p → CtxB C H1 p d m true → Fr [r, p] H H1 →
    tl (fun cls dd H2 => (∃ c, cls = .ref c) ∧ Leave W C R x r p q H2 (E cls dd)) H1 (fun v H2 => WiX.outS (spExit W C R) x (Q v) H2)
theorem scRun : FnScope ["self", "context", "deed", "rest", "more"] ["self", "context", "deed", "rest", "more"] (defScope sRun) := ⟨rfl, rfl, rfl, by decide +kernel, rfl, by decide +kernel, by decide +kernel⟩
section
variable {X : Cx} {R C CF T W : Addr}
theorem gives_run {g fW fE fX : Addr} {cdg : Value} {q : Str} {dW dE dX : FuncData} (RR : RoC X.K R) (WW : WnC X.K W)
    (mW : Meth X.K R "within" fW) (GW : FnOk X.prog X.w X.K X.mg X.base CX0 3 fW dW ["self", "context"] (spWithin W)) (bW : Binds X.K dW ["self", "context"] [])
    (mm : WiX.Mgr X.K W fE fX) (GE : FnOk X.prog X.w X.K X.mg X.base (L2.CX X.prog X.w) 3 fE dE ["self"] (spEnter W C R CF)) (bE : Binds X.K dE ["self"] [])
    (GX : FnOk X.prog X.w X.K X.mg X.base C8.CX0 1 fX dX ["self", "kind", "value", "trace"] (spExit W C R)) (GQ : WiX.FnQ X.prog X.w X.K X.mg X.base 1 fX dX ["self", "kind", "value", "trace"] (spExit W C R)) (bX : Binds X.K dX ["self", "kind", "value", "trace"] [])
    (hr : Room 4 X.A) : LnX.GivesR X ["self", "context", "deed", "rest", "more"] "Room.run" (defScope sRun) g cdg (defBody sRun) "deed" "rest" "more" q (TRun W C R) := by
  intro f c2 P2 s2 H2 v1 v2 tr dm Q E tl act hc htr hdm h
  have hr3 : Room 3 (X.A.deeper (envOfC "Room.run" (defScope sRun) s2.heap.objs.size g cdg)) := hr.deeper _
  have hr1 : Room 1 (X.A.deeper (envOfC "Room.run" (defScope sRun) s2.heap.objs.size g cdg)) := hr3.mono (by decide)
  refine ⟨_, pss_one (WiX.ps_with (X := LnX.Zg (L2.CX X.prog X.w) X ["self", "context", "deed", "rest", "more"] "Room.run" (defScope sRun) g cdg s2 H2 E) (E := E) (W := fun cls d σ H => E cls d H)
    (tb := fun W D σ H => ∃ Ech : XK, (∀ cls d σ' H', Ech cls d H' → W cls d σ' H') ∧ σ[2]? = some (some (.ref f)) ∧ (∃ tr, σ[3]? = some (some (.ref tr)) ∧ H tr = some (.tup [])) ∧ (∃ dm, σ[4]? = some (some (.ref dm)) ∧ H dm = some (.dK [])) ∧ H c2 = some (LnX.CodeP c2 P2 q) ∧ tl Ech H D.rt)
    rfl rfl rfl mm (pe_meth (pv 0) RR.cl mW GW hr3 bW .nil pass0 (pa_cons (pv 1) pa_nil)) GE hr3 bE (passes_call (takes_of rfl rfl rfl rfl) (fun _ _ _ _ h => h)) GX hr1 GQ hr1 bX (takes_of rfl rfl rfl rfl) (fun W pn xe tk => ?_)), ?_⟩
  · refine ⟨fun pins s' σ H' D I h' => ?_⟩
    obtain ⟨Ech, hW, h1⟩ := h'
    exact (pss_one (ps_ret (act W pn xe Ech _ _ _ _ _ _ tk hW))).run pins s' σ H' D I h1
  · obtain ⟨r, p, d, le, q0, m, rfl, rfl, R0, c0, k⟩ := h
    obtain ⟨dr, bk, er, el⟩ := id R0
    refine ⟨_, rfl, r, dr, _, rfl, er, rlook bk le q0 (by decide +kernel) (by decide +kernel) (by decide +kernel), _, rfl, r, p, rfl, fun x H3 nx wx s3 => ?_⟩
    obtain ⟨dx, ex⟩ := id wx
    refine ⟨x, dx, _, rfl, ex, x, r, p, d, le, q0, m, false, .non, rfl, wx, R0.fr (Fr.of (l := []) s3) (by simp) (by simp), c0.fr (Fr.of (l := []) s3) (by simp) (by simp), fun _ H4 wx4 R4 c4 f4 => ?_, fun z => Bool.noConfusion z⟩
    obtain ⟨⟨dp, ep⟩, ed⟩ := id c0
    have f24 : Fr [r, p] H2 H4 := fun b o eb nb => f4 b o (s3 b o eb) (by
      have := ne_of_none eb nx
      simp only [List.mem_cons, List.not_mem_nil, or_false, not_or] at nb ⊢
      exact ⟨this, nb⟩)
    have off : ∀ a o, H2 a = some o → (∀ C dx fs, o ≠ .ins C dx fs) → H4 a = some o := fun a o ea n => f24 a o ea (by
      have n1 : a ≠ r := ne_of ea er (n _ _ _)
      have n2 : a ≠ p := ne_of ea ep (n _ _ _)
      simp [n1, n2])
    refine ⟨fun cls dd H5 => (∃ c, cls = .ref c) ∧ Leave W C R x r p q0 H5 (E cls dd), fun cls dd σ' H' z => ?_, rfl, ⟨tr, rfl, off _ _ htr (by intro _ _ _ z; cases z)⟩, ⟨dm, rfl, off _ _ hdm (by intro _ _ _ z; cases z)⟩, off _ _ hc (by intro _ _ _ z; cases z), ?_⟩
    · obtain ⟨⟨c, rfl⟩, lv⟩ := z
      exact ⟨.ref c, rfl, fun ev tv => lv.exit _ _ _ fun H' e => ⟨rfl, e⟩⟩
    · exact k x H4 nx wx4 R4 c4 f24
theorem Leave.out {x r p q : Addr} {H : Hp} {k : Hp → Prop} (l : Leave W C R x r p q H k) : WiX.outS (spExit W C R) x k H := l.exit _ _ _ fun _ e => e
end
end SW

set_option Elab.async false
set_option linter.all false
set_option maxRecDepth 100000
set_option maxHeartbeats 1000000
/-! What the laws' defs use of rooms, in one. -/
namespace SW
open PySem PySem.Spec PyProof.Rows L2
structure RKit (P : Program) (w : World) (K : PySem.W.Frag) (mg : Str → Option Value) (base : Heap) (C CF T R W : Addr) where
  Z : CKit P w K mg base C CF
  fI : Addr
  Y : PySem.ReX.ReTxt K mg CF fI
  I : IsFacts K CF
  RR : RoC K R
  TK : TkC K T
  WW : WnC K W
  (fPu fDr fRe fHo fRs fCo fLo fWi fEn fEx fRI fTI : Addr)
  (dPu dDr dRe dHo dRs dCo dLo dWi dEn dEx dRI dTI : FuncData)
  GPu : FnOk P w K mg base CX0 2 fPu dPu ["self", "variable", "value"] (spPut R C)
  GDr : FnOk P w K mg base CX0 2 fDr dDr ["self", "variable"] (spRDrop R C)
  GRe : FnOk P w K mg base (L2.CX P w) 5 fRe dRe ["self", "variable"] (spRead R C CF)
  GHo : FnOk P w K mg base CX0 7 fHo dHo ["self", "variable", "value"] (spHold R C T)
  GRs : FnOk P w K mg base (L2.CX P w) 4 fRs dRs ["self", "token"] (spReset R C T CF)
  GCo : FnOk P w K mg base CX0 4 fCo dCo ["self"] (spRCopy R C)
  GLo : FnOk P w K mg base CX0 1 fLo dLo ["self"] (spLog R)
  GWi : FnOk P w K mg base CX0 3 fWi dWi ["self", "context"] (spWithin W)
  GEn : FnOk P w K mg base (L2.CX P w) 3 fEn dEn ["self"] (spEnter W C R CF)
  GEx : FnOk P w K mg base C8.CX0 1 fEx dEx ["self", "kind", "value", "trace"] (spExit W C R)
  GEq : WiX.FnQ P w K mg base 1 fEx dEx ["self", "kind", "value", "trace"] (spExit W C R)
  GRI : FnOk P w K mg base CX0 18 fRI dRI ["self", "book"] (spRInit K R C)
  GTI : FnOk P w K mg base CX0 5 fTI dTI ["self", "context", "variable"] (spTok T C)
  bPu : Binds K dPu ["self", "variable", "value"] []
  bDr : Binds K dDr ["self", "variable"] []
  bRe : Binds K dRe ["self", "variable"] []
  bHo : Binds K dHo ["self", "variable", "value"] []
  bRs : Binds K dRs ["self", "token"] []
  bCo : Binds K dCo ["self"] []
  bLo : Binds K dLo ["self"] []
  bWi : Binds K dWi ["self", "context"] []
  bEn : Binds K dEn ["self"] []
  bEx : Binds K dEx ["self", "kind", "value", "trace"] []
  bRI : Binds K dRI ["self", "book"] []
  bTI : Binds K dTI ["self", "context", "variable"] []
  mPu : Meth K R "put" fPu
  mDr : Meth K R "drop" fDr
  mRe : Meth K R "read" fRe
  mHo : Meth K R "hold" fHo
  mRs : Meth K R "reset" fRs
  mCo : Meth K R "copy" fCo
  mLo : Meth K R "log" fLo
  mWi : Meth K R "within" fWi
  mm : WiX.Mgr K W fEn fEx
  MR : Mk K R fRI
  MT : Mk K T fTI
  gR : mg "Room" = some (.ref R)
  gT : mg "Token" = some (.ref T)
  gC : mg "Context" = some (.ref C)
  mI : mg "isinstance" = none
  mRt : mg "RuntimeError" = none
  mVe : mg "ValueError" = none
  mLe : mg "LookupError" = none
  mLn : mg "len" = none
  mTu : mg "tuple" = none
  mSo : mg "sorted" = none
  mRg : mg "range" = none
  k1 : PySem.W.kitOne K (.ref CF) (.type "RuntimeError") = some true
  k2 : PySem.W.kitAny K (.ref CF) [.type "ValueError", .type "LookupError"] = some false
  (fF fRu : Addr)
  (ocF kVF docF pmF ctF cdF ocR kVR docR pmR ctR cdR : Value) (odF anF odR anR : Option Addr) (oslF oslR : Array (Option Value))
  lkF : K.lookup fF = some ⟨ocF, odF, .func (PySem.W.fnOf "_law_fails" "_law_fails" (defArgs sFails) (defBody sFails) (defScope sFails) .none kVF docF pmF anF cdF ctF), oslF⟩
  hcF : PySem.W.codeIn K cdF "_law_fails" = true
  gF : mg "_law_fails" = some (.ref fF)
  kF : PySem.W.keepIn K (.ref fF) = true
  bF : Binds K (PySem.W.fnOf "_law_fails" "_law_fails" (defArgs sFails) (defBody sFails) (defScope sFails) .none kVF docF pmF anF cdF ctF) ["asked"] []
  lkR : K.lookup fRu = some ⟨ocR, odR, .func (PySem.W.fnOf "run" "Room.run" (defArgs sRun) (defBody sRun) (defScope sRun) .none kVR docR pmR anR cdR ctR), oslR⟩
  hcR : PySem.W.codeIn K cdR "Room.run" = true
  mRu : Meth K R "run" fRu
section
variable {X : Cx} {R C CF T W : Addr} {k : Nat} {T0 : List (Addr × Str)} {params : Arguments} {body : Expr} {scope : Scope} {names : List Str} {t : Addr → Addr → XK → TE} {p lpos pos : Pos}
/-- _law_fails(lambda) -/
theorem pe_fails (Z : RKit X.prog X.w X.K X.mg X.base C CF T R W) (hg : Gl X "_law_fails") (hr : Room (k + 2) X.A) (F : LnX.Form X params body scope names)
    (hbody : ∀ (A : Around) (outer : List Env) (s : Shared) (H : Hp) (E : XK) (f c2 P2 : Addr), Room k (A.deeper (LamX.lamEnv X scope s.heap.objs.size f c2)) → PE (LamX.lamCx X A outer s H E scope f c2) body (t c2 P2 E)) :
    PE X (.Call (.Name "_law_fails" p) [.Lambda params body scope lpos] [] pos) (LnX.tL1 X T0 (TFails CF) t) :=
  LnX.pe_lam1 (T0 := T0) hg Z.gF Z.kF Z.lkF Z.hcF Z.bF scFails rfl (Or.inl rfl) (gives1_fails Z.Y Z.I Z.mI Z.mRt Z.mVe Z.mLe Z.k1 Z.k2) hr F hbody
/-- o.run(e, lambda) -/
theorem pe_runL {o e1 : Expr} {to te : TE} {E : XK} {apos : Pos} {pl : Sem Bool} (Z : RKit X.prog X.w X.K X.mg X.base C CF T R W) (ho : PE X o to) (he1 : PE X e1 te) (hr : Room (k + 6) X.A) (hx : Passes (L2.CX X.prog X.w) X E) (F : LnX.Form X params body scope names)
    (hbody : ∀ (A : Around) (outer : List Env) (s : Shared) (H : Hp) (E : XK) (f c2 P2 : Addr), Room (k + 4) (A.deeper (LamX.lamEnv X scope s.heap.objs.size f c2)) → PE (LamX.lamCx X A outer s H E scope f c2) body (t c2 P2 E))
    (hst : starEach [e1, .Lambda params body scope lpos] X.env = [(false, eval e1 X.env), (false, eval (.Lambda params body scope lpos) X.env)] := by rfl)
    (ht : eval (.Call (.Attribute o "run" apos) [e1, .Lambda params body scope lpos] [] pos) X.env = (do
      let ov ← eval o X.env
      standAt apos.atName
      let (f, first) ← holding [ov] (getMethod ov "run" pl)
      callWith pos f first (backTo pos (starEach [e1, .Lambda params body scope lpos] X.env)) (backToKw pos (keywordEach [] X.env))) := by rfl) :
    PE X (.Call (.Attribute o "run" apos) [e1, .Lambda params body scope lpos] [] pos) (LnX.tLR X T0 R "run" (TRun W C R) E to te t) :=
  LnX.pe_lamR (T0 := T0) (Ng := ["self", "context", "deed", "rest", "more"]) (pA := "self") (pB := "context") (a := "deed") (r := "rest") (m := "more") ho Z.RR.cl Z.mRu he1 Z.lkR Z.hcR (fun _ _ _ => rfl) scRun
    (gives_run Z.RR Z.WW Z.mWi Z.GWi Z.bWi Z.mm Z.GEn Z.bEn Z.GEx Z.GEq Z.bEx (hr.mono (by omega))) hr hx F hbody hst ht (hv := Or.inl rfl) (hv2 := Or.inl rfl) (hv3 := Or.inl rfl)
/-- the maker's code object, by its parts -/
def MakeQ (code : Value) (qual : Str) (base : Heap) (mg : Str → Option Value) (T0 : List (Addr × Str)) (H : Hp) : Prop :=
  ∃ T c P, code = .ref c ∧ LnX.TOk T0 H T ∧ (P, qual ++ "<lambda>") ∈ T ∧ ((∃ P0, P0 = P ∧ LamX.TabB base mg c P) ∨ ((∃ c0 P0, LamX.TabB base mg c0 P0) ∧ ∃ q, H c = some (LnX.CodeP c P q)))
def tLRq (code : Value) (qual : Str) (base : Heap) (mg : Str → Option Value) (T0 : List (Addr × Str)) (C : Addr) (TT : (XK → Hp → VK → Prop) → V → V → Hp → VK → XK → Prop) (E : XK) (to te : TE) (t : Addr → Addr → XK → TE) : TE := fun σ H Q => to σ H fun ov H1 => ∃ o dx fs, ov = .ref o ∧ H1 o = some (.ins C dx fs) ∧ fs.lookup ("run" : Str) = none ∧
  te σ H1 fun cv H2 => MakeQ code qual base mg T0 H2 ∧ ∀ c2 P2 H3, LamX.ExtN H2 H3 → LnX.TabsC T0 H3 → LnX.CodeAt T0 H3 c2 P2 (qual ++ "<lambda>") → ∀ tr dm, H3 tr = none → H3 dm = none → dm ≠ tr → TT (fun E2 H' Q' => t c2 P2 E2 σ H' Q') (.ref o) cv (upd (upd H3 tr (.tup [])) dm (.dK [])) Q E
theorem pe_runQ {o e1 : Expr} {to te : TE} {E : XK} {apos : Pos} {pl : Sem Bool} (Z : RKit X.prog X.w X.K X.mg X.base C CF T R W) (ho : PE X o to) (he1 : PE X e1 te) (hr : Room (k + 6) X.A) (hx : Passes (L2.CX X.prog X.w) X E) (F : LnX.Form X params body scope names)
    (hbody : ∀ (A : Around) (outer : List Env) (s : Shared) (H : Hp) (E : XK) (f c2 P2 : Addr), Room (k + 4) (A.deeper (LamX.lamEnv X scope s.heap.objs.size f c2)) → PE (LamX.lamCx X A outer s H E scope f c2) body (t c2 P2 E))
    (hst : starEach [e1, .Lambda params body scope lpos] X.env = [(false, eval e1 X.env), (false, eval (.Lambda params body scope lpos) X.env)] := by rfl)
    (ht : eval (.Call (.Attribute o "run" apos) [e1, .Lambda params body scope lpos] [] pos) X.env = (do
      let ov ← eval o X.env
      standAt apos.atName
      let (f, first) ← holding [ov] (getMethod ov "run" pl)
      callWith pos f first (backTo pos (starEach [e1, .Lambda params body scope lpos] X.env)) (backToKw pos (keywordEach [] X.env))) := by rfl) :
    PE X (.Call (.Attribute o "run" apos) [e1, .Lambda params body scope lpos] [] pos) (tLRq X.env.code X.env.qual X.base X.mg T0 R (TRun W C R) E to te t) :=
  pe_runL (T0 := T0) Z ho he1 hr hx F hbody hst ht
theorem makeQ_static {H : Hp} {c P : Addr} {qual : Str} {base : Heap} {mg : Str → Option Value} (hin : (P, qual ++ "<lambda>") ∈ T0) (TB : LamX.TabB base mg c P) (t : LnX.TabsC T0 H) : MakeQ (.ref c) qual base mg T0 H :=
  let ⟨T, ok⟩ := t
  ⟨T, c, P, rfl, ok, ok.sub _ hin, .inl ⟨P, rfl, TB⟩⟩
theorem makeQ_inner {H : Hp} {c P c0 P0 : Addr} {q qual : Str} {base : Heap} {mg : Str → Option Value} (hq : qual ++ "<lambda>" = LnX.qin q) (TB : LamX.TabB base mg c0 P0) (t : LnX.CodeAt T0 H c P q) : MakeQ (.ref c) qual base mg T0 H :=
  let ⟨T, ok, e, hm⟩ := t
  ⟨T, c, P, rfl, ok, by rw [hq]; exact hm, .inr ⟨⟨c0, P0, TB⟩, q, e⟩⟩
theorem make_static {H : Hp} {c P : Addr} (hc : X.env.code = .ref c) (hin : (P, X.env.qual ++ "<lambda>") ∈ T0) (TB : LamX.TabB X.base X.mg c P) (t : LnX.TabsC T0 H) : LnX.MakeAt X T0 H :=
  let ⟨T, ok⟩ := t
  ⟨T, c, P, hc, ok, ok.sub _ hin, .inl ⟨P, rfl, TB⟩⟩
theorem make_inner {H : Hp} {c P c0 P0 : Addr} {q : Str} (hc : X.env.code = .ref c) (hq : X.env.qual ++ "<lambda>" = LnX.qin q) (TB : LamX.TabB X.base X.mg c0 P0) (t : LnX.CodeAt T0 H c P q) : LnX.MakeAt X T0 H :=
  let ⟨T, ok, e, hm⟩ := t
  ⟨T, c, P, hc, ok, by rw [hq]; exact hm, .inr ⟨⟨c0, P0, TB⟩, q, e⟩⟩
end
end SW

set_option Elab.async false
set_option linter.all false
set_option maxRecDepth 100000
set_option maxHeartbeats 1000000
/-! A room's state through the laws' steps. -/
namespace SW
open PySem PySem.Spec PyProof.Rows L2
/-- all stays but what stands in l, and the tables of code objects -/
def Fx (l : List Addr) (H H' : Hp) : Prop := ∀ b o, H b = some o → (∀ ps, o ≠ .tbl ps) → b ∉ l → H' b = some o
theorem Fx.refl {l : List Addr} {H : Hp} : Fx l H H := fun _ _ e _ _ => e
theorem Fx.of {l : List Addr} {H H' : Hp} (f : Fr l H H') : Fx l H H' := fun b o e _ n => f b o e n
theorem Fx.ext {l : List Addr} {H H' : Hp} (f : LamX.ExtN H H') : Fx l H H' := fun b o e n _ => f b o e n
theorem Fx.same {l : List Addr} {H H' : Hp} (f : Same H H') : Fx l H H' := fun b o e _ _ => f b o e
theorem Fx.trans {l : List Addr} {H H1 H2 : Hp} (a : Fx l H H1) (b : Fx l H1 H2) : Fx l H H2 := fun c o e t n => b c o (a c o e t n) t n
theorem Fx.mono {l m : List Addr} {H H' : Hp} (a : Fx l H H') (h : ∀ x ∈ l, x ∈ m) : Fx m H H' := fun c o e t n => a c o e t fun z => n (h c z)
/-- new, or a table -/
def Nw (H : Hp) (x : Addr) : Prop := ∀ o, H x = some o → ∃ ps, o = .tbl ps
theorem Nw.of {l : List Addr} {H H' : Hp} {x : Addr} (f : Fx l H H') (n : H' x = none) (hl : x ∉ l) : Nw H x := fun o e => Classical.byContradiction fun z => by
  have := f x o e (fun ps y => z ⟨ps, y⟩) hl
  rw [n] at this
  cases this
/-- what is new may change, too -/
theorem Fx.drop {l m : List Addr} {H H' : Hp} (a : Fx m H H') (h : ∀ x ∈ m, x ∉ l → Nw H x) : Fx l H H' := fun c o e t n => a c o e t fun z => by
  obtain ⟨ps, y⟩ := h c z n o e
  exact t ps y
theorem CtxB.fx {C : Addr} {H H' : Hp} {p d : Addr} {m : Mp} {b : Bool} {l : List Addr} (c : CtxB C H p d m b) (f : Fx l H H') (h1 : p ∉ l) (h2 : d ∉ l) : CtxB C H' p d m b := let ⟨⟨dx, e⟩, h⟩ := c; ⟨⟨dx, f _ _ e (by intro _ z; cases z) h1⟩, f _ _ h (by intro _ z; cases z) h2⟩
theorem RoomAt.fx {R : Addr} {H H' : Hp} {r : Addr} {le : Addr × List V} {p : Addr} {l : List Addr} (c : RoomAt R H r le p) (f : Fx l H H') (h1 : r ∉ l) (h2 : le.1 ∉ l) : RoomAt R H' r le p := let ⟨dr, bk, e, e2⟩ := c; ⟨dr, bk, f _ _ e (by intro _ z; cases z) h1, f _ _ e2 (by intro _ z; cases z) h2⟩
theorem TokAt.fx {T : Addr} {H H' : Hp} {t p : Addr} {k : Str} {old : V} {u : Bool} {l : List Addr} (c : TokAt T H t p k old u) (f : Fx l H H') (h1 : t ∉ l) : TokAt T H' t p k old u := let ⟨dx, e⟩ := c; ⟨dx, f _ _ e (by intro _ z; cases z) h1⟩
theorem WinAt.fx {W : Addr} {H H' : Hp} {x r p : Addr} {e : V} {l : List Addr} (c : WinAt W H x r p e) (f : Fx l H H') (h1 : x ∉ l) : WinAt W H' x r p e := let ⟨dx, h⟩ := c; ⟨dx, f _ _ h (by intro _ z; cases z) h1⟩
/-- a token of another state is another one -/
theorem tok_ne {T : Addr} {H : Hp} {t t' p p' : Addr} {k k' : Str} {o o' : V} {u u' : Bool} (h : TokAt T H t p k o u) (h' : TokAt T H t' p' k' o' u') (n : ¬ (o = o' ∧ u = u')) : t ≠ t' := fun z => by
  obtain ⟨_, e⟩ := h
  obtain ⟨_, e'⟩ := h'
  rw [z, e'] at e
  injection e with e
  injection e with _ _ e
  unfold tfl at e
  injection e with _ e
  injection e with _ e
  injection e with e1 e
  injection e with e2 _
  injection e1 with _ e1
  injection e2 with _ e2
  injection e2 with e2
  exact n ⟨e1.symm, e2.symm⟩
section
variable {K : PySem.W.Frag} {R C T CF W : Addr} {T0 : List (Addr × Str)} {H0 H H' : Hp} {r : Addr} {le : Addr × List V} {p d t q : Addr} {k : Str} {o : Option Int} {u : Bool} {mm : Mp} {Q : VK} {E : XK}
/-- the room with its current context; but for what stands in l, all is as in H0 -/
structure Turn (R C : Addr) (T0 : List (Addr × Str)) (l : List Addr) (H0 H : Hp) (r : Addr) (le : Addr × List V) (p d : Addr) (mm : Mp) : Prop where
  ro : RoomAt R H r le p
  cx : CtxB C H p d mm true
  tb : LnX.TabsC T0 H
  fx : Fx l H0 H
  hd : d ∈ l
  lv : ∀ a ∈ l, ∃ o, H a = some o ∧ ∀ ps, o ≠ .tbl ps
variable {l : List Addr}
theorem Turn.same (h : Turn R C T0 l H0 H r le p d mm) (s : Same H H') : Turn R C T0 l H0 H' r le p d mm :=
  ⟨h.ro.fr (Fr.of (l := []) s) (by simp) (by simp), h.cx.fr (Fr.of (l := []) s) (by simp) (by simp), h.tb.keep (LnX.KeepT.of s), h.fx.trans (Fx.same s), h.hd, fun a ha => let ⟨o, e, n⟩ := h.lv a ha; ⟨o, s _ _ e, n⟩⟩
theorem Turn.ext (h : Turn R C T0 l H0 H r le p d mm) (e : LamX.ExtN H H') (tb : LnX.TabsC T0 H') : Turn R C T0 l H0 H' r le p d mm := ⟨h.ro.x e, h.cx.x e, tb, h.fx.trans (Fx.ext e), h.hd, fun a ha => let ⟨o, e1, n⟩ := h.lv a ha; ⟨o, e _ _ e1 n, n⟩⟩
theorem Turn.put {m2 : Mp} (h : Turn R C T0 l H0 H r le p d mm) (f : Fr [d] H H') (e : H' d = some (.dK (kv m2))) : Turn R C T0 l H0 H' r le p d m2 := by
  obtain ⟨n1, n2, n3, n4⟩ := room_ctx h.ro h.cx
  have n5 := ctx_pd h.cx
  obtain ⟨⟨dx, e1⟩, e2⟩ := id h.cx
  refine ⟨h.ro.fr f (by simpa using n2) (by simpa using n4), ⟨⟨dx, f _ _ e1 (by simpa using n5.symm)⟩, e⟩, h.tb.keep (f.keepT fun x hx => .inr (by rw [List.mem_singleton.mp hx]; exact ⟨_, e2, (fun _ z => by cases z), (fun _ z => by cases z)⟩)), h.fx.trans ((Fx.of f).mono fun x hx => by rw [List.mem_singleton.mp hx]; exact h.hd), h.hd, fun a ha => ?_⟩
  by_cases z : a = d
  · exact ⟨_, by rw [z]; exact e, fun _ z => by cases z⟩
  · obtain ⟨o, e1, n⟩ := h.lv a ha
    exact ⟨o, f _ _ e1 (by simpa using z), n⟩
theorem Turn.tok {m2 : Mp} {old : V} (h : Turn R C T0 l H0 H r le p d mm) (tk : TokAt T H t q k old u) (hn : Nw H0 t ∨ t ∈ l) (f : Fr [d, t] H H') (tk' : ∃ q k o u, TokAt T H' t q k o u) (e : H' d = some (.dK (kv m2))) : Turn R C T0 l H0 H' r le p d m2 := by
  obtain ⟨n1, n2, n3, n4⟩ := room_ctx h.ro h.cx
  have n5 := ctx_pd h.cx
  obtain ⟨n6, n7⟩ := tok_ctx tk h.cx.at
  obtain ⟨n8, n9⟩ := tok_room tk h.ro
  obtain ⟨⟨dx, e1⟩, e2⟩ := id h.cx
  obtain ⟨dt, et⟩ := id tk
  refine ⟨h.ro.fr f (by simp [n2, n8.symm]) (by simp [n4, n9.symm]), ⟨⟨dx, f _ _ e1 (by simp [n5.symm, n6.symm])⟩, e⟩, h.tb.keep (f.keepT fun x hx => .inr ?_), ?_, h.hd, fun a ha => ?_⟩
  · rcases List.mem_cons.mp hx with z | z
    · rw [z]
      exact ⟨_, e2, (fun _ z => by cases z), (fun _ z => by cases z)⟩
    · rw [List.mem_singleton.mp z]
      exact ⟨_, et, (fun _ z => by cases z), (fun _ z => by cases z)⟩
  · refine Fx.drop (m := t :: l) ((h.fx.mono fun x hx => List.mem_cons_of_mem _ hx).trans ((Fx.of f).mono fun x hx => ?_)) fun x hx hl => ?_
    · rcases List.mem_cons.mp hx with z | z
      · rw [z]
        exact List.mem_cons_of_mem _ h.hd
      · rw [List.mem_singleton.mp z]
        exact List.mem_cons_self
    · rcases List.mem_cons.mp hx with z | z
      · rw [z] at hl ⊢
        exact hn.elim id fun y => absurd y hl
      · exact absurd z hl
  · by_cases z : a = d
    · exact ⟨_, by rw [z]; exact e, fun _ z => by cases z⟩
    · by_cases z2 : a = t
      · obtain ⟨q', k', o', u', dt', et'⟩ := tk'
        exact ⟨_, by rw [z2]; exact et', fun _ z => by cases z⟩
      · obtain ⟨o, e1, n⟩ := h.lv a ha
        exact ⟨o, f _ _ e1 (by simp [z, z2]), n⟩
/-! the reading's beginnings -/
theorem at_room {m : Str} {A : Prop} (h : RoomAt R H r le p) (k : A) (n1 : ¬ m = ("_book" : Str) := by decide +kernel) (n2 : ¬ m = ("_events" : Str) := by decide +kernel) (n3 : ¬ m = ("now" : Str) := by decide +kernel) :
    ∃ a dx fs, V.ref r = .ref a ∧ H a = some (.ins R dx fs) ∧ fs.lookup m = none ∧ A := by
  obtain ⟨dr, bk, er, _⟩ := h
  exact ⟨r, dr, _, rfl, er, rlook bk le p n1 n2 n3, k⟩
theorem at_ctx {m : Str} {A : Prop} (h : CtxAt C H p d mm) (k : A) (n1 : ¬ m = ("_held" : Str) := by decide +kernel) (n2 : ¬ m = ("is_busy" : Str) := by decide +kernel) :
    ∃ a dx fs, V.ref p = .ref a ∧ H a = some (.ins C dx fs) ∧ fs.lookup m = none ∧ A := by
  obtain ⟨⟨dx, b, e⟩, _⟩ := h
  exact ⟨p, dx, _, rfl, e, flds_no b d n1 n2, k⟩
theorem is_ctx {A : Prop} (h : CtxAt C H p d mm) (k : A) : ∃ a dx fs, V.ref p = .ref a ∧ H a = some (.ins C dx fs) ∧ A := by
  obtain ⟨⟨dx, b, e⟩, _⟩ := h
  exact ⟨p, dx, _, rfl, e, k⟩
theorem now_of (RR : RoC K R) (h : RoomAt R H r le p) (k : Q (.ref p) H) : ∃ a C dx fs v, V.ref r = .ref a ∧ H a = some (.ins C dx fs) ∧ Cls K C ∧ NoAttr K C "now" ∧ fs.lookup ("now" : Str) = some v ∧ Q v H := by
  obtain ⟨dr, bk, er, _⟩ := h
  exact ⟨r, R, dr, _, _, rfl, er, RR.cl, RR.nN, rfl_n bk le p, k⟩
theorem used_of {old : V} (TK : TkC K T) (h : TokAt T H t q k old u) (z : Q (.bl u) H) : ∃ a C dx fs v, V.ref t = .ref a ∧ H a = some (.ins C dx fs) ∧ Cls K C ∧ NoAttr K C "is_used" ∧ fs.lookup ("is_used" : Str) = some v ∧ Q v H := by
  obtain ⟨dt, e⟩ := h
  exact ⟨t, T, dt, _, _, rfl, e, TK.cl, TK.nU, tfl_u q k old u, z⟩
theorem tctx_of {old : V} (TK : TkC K T) (h : TokAt T H t q k old u) (z : Q (.ref q) H) : ∃ a C dx fs v, V.ref t = .ref a ∧ H a = some (.ins C dx fs) ∧ Cls K C ∧ NoAttr K C "context" ∧ fs.lookup ("context" : Str) = some v ∧ Q v H := by
  obtain ⟨dt, e⟩ := h
  exact ⟨t, T, dt, _, _, rfl, e, TK.cl, TK.nC, tfl_c q k old u, z⟩
/-! promises, used: the last of what each asks -/
theorem get_both {v : Int} {A : Int → Prop} {B : Prop} (e : aget mm k = some v) (z : A v) : (∀ v', aget mm k = some v' → A v') ∧ (aget mm k = none → B) :=
  ⟨fun v' e' => (by rw [e] at e'; cases e'; exact z), fun y => (by rw [e] at y; cases y)⟩
theorem get_none {A : Int → Prop} {B : Prop} (e : aget mm k = none) (z : B) : (∀ v', aget mm k = some v' → A v') ∧ (aget mm k = none → B) :=
  ⟨fun v' e' => (by rw [e] at e'; cases e'), fun _ => z⟩
theorem put_st {m2 : Mp} {A : Prop} (h : Turn R C T0 l H0 H r le p d mm) (e : H' d = some (.dK (kv m2))) (f : Fr [d] H H') (z : Turn R C T0 l H0 H' r le p d m2 → A) : A := z (h.put f e)
theorem hold_st {m2 : Mp} {A : Prop} (h : Turn R C T0 l H0 H r le p d mm) (nt : H t = none) (e : H' d = some (.dK (kv m2))) (f : Fr [d] H H') (z : Nw H0 t → Turn R C T0 l H0 H' r le p d m2 → A) : A :=
  z (Nw.of h.fx nt fun hm => (by obtain ⟨o, eo, _⟩ := h.lv t hm; rw [nt] at eo; cases eo)) (h.put f e)
theorem reset_st {A : Hp → Prop} {B1 B2 : Prop} (h : Turn R C T0 l H0 H r le p d mm) (tk : TokAt T H t p k (oldV o) false) (hn : Nw H0 t ∨ t ∈ l)
    (z : ∀ H', Turn R C T0 l H0 H' r le p d (rset mm k o) → TokAt T H' t p k (oldV o) true → Fr [d, t] H H' → A H') :
    (false = true → B1) ∧ (false = false → p ≠ p → B2) ∧ (false = false → p = p → ∀ H', TokAt T H' t p k (oldV o) true → H' d = some (.dK (kv (rset mm k o))) → Fr [d, t] H H' → A H') :=
  ⟨fun y => Bool.noConfusion y, fun _ y => absurd rfl y, fun _ _ H' tk' e f => z H' (h.tok tk hn f ⟨_, _, _, _, tk'⟩ e) tk' f⟩
theorem used_st {A B2 B3 : Prop} (z : A) : (true = true → A) ∧ (true = false → B2) ∧ (true = false → B3) := ⟨fun _ => z, fun y => Bool.noConfusion y, fun y => Bool.noConfusion y⟩
theorem far_st {A B1 B3 : Prop} (ne : q ≠ p) (z : A) : (false = true → B1) ∧ (false = false → q ≠ p → A) ∧ (false = false → q = p → B3) := ⟨fun y => Bool.noConfusion y, fun _ _ => z, fun _ y => absurd y ne⟩
theorem Turn.nw (h : Turn R C T0 l H0 H r le p d mm) {a : Addr} (n : H a = none) : Nw H0 a := Nw.of h.fx n fun hm => (by obtain ⟨o, eo, _⟩ := h.lv a hm; rw [n] at eo; cases eo)
/-! what is told of a token, compared -/
def oldD : Option Int → PyData
  | none => .none
  | some v => .int v
theorem told_dp {tp : Addr} (h : H tp = some (.tup [.str k, oldV o, .bl u])) : Dp K H (.ref tp) (.tuple [.str k, oldD o, .bool u]) :=
  .tup (SqT.of h) (.cons (.str k) (.cons (by cases o; exact .non; exact .int _) (.cons (.bl u) .nil)))
theorem told_plain : (PyData.tuple [.str k, oldD o, .bool u]).plain = true := by
  cases o <;> rfl
theorem told_depth : (PyData.tuple [.str k, oldD o, .bool u]).depth ≤ 64 := by
  cases o <;> (simp only [PyData.depth, PyData.depthAll, oldD]; decide)
theorem told_same {tp tp2 : Addr} (n1 : H tp = none) (n2 : (upd H tp (.tup [.str k, oldV o, .bl u])) tp2 = none) (q : ∀ H', Same H H' → Q (.bl false) H') :
    rEqP K (!·) (.ref tp) (.ref tp2) (upd (upd H tp (.tup [.str k, oldV o, .bl u])) tp2 (.tup [.str k, oldV o, .bl u])) Q := by
  refine ⟨_, _, told_dp (o := o) (by rw [upd_ne (ne_of_none upd_same n2)]; exact upd_same), told_dp (o := o) upd_same, told_plain, told_plain, told_depth, ?_⟩
  rw [SeqAt.eqv_refl_plain _ told_plain]
  exact q _ ((same_new n1).trans (same_new n2))
theorem told_eq {tp tp2 : Addr} (n1 : H tp = none) (n2 : (upd H tp (.tup [.str k, oldV o, .bl u])) tp2 = none) (q : ∀ H', Same H H' → Q (.bl true) H') :
    rEqP K id (.ref tp) (.ref tp2) (upd (upd H tp (.tup [.str k, oldV o, .bl u])) tp2 (.tup [.str k, oldV o, .bl u])) Q := by
  refine ⟨_, _, told_dp (o := o) (by rw [upd_ne (ne_of_none upd_same n2)]; exact upd_same), told_dp (o := o) upd_same, told_plain, told_plain, told_depth, ?_⟩
  rw [SeqAt.eqv_refl_plain _ told_plain]
  exact q _ ((same_new n1).trans (same_new n2))
end
end SW

set_option Elab.async false
set_option linter.all false
set_option maxRecDepth 100000
set_option maxHeartbeats 1000000
/-! A room beside the law's own account of it: what stands where. -/
namespace XA
open PySem PySem.Spec PyProof.Rows L2 SW
/-- the things, by name -/
inductive Lb where
  | w | cl | bl | tl | ll
  | d (i : Nat) | q (j : Nat) | ol (j : Nat) | ev (k : Nat)
  | r | le
  | re (k : Nat) | p (i : Nat) | e (i : Nat) | t (j : Nat)
  | th | hc | ht | hv
  | c (i : Nat) | k (j : Nat)
/-- a token: its context, its variable, what was before, whether it is used -/
structure Tk where
  ctx : Nat
  var : Str
  old : Option Int
  used : Bool
/-- the law's account -/
structure LS where
  cs : List Mp
  now : Nat
  busy : List Nat
  tk : List Tk
  lg : List (List V)
/-- the room: contexts and whether they are in use, tokens, events -/
structure RS where
  cs : List (Mp × Bool)
  now : Nat
  tk : List Tk
  lg : List (List V)
/-- which thing of the room has which number -/
structure TS where
  nc : List (Nat × Nat)
  nt : List (Nat × Nat)
def oldL : Option Int → List V
  | none => []
  | some v => [.int v]
def refs (A : Lb → Addr) (f : Nat → Lb) (n : Nat) : List V := (List.range n).map fun i => .ref (A (f i))
def wk (A : Lb → Addr) (n : Nat) : List (Key × V) := [(.inr "contexts", .ref (A .cl)), (.inr "now", .int (n : Int)), (.inr "busy", .ref (A .bl)), (.inr "tokens", .ref (A .tl)), (.inr "log", .ref (A .ll))]
def hk (A : Lb → Addr) : List (Key × V) := [(.inr "contexts", .ref (A .hc)), (.inr "tokens", .ref (A .ht)), (.inr "vars", .ref (A .hv))]
/-- the classes and the names -/
structure Cl where
  C : Addr
  T : Addr
  R : Addr
  vars : List Str
variable (G : Cl)
/-- what stands under each name -/
def cont (A : Lb → Addr) (L : LS) (M : RS) (U : TS) : Lb → Option (HO → Prop)
  | .w => some fun o => o = .dK (wk A L.now)
  | .cl => some fun o => o = .lst (refs A .d L.cs.length)
  | .bl => some fun o => o = .lst (L.busy.map fun i : Nat => V.int (i : Int))
  | .tl => some fun o => o = .lst (refs A .q L.tk.length)
  | .ll => some fun o => o = .lst (refs A .ev L.lg.length)
  | .d i => L.cs[i]?.map fun m o => o = .dK (kv m)
  | .q j => L.tk[j]?.map fun x o => o = .tup [.int (x.ctx : Int), .str x.var, .ref (A (.ol j)), .bl x.used]
  | .ol j => L.tk[j]?.map fun x o => o = .lst (oldL x.old)
  | .ev k => L.lg[k]?.map fun x o => o = .tup x
  | .r => some fun o => ∃ dr bk, o = .ins G.R dr (rfl_ bk (A .le, refs A .re M.lg.length) (A (.p M.now)))
  | .le => some fun o => o = .lst (refs A .re M.lg.length)
  | .re k => M.lg[k]?.map fun x o => o = .tup x
  | .p i => M.cs[i]?.map fun m o => ∃ dx, o = .ins G.C dx (flds m.2 (A (.e i)))
  | .e i => M.cs[i]?.map fun m o => o = .dK (kv m.1)
  | .t j => M.tk[j]?.map fun x o => ∃ dt, o = .ins G.T dt (tfl (A (.p x.ctx)) x.var (oldV x.old) x.used)
  | .th => some fun o => o = .dK (hk A)
  | .hc => some fun o => o = .lst (refs A .c U.nc.length)
  | .ht => some fun o => o = .lst (refs A .k U.nt.length)
  | .hv => some fun o => o = .lst (G.vars.map V.str)
  | .c i => U.nc[i]?.map fun x o => o = .lst [.ref (A (.p x.1)), .int (x.2 : Int)]
  | .k j => U.nt[j]?.map fun x o => o = .lst [.ref (A (.t x.1)), .int (x.2 : Int)]
structure All (A : Lb → Addr) (L : LS) (M : RS) (U : TS) (H : Hp) : Prop where
  at_ : ∀ l P, cont G A L M U l = some P → ∃ o, H (A l) = some o ∧ P o
  inj : ∀ l l', (cont G A L M U l).isSome = true → (cont G A L M U l').isSome = true → A l = A l' → l = l'
  /-- tokens and numbers speak of things that are there -/
  nw : M.now < M.cs.length
  tc : ∀ x ∈ M.tk, x.ctx < M.cs.length
  hc : ∀ x ∈ U.nc, x.1 < M.cs.length
  ht : ∀ x ∈ U.nt, x.1 < M.tk.length
variable {G} {A A' : Lb → Addr} {L L' : LS} {M M' : RS} {U U' : TS} {H H' : Hp}
theorem All.get (h : All G A L M U H) {l : Lb} {P : HO → Prop} (e : cont G A L M U l = some P) : ∃ o, H (A l) = some o ∧ P o := h.at_ l P e
theorem All.has (h : All G A L M U H) {l : Lb} (e : (cont G A L M U l).isSome = true) : ∃ o, H (A l) = some o := by
  obtain ⟨P, eP⟩ := Option.isSome_iff_exists.mp e
  obtain ⟨o, e, _⟩ := h.at_ l P eP
  exact ⟨o, e⟩
/-- nothing of it is a table -/
theorem cont_plain {l : Lb} {P : HO → Prop} {o : HO} (e : cont G A L M U l = some P) (h : P o) : plainO o := by
  have p1 : ∀ xs, plainO (.lst xs) := fun xs => ⟨fun _ z => by (cases z), fun _ z => by cases z⟩
  have p2 : ∀ xs, plainO (.tup xs) := fun xs => ⟨fun _ z => by (cases z), fun _ z => by cases z⟩
  have p3 : ∀ xs, plainO (.dK xs) := fun xs => ⟨fun _ z => by (cases z), fun _ z => by cases z⟩
  have p4 : ∀ a b c, plainO (.ins a b c) := fun _ _ _ => ⟨fun _ z => by (cases z), fun _ z => by cases z⟩
  have opt : ∀ {α : Type} {x : Option α} {f : α → HO → Prop}, (x.map f) = some P → (∀ a o, f a o → plainO o) → plainO o := fun {α x f} e q => by
    cases x with
    | none => cases e
    | some a =>
      have : f a = P := Option.some.inj e
      subst this
      exact q a o h
  cases l with
  | w => cases e; subst h; exact p3 _
  | cl => cases e; subst h; exact p1 _
  | bl => cases e; subst h; exact p1 _
  | tl => cases e; subst h; exact p1 _
  | ll => cases e; subst h; exact p1 _
  | d i => exact opt e fun _ _ z => by subst z; exact p3 _
  | q j => exact opt e fun _ _ z => by subst z; exact p2 _
  | ol j => exact opt e fun _ _ z => by subst z; exact p1 _
  | ev k => exact opt e fun _ _ z => by subst z; exact p2 _
  | r => cases e; obtain ⟨_, _, rfl⟩ := h; exact p4 _ _ _
  | le => cases e; subst h; exact p1 _
  | re k => exact opt e fun _ _ z => by subst z; exact p2 _
  | p i => exact opt e fun _ _ z => by obtain ⟨_, rfl⟩ := z; exact p4 _ _ _
  | e i => exact opt e fun _ _ z => by subst z; exact p3 _
  | t j => exact opt e fun _ _ z => by obtain ⟨_, rfl⟩ := z; exact p4 _ _ _
  | th => cases e; subst h; exact p3 _
  | hc => cases e; subst h; exact p1 _
  | ht => cases e; subst h; exact p1 _
  | hv => cases e; subst h; exact p1 _
  | c i => exact opt e fun _ _ z => by subst z; exact p1 _
  | k j => exact opt e fun _ _ z => by subst z; exact p1 _
theorem All.same (h : All G A L M U H) (s : Same H H') : All G A L M U H' := ⟨fun l P e => let ⟨o, e1, z⟩ := h.at_ l P e; ⟨o, s _ _ e1, z⟩, h.inj, h.nw, h.tc, h.hc, h.ht⟩
theorem All.ext (h : All G A L M U H) (s : LamX.ExtN H H') : All G A L M U H' := ⟨fun l P e => let ⟨o, e1, z⟩ := h.at_ l P e; ⟨o, s _ _ e1 (cont_plain e z).1, z⟩, h.inj, h.nw, h.tc, h.hc, h.ht⟩
/-- what is behind a step: the things of xs are told anew -/
theorem All.step (h : All G A L M U H) (xs : List Lb) (hA : ∀ l, l ∉ xs → (cont G A L M U l).isSome = true → A' l = A l) (hs : ∀ l, l ∉ xs → cont G A' L' M' U' l = cont G A L M U l)
    (f : ∀ l, l ∉ xs → ∀ o, H (A l) = some o → (cont G A L M U l).isSome = true → H' (A l) = some o) (e : ∀ x ∈ xs, ∀ P, cont G A' L' M' U' x = some P → ∃ o, H' (A' x) = some o ∧ P o)
    (n : ∀ x ∈ xs, (cont G A' L' M' U' x).isSome = true → ∀ l, l ∉ xs → (cont G A L M U l).isSome = true → A' x ≠ A l)
    (n2 : ∀ x ∈ xs, ∀ y ∈ xs, (cont G A' L' M' U' x).isSome = true → (cont G A' L' M' U' y).isSome = true → A' x = A' y → x = y)
    (b1 : M'.now < M'.cs.length) (b2 : ∀ x ∈ M'.tk, x.ctx < M'.cs.length) (b3 : ∀ x ∈ U'.nc, x.1 < M'.cs.length) (b4 : ∀ x ∈ U'.nt, x.1 < M'.tk.length) : All G A' L' M' U' H' := by
  refine ⟨fun l P eP => ?_, fun l l' e1 e2 ea => ?_, b1, b2, b3, b4⟩
  · by_cases hl : l ∈ xs
    · exact e l hl P eP
    · rw [hs l hl] at eP
      obtain ⟨o, e1, z⟩ := h.at_ l P eP
      have v : (cont G A L M U l).isSome = true := by rw [eP]; rfl
      exact ⟨o, by rw [hA l hl v]; exact f l hl o e1 v, z⟩
  · by_cases hl : l ∈ xs <;> by_cases hl' : l' ∈ xs
    · exact n2 l hl l' hl' e1 e2 ea
    · rw [hs l' hl'] at e2
      exact absurd (ea.trans (hA l' hl' e2)) (n l hl e1 l' hl' e2)
    · rw [hs l hl] at e1
      exact absurd (ea.symm.trans (hA l hl e1)) (n l' hl' e2 l hl e1)
    · rw [hs l hl] at e1
      rw [hs l' hl'] at e2
      exact h.inj l l' e1 e2 (by rw [← hA l hl e1, ← hA l' hl' e2]; exact ea)
/-- things that were there are written -/
theorem All.set (h : All G A L M U H) (xs : List Lb) (v : ∀ x ∈ xs, (cont G A L M U x).isSome = true) (hs : ∀ l, l ∉ xs → cont G A L' M' U' l = cont G A L M U l) (f : Fr (xs.map A) H H')
    (e : ∀ x ∈ xs, ∀ P, cont G A L' M' U' x = some P → ∃ o, H' (A x) = some o ∧ P o)
    (b1 : M'.now < M'.cs.length) (b2 : ∀ x ∈ M'.tk, x.ctx < M'.cs.length) (b3 : ∀ x ∈ U'.nc, x.1 < M'.cs.length) (b4 : ∀ x ∈ U'.nt, x.1 < M'.tk.length) : All G A L' M' U' H' := by
  refine h.step xs (fun _ _ _ => rfl) hs (fun l hl o eo vl => f _ _ eo fun hm => ?_) e (fun x hx _ l hl vl ea => ?_) (fun x hx y hy _ _ ea => h.inj x y (v x hx) (v y hy) ea) b1 b2 b3 b4
  · obtain ⟨x, hx, ex⟩ := List.mem_map.mp hm
    exact hl (h.inj x l (v x hx) vl ex ▸ hx)
  · exact hl (h.inj x l (v x hx) vl ea ▸ hx)
/-- a function with one value changed -/
theorem upd_ex (A : Lb → Addr) (x : Lb) (a : Addr) : ∃ A' : Lb → Addr, A' x = a ∧ ∀ l, l ≠ x → A' l = A l := by
  classical
  exact ⟨fun l => if l = x then a else A l, if_pos rfl, fun l hl => if_neg hl⟩
theorem refs_len (f : Nat → Lb) (n : Nat) : (refs A f n).length = n := by
  unfold refs
  rw [List.length_map, List.length_range]
theorem refs_at {f : Nat → Lb} {n i : Nat} (h : i < n) : (refs A f n)[i]? = some (.ref (A (f i))) := by
  unfold refs
  rw [List.getElem?_map, List.getElem?_range h]
  rfl
theorem refs_snoc (f : Nat → Lb) (n : Nat) : refs A f (n + 1) = refs A f n ++ [.ref (A (f n))] := by
  unfold refs
  rw [List.range_succ, List.map_append]
  rfl
theorem refs_congr {f : Nat → Lb} {n : Nat} (h : ∀ i, i < n → A' (f i) = A (f i)) : refs A' f n = refs A f n := by
  unfold refs
  refine List.map_congr_left fun i hi => ?_
  rw [h i (List.mem_range.mp hi)]
end XA

set_option Elab.async false
set_option linter.all false
set_option maxRecDepth 100000
set_option maxHeartbeats 1000000
/-! Steps of the account and of the room, as things told anew. -/
namespace XA
open PySem PySem.Spec PyProof.Rows L2 SW
variable {G : Cl} {A A' : Lb → Addr} {L L' : LS} {M M' : RS} {U U' : TS} {H H' : Hp} {x y : Lb} {a : Addr}
theorem map_some {α β : Type} {f : α → β} {l : List α} {i : Nat} (h : i < l.length) : (l[i]?.map f).isSome = true := by
  rw [List.getElem?_eq_getElem h]
  rfl
theorem not_none {l : Lb} (hx : cont G A L M U x = none) (h : (cont G A L M U l).isSome = true) : l ≠ x := fun z => by
  rw [z, hx] at h
  cases h
/-- a name under which nothing stands may be given to any place -/
theorem All.relabel (h : All G A L M U H) (hx : cont G A L M U x = none) (eA : ∀ l, l ≠ x → A' l = A l) : ∀ l, cont G A' L M U l = cont G A L M U l := fun l => by
  have v : ∀ l, (cont G A L M U l).isSome = true → A' l = A l := fun l hl => eA l (not_none hx hl)
  have rf : ∀ (f : Nat → Lb) (n : Nat), (∀ i, i < n → (cont G A L M U (f i)).isSome = true) → refs A' f n = refs A f n := fun f n hf => refs_congr fun i hi => v _ (hf i hi)
  have opt : ∀ {α : Type} {z : Option α} {f g : α → HO → Prop}, (∀ a, z = some a → f a = g a) → z.map f = z.map g := fun {α z f g} q => by
    cases z with
    | none => rfl
    | some a => exact congrArg some (q a rfl)
  cases l with
  | w => show some _ = some _; unfold wk; rw [v .cl rfl, v .bl rfl, v .tl rfl, v .ll rfl]
  | cl => show some _ = some _; rw [rf .d _ fun i hi => map_some hi]
  | bl => rfl
  | tl => show some _ = some _; rw [rf .q _ fun i hi => map_some hi]
  | ll => show some _ = some _; rw [rf .ev _ fun i hi => map_some hi]
  | d i => rfl
  | q j => exact opt fun b hb => by rw [v (.ol j) (by show (L.tk[j]?.map _).isSome = true; rw [hb]; rfl)]
  | ol j => rfl
  | ev k => rfl
  | r => show some _ = some _; rw [v .le rfl, rf .re _ fun i hi => map_some hi, v (.p M.now) (map_some h.nw)]
  | le => show some _ = some _; rw [rf .re _ fun i hi => map_some hi]
  | re k => rfl
  | p i => exact opt fun b hb => by rw [v (.e i) (by show (M.cs[i]?.map _).isSome = true; rw [hb]; rfl)]
  | e i => rfl
  | t j => exact opt fun b hb => by rw [v (.p b.ctx) (map_some (h.tc b (List.mem_of_getElem? hb)))]
  | th => show some _ = some _; unfold hk; rw [v .hc rfl, v .ht rfl, v .hv rfl]
  | hc => show some _ = some _; rw [rf .c _ fun i hi => map_some hi]
  | ht => show some _ = some _; rw [rf .k _ fun i hi => map_some hi]
  | hv => rfl
  | c i => exact opt fun b hb => by rw [v (.p b.1) (map_some (h.hc b (List.mem_of_getElem? hb)))]
  | k j => exact opt fun b hb => by rw [v (.t b.1) (map_some (h.ht b (List.mem_of_getElem? hb)))]
theorem All.rename (h : All G A L M U H) (hx : cont G A L M U x = none) (eA : ∀ l, l ≠ x → A' l = A l) : All G A' L M U H := by
  have re := h.relabel hx eA
  refine ⟨fun l P e => ?_, fun l l' e1 e2 ea => ?_, h.nw, h.tc, h.hc, h.ht⟩
  · rw [re l] at e
    rw [eA l (not_none hx (by rw [e]; rfl))]
    exact h.at_ l P e
  · rw [re l] at e1
    rw [re l'] at e2
    rw [eA l (not_none hx e1), eA l' (not_none hx e2)] at ea
    exact h.inj l l' e1 e2 ea
/-- one thing more, told of by one that was there -/
theorem All.add (h : All G A L M U H) (x y : Lb) (hx : cont G A L M U x = none) (vy : (cont G A L M U y).isSome = true) (na : H a = none) : ∃ A' : Lb → Addr, A' x = a ∧ (∀ l, l ≠ x → A' l = A l) ∧
    ∀ L' M' U' H', (∀ l, l ≠ x → l ≠ y → cont G A' L' M' U' l = cont G A' L M U l) → Fr [A y] H H' → (∀ P, cont G A' L' M' U' x = some P → ∃ o, H' a = some o ∧ P o) → (∀ P, cont G A' L' M' U' y = some P → ∃ o, H' (A y) = some o ∧ P o) →
      M'.now < M'.cs.length → (∀ x ∈ M'.tk, x.ctx < M'.cs.length) → (∀ x ∈ U'.nc, x.1 < M'.cs.length) → (∀ x ∈ U'.nt, x.1 < M'.tk.length) → All G A' L' M' U' H' := by
  obtain ⟨A', e1, eA⟩ := upd_ex A x a
  refine ⟨A', e1, eA, fun L' M' U' H' hs f ex ey b1 b2 b3 b4 => ?_⟩
  have h' := h.rename hx eA
  have re := h.relabel hx eA
  have yx : y ≠ x := not_none hx vy
  have ay : A' y = A y := eA y yx
  have free : ∀ l, (cont G A' L M U l).isSome = true → A' l ≠ a := fun l hl z => by
    obtain ⟨o, eo⟩ := h'.has hl
    rw [z, na] at eo
    cases eo
  have vy' : (cont G A' L M U y).isSome = true := by rw [re y]; exact vy
  refine h'.step [x, y] (fun _ _ _ => rfl) (fun l hl => hs l (fun z => hl (by simp [z])) fun z => hl (by simp [z])) (fun l hl o eo vl => f _ _ eo fun hm => ?_) (fun z hz P eP => ?_) (fun z hz _ l hl vl ea => ?_) (fun z hz u hu _ _ ea => ?_) b1 b2 b3 b4
  · have : A' l = A' y := by rw [ay]; simpa using hm
    exact hl (by rw [h'.inj l y vl vy' this]; simp)
  · rcases List.mem_cons.mp hz with q | q
    · rw [q] at eP ⊢
      rw [e1]
      exact ex P eP
    · rw [List.mem_singleton.mp q] at eP ⊢
      rw [ay]
      exact ey P eP
  · rcases List.mem_cons.mp hz with q | q
    · rw [q, e1] at ea
      exact free l vl ea.symm
    · rw [List.mem_singleton.mp q] at ea
      exact hl (by rw [← h'.inj y l vy' vl ea]; simp)
  · rcases List.mem_cons.mp hz with q | q <;> rcases List.mem_cons.mp hu with q2 | q2
    · rw [q, q2]
    · rw [q, List.mem_singleton.mp q2, e1] at ea
      exact absurd ea.symm (free y vy')
    · rw [q2, List.mem_singleton.mp q, e1] at ea
      exact absurd ea (free y vy')
    · rw [List.mem_singleton.mp q, List.mem_singleton.mp q2]
/-- one thing written -/
theorem All.one (h : All G A L M U H) (x : Lb) (v : (cont G A L M U x).isSome = true) (hs : ∀ l, l ≠ x → cont G A L' M' U' l = cont G A L M U l) (f : Fr [A x] H H')
    (e : ∀ P, cont G A L' M' U' x = some P → ∃ o, H' (A x) = some o ∧ P o)
    (b1 : M'.now < M'.cs.length) (b2 : ∀ x ∈ M'.tk, x.ctx < M'.cs.length) (b3 : ∀ x ∈ U'.nc, x.1 < M'.cs.length) (b4 : ∀ x ∈ U'.nt, x.1 < M'.tk.length) : All G A L' M' U' H' :=
  h.set [x] (fun z hz => by rw [List.mem_singleton.mp hz]; exact v) (fun l hl => hs l fun z => hl (by simp [z])) f (fun z hz P eP => by rw [List.mem_singleton.mp hz] at eP ⊢; exact e P eP) b1 b2 b3 b4
/-- what is no part of it stays; a part is an old one's place or new -/
def Go (G : Cl) (A : Lb → Addr) (L : LS) (M : RS) (U : TS) (H : Hp) (A' : Lb → Addr) (L' : LS) (M' : RS) (U' : TS) (H' : Hp) : Prop :=
  (∀ b o, H b = some o → (∀ l, (cont G A L M U l).isSome = true → A l ≠ b) → H' b = some o) ∧ ∀ l, (cont G A' L' M' U' l).isSome = true → (∃ l0, (cont G A L M U l0).isSome = true ∧ A l0 = A' l) ∨ H (A' l) = none
theorem Go.refl : Go G A L M U H A L M U H := ⟨fun _ _ e _ => e, fun l v => .inl ⟨l, v, rfl⟩⟩
theorem Go.same (s : Same H H') : Go G A L M U H A L M U H' := ⟨fun b o e _ => s b o e, fun l v => .inl ⟨l, v, rfl⟩⟩
theorem Go.trans {A2 : Lb → Addr} {L2 : LS} {M2 : RS} {U2 : TS} {H2 : Hp} (g : Go G A L M U H A' L' M' U' H') (g2 : Go G A' L' M' U' H' A2 L2 M2 U2 H2) : Go G A L M U H A2 L2 M2 U2 H2 := by
  refine ⟨fun b o e n => g2.1 b o (g.1 b o e n) fun l v z => ?_, fun l v => ?_⟩
  · rcases g.2 l v with ⟨l0, v0, e0⟩ | e0
    · exact n l0 v0 (e0.trans z)
    · rw [z, e] at e0
      cases e0
  · rcases g2.2 l v with ⟨l1, v1, e1⟩ | e1
    · rcases g.2 l1 v1 with q | q
      · rw [e1] at q
        exact .inl q
      · rw [e1] at q
        exact .inr q
    · cases q : H (A2 l) with
      | none => exact .inr rfl
      | some o =>
        by_cases z : ∃ l0, (cont G A L M U l0).isSome = true ∧ A l0 = A2 l
        · exact .inl z
        · have := g.1 _ o q fun l0 v0 w => z ⟨l0, v0, w⟩
          rw [e1] at this
          cases this
theorem Go.keepT (g : Go G A L M U H A' L' M' U' H') (h : All G A L M U H) : LnX.KeepT H H' := fun b o e z => g.1 b o e fun l v w => by
  obtain ⟨P, eP⟩ := Option.isSome_iff_exists.mp v
  obtain ⟨o2, e2, q⟩ := h.at_ l P eP
  obtain ⟨p1, p2⟩ := cont_plain eP q
  rw [w, e] at e2
  cases e2
  rcases z with ⟨ps, z⟩ | ⟨φ, z⟩
  · exact p1 ps z
  · exact p2 φ z
theorem Go.fr {xs : List Lb} (v : ∀ x ∈ xs, (cont G A L M U x).isSome = true) (hv : ∀ l, (cont G A L' M' U' l).isSome = true → (cont G A L M U l).isSome = true) (f : Fr (xs.map A) H H') : Go G A L M U H A L' M' U' H' :=
  ⟨fun b o e n => f b o e fun hm => (by obtain ⟨x, hx, ex⟩ := List.mem_map.mp hm; exact n x (v x hx) ex), fun l vl => .inl ⟨l, hv l vl, rfl⟩⟩
theorem map_iff {α β : Type} {f f' : α → β} {l l' : List α} {i : Nat} (e : l'.length = l.length) (h : (l'[i]?.map f').isSome = true) : (l[i]?.map f).isSome = true := by
  refine map_some ?_
  rw [Option.isSome_map] at h
  have : i < l'.length := by
    cases z : l'[i]? with
    | none => rw [z] at h; cases h
    | some x => exact (List.getElem?_eq_some_iff.mp z).1
  omega
theorem map_iff2 {α β : Type} {f f' : α → β} {l l' : List α} {i : Nat} (e : l'.length = l.length + 1) (hi : i ≠ l.length) (h : (l'[i]?.map f').isSome = true) : (l[i]?.map f).isSome = true := by
  refine map_some ?_
  rw [Option.isSome_map] at h
  have : i < l'.length := by
    cases z : l'[i]? with
    | none => rw [z] at h; cases h
    | some x => exact (List.getElem?_eq_some_iff.mp z).1
  omega
/-- the same things are there -/
theorem valid_of (e1 : L'.cs.length = L.cs.length) (e2 : L'.tk.length = L.tk.length) (e3 : L'.lg.length = L.lg.length) (e4 : M'.cs.length = M.cs.length) (e5 : M'.tk.length = M.tk.length) (e6 : M'.lg.length = M.lg.length) (l : Lb) (h : (cont G A L' M' U l).isSome = true) : (cont G A L M U l).isSome = true := by
  cases l with
  | d i => exact map_iff e1 h
  | q j => exact map_iff e2 h
  | ol j => exact map_iff e2 h
  | ev k => exact map_iff e3 h
  | re k => exact map_iff e6 h
  | p i => exact map_iff e4 h
  | e i => exact map_iff e4 h
  | t j => exact map_iff e5 h
  | c i => exact h
  | k j => exact h
  | _ => rfl
/-- one thing is written -/
theorem Go.one {x : Lb} (v : (cont G A L M U x).isSome = true) (f : Fr [A x] H H') (e1 : L'.cs.length = L.cs.length) (e2 : L'.tk.length = L.tk.length) (e3 : L'.lg.length = L.lg.length) (e4 : M'.cs.length = M.cs.length) (e5 : M'.tk.length = M.tk.length) (e6 : M'.lg.length = M.lg.length) : Go G A L M U H A L' M' U H' :=
  Go.fr (xs := [x]) (fun y hy => by rw [List.mem_singleton.mp hy]; exact v) (valid_of e1 e2 e3 e4 e5 e6) f
/-- with things that are new -/
theorem Go.add {xs : List Lb} {ys : List Addr} (eA : ∀ l, l ∉ xs → A' l = A l) (nx : ∀ x ∈ xs, H (A' x) = none) (hv : ∀ l, l ∉ xs → (cont G A' L' M' U' l).isSome = true → (cont G A L M U l).isSome = true) (vy : ∀ y ∈ ys, ∃ l, (cont G A L M U l).isSome = true ∧ A l = y) (f : Fr ys H H') : Go G A L M U H A' L' M' U' H' := by
  refine ⟨fun b o e n => f b o e fun hm => ?_, fun l vl => ?_⟩
  · obtain ⟨l, v, z⟩ := vy b hm
    exact n l v z
  · by_cases hl : l ∈ xs
    · exact .inr (nx l hl)
    · exact .inl ⟨l, hv l hl vl, (eA l hl).symm⟩
/-! the account's steps -/
theorem set_same {α β : Type} {f : α → β} {l : List α} {i j : Nat} {v : α} (h : j ≠ i) : ((l.set i v)[j]?).map f = (l[j]?).map f := by
  rw [List.getElem?_set_ne h.symm]
theorem set_at {α : Type} {l : List α} {i : Nat} {v : α} (h : i < l.length) : (l.set i v)[i]? = some v := by
  rw [List.getElem?_set_self h]
theorem app_old {α β : Type} {f : α → β} {l : List α} {v : α} {i : Nat} (h : i ≠ l.length) : ((l ++ [v])[i]?).map f = (l[i]?).map f := by
  by_cases z : i < l.length
  · rw [List.getElem?_append_left z]
  · rw [List.getElem?_eq_none (l := l ++ [v]) (by rw [List.length_append, List.length_singleton]; omega), List.getElem?_eq_none (l := l) (by omega)]
theorem app_new {α : Type} {l : List α} {v : α} : (l ++ [v])[l.length]? = some v := by simp
theorem no_at {α β : Type} {f : α → β} {l : List α} : (l[l.length]?).map f = none := by simp
theorem All.lctx {i : Nat} {m : Mp} (h : All G A L M U H) (hi : i < L.cs.length) (f : Fr [A (.d i)] H H') (e : H' (A (.d i)) = some (.dK (kv m))) : All G A { L with cs := L.cs.set i m } M U H' := by
  refine h.one (.d i) (map_some hi) (fun l hl => ?_) f (fun P eP => ⟨_, e, ?_⟩) h.nw h.tc h.hc h.ht
  · cases l with
    | cl => show some _ = some _; rw [List.length_set]
    | d j => exact set_same fun z => hl (by rw [z])
    | _ => rfl
  · have eP : ((L.cs.set i m)[i]?).map _ = some P := eP
    rw [set_at hi] at eP
    cases eP
    rfl
theorem All.lnow {n : Nat} (h : All G A L M U H) (f : Fr [A .w] H H') (e : H' (A .w) = some (.dK (wk A n))) : All G A { L with now := n } M U H' := by
  refine h.one .w rfl (fun l hl => ?_) f (fun P eP => ⟨_, e, ?_⟩) h.nw h.tc h.hc h.ht
  · cases l with
    | w => exact absurd rfl hl
    | _ => rfl
  · cases eP
    rfl
theorem All.lbusy {b : List Nat} (h : All G A L M U H) (f : Fr [A .bl] H H') (e : H' (A .bl) = some (.lst (b.map fun i : Nat => V.int (i : Int)))) : All G A { L with busy := b } M U H' := by
  refine h.one .bl rfl (fun l hl => ?_) f (fun P eP => ⟨_, e, ?_⟩) h.nw h.tc h.hc h.ht
  · cases l with
    | bl => exact absurd rfl hl
    | _ => rfl
  · cases eP
    rfl
/-- the same places but for those of the token tuples and of what is new -/
def Ag (G : Cl) (A A' : Lb → Addr) (L : LS) (M : RS) (U : TS) : Prop := ∀ l, (∀ j, l ≠ .q j) → (cont G A L M U l).isSome = true → A' l = A l
theorem Ag.refl : Ag G A A L M U := fun _ _ _ => rfl
theorem Ag.of (hx : cont G A L M U x = none) (eA : ∀ l, l ≠ x → A' l = A l) : Ag G A A' L M U := fun l _ v => eA l (not_none hx v)
theorem All.llog {v : List V} (h : All G A L M U H) (na : H a = none) (f : Fr [A .ll] H H') (ea : H' a = some (.tup v)) (e : H' (A .ll) = some (.lst (refs A .ev L.lg.length ++ [.ref a]))) :
    ∃ A', Ag G A A' L M U ∧ All G A' { L with lg := L.lg ++ [v] } M U H' ∧ Go G A L M U H A' { L with lg := L.lg ++ [v] } M U H' := by
  have hx : cont G A L M U (.ev L.lg.length) = none := no_at
  obtain ⟨A', e1, eA, k⟩ := h.add (.ev L.lg.length) .ll hx rfl na
  refine ⟨A', Ag.of hx eA, k _ M U H' (fun l h1 h2 => ?_) f (fun P eP => ⟨_, ea, ?_⟩) (fun P eP => ⟨_, e, ?_⟩) h.nw h.tc h.hc h.ht, ?_⟩
  rotate_left 3
  · refine Go.add (xs := [.ev L.lg.length]) (fun l hl => eA l (by simpa using hl)) (fun x hx => by rw [List.mem_singleton.mp hx, e1]; exact na) (fun l hl v => ?_) (fun y hy => ⟨.ll, rfl, (List.mem_singleton.mp hy).symm⟩) f
    rw [← h.relabel hx eA]
    cases l with
    | ev j =>
      have v : (((L.lg ++ [_])[j]?).map _).isSome = true := v
      rw [app_old (by intro z; rw [z] at hl; simp at hl)] at v
      exact v
    | _ => exact v
  · cases l with
    | ll => exact absurd rfl h2
    | ev j => exact app_old fun z => h1 (by rw [z])
    | _ => rfl
  · have eP : ((L.lg ++ [v])[L.lg.length]?).map _ = some P := eP
    rw [app_new] at eP
    cases eP
    rfl
  · cases eP
    show _ = _
    rw [List.length_append, List.length_singleton, refs_snoc, e1, refs_congr fun i hi => eA _ (by intro z; cases z; omega)]
end XA

set_option Elab.async false
set_option linter.all false
set_option maxRecDepth 100000
set_option maxHeartbeats 1000000
/-! More steps: tokens, the room's own, the things. -/
namespace XA
open PySem PySem.Spec PyProof.Rows L2 SW
variable {G : Cl} {A A' : Lb → Addr} {L L' : LS} {M M' : RS} {U U' : TS} {H H' : Hp} {x y : Lb} {a a2 : Addr}
/-- two things more; ys are told anew -/
theorem All.add2 (h : All G A L M U H) (x x2 : Lb) (ys : List Lb) (hx : cont G A L M U x = none) (hx2 : cont G A L M U x2 = none) (hxx : x ≠ x2) (vy : ∀ y ∈ ys, (cont G A L M U y).isSome = true) (na : H a = none) (na2 : H a2 = none) (haa : a ≠ a2) :
    ∃ A' : Lb → Addr, A' x = a ∧ A' x2 = a2 ∧ (∀ l, l ≠ x → l ≠ x2 → A' l = A l) ∧
    ∀ L' M' U' H', (∀ l, l ≠ x → l ≠ x2 → l ∉ ys → cont G A' L' M' U' l = cont G A' L M U l) → Fr (ys.map A) H H' → (∀ P, cont G A' L' M' U' x = some P → ∃ o, H' a = some o ∧ P o) → (∀ P, cont G A' L' M' U' x2 = some P → ∃ o, H' a2 = some o ∧ P o) →
      (∀ y ∈ ys, ∀ P, cont G A' L' M' U' y = some P → ∃ o, H' (A y) = some o ∧ P o) →
      M'.now < M'.cs.length → (∀ x ∈ M'.tk, x.ctx < M'.cs.length) → (∀ x ∈ U'.nc, x.1 < M'.cs.length) → (∀ x ∈ U'.nt, x.1 < M'.tk.length) → All G A' L' M' U' H' := by
  obtain ⟨A1, e1, eA1⟩ := upd_ex A x a
  obtain ⟨A', e2, eA2⟩ := upd_ex A1 x2 a2
  have ex : A' x = a := by rw [eA2 x hxx, e1]
  have eA : ∀ l, l ≠ x → l ≠ x2 → A' l = A l := fun l h1 h2 => by rw [eA2 l h2, eA1 l h1]
  refine ⟨A', ex, e2, eA, fun L' M' U' H' hs f q1 q2 qy b1 b2 b3 b4 => ?_⟩
  have h1 := h.rename hx eA1
  have r1 := h.relabel hx eA1
  have hx2' : cont G A1 L M U x2 = none := by rw [r1]; exact hx2
  have h' := h1.rename hx2' eA2
  have re : ∀ l, cont G A' L M U l = cont G A L M U l := fun l => by rw [h1.relabel hx2' eA2 l, r1 l]
  have off : ∀ l, (cont G A L M U l).isSome = true → A' l = A l := fun l v => eA l (not_none hx v) (not_none hx2 v)
  have free : ∀ l, (cont G A' L M U l).isSome = true → A' l ≠ a ∧ A' l ≠ a2 := fun l hl => by
    obtain ⟨o, eo⟩ := h'.has hl
    exact ⟨(fun z => by rw [z, na] at eo; cases eo), fun z => by rw [z, na2] at eo; cases eo⟩
  have vy' : ∀ y ∈ ys, (cont G A' L M U y).isSome = true := fun y hy => by rw [re y]; exact vy y hy
  refine h'.step (x :: x2 :: ys) (fun _ _ _ => rfl) (fun l hl => hs l (fun z => hl (by simp [z])) (fun z => hl (by simp [z])) fun z => hl (by simp [z])) (fun l hl o eo vl => f _ _ eo fun hm => ?_) (fun z hz P eP => ?_) (fun z hz _ l hl vl ea => ?_) (fun z hz u hu _ _ ea => ?_) b1 b2 b3 b4
  · obtain ⟨y, hy, ey⟩ := List.mem_map.mp hm
    have : A' l = A' y := by rw [off y (vy y hy), ey]
    exact hl (by rw [h'.inj l y vl (vy' y hy) this]; simp [hy])
  · simp only [List.mem_cons] at hz
    rcases hz with q | q | q
    · rw [q] at eP ⊢
      rw [ex]
      exact q1 P eP
    · rw [q] at eP ⊢
      rw [e2]
      exact q2 P eP
    · rw [off z (vy z q)]
      exact qy z q P eP
  · simp only [List.mem_cons] at hz
    rcases hz with q | q | q
    · rw [q, ex] at ea
      exact (free l vl).1 ea.symm
    · rw [q, e2] at ea
      exact (free l vl).2 ea.symm
    · exact hl (by rw [← h'.inj z l (vy' z q) vl ea]; simp [q])
  · simp only [List.mem_cons] at hz hu
    rcases hz with q | q | q <;> rcases hu with q2 | q2 | q2
    · rw [q, q2]
    · rw [q, q2, ex, e2] at ea
      exact absurd ea haa
    · rw [q, ex] at ea
      exact absurd ea.symm (free u (vy' u q2)).1
    · rw [q, q2, ex, e2] at ea
      exact absurd ea.symm haa
    · rw [q, q2]
    · rw [q, e2] at ea
      exact absurd ea.symm (free u (vy' u q2)).2
    · rw [q2, ex] at ea
      exact absurd ea (free z (vy' z q)).1
    · rw [q2, e2] at ea
      exact absurd ea (free z (vy' z q)).2
    · exact h'.inj z u (vy' z q) (vy' u q2) ea
theorem Ag.of2 {x2 : Lb} (hx : cont G A L M U x = none) (hx2 : cont G A L M U x2 = none) (eA : ∀ l, l ≠ x → l ≠ x2 → A' l = A l) : Ag G A A' L M U := fun l _ v => eA l (not_none hx v) (not_none hx2 v)
/-- a token more in the account -/
theorem All.lheld {z : Tk} (h : All G A L M U H) (na : H a = none) (na2 : H a2 = none) (haa : a ≠ a2) (f : Fr [A .tl] H H') (ea : H' a = some (.tup [.int (z.ctx : Int), .str z.var, .ref a2, .bl z.used])) (ea2 : H' a2 = some (.lst (oldL z.old)))
    (e : H' (A .tl) = some (.lst (refs A .q L.tk.length ++ [.ref a]))) : ∃ A', Ag G A A' L M U ∧ All G A' { L with tk := L.tk ++ [z] } M U H' ∧ Go G A L M U H A' { L with tk := L.tk ++ [z] } M U H' := by
  have hx : cont G A L M U (.q L.tk.length) = none := no_at
  have hx2 : cont G A L M U (.ol L.tk.length) = none := no_at
  obtain ⟨A', e1, e2, eA, k⟩ := h.add2 (.q L.tk.length) (.ol L.tk.length) [.tl] hx hx2 (by intro z; cases z) (fun y hy => by rw [List.mem_singleton.mp hy]; rfl) na na2 haa
  refine ⟨A', Ag.of2 hx hx2 eA, k _ M U H' (fun l h1 h2 h3 => ?_) f (fun P eP => ⟨_, ea, ?_⟩) (fun P eP => ⟨_, ea2, ?_⟩) (fun y hy P eP => ?_) h.nw h.tc h.hc h.ht, ?_⟩
  rotate_left 4
  · refine Go.add (xs := [.q L.tk.length, .ol L.tk.length]) (ys := [A .tl]) (fun l hl => eA l (fun z => hl (by simp [z])) fun z => hl (by simp [z])) (fun x hx => ?_) (fun l hl v => ?_) (fun y hy => ⟨.tl, rfl, (List.mem_singleton.mp hy).symm⟩) f
    · simp only [List.mem_cons, List.not_mem_nil, or_false] at hx
      rcases hx with q | q
      · rw [q, e1]; exact na
      · rw [q, e2]; exact na2
    · cases l with
      | q j => exact map_iff2 (by simp) (by intro w; rw [w] at hl; simp at hl) v
      | ol j => exact map_iff2 (by simp) (by intro w; rw [w] at hl; simp at hl) v
      | d j => exact map_iff rfl v
      | ev j => exact map_iff rfl v
      | re j => exact map_iff rfl v
      | p j => exact map_iff rfl v
      | e j => exact map_iff rfl v
      | t j => exact map_iff rfl v
      | c j => exact map_iff rfl v
      | k j => exact map_iff rfl v
      | _ => rfl
  · cases l with
    | tl => exact absurd (by simp) h3
    | q j => exact app_old fun z => h1 (by rw [z])
    | ol j => exact app_old fun z => h2 (by rw [z])
    | _ => rfl
  · have eP : ((L.tk ++ [z])[L.tk.length]?).map _ = some P := eP
    rw [app_new] at eP
    cases eP
    rw [← e2]
  · have eP : ((L.tk ++ [z])[L.tk.length]?).map _ = some P := eP
    rw [app_new] at eP
    cases eP
    rfl
  · rw [List.mem_singleton.mp hy] at eP ⊢
    refine ⟨_, e, ?_⟩
    cases eP
    show _ = _
    rw [List.length_append, List.length_singleton, refs_snoc, e1, refs_congr fun i hi => eA _ (by intro z; cases z; omega) (by intro z; cases z)]
/-! the room -/
theorem All.room (h : All G A L M U H) : RoomAt G.R H (A .r) (A .le, refs A .re M.lg.length) (A (.p M.now)) := by
  obtain ⟨o, e, dr, bk, rfl⟩ := h.get (l := .r) rfl
  obtain ⟨o2, e2, rfl⟩ := h.get (l := .le) rfl
  exact ⟨dr, bk, e, e2⟩
theorem All.ctx (h : All G A L M U H) {i : Nat} {m : Mp} {b : Bool} (hi : M.cs[i]? = some (m, b)) : CtxB G.C H (A (.p i)) (A (.e i)) m b := by
  obtain ⟨o, e, dx, rfl⟩ := h.get (l := .p i) (P := fun o => ∃ dx, o = .ins G.C dx (flds b (A (.e i)))) (by show M.cs[i]?.map _ = _; rw [hi]; rfl)
  obtain ⟨o2, e2, rfl⟩ := h.get (l := .e i) (P := fun o => o = .dK (kv m)) (by show M.cs[i]?.map _ = _; rw [hi]; rfl)
  exact ⟨⟨dx, e⟩, e2⟩
theorem All.rtok (h : All G A L M U H) {j : Nat} {x : Tk} (hj : M.tk[j]? = some x) : TokAt G.T H (A (.t j)) (A (.p x.ctx)) x.var (oldV x.old) x.used := by
  obtain ⟨o, e, dt, rfl⟩ := h.get (l := .t j) (P := fun o => ∃ dt, o = .ins G.T dt (tfl (A (.p x.ctx)) x.var (oldV x.old) x.used)) (by show M.tk[j]?.map _ = _; rw [hj]; rfl)
  exact ⟨dt, e⟩
theorem len_set {α : Type} {l : List α} {i : Nat} {v : α} {n : Nat} (h : n < l.length) : n < (l.set i v).length := by rw [List.length_set]; exact h
/-- a variable of a context -/
theorem All.rctx {i : Nat} {m m2 : Mp} {b : Bool} (h : All G A L M U H) (hi : M.cs[i]? = some (m, b)) (f : Fr [A (.e i)] H H') (e : H' (A (.e i)) = some (.dK (kv m2))) : All G A L { M with cs := M.cs.set i (m2, b) } U H' := by
  have il := (List.getElem?_eq_some_iff.mp hi).1
  refine h.one (.e i) (map_some il) (fun l hl => ?_) f (fun P eP => ⟨_, e, ?_⟩) (len_set h.nw) (fun x hx => len_set (h.tc x hx)) (fun x hx => len_set (h.hc x hx)) h.ht
  · cases l with
    | e j => exact set_same fun z => hl (by rw [z])
    | p j =>
      show ((M.cs.set i (m2, b))[j]?).map _ = (M.cs[j]?).map _
      by_cases z : j = i
      · rw [z, set_at il, hi]
        rfl
      · exact set_same z
    | _ => rfl
  · have eP : ((M.cs.set i (m2, b))[i]?).map _ = some P := eP
    rw [set_at il] at eP
    cases eP
    rfl
/-- a token of the room more, the variable set -/
theorem All.rheld {i : Nat} {m m2 : Mp} {b : Bool} {z : Tk} (h : All G A L M U H) (hi : M.cs[i]? = some (m, b)) (zc : z.ctx < M.cs.length) (na : H a = none) (f : Fr [A (.e i)] H H') (ea : TokAt G.T H' a (A (.p z.ctx)) z.var (oldV z.old) z.used) (e : H' (A (.e i)) = some (.dK (kv m2))) :
    ∃ A', Ag G A A' L M U ∧ A' (.t M.tk.length) = a ∧ All G A' L { M with cs := M.cs.set i (m2, b), tk := M.tk ++ [z] } U H' ∧ Go G A L M U H A' L { M with cs := M.cs.set i (m2, b), tk := M.tk ++ [z] } U H' := by
  have il := (List.getElem?_eq_some_iff.mp hi).1
  have hx : cont G A L M U (.t M.tk.length) = none := no_at
  obtain ⟨A', e1, eA, k⟩ := h.add (.t M.tk.length) (.e i) hx (map_some il) na
  refine ⟨A', Ag.of hx eA, e1, k L _ U H' (fun l h1 h2 => ?_) f (fun P eP => ?_) (fun P eP => ⟨_, e, ?_⟩) (len_set h.nw) (fun x hx => ?_) (fun x hx => len_set (h.hc x hx)) (fun x hx => ?_), ?_⟩
  rotate_left 5
  · refine Go.add (xs := [.t M.tk.length]) (ys := [A (.e i)]) (fun l hl => eA l (by simpa using hl)) (fun x hx => by rw [List.mem_singleton.mp hx, e1]; exact na) (fun l hl v => ?_) (fun y hy => ⟨.e i, map_some il, (List.mem_singleton.mp hy).symm⟩) f
    cases l with
    | t j => exact map_iff2 (by simp) (by intro w; rw [w] at hl; simp at hl) v
    | d j => exact map_iff (by first | rfl | exact List.length_set) v
    | q j => exact map_iff (by first | rfl | exact List.length_set) v
    | ol j => exact map_iff (by first | rfl | exact List.length_set) v
    | ev j => exact map_iff (by first | rfl | exact List.length_set) v
    | re j => exact map_iff (by first | rfl | exact List.length_set) v
    | p j => exact map_iff (by first | rfl | exact List.length_set) v
    | e j => exact map_iff (by first | rfl | exact List.length_set) v
    | c j => exact map_iff (by first | rfl | exact List.length_set) v
    | k j => exact map_iff (by first | rfl | exact List.length_set) v
    | _ => rfl
  · cases l with
    | t j => exact app_old fun z => h1 (by rw [z])
    | e j => exact set_same fun z => h2 (by rw [z])
    | p j =>
      show ((M.cs.set i (m2, b))[j]?).map _ = (M.cs[j]?).map _
      by_cases z : j = i
      · rw [z, set_at il, hi]
        rfl
      · exact set_same z
    | _ => rfl
  · have eP : ((M.tk ++ [z])[M.tk.length]?).map _ = some P := eP
    rw [app_new] at eP
    cases eP
    obtain ⟨dt, e2⟩ := ea
    refine ⟨_, e2, dt, ?_⟩
    rw [eA (.p z.ctx) (by intro z; cases z)]
  · have eP : ((M.cs.set i (m2, b))[i]?).map _ = some P := eP
    rw [set_at il] at eP
    cases eP
    rfl
  · rcases List.mem_append.mp hx with q | q
    · exact len_set (h.tc x q)
    · rw [List.mem_singleton.mp q]
      exact len_set zc
  · have : x.1 < (M.tk ++ [z]).length := by
      have := h.ht x hx
      rw [List.length_append]
      omega
    exact this
/-- a token is used, its context's variable put back -/
theorem All.rreset {i j : Nat} {m m2 : Mp} {b : Bool} {z : Tk} (h : All G A L M U H) (hi : M.cs[i]? = some (m, b)) (hj : M.tk[j]? = some z) (f : Fr [A (.e i), A (.t j)] H H') (ea : TokAt G.T H' (A (.t j)) (A (.p z.ctx)) z.var (oldV z.old) true) (e : H' (A (.e i)) = some (.dK (kv m2))) :
    All G A L { M with cs := M.cs.set i (m2, b), tk := M.tk.set j { z with used := true } } U H' := by
  have il := (List.getElem?_eq_some_iff.mp hi).1
  have jl := (List.getElem?_eq_some_iff.mp hj).1
  refine h.set [.e i, .t j] (fun x hx => ?_) (fun l hl => ?_) f (fun x hx P eP => ?_) (len_set h.nw) (fun x hx => ?_) (fun x hx => len_set (h.hc x hx)) (fun x hx => len_set (h.ht x hx))
  · simp only [List.mem_cons, List.not_mem_nil, or_false] at hx
    rcases hx with q | q
    · rw [q]; exact map_some il
    · rw [q]; exact map_some jl
  · cases l with
    | e j2 => exact set_same fun z => hl (by simp [z])
    | t j2 => exact set_same fun z => hl (by simp [z])
    | p j2 =>
      show ((M.cs.set i (m2, b))[j2]?).map _ = (M.cs[j2]?).map _
      by_cases z : j2 = i
      · rw [z, set_at il, hi]
        rfl
      · exact set_same z
    | _ => rfl
  · simp only [List.mem_cons, List.not_mem_nil, or_false] at hx
    rcases hx with q | q
    · rw [q] at eP ⊢
      have eP : ((M.cs.set i (m2, b))[i]?).map _ = some P := eP
      rw [set_at il] at eP
      cases eP
      exact ⟨_, e, rfl⟩
    · rw [q] at eP ⊢
      have eP : ((M.tk.set j { z with used := true })[j]?).map _ = some P := eP
      rw [set_at jl] at eP
      cases eP
      obtain ⟨dt, e2⟩ := ea
      exact ⟨_, e2, dt, rfl⟩
  · rcases List.mem_or_eq_of_mem_set hx with q | q
    · exact len_set (h.tc x q)
    · rw [q]
      exact len_set (h.tc z (List.mem_of_getElem? hj))
/-- a context more -/
theorem All.rcopy {m2 : Mp} {b : Bool} (h : All G A L M U H) (na : H a = none) (na2 : H a2 = none) (haa : a ≠ a2) (s : Same H H') (c : CtxB G.C H' a a2 m2 b) :
    ∃ A', Ag G A A' L M U ∧ A' (.p M.cs.length) = a ∧ All G A' L { M with cs := M.cs ++ [(m2, b)] } U H' ∧ Go G A L M U H A' L { M with cs := M.cs ++ [(m2, b)] } U H' := by
  have hx : cont G A L M U (.p M.cs.length) = none := no_at
  have hx2 : cont G A L M U (.e M.cs.length) = none := no_at
  obtain ⟨A', e1, e2, eA, k⟩ := h.add2 (.p M.cs.length) (.e M.cs.length) [] hx hx2 (by intro z; cases z) (fun y hy => nomatch hy) na na2 haa
  obtain ⟨⟨dx, c1⟩, c2⟩ := c
  have more : ∀ {n}, n < M.cs.length → n < (M.cs ++ [(m2, b)]).length := fun {n} hn => by rw [List.length_append]; omega
  refine ⟨A', Ag.of2 hx hx2 eA, e1, k L _ U H' (fun l h1 h2 _ => ?_) (Fr.of s) (fun P eP => ⟨_, c1, ?_⟩) (fun P eP => ⟨_, c2, ?_⟩) (fun y hy => nomatch hy) (more h.nw) (fun x hx => more (h.tc x hx)) (fun x hx => more (h.hc x hx)) h.ht, ?_⟩
  rotate_left 3
  · refine Go.add (xs := [.p M.cs.length, .e M.cs.length]) (ys := []) (fun l hl => eA l (fun z => hl (by simp [z])) fun z => hl (by simp [z])) (fun x hx => ?_) (fun l hl v => ?_) (fun y hy => nomatch hy) (Fr.of s)
    · simp only [List.mem_cons, List.not_mem_nil, or_false] at hx
      rcases hx with q | q
      · rw [q, e1]; exact na
      · rw [q, e2]; exact na2
    · cases l with
      | p j => exact map_iff2 (by simp) (by intro w; rw [w] at hl; simp at hl) v
      | e j => exact map_iff2 (by simp) (by intro w; rw [w] at hl; simp at hl) v
      | d j => exact map_iff rfl v
      | q j => exact map_iff rfl v
      | ol j => exact map_iff rfl v
      | ev j => exact map_iff rfl v
      | re j => exact map_iff rfl v
      | t j => exact map_iff rfl v
      | c j => exact map_iff rfl v
      | k j => exact map_iff rfl v
      | _ => rfl
  · cases l with
    | p j => exact app_old fun z => h1 (by rw [z])
    | e j => exact app_old fun z => h2 (by rw [z])
    | _ => rfl
  · have eP : ((M.cs ++ [(m2, b)])[M.cs.length]?).map _ = some P := eP
    rw [app_new] at eP
    cases eP
    exact ⟨dx, by rw [e2]⟩
  · have eP : ((M.cs ++ [(m2, b)])[M.cs.length]?).map _ = some P := eP
    rw [app_new] at eP
    cases eP
    rfl
/-- entered, or left: what is current, and whether the context is in use -/
theorem All.renter {i n : Nat} {m : Mp} {b b2 : Bool} (h : All G A L M U H) (hi : M.cs[i]? = some (m, b)) (hn : n < M.cs.length) (f : Fr [A .r, A (.p i)] H H') (ro : RoomAt G.R H' (A .r) (A .le, refs A .re M.lg.length) (A (.p n))) (c : CtxB G.C H' (A (.p i)) (A (.e i)) m b2) :
    All G A L { M with now := n, cs := M.cs.set i (m, b2) } U H' := by
  have il := (List.getElem?_eq_some_iff.mp hi).1
  obtain ⟨⟨dx, c1⟩, c2⟩ := c
  obtain ⟨dr, bk, er, _⟩ := ro
  refine h.set [.r, .p i] (fun x hx => ?_) (fun l hl => ?_) f (fun x hx P eP => ?_) (len_set hn) (fun x hx => len_set (h.tc x hx)) (fun x hx => len_set (h.hc x hx)) h.ht
  · simp only [List.mem_cons, List.not_mem_nil, or_false] at hx
    rcases hx with q | q
    · rw [q]; rfl
    · rw [q]; exact map_some il
  · cases l with
    | r => exact absurd (by simp) hl
    | p j => exact set_same fun z => hl (by simp [z])
    | e j =>
      show ((M.cs.set i (m, b2))[j]?).map _ = (M.cs[j]?).map _
      by_cases z : j = i
      · rw [z, set_at il, hi]
        rfl
      · exact set_same z
    | _ => rfl
  · simp only [List.mem_cons, List.not_mem_nil, or_false] at hx
    rcases hx with q | q
    · rw [q] at eP ⊢
      cases eP
      exact ⟨_, er, dr, bk, rfl⟩
    · rw [q] at eP ⊢
      have eP : ((M.cs.set i (m, b2))[i]?).map _ = some P := eP
      rw [set_at il] at eP
      cases eP
      exact ⟨_, c1, dx, rfl⟩
end XA

set_option Elab.async false
set_option linter.all false
set_option maxRecDepth 100000
set_option maxHeartbeats 1000000
/-! The law's account is kept: _law_source, _law_reset, _law_held, _law_entered, _law_exited. -/
namespace XA
open PySem PySem.Spec PyProof.Rows L2 SW
section
variable {G : Cl} {A A' : Lb → Addr} {L L' : LS} {M M' : RS} {U U' : TS} {H H' : Hp} {x y : Lb} {a a2 : Addr}
theorem wk_c (A : Lb → Addr) (n : Nat) : valV (wk A n) (.inr "contexts") = some (.ref (A .cl)) := by with_unfolding_all rfl
theorem wk_n (A : Lb → Addr) (n : Nat) : valV (wk A n) (.inr "now") = some (.int (n : Int)) := by with_unfolding_all rfl
theorem wk_b (A : Lb → Addr) (n : Nat) : valV (wk A n) (.inr "busy") = some (.ref (A .bl)) := by with_unfolding_all rfl
theorem wk_t (A : Lb → Addr) (n : Nat) : valV (wk A n) (.inr "tokens") = some (.ref (A .tl)) := by with_unfolding_all rfl
theorem wk_l (A : Lb → Addr) (n : Nat) : valV (wk A n) (.inr "log") = some (.ref (A .ll)) := by with_unfolding_all rfl
theorem wk_put (A : Lb → Addr) (n m : Nat) : putK (wk A n) (.inr "now") (.int (m : Int)) = wk A m := by with_unfolding_all rfl
theorem hk_c (A : Lb → Addr) : valV (hk A) (.inr "contexts") = some (.ref (A .hc)) := by with_unfolding_all rfl
theorem hk_t (A : Lb → Addr) : valV (hk A) (.inr "tokens") = some (.ref (A .ht)) := by with_unfolding_all rfl
theorem hk_v (A : Lb → Addr) : valV (hk A) (.inr "vars") = some (.ref (A .hv)) := by with_unfolding_all rfl
theorem All.w_ (h : All G A L M U H) : H (A .w) = some (.dK (wk A L.now)) := by obtain ⟨o, e, rfl⟩ := h.get (l := .w) rfl; exact e
theorem All.cl_ (h : All G A L M U H) : H (A .cl) = some (.lst (refs A .d L.cs.length)) := by obtain ⟨o, e, rfl⟩ := h.get (l := .cl) rfl; exact e
theorem All.bl_ (h : All G A L M U H) : H (A .bl) = some (.lst (L.busy.map fun i : Nat => V.int (i : Int))) := by obtain ⟨o, e, rfl⟩ := h.get (l := .bl) rfl; exact e
theorem All.tl_ (h : All G A L M U H) : H (A .tl) = some (.lst (refs A .q L.tk.length)) := by obtain ⟨o, e, rfl⟩ := h.get (l := .tl) rfl; exact e
theorem All.ll_ (h : All G A L M U H) : H (A .ll) = some (.lst (refs A .ev L.lg.length)) := by obtain ⟨o, e, rfl⟩ := h.get (l := .ll) rfl; exact e
theorem All.th_ (h : All G A L M U H) : H (A .th) = some (.dK (hk A)) := by obtain ⟨o, e, rfl⟩ := h.get (l := .th) rfl; exact e
theorem All.hc_ (h : All G A L M U H) : H (A .hc) = some (.lst (refs A .c U.nc.length)) := by obtain ⟨o, e, rfl⟩ := h.get (l := .hc) rfl; exact e
theorem All.ht_ (h : All G A L M U H) : H (A .ht) = some (.lst (refs A .k U.nt.length)) := by obtain ⟨o, e, rfl⟩ := h.get (l := .ht) rfl; exact e
theorem All.hv_ (h : All G A L M U H) : H (A .hv) = some (.lst (G.vars.map V.str)) := by obtain ⟨o, e, rfl⟩ := h.get (l := .hv) rfl; exact e
theorem All.d_ (h : All G A L M U H) {i : Nat} {m : Mp} (hi : L.cs[i]? = some m) : H (A (.d i)) = some (.dK (kv m)) := by
  obtain ⟨o, e, rfl⟩ := h.get (l := .d i) (P := fun o => o = .dK (kv m)) (by show L.cs[i]?.map _ = _; rw [hi]; rfl)
  exact e
theorem All.q_ (h : All G A L M U H) {j : Nat} {x : Tk} (hj : L.tk[j]? = some x) : H (A (.q j)) = some (.tup [.int (x.ctx : Int), .str x.var, .ref (A (.ol j)), .bl x.used]) := by
  obtain ⟨o, e, rfl⟩ := h.get (l := .q j) (P := fun o => o = .tup [.int (x.ctx : Int), .str x.var, .ref (A (.ol j)), .bl x.used]) (by show L.tk[j]?.map _ = _; rw [hj]; rfl)
  exact e
theorem All.ol_ (h : All G A L M U H) {j : Nat} {x : Tk} (hj : L.tk[j]? = some x) : H (A (.ol j)) = some (.lst (oldL x.old)) := by
  obtain ⟨o, e, rfl⟩ := h.get (l := .ol j) (P := fun o => o = .lst (oldL x.old)) (by show L.tk[j]?.map _ = _; rw [hj]; rfl)
  exact e
theorem d_at {n i : Nat} (h : i < n) : atI (refs A .d n) (i : Int) = some (.ref (A (.d i))) := at_of (j := i) rfl (refs_at h)
theorem q_at {n i : Nat} (h : i < n) : atI (refs A .q n) (i : Int) = some (.ref (A (.q i))) := at_of (j := i) rfl (refs_at h)
end
abbrev sSource : Stmt := top 80
abbrev sLReset : Stmt := top 81
abbrev sHeld : Stmt := top 82
abbrev sEntered : Stmt := top 84
abbrev sExited : Stmt := top 85
def srcL (m : Mp) : V → List V
  | .str k => oldL (aget m k)
  | v => [v]
variable (G : Cl)
def spSource : Sp := fun vs H Q _ => ∃ (A : Lb → Addr) (L : LS) (M : RS) (U : TS) (m : Mp) (s : V), vs = [.ref (A .w), s] ∧ All G A L M U H ∧ L.cs[L.now]? = some m ∧ ((∃ i, s = .int i) ∨ ∃ k, s = .str k) ∧
  ∀ (l : Addr) H', Same H H' → H l = none → H' l = some (.lst (srcL m s)) → Q (.ref l) H'
def rst (m : Mp) (k : Str) : Option Int → Mp
  | none => adrop m k
  | some v => aput (adrop m k) k v
/-- a token is reset in the account -/
def lres (L : LS) (j : Nat) : LS × Str := match L.tk[j]? with
  | none => (L, "")
  | some x => if x.used = true then (L, "used") else if x.ctx = L.now then ({ L with tk := L.tk.set j { x with used := true }, cs := L.cs.set x.ctx (rst ((L.cs[x.ctx]?).getD []) x.var x.old) }, "") else (L, "elsewhere")
def spLReset : Sp := fun vs H Q _ => ∃ (A : Lb → Addr) (L : LS) (M : RS) (U : TS) (j : Nat), vs = [.ref (A .w), .int (j : Int)] ∧ All G A L M U H ∧ j < L.tk.length ∧ (∀ x ∈ L.tk, x.ctx < L.cs.length) ∧ (∀ m ∈ L.cs, m.length ≤ 100) ∧
  ∀ (A' : Lb → Addr) H', Ag G A A' L M U → All G A' (lres L j).1 M U H' → Go G A L M U H A' (lres L j).1 M U H' → Q (.str (lres L j).2) H'
def spHeld : Sp := fun vs H Q _ => ∃ (A : Lb → Addr) (L : LS) (M : RS) (U : TS) (m : Mp) (k : Str) (v : Int), vs = [.ref (A .w), .str k, .int v] ∧ All G A L M U H ∧ L.cs[L.now]? = some m ∧ m.length ≤ 100 ∧ L.tk.length < 1000 ∧
  ∀ (A' : Lb → Addr) H', Ag G A A' L M U → All G A' { L with tk := L.tk ++ [⟨L.now, k, aget m k, false⟩], cs := L.cs.set L.now (aput m k v) } M U H' → Go G A L M U H A' { L with tk := L.tk ++ [⟨L.now, k, aget m k, false⟩], cs := L.cs.set L.now (aput m k v) } M U H' → Q (.int (L.tk.length : Int)) H'
def lent (L : LS) (i : Nat) : LS × Str := if i ∈ L.busy then (L, "entered") else ({ L with busy := L.busy ++ [i], now := i }, "")
def spEntered : Sp := fun vs H Q _ => ∃ (A : Lb → Addr) (L : LS) (M : RS) (U : TS) (i : Nat), vs = [.ref (A .w), .int (i : Int)] ∧ All G A L M U H ∧ L.busy.length < 1000 ∧
  ∀ H', All G A (lent L i).1 M U H' → Go G A L M U H A (lent L i).1 M U H' → Q (.str (lent L i).2) H'
def spExited : Sp := fun vs H Q _ => ∃ (A : Lb → Addr) (L : LS) (M : RS) (U : TS) (i : Nat), vs = [.ref (A .w), .int (i : Int)] ∧ All G A L M U H ∧ L.busy ≠ [] ∧
  ∀ H', All G A { L with busy := L.busy.dropLast, now := i } M U H' → Go G A L M U H A { L with busy := L.busy.dropLast, now := i } M U H' → Q .non H'
section
variable {P : Program} {w : World} {K : PySem.W.Frag} {mg : Str → Option Value} {base : Heap}
theorem scSource : FnScope ["world", "source", "here"] ["world", "source"] (defScope sSource) := ⟨rfl, rfl, rfl, by decide +kernel, rfl, by decide +kernel, by decide +kernel⟩
theorem ok_source {f : Addr} {fd : FuncData} (F : Fun K "_law_source" "_law_source" sSource f fd) (T : BK.Forms mg) : FnOk P w K mg base CX0 1 f fd ["world", "source"] (spSource G) := by
  refine F.ok scSource (fun vs H Q E h => ?_) (fun cdv A0 outer s H vs Q E hr h => ?_)
  · obtain ⟨A, L, M, U, m, s, rfl, _⟩ := h
    rfl
  · obtain ⟨A, L, M, U, m, s, rfl, h, hm, hs, k⟩ := h
    have hu := hu_of hr
    refine ⟨_, pss_cons (ps_if (pt_val (pe_callB call_isi (by rfl) T.isi boot_isinstance (pa_cons (pv 1) (pa_cons (pe_bltn (v := .ty "int") (u := .type "int") (by rfl) T.int (by decide +kernel) rfl) pa_nil)))) (pss_one (ps_ret (pe_lst (pa_cons (pv 1) pa_nil)))) pss_nil)
      (pss_cons (ps_set (i := 2) scSource.nd rfl (Or.inl rfl) (pe_ix ix_list (pe_dget hu (pv 0) pe_str (fun _ _ => rfl)) (pe_dget hu (pv 0) pe_str (fun _ _ => rfl)) (fun _ _ => rfl)))
      (pss_one (ps_ret (pe_ifExp (pt_cmp (pc_din hu (pv 1) (pv 2))) (pe_lst (pa_cons (pe_dget hu (pv 2) (pv 1) (fun _ _ => rfl)) pa_nil)) (pe_lst pa_nil))))), ?_⟩
    have g1 := (wk_c A L.now) ▸ DGet.k (k := Sum.inr "contexts") h.w_
    have g2 := (wk_n A L.now) ▸ DGet.k (k := Sum.inr "now") h.w_
    have nl := (List.getElem?_eq_some_iff.mp hm).1
    rcases hs with ⟨i, rfl⟩ | ⟨k0, rfl⟩
    · exact ⟨_, rfl, .int i, .ty "int", .type "int", .type "int", true, rfl, .ty "int", (BK.TrAt.int (K := K) (H := H) i).ty, BK.k_int K (.int i), _, rfl, iteT ⟨_, rfl, (by show 1 ≤ sizeLine; decide), fun l nl => k l _ (same_new nl) nl upd_same⟩⟩
    · refine ⟨_, rfl, .str k0, .ty "int", .type "str", .type "int", false, rfl, .ty "int", .base (.str k0), BK.k_int K (.str k0), _, rfl, iteF ?_⟩
      refine ⟨_, rfl, A .w, _, rfl, g1, _, rfl, A .w, _, rfl, g2, A .cl, _, (L.now : Int), _, rfl, rfl, SqL.of h.cl_, d_at nl, ?_⟩
      have gd := DGet.k (k := Sum.inr k0) (h.d_ hm)
      rw [valV_kv] at gd
      refine ⟨_, rfl, _, rfl, A (.d L.now), _, rfl, gd, _, rfl, ?_⟩
      cases ev : aget m k0 with
      | none => exact iteF ⟨Nat.zero_le _, fun l nl => k l _ (same_new nl) nl (by rw [upd_same]; show _ = some (HO.lst (oldL (aget m k0))); rw [ev]; rfl)⟩
      | some v =>
        rw [ev] at gd
        exact iteT ⟨_, rfl, _, rfl, A (.d L.now), .int v, rfl, gd, (by show 1 ≤ sizeLine; decide), fun l nl => k l _ (same_new nl) nl (by rw [upd_same]; show _ = some (HO.lst (oldL (aget m k0))); rw [ev]; rfl)⟩
end
end XA

set_option Elab.async false
set_option linter.all false
set_option maxRecDepth 100000
set_option maxHeartbeats 1000000
/-! _law_reset, _law_held, _law_entered, _law_exited. -/
namespace XA
open PySem PySem.Spec PyProof.Rows L2 SW
section
variable {G : Cl} {A A' : Lb → Addr} {L L' : LS} {M M' : RS} {U U' : TS} {H H' : Hp} {x y : Lb} {a a2 : Addr}
theorem vld_A (l : Lb) : (cont G A L M U l).isSome = true ↔ (cont G A' L M U l).isSome = true := by
  cases l <;> simp [cont]
theorem not_q {f : Nat → Lb} (hf : ∀ i j, f i ≠ .q j) {j : Nat} (eA : ∀ l, l ≠ .q j → A' l = A l) (n : Nat) : refs A' f n = refs A f n := refs_congr fun i _ => eA _ (hf i j)
/-- a token tuple is put in another's place -/
theorem All.lused {j : Nat} {z z2 : Tk} (h : All G A L M U H) (hj : L.tk[j]? = some z) (na : H a = none) (e0 : z2.old = z.old) (f : Fr [A .tl] H H') (ea : H' a = some (.tup [.int (z2.ctx : Int), .str z2.var, .ref (A (.ol j)), .bl z2.used]))
    (e : H' (A .tl) = some (.lst ((refs A .q L.tk.length).set j (.ref a)))) : ∃ A', Ag G A A' L M U ∧ All G A' { L with tk := L.tk.set j z2 } M U H' ∧ Go G A L M U H A' { L with tk := L.tk.set j z2 } M U H' := by
  have jl := (List.getElem?_eq_some_iff.mp hj).1
  obtain ⟨A', e1, eA⟩ := upd_ex A (.q j) a
  have vq : (cont G A L M U (.q j)).isSome = true := map_some jl
  have free : ∀ l, (cont G A L M U l).isSome = true → A l ≠ a := fun l hl w => by
    obtain ⟨o, eo⟩ := h.has hl
    rw [w, na] at eo
    cases eo
  refine ⟨A', fun l h1 _ => eA l (h1 j), h.step [.q j, .tl] (fun l hl _ => eA l fun w => hl (by simp [w])) (fun l hl => ?_) (fun l hl o eo vl => f _ _ eo fun hm => ?_) (fun w hw P eP => ?_) (fun w hw _ l hl vl ea2 => ?_) (fun w hw v hv _ _ ea2 => ?_) h.nw h.tc h.hc h.ht, Go.add (xs := [.q j]) (ys := [A .tl]) (fun l hl => eA l (by simpa using hl)) (fun x hx => by rw [List.mem_singleton.mp hx, e1]; exact na) (fun l _ v => (vld_A (G := G) (A := A') (A' := A) (L := L) (M := M) (U := U) l).mp (valid_of (G := G) (A := A') (L := L) (M := M) (L' := { L with tk := L.tk.set j z2 }) (M' := M) (U := U) rfl List.length_set rfl rfl rfl rfl l v)) (fun y hy => ⟨.tl, rfl, (List.mem_singleton.mp hy).symm⟩) f⟩
  · have nq : ∀ i, l ≠ .q i ∨ i ≠ j := fun i => by
      by_cases w : i = j
      · exact .inl fun w2 => hl (by simp [w2, w])
      · exact .inr w
    have re : ∀ l, l ≠ .q j → A' l = A l := eA
    cases l with
    | w => show some _ = some _; unfold wk; rw [eA .cl (by intro w; cases w), eA .bl (by intro w; cases w), eA .tl (by intro w; cases w), eA .ll (by intro w; cases w)]
    | cl => show some _ = some _; rw [not_q (fun _ _ w => by cases w) eA]
    | bl => rfl
    | tl => exact absurd (by simp) hl
    | ll => show some _ = some _; rw [not_q (fun _ _ w => by cases w) eA]
    | d i => rfl
    | q i =>
      have ij : i ≠ j := (nq i).elim (fun w => absurd rfl w) id
      show ((L.tk.set j z2)[i]?).map _ = (L.tk[i]?).map _
      rw [List.getElem?_set_ne ij.symm]
      rw [eA (.ol i) (by intro w; cases w)]
    | ol i =>
      show ((L.tk.set j z2)[i]?).map _ = (L.tk[i]?).map _
      by_cases ij : i = j
      · rw [ij, set_at jl, hj]
        simp only [Option.map_some, e0]
      · exact set_same ij
    | ev k => rfl
    | r => show some _ = some _; rw [eA .le (by intro w; cases w), not_q (fun _ _ w => by cases w) eA, eA (.p M.now) (by intro w; cases w)]
    | le => show some _ = some _; rw [not_q (fun _ _ w => by cases w) eA]
    | re k => rfl
    | p i => show _ = (M.cs[i]?).map _; rw [← eA (.e i) (by intro w; cases w)]; rfl
    | e i => rfl
    | t i =>
      have : (fun (x : Tk) (o : HO) => ∃ dt, o = .ins G.T dt (tfl (A' (.p x.ctx)) x.var (oldV x.old) x.used)) = fun (x : Tk) (o : HO) => ∃ dt, o = .ins G.T dt (tfl (A (.p x.ctx)) x.var (oldV x.old) x.used) := by
        funext x o
        rw [eA (.p x.ctx) (by intro w; cases w)]
      show (M.tk[i]?).map _ = (M.tk[i]?).map _
      rw [this]
    | th => show some _ = some _; unfold hk; rw [eA .hc (by intro w; cases w), eA .ht (by intro w; cases w), eA .hv (by intro w; cases w)]
    | hc => show some _ = some _; rw [not_q (fun _ _ w => by cases w) eA]
    | ht => show some _ = some _; rw [not_q (fun _ _ w => by cases w) eA]
    | hv => rfl
    | c i =>
      have : (fun (x : Nat × Nat) (o : HO) => o = .lst [.ref (A' (.p x.1)), .int (x.2 : Int)]) = fun (x : Nat × Nat) (o : HO) => o = .lst [.ref (A (.p x.1)), .int (x.2 : Int)] := by
        funext x o
        rw [eA (.p x.1) (by intro w; cases w)]
      show (U.nc[i]?).map _ = (U.nc[i]?).map _
      rw [this]
    | k i =>
      have : (fun (x : Nat × Nat) (o : HO) => o = .lst [.ref (A' (.t x.1)), .int (x.2 : Int)]) = fun (x : Nat × Nat) (o : HO) => o = .lst [.ref (A (.t x.1)), .int (x.2 : Int)] := by
        funext x o
        rw [eA (.t x.1) (by intro w; cases w)]
      show (U.nt[i]?).map _ = (U.nt[i]?).map _
      rw [this]
  · have : A l = A .tl := by simpa using hm
    exact hl (by rw [h.inj l .tl vl rfl this]; simp)
  · rcases List.mem_cons.mp hw with q | q
    · rw [q] at eP ⊢
      rw [e1]
      have eP : ((L.tk.set j z2)[j]?).map _ = some P := eP
      rw [set_at jl] at eP
      cases eP
      refine ⟨_, ea, ?_⟩
      rw [eA (.ol j) (by intro w; cases w)]
    · rw [List.mem_singleton.mp q] at eP ⊢
      rw [eA .tl (by intro w; cases w)]
      refine ⟨_, e, ?_⟩
      cases eP
      show _ = _
      rw [List.length_set]
      congr 1
      refine List.ext_getElem? fun i => ?_
      by_cases il : i < L.tk.length
      · rw [refs_at il]
        by_cases ij : j = i
        · rw [← ij, List.getElem?_set_self (by rw [refs_len]; exact jl), e1]
        · rw [List.getElem?_set_ne ij, refs_at il, eA (.q i) (by intro w; injection w with w; exact ij w.symm)]
      · rw [List.getElem?_eq_none (by rw [List.length_set, refs_len]; omega), List.getElem?_eq_none (by rw [refs_len]; omega)]
  · rcases List.mem_cons.mp hw with q | q
    · rw [q, e1] at ea2
      exact free l vl ea2.symm
    · rw [List.mem_singleton.mp q, eA .tl (by intro w; cases w)] at ea2
      exact hl (by rw [← h.inj .tl l rfl vl ea2]; simp)
  · rcases List.mem_cons.mp hw with q | q <;> rcases List.mem_cons.mp hv with q2 | q2
    · rw [q, q2]
    · rw [q, List.mem_singleton.mp q2, e1, eA .tl (by intro w; cases w)] at ea2
      exact absurd ea2.symm (free .tl rfl)
    · rw [q2, List.mem_singleton.mp q, e1, eA .tl (by intro w; cases w)] at ea2
      exact absurd ea2 (free .tl rfl)
    · rw [List.mem_singleton.mp q, List.mem_singleton.mp q2]
end
variable (G : Cl)
theorem wk_len (A : Lb → Addr) (n : Nat) : (wk A n).length < sizeLine := small1000 (by show 5 ≤ 1000; decide)
section
variable {P : Program} {w : World} {K : PySem.W.Frag} {mg : Str → Option Value} {base : Heap}
theorem scEntered : FnScope ["world", "context"] ["world", "context"] (defScope sEntered) := ⟨rfl, rfl, rfl, by decide +kernel, rfl, by decide +kernel, by decide +kernel⟩
theorem inV_nat (i : Nat) : ∀ l : List Nat, inV (.int (i : Int)) (l.map fun i : Nat => V.int (i : Int)) = decide (i ∈ l)
  | [] => rfl
  | y :: r => by
    have ih := inV_nat i r
    unfold inV at ih ⊢
    rw [List.map_cons, List.any_cons, ih]
    show ((y : Int) == (i : Int) || decide (i ∈ r)) = _
    by_cases e : y = i
    · simp [e]
    · have e' : ¬ i = y := fun q => e q.symm
      have e2 : ¬ (y : Int) = (i : Int) := by omega
      simp [e2, e', List.mem_cons]
theorem flat_nat : ∀ l : List Nat, (l.map fun i : Nat => V.int (i : Int)).all flatV = true
  | [] => rfl
  | y :: r => by
    rw [List.map_cons, List.all_cons, flat_nat r]
    rfl
theorem fr_keep {l : List Addr} {H H' : Hp} (f : Fr l H H') (h : ∀ x ∈ l, ∃ o, H x = some o ∧ plainO o) : LnX.KeepT H H' := f.keepT fun x hx => .inr (h x hx)
theorem All.keep {A : Lb → Addr} {L : LS} {M : RS} {U : TS} {H H' : Hp} {G : Cl} (h : All G A L M U H) {xs : List Lb} (v : ∀ x ∈ xs, (cont G A L M U x).isSome = true) (f : Fr (xs.map A) H H') : LnX.KeepT H H' := fr_keep f fun x hx => by
  obtain ⟨y, hy, rfl⟩ := List.mem_map.mp hx
  obtain ⟨P, eP⟩ := Option.isSome_iff_exists.mp (v y hy)
  obtain ⟨o, eo, z⟩ := h.at_ y P eP
  exact ⟨o, eo, cont_plain eP z⟩
theorem All.keep1 {A : Lb → Addr} {L : LS} {M : RS} {U : TS} {H H' : Hp} {G : Cl} (h : All G A L M U H) {x : Lb} (v : (cont G A L M U x).isSome = true) (f : Fr [A x] H H') : LnX.KeepT H H' := h.keep (xs := [x]) (fun y hy => by rw [List.mem_singleton.mp hy]; exact v) f
theorem ok_entered {f : Addr} {fd : FuncData} (F : Fun K "_law_entered" "_law_entered" sEntered f fd) : FnOk P w K mg base CX0 1 f fd ["world", "context"] (spEntered G) := by
  refine F.ok scEntered (fun vs H Q E h => ?_) (fun cdv A0 outer s H vs Q E hr h => ?_)
  · obtain ⟨A, L, M, U, i, rfl, _⟩ := h
    rfl
  · obtain ⟨A, L, M, U, i, rfl, h, hl, k⟩ := h
    have hu := hu_of hr
    refine ⟨_, pss_cons (ps_if (PW.pt (pw_or (pt_cmp (pc_isN (pv 1))) (pw_or1 (pt_cmpR op_in_seq (pv 1) (pe_dget hu (pv 0) pe_str (fun _ _ => rfl)) rfl)))) (pss_one (ps_ret (pe_ifExp (pt_cmp (pc_isN (pv 1))) pe_str pe_str))) pss_nil)
      (pss_cons (ps_expr (pe_bm PySem.F.plainAttrs_list PySem.F.slot_list_append PySem.F.type_list_append mt_append (pe_dget hu (pv 0) pe_str (fun _ _ => rfl)) (pa_cons (pv 1) pa_nil)))
      (pss_cons (ps_dput hu (pv 0) pe_str (pv 1) rfl)
      (pss_one (ps_ret pe_str)))), ?_⟩
    have g1 := (wk_b A L.now) ▸ DGet.k (k := Sum.inr "busy") h.w_
    refine ⟨_, rfl, _, rfl, iteF ⟨_, rfl, _, rfl, A .w, _, rfl, g1, A .bl, _, rfl, .inl (SqL.of h.bl_), rfl, flat_nat _, _, rfl, ?_⟩⟩
    show (if (inV (.int (i : Int)) _) = true then _ else _)
    rw [inV_nat]
    refine ite2 (fun hb => ?_) (fun hb => ?_)
    · have hb : i ∈ L.busy := by simpa using hb
      refine ⟨_, rfl, _, rfl, iteF ?_⟩
      have e : lent L i = (L, ("entered" : Str)) := if_pos hb
      have := k H (by rw [e]; exact h) (by rw [e]; exact Go.refl)
      rw [e] at this
      exact this
    · have hb : ¬ i ∈ L.busy := by simpa using hb
      have e : lent L i = ({ L with busy := L.busy ++ [i], now := i }, ("" : Str)) := if_neg hb
      rw [e] at k
      refine ⟨_, rfl, A .w, _, rfl, g1, .inl ⟨rfl, _, SqL.of h.bl_⟩, _, rfl, A .bl, _, _, rfl, rfl, h.bl_, small1000 (by rw [List.length_map]; omega), ?_⟩
      have f1 : Fr [A .bl] H (upd H (A .bl) (.lst (L.busy.map (fun i : Nat => V.int (i : Int)) ++ [.int (i : Int)]))) := Fr.one
      have h1 := h.lbusy (b := L.busy ++ [i]) f1 (by rw [upd_same, List.map_append]; rfl)
      have k1 : Go G A L M U H A { L with busy := L.busy ++ [i] } M U _ := Go.one (x := .bl) rfl f1 rfl rfl rfl rfl rfl rfl
      generalize (upd H (A .bl) (.lst (L.busy.map (fun i : Nat => V.int (i : Int)) ++ [.int (i : Int)]))) = H1 at h1 k1 ⊢
      refine ⟨_, rfl, _, rfl, A .w, _, rfl, DPut.k (k := Sum.inr "now") h1.w_ (wk_len _ _), ?_⟩
      have f2 : Fr [A .w] H1 (upd H1 (A .w) (.dK (wk A i))) := Fr.one
      rw [wk_put]
      exact k _ (h1.lnow f2 upd_same) (k1.trans (Go.one (x := .w) rfl f2 rfl rfl rfl rfl rfl rfl))
theorem scExited : FnScope ["world", "elder"] ["world", "elder"] (defScope sExited) := ⟨rfl, rfl, rfl, by decide +kernel, rfl, by decide +kernel, by decide +kernel⟩
theorem ok_exited {f : Addr} {fd : FuncData} (F : Fun K "_law_exited" "_law_exited" sExited f fd) : FnOk P w K mg base CX0 1 f fd ["world", "elder"] (spExited G) := by
  refine F.ok scExited (fun vs H Q E h => ?_) (fun cdv A0 outer s H vs Q E hr h => ?_)
  · obtain ⟨A, L, M, U, i, rfl, _⟩ := h
    rfl
  · obtain ⟨A, L, M, U, i, rfl, h, hl, k⟩ := h
    have hu := hu_of hr
    refine ⟨_, pss_cons (ps_expr (pe_bm0 PySem.F.plainAttrs_list PySem.F.slot_list_pop PySem.F.type_list_pop mt_pop (pe_dget hu (pv 0) pe_str (fun _ _ => rfl))))
      (pss_one (ps_dput hu (pv 0) pe_str (pv 1) rfl)), ?_⟩
    have g1 := (wk_b A L.now) ▸ DGet.k (k := Sum.inr "busy") h.w_
    obtain ⟨y, hy⟩ : ∃ y, L.busy[L.busy.length - 1]? = some y := ⟨_, List.getElem?_eq_getElem (by have := List.length_pos_iff.mpr hl; omega)⟩
    refine ⟨_, rfl, A .w, _, rfl, g1, .inl ⟨rfl, _, SqL.of h.bl_⟩, A .bl, _, .int (y : Int), rfl, rfl, h.bl_, (by rw [List.length_map, List.getElem?_map, hy]; rfl), ?_⟩
    have f1 : Fr [A .bl] H (upd H (A .bl) (.lst ((L.busy.map fun i : Nat => V.int (i : Int)).dropLast))) := Fr.one
    have h1 := h.lbusy (b := L.busy.dropLast) f1 (by rw [upd_same, List.map_dropLast])
    have k1 : Go G A L M U H A { L with busy := L.busy.dropLast } M U _ := Go.one (x := .bl) rfl f1 rfl rfl rfl rfl rfl rfl
    generalize (upd H (A .bl) (.lst ((L.busy.map fun i : Nat => V.int (i : Int)).dropLast))) = H1 at h1 k1 ⊢
    refine ⟨_, rfl, _, rfl, A .w, _, rfl, DPut.k (k := Sum.inr "now") h1.w_ (wk_len _ _), ?_⟩
    have f2 : Fr [A .w] H1 (upd H1 (A .w) (.dK (wk A i))) := Fr.one
    rw [wk_put]
    exact k _ (h1.lnow f2 upd_same) (k1.trans (Go.one (x := .w) rfl f2 rfl rfl rfl rfl rfl rfl))
end
end XA

set_option Elab.async false
set_option linter.all false
set_option maxRecDepth 100000
set_option maxHeartbeats 1000000
/-! _law_held, _law_reset. -/
namespace XA
open PySem PySem.Spec PyProof.Rows L2 SW
variable (G : Cl)
theorem ixN_at {n j : Nat} (h : j < n) : ixN n (j : Int) = some j := by
  unfold ixN
  rw [if_pos (by omega), if_pos (by omega), Int.toNat_natCast]
section
variable {P : Program} {w : World} {K : PySem.W.Frag} {mg : Str → Option Value} {base : Heap}
theorem scHeld : FnScope ["world", "var", "value", "here"] ["world", "var", "value"] (defScope sHeld) := ⟨rfl, rfl, rfl, by decide +kernel, rfl, by decide +kernel, by decide +kernel⟩
theorem ok_held {f : Addr} {fd : FuncData} (F : Fun K "_law_held" "_law_held" sHeld f fd) (mL : mg "len" = none) : FnOk P w K mg base CX0 1 f fd ["world", "var", "value"] (spHeld G) := by
  refine F.ok scHeld (fun vs H Q E h => ?_) (fun cdv A0 outer s H vs Q E hr h => ?_)
  · obtain ⟨A, L, M, U, m, k0, v, rfl, _⟩ := h
    rfl
  · obtain ⟨A, L, M, U, m, k0, v, rfl, h, hm, ml, tl, k⟩ := h
    have hu := hu_of hr
    refine ⟨_, pss_cons (ps_set (i := 3) scHeld.nd rfl (Or.inl rfl) (pe_ix ix_list (pe_dget hu (pv 0) pe_str (fun _ _ => rfl)) (pe_dget hu (pv 0) pe_str (fun _ _ => rfl)) (fun _ _ => rfl)))
      (C8.pss_cut (ps_expr (pe_bm PySem.F.plainAttrs_list PySem.F.slot_list_append PySem.F.type_list_append mt_append (pe_dget hu (pv 0) pe_str (fun _ _ => rfl))
        (pa_cons (pe_tup (pa_cons (pe_dget hu (pv 0) pe_str (fun _ _ => rfl)) (pa_cons (pv 1) (pa_cons (pe_ifExp (pt_cmp (pc_din hu (pv 1) (pv 3))) (pe_lst (pa_cons (pe_dget hu (pv 3) (pv 1) (fun _ _ => rfl)) pa_nil)) (pe_lst pa_nil)) (pa_cons pe_bl pa_nil))))) pa_nil)))
      (pss_cons (ps_dput hu (pv 3) (pv 1) (pv 2) rfl)
      (pss_one (ps_ret (pe_op op_sub (pe_callB call_len_seq (by rfl) mL boot_len (pa_cons (pe_dget hu (pv 0) pe_str (fun _ _ => rfl)) pa_nil)) pe_int))))), ?_⟩
    have g1 := (wk_c A L.now) ▸ DGet.k (k := Sum.inr "contexts") h.w_
    have g2 := (wk_n A L.now) ▸ DGet.k (k := Sum.inr "now") h.w_
    have g3 := (wk_t A L.now) ▸ DGet.k (k := Sum.inr "tokens") h.w_
    have nl := (List.getElem?_eq_some_iff.mp hm).1
    have gd := DGet.k (k := Sum.inr k0) (h.d_ hm)
    rw [valV_kv] at gd
    refine ⟨_, rfl, A .w, _, rfl, g1, _, rfl, A .w, _, rfl, g2, A .cl, _, (L.now : Int), _, rfl, rfl, SqL.of h.cl_, d_at nl, ?_⟩
    have mid : ∀ o, H o = none → ∀ a, (upd H o (.lst (oldL (aget m k0)))) a = none → ∃ A', Ag G A A' L M U ∧ All G A' { L with tk := L.tk ++ [⟨L.now, k0, aget m k0, false⟩] } M U (upd (upd (upd H o (.lst (oldL (aget m k0)))) a (.tup [.int (L.now : Int), .str k0, .ref o, .bl false])) (A .tl) (.lst (refs A .q L.tk.length ++ [.ref a]))) ∧
        Go G A L M U H A' { L with tk := L.tk ++ [⟨L.now, k0, aget m k0, false⟩] } M U (upd (upd (upd H o (.lst (oldL (aget m k0)))) a (.tup [.int (L.now : Int), .str k0, .ref o, .bl false])) (A .tl) (.lst (refs A .q L.tk.length ++ [.ref a]))) ∧ H (A .tl) = some (.lst (refs A .q L.tk.length)) := fun o no a na => by
      have ao : a ≠ o := (ne_of_none upd_same na).symm
      have na0 : H a = none := by rw [upd_ne ao] at na; exact na
      have to : A .tl ≠ o := ne_of_none h.tl_ no
      have ta : A .tl ≠ a := ne_of_none h.tl_ na0
      have f : Fr [A .tl] H (upd (upd (upd H o (.lst (oldL (aget m k0)))) a (.tup [.int (L.now : Int), .str k0, .ref o, .bl false])) (A .tl) (.lst (refs A .q L.tk.length ++ [.ref a]))) := ((Fr.new no).trans (Fr.new na)).trans Fr.one
      obtain ⟨A', ag, al, go⟩ := h.lheld (z := ⟨L.now, k0, aget m k0, false⟩) (a := a) (a2 := o) na0 no ao f (by rw [upd_ne ta.symm, upd_same]) (by rw [upd_ne to.symm, upd_ne ao.symm, upd_same]) upd_same
      exact ⟨A', ag, al, go, h.tl_⟩
    refine ⟨fun σ H1 => σ = [some (.ref (A .w)), some (.str k0), some (.int v), some (.ref (A (.d L.now)))] ∧ ∃ A', Ag G A A' L M U ∧ All G A' { L with tk := L.tk ++ [⟨L.now, k0, aget m k0, false⟩] } M U H1 ∧ Go G A L M U H A' { L with tk := L.tk ++ [⟨L.now, k0, aget m k0, false⟩] } M U H1, ?_, ?_⟩
    · have four : (4 : Nat) ≤ sizeLine := by decide
      have ts := small1000 (n := (refs A .q L.tk.length).length) (by rw [refs_len]; omega)
      refine ⟨_, rfl, A .w, _, rfl, g3, .inl ⟨rfl, _, SqL.of h.tl_⟩, _, rfl, A .w, _, rfl, g2, _, rfl, _, rfl, _, rfl, A (.d L.now), _, rfl, gd, _, rfl, ?_⟩
      cases ev : aget m k0 with
      | none =>
        rw [ev] at mid
        refine iteF ⟨Nat.zero_le _, fun o no => ⟨four, fun a na => ?_⟩⟩
        obtain ⟨A', ag, al, kt, et⟩ := mid o no a na
        have et2 : (upd (upd H o (.lst [])) a (.tup [.int (L.now : Int), .str k0, .ref o, .bl false])) (A .tl) = some (.lst (refs A .q L.tk.length)) := by
          have e1 := same_new (o := .lst []) no _ _ et
          rw [upd_ne (ne_of_none e1 na)]
          exact e1
        exact ⟨A .tl, _, _, rfl, rfl, et2, ts, rfl, A', ag, al, kt⟩
      | some v0 =>
        rw [ev] at mid gd
        refine iteT ⟨_, rfl, _, rfl, A (.d L.now), .int v0, rfl, gd, (by show 1 ≤ sizeLine; decide), fun o no => ⟨four, fun a na => ?_⟩⟩
        obtain ⟨A', ag, al, kt, et⟩ := mid o no a na
        have et2 : (upd (upd H o (.lst [.int v0])) a (.tup [.int (L.now : Int), .str k0, .ref o, .bl false])) (A .tl) = some (.lst (refs A .q L.tk.length)) := by
          have e1 := same_new (o := .lst [.int v0]) no _ _ et
          rw [upd_ne (ne_of_none e1 na)]
          exact e1
        exact ⟨A .tl, _, _, rfl, rfl, et2, ts, rfl, A', ag, al, kt⟩
    rintro σ H1 ⟨rfl, A', ag, h1, k1⟩
    have ed : A' (.d L.now) = A (.d L.now) := ag _ (by intro _ z; cases z) (map_some nl)
    have ew : A' .w = A .w := ag _ (by intro _ z; cases z) rfl
    have d1 := h1.d_ (i := L.now) (m := m) hm
    rw [← ed]
    refine ⟨_, rfl, _, rfl, _, rfl, A' (.d L.now), _, rfl, DPut.k (k := Sum.inr k0) d1 (small1000 (by rw [kv_len]; omega)), ?_⟩
    rw [putK_kv]
    have f2 : Fr [A' (.d L.now)] H1 (upd H1 (A' (.d L.now)) (.dK (kv (aput m k0 v)))) := Fr.one
    have h2 := h1.lctx (i := L.now) (m := aput m k0 v) nl f2 upd_same
    have k2 : Go G A' { L with tk := L.tk ++ [⟨L.now, k0, aget m k0, false⟩] } M U H1 A' { L with tk := L.tk ++ [⟨L.now, k0, aget m k0, false⟩], cs := L.cs.set L.now (aput m k0 v) } M U _ := Go.one (x := .d L.now) (map_some nl) f2 List.length_set rfl rfl rfl rfl rfl
    generalize (upd H1 (A' (.d L.now)) (.dK (kv (aput m k0 v)))) = H2 at h2 k2 ⊢
    have g4 := (wk_t A' L.now) ▸ DGet.k (k := Sum.inr "tokens") h2.w_
    rw [ew] at g4
    refine ⟨_, rfl, A .w, _, rfl, g4, A' .tl, _, rfl, .inl (SqL.of h2.tl_), _, _, rfl, rfl, ?_⟩
    have := k A' H2 ag h2 (k1.trans k2)
    have e : ((refs A' Lb.q (L.tk ++ [(⟨L.now, k0, aget m k0, false⟩ : Tk)]).length).length : Int) - 1 = (L.tk.length : Int) := by
      rw [refs_len, List.length_append, List.length_singleton]
      omega
    show Q (.int (((refs A' Lb.q (L.tk ++ [(⟨L.now, k0, aget m k0, false⟩ : Tk)]).length).length : Int) - 1)) H2
    rw [e]
    exact this
end
end XA

set_option Elab.async false
set_option linter.all false
set_option maxRecDepth 100000
set_option maxHeartbeats 1000000
/-! _law_reset. -/
namespace XA
open PySem PySem.Spec PyProof.Rows L2 SW
variable (G : Cl)
section
variable {A A' : Lb → Addr} {L L' : LS} {M M' : RS} {U U' : TS} {G : Cl}
theorem Ag.trans {A2 : Lb → Addr} (a : Ag G A A' L M U) (b : Ag G A' A2 L' M' U') (v : ∀ l, (cont G A L M U l).isSome = true → (cont G A' L' M' U' l).isSome = true) : Ag G A A2 L M U := fun l h1 h2 => (b l h1 (v l h2)).trans (a l h1 h2)
end
section
variable {P : Program} {w : World} {K : PySem.W.Frag} {mg : Str → Option Value} {base : Heap}
theorem scLReset : FnScope ["world", "number", "context", "var", "old", "is_used", "here", "value"] ["world", "number"] (defScope sLReset) := ⟨rfl, rfl, rfl, by decide +kernel, rfl, by decide +kernel, by decide +kernel⟩
theorem ok_lreset {f : Addr} {fd : FuncData} (F : Fun K "_law_reset" "_law_reset" sLReset f fd) : FnOk P w K mg base CX0 1 f fd ["world", "number"] (spLReset G) := by
  refine F.ok scLReset (fun vs H Q E h => ?_) (fun cdv A0 outer s H vs Q E hr h => ?_)
  · obtain ⟨A, L, M, U, j, rfl, _⟩ := h
    rfl
  · obtain ⟨A, L, M, U, j, rfl, h, jl, tc, ml, k⟩ := h
    have hu := hu_of hr
    refine ⟨_, pss_cons (ps_asg (pe_ix ix_list (pe_dget hu (pv 0) pe_str (fun _ _ => rfl)) (pv 1) (fun _ _ => rfl)) (pg_tup rfl (pgs_cons (pg_name (i := 2) scLReset.nd rfl (Or.inl rfl)) (pgs_cons (pg_name (i := 3) scLReset.nd rfl (Or.inl rfl)) (pgs_cons (pg_name (i := 4) scLReset.nd rfl (Or.inl rfl)) (pgs_cons (pg_name (i := 5) scLReset.nd rfl (Or.inl rfl)) pgs_nil))))))
      (pss_cons (ps_if (PW.pt (pw_or (pt_val (pv 5)) (pw_or1 (pt_cmpR op_ne (pv 2) (pe_dget hu (pv 0) pe_str (fun _ _ => rfl)) (nomark _))))) (pss_one (ps_ret (pe_ifExp (pt_val (pv 5)) pe_str pe_str))) pss_nil)
      (C8.pss_cut (ps_asg (pe_tup (pa_cons (pv 2) (pa_cons (pv 3) (pa_cons (pv 4) (pa_cons pe_bl pa_nil))))) (pg_sub (pe_dget hu (pv 0) pe_str (fun _ _ => rfl)) (pv 1) set_list))
      (C8.pss_cut (ps_set (i := 6) scLReset.nd rfl (Or.inl rfl) (pe_ix ix_list (pe_dget hu (pv 0) pe_str (fun _ _ => rfl)) (pv 2) (fun _ _ => rfl)))
      (C8.pss_cut (ps_expr (pe_dpop2 (pv 6) (pv 3) pe_non ⟨rfl, rfl, rfl, rfl⟩))
      (C8.pss_cut (ps_for PassesOwn.never rfl (pi_list (pv 4)) (pg_name (i := 7) scLReset.nd rfl (Or.inl rfl)) (pss_one (ps_dput hu (pv 6) (pv 3) (pv 7) rfl)))
      (pss_one (ps_ret pe_str))))))), ?_⟩
    obtain ⟨x, hx⟩ : ∃ x, L.tk[j]? = some x := ⟨_, List.getElem?_eq_getElem jl⟩
    have g3 := (wk_t A L.now) ▸ DGet.k (k := Sum.inr "tokens") h.w_
    have g2 := (wk_n A L.now) ▸ DGet.k (k := Sum.inr "now") h.w_
    refine ⟨_, rfl, A .w, _, rfl, g3, _, rfl, A .tl, _, (j : Int), _, rfl, rfl, SqL.of h.tl_, q_at jl, A (.q j), _, rfl, SqT.of (h.q_ hx), rfl, _, _, rfl, _, _, rfl, _, _, rfl, _, _, rfl, rfl, ?_⟩
    have el : lres L j = (if x.used = true then (L, ("used" : Str)) else if x.ctx = L.now then ({ L with tk := L.tk.set j { x with used := true }, cs := L.cs.set x.ctx (rst ((L.cs[x.ctx]?).getD []) x.var x.old) }, ("" : Str)) else (L, ("elsewhere" : Str))) := by
      unfold lres
      rw [hx]
    refine ⟨_, rfl, x.used, rfl, ?_⟩
    by_cases hxu : x.used = true
    · rw [if_pos hxu] at el
      rw [hxu]
      refine iteT ⟨_, rfl, true, rfl, iteT ?_⟩
      have := k A H Ag.refl (by rw [el]; exact h) (by rw [el]; exact Go.refl)
      rw [el] at this
      exact this
    · rw [if_neg hxu] at el
      have hxu : x.used = false := by simpa using hxu
      rw [hxu]
      refine iteF ⟨_, rfl, _, rfl, A .w, _, rfl, g2, rfl, _, rfl, ?_⟩
      refine ite2 (fun hne => ?_) (fun hne => ?_)
      · have hne : ¬ x.ctx = L.now := fun z => by
          rw [z] at hne
          simp at hne
        rw [if_neg hne] at el
        refine ⟨_, rfl, false, rfl, iteF ?_⟩
        have := k A H Ag.refl (by rw [el]; exact h) (by rw [el]; exact Go.refl)
        rw [el] at this
        exact this
      · have hc : x.ctx = L.now := by
          have : (V.int (x.ctx : Int)) = V.int (L.now : Int) := by simpa using hne
          injection this with this
          omega
        rw [if_pos hc] at el
        have cl : x.ctx < L.cs.length := tc x (List.mem_of_getElem? hx)
        obtain ⟨m, hm⟩ : ∃ m, L.cs[x.ctx]? = some m := ⟨_, List.getElem?_eq_getElem cl⟩
        have hml := ml m (List.mem_of_getElem? hm)
        rw [hm] at el
        have el : lres L j = ({ L with tk := L.tk.set j { x with used := true }, cs := L.cs.set x.ctx (rst m x.var x.old) }, ("" : Str)) := el
        rw [el] at k
        obtain ⟨ctx, var, old, used⟩ := x
        dsimp only at cl hm hxu hc k el
        -- the token
        refine ⟨fun σ H1 => σ = [some (.ref (A .w)), some (.int (j : Int)), some (.int (ctx : Int)), some (.str var), some (.ref (A (.ol j))), some (.bl false), none, none] ∧ ∃ A', Ag G A A' L M U ∧ All G A' { L with tk := L.tk.set j ⟨ctx, var, old, true⟩ } M U H1 ∧ Go G A L M U H A' { L with tk := L.tk.set j ⟨ctx, var, old, true⟩ } M U H1, ?_, ?_⟩
        · refine ⟨_, rfl, _, rfl, _, rfl, (by show 4 ≤ sizeLine; decide), fun a na => ?_⟩
          have tla : A .tl ≠ a := ne_of_none h.tl_ na
          have wa := same_new (o := .tup [.int (ctx : Int), .str var, .ref (A (.ol j)), .bl true]) na
          have g3' := (wk_t A L.now) ▸ DGet.k (k := Sum.inr "tokens") (wa _ _ h.w_)
          refine ⟨_, rfl, A .w, _, rfl, g3', _, rfl, A .tl, _, (j : Int), j, rfl, rfl, wa _ _ h.tl_, ixN_at (by rw [refs_len]; exact jl), rfl, ?_⟩
          have f : Fr [A .tl] H (upd (upd H a (.tup [.int (ctx : Int), .str var, .ref (A (.ol j)), .bl true])) (A .tl) (.lst ((refs A .q L.tk.length).set j (.ref a)))) := (Fr.new na).trans Fr.one
          obtain ⟨A', ag, al, go⟩ := h.lused (z := ⟨ctx, var, old, used⟩) (z2 := ⟨ctx, var, old, true⟩) hx na rfl f (by rw [upd_ne tla.symm, upd_same]) upd_same
          exact ⟨A', ag, al, go⟩
        rintro σ H1 ⟨rfl, A', ag, h1, k1⟩
        have ew : A' .w = A .w := ag _ (by intro _ z; cases z) rfl
        have eo : A' (.ol j) = A (.ol j) := ag _ (by intro _ z; cases z) (map_some jl)
        have jl1 : (L.tk.set j ⟨ctx, var, old, true⟩)[j]? = some ⟨ctx, var, old, true⟩ := set_at jl
        refine ⟨fun σ H2 => σ = [some (.ref (A .w)), some (.int (j : Int)), some (.int (ctx : Int)), some (.str var), some (.ref (A (.ol j))), some (.bl false), some (.ref (A' (.d ctx))), none] ∧ H2 = H1, ?_, ?_⟩
        · have g1 := (wk_c A' L.now) ▸ DGet.k (k := Sum.inr "contexts") h1.w_
          rw [ew] at g1
          exact ⟨_, rfl, A .w, _, rfl, g1, _, rfl, A' .cl, _, (ctx : Int), _, rfl, rfl, SqL.of h1.cl_, d_at cl, rfl, rfl⟩
        rintro σ H2 ⟨rfl, rfl⟩
        have d1 := h1.d_ (i := ctx) (m := m) hm
        -- pop
        refine ⟨fun σ H3 => σ = [some (.ref (A .w)), some (.int (j : Int)), some (.int (ctx : Int)), some (.str var), some (.ref (A (.ol j))), some (.bl false), some (.ref (A' (.d ctx))), none] ∧ All G A' { L with tk := L.tk.set j ⟨ctx, var, old, true⟩, cs := L.cs.set ctx (adrop m var) } M U H3 ∧ Go G A' { L with tk := L.tk.set j ⟨ctx, var, old, true⟩ } M U H2 A' { L with tk := L.tk.set j ⟨ctx, var, old, true⟩, cs := L.cs.set ctx (adrop m var) } M U H3, ?_, ?_⟩
        · refine ⟨_, rfl, A' (.d ctx), rfl, .inl ⟨_, .inl d1⟩, _, rfl, kv m, .inr var, d1, rfl, fun v _ => ⟨rfl, ?_, ?_⟩, fun hn => ⟨rfl, ?_, Go.one (x := .d ctx) (map_some cl) Fr.refl List.length_set rfl rfl rfl rfl rfl⟩⟩
          · rw [dropK_kv]
            exact h1.lctx (i := ctx) (m := adrop m var) cl Fr.one upd_same
          · exact Go.one (x := .d ctx) (map_some cl) Fr.one List.length_set rfl rfl rfl rfl rfl
          · rw [valV_kv] at hn
            have e0 : adrop m var = m := adrop_none (by cases z : aget m var with | none => rfl | some _ => rw [z] at hn; cases hn)
            refine h1.lctx (i := ctx) (m := adrop m var) cl Fr.refl ?_
            rw [e0]
            exact d1
        rintro σ H3 ⟨rfl, h3, k3⟩
        have cl3 : ctx < (L.cs.set ctx (adrop m var)).length := by rw [List.length_set]; exact cl
        -- put back
        refine ⟨fun σ H4 => All G A' { L with tk := L.tk.set j ⟨ctx, var, old, true⟩, cs := L.cs.set ctx (rst m var old) } M U H4 ∧ Go G A' { L with tk := L.tk.set j ⟨ctx, var, old, true⟩, cs := L.cs.set ctx (adrop m var) } M U H3 A' { L with tk := L.tk.set j ⟨ctx, var, old, true⟩, cs := L.cs.set ctx (rst m var old) } M U H4, ?_, ?_⟩
        · have ol3 := h3.ol_ (j := j) jl1
          rw [eo] at ol3
          refine ⟨_, rfl, A (.ol j), rfl, ⟨_, SqL.of ol3⟩, ?_⟩
          cases old with
          | none =>
            exact for_list (K := K) (a := A (.ol j)) (xs := []) (fun i σ H4 => H4 = H3) rfl (fun i σ H4 _ e => by rw [e]; exact SqL.of ol3) (fun i x σ H4 hx _ => by cases hx) (fun σ H4 e => by rw [e]; exact ⟨h3, Go.refl⟩)
          | some v =>
            refine for_list (K := K) (a := A (.ol j)) (xs := [.int v]) (fun i σ H4 => (∃ z, σ = [some (.ref (A .w)), some (.int (j : Int)), some (.int (ctx : Int)), some (.str var), some (.ref (A (.ol j))), some (.bl false), some (.ref (A' (.d ctx))), z]) ∧ All G A' { L with tk := L.tk.set j ⟨ctx, var, some v, true⟩, cs := L.cs.set ctx (if i = 0 then adrop m var else rst m var (some v)) } M U H4 ∧ Go G A' { L with tk := L.tk.set j ⟨ctx, var, some v, true⟩, cs := L.cs.set ctx (adrop m var) } M U H3 A' { L with tk := L.tk.set j ⟨ctx, var, some v, true⟩, cs := L.cs.set ctx (if i = 0 then adrop m var else rst m var (some v)) } M U H4)
              ⟨⟨none, rfl⟩, h3, Go.refl⟩ (fun i σ H4 _ ⟨_, h4, _⟩ => ?_) (fun i y σ H4 hy ⟨⟨z, e⟩, h4, k4⟩ => ?_) (fun σ H4 ⟨_, h4, k4⟩ => ⟨h4, k4⟩)
            · have := h4.ol_ (j := j) jl1
              rw [eo] at this
              exact SqL.of this
            · match i, hy with
              | 0, hy =>
                cases hy
                subst e
                have d4 := h4.d_ (i := ctx) (m := adrop m var) (by show (L.cs.set ctx _)[ctx]? = _; rw [set_at cl]; rfl)
                refine ⟨_, rfl, _, rfl, _, rfl, A' (.d ctx), _, rfl, DPut.k (k := Sum.inr var) d4 (small1000 ?_), ⟨_, rfl⟩, ?_, ?_⟩
                · rw [kv_len]
                  have : (adrop m var).length ≤ m.length := List.length_filter_le _ _
                  omega
                · rw [putK_kv]
                  have := h4.lctx (i := ctx) (m := aput (adrop m var) var v) (by show ctx < (L.cs.set ctx _).length; rw [List.length_set]; exact cl) Fr.one upd_same
                  dsimp only at this
                  rw [List.set_set] at this
                  exact this
                · rw [putK_kv]
                  exact k4.trans (Go.one (x := .d ctx) (map_some (by show ctx < (L.cs.set ctx _).length; rw [List.length_set]; exact cl)) Fr.one (by show (L.cs.set ctx _).length = (L.cs.set ctx _).length; rw [List.length_set, List.length_set]) rfl rfl rfl rfl rfl)
              | i + 1, hy => cases hy
        rintro σ H4 ⟨h4, k4⟩
        exact k A' H4 ag h4 (k1.trans (k3.trans k4))
end
end XA

set_option Elab.async false
set_option linter.all false
set_option maxRecDepth 100000
set_option maxHeartbeats 1000000
/-! == with an empty list; the room's show; _law_plain of a show. -/
namespace XA
open PySem PySem.Spec PyProof.Rows L2 SW
def rEqE (K : PySem.W.Frag) : R2 := fun x y H Q => ∃ a b xs, x = .ref a ∧ y = .ref b ∧ SqL K H a xs ∧ SqL K H b [] ∧ Q (.bl xs.isEmpty) H
theorem op_eqE {X : Cx} (hu : X.A.units < cLine) : OpR X (compareOp .Eq) (rEqE X.K) := by
  intro pins s σ H x y v u Q I rx ry h
  obtain ⟨a, b, xs, rfl, rfl, ha, hb, q⟩ := h
  cases rx
  cases ry
  obtain ⟨us, r1, p1, _⟩ := I.list ha
  obtain ⟨ws, r2, p2, _⟩ := I.list hb
  cases r2
  have hl := r1.length
  cases xs with
  | nil =>
    cases r1
    exact SeqAt.eq_listAt (e := fun _ => true) p1.isList p2.isList rfl hu (fun j h1 h2 => absurd h1 (Nat.not_lt_zero j)) ⟨.bl true, H, I, rfl, q⟩
  | cons x xs =>
    refine SeqAt.eq_list_lengthsAt p1.isList p2.isList ?_ hu ⟨.bl false, H, I, rfl, q⟩
    rw [List.size_toArray, ← hl]
    rfl
def rNeE (K : PySem.W.Frag) : R2 := fun x y H Q => ∃ a b xs, x = .ref a ∧ y = .ref b ∧ SqL K H a xs ∧ SqL K H b [] ∧ Q (.bl (!xs.isEmpty)) H
theorem op_neE {X : Cx} (hu : X.A.units < cLine) : OpR X (compareOp .NotEq) (rNeE X.K) := by
  intro pins s σ H x y v u Q I rx ry h
  obtain ⟨a, b, xs, rfl, rfl, ha, hb, q⟩ := h
  cases rx
  cases ry
  obtain ⟨us, r1, p1, _⟩ := I.list ha
  obtain ⟨ws, r2, p2, _⟩ := I.list hb
  cases r2
  have hl := r1.length
  cases xs with
  | nil =>
    cases r1
    exact SeqAt.RcNeAt.lists (e := fun _ => true) p1.isList p2.isList rfl hu (fun j h1 h2 => absurd h1 (Nat.not_lt_zero j)) X.prog X.w X.xe _ ⟨.bl false, H, I, rfl, q⟩
  | cons x xs =>
    refine SeqAt.RcNeAt.lists_lengths p1.isList p2.isList ?_ hu X.prog X.w X.xe _ ⟨.bl true, H, I, rfl, q⟩
    rw [List.size_toArray, ← hl]
    rfl
theorem iteF' {c : Bool} {A B : Prop} (e : c = false) (h : B) : if c = true then A else B := by
  rw [e]
  exact h
theorem iteT' {c : Bool} {A B : Prop} (e : c = true) (h : A) : if c = true then A else B := by
  rw [e]
  exact h
abbrev sNote : Stmt := inClass cRoom 13
abbrev sShow : Stmt := inClass cRoom 5
abbrev sPlain : Stmt := top 83
def spNote (R : Addr) : Sp := fun vs H Q _ => ∃ (r : Addr) (le : Addr × List V) (p a : Addr), vs = [.ref r, .ref a] ∧ RoomAt R H r le p ∧ le.2.length ≤ 100000 ∧ ∀ H', H' le.1 = some (.lst (le.2 ++ [.ref a])) → Fr [le.1] H H' → Q .non H'
def spShow (R C CF : Addr) : Sp := fun vs H Q E => ∃ (r : Addr) (le : Addr × List V) (p d : Addr) (m : Mp) (k : Str), vs = [.ref r, .str k] ∧ RoomAt R H r le p ∧ CtxAt C H p d m ∧ le.2.length ≤ 100000 ∧
  (∀ v, aget m k = some v → ∀ (a : Addr) H', H a = none → H' a = some (.tup [.str "shown", .str k, .int v]) → H' le.1 = some (.lst (le.2 ++ [.ref a])) → Fr [le.1] H H' → Q .non H') ∧
  (aget m k = none → ∀ x : Addr, H x = none → E (.ref CF) (some x) (upd H x (.xd [("word", .str "unset")])))
section
variable {P : Program} {w : World} {K : PySem.W.Frag} {mg : Str → Option Value} {base : Heap} {R C CF : Addr}
theorem small5 {n : Nat} (h : n ≤ 100000) : n < sizeLine := by rw [sizeLine_eq]; omega
theorem scNote : FnScope ["self", "event"] ["self", "event"] (defScope sNote) := ⟨rfl, rfl, rfl, by decide +kernel, rfl, by decide +kernel, by decide +kernel⟩
theorem ok_note {f : Addr} {fd : FuncData} (F : Fun K "note" "Room.note" sNote f fd) (t : RoC K R) : FnOk P w K mg base CX0 1 f fd ["self", "event"] (spNote R) := by
  refine F.ok scNote (fun vs H Q E h => ?_) (fun cdv A outer s H vs Q E hr h => ?_)
  · obtain ⟨r, le, p, a, rfl, _⟩ := h
    rfl
  · obtain ⟨r, le, p, a, rfl, ⟨dr, bk, er, el⟩, ll, q⟩ := h
    refine ⟨_, pss_one (ps_expr (pe_bm PySem.F.plainAttrs_list PySem.F.slot_list_append PySem.F.type_list_append mt_append (pe_fld (pv 0) rfl) (pa_cons (pv 1) pa_nil))), ?_⟩
    exact ⟨_, rfl, r, R, dr, _, _, rfl, er, t.cl, t.nE, rfl_e bk le p, .inl ⟨rfl, _, SqL.of el⟩, _, rfl, le.1, le.2, _, rfl, rfl, el, small5 ll, q _ upd_same Fr.one⟩
theorem scShow : FnScope ["self", "variable"] ["self", "variable"] (defScope sShow) := ⟨rfl, rfl, rfl, by decide +kernel, rfl, by decide +kernel, by decide +kernel⟩
theorem ok_show {f fN : Addr} {fd fdN : FuncData} (F : Fun K "show" "Room.show" sShow f fd) (Z : CKit P w K mg base C CF) (t : RoC K R) (GN : FnOk P w K mg base CX0 1 fN fdN ["self", "event"] (spNote R)) (bN : Binds K fdN ["self", "event"] []) (mN : Meth K R "note" fN) :
    FnOk P w K mg base (L2.CX P w) 5 f fd ["self", "variable"] (spShow R C CF) := by
  refine F.okX scShow (fun vs H Q E h => ?_) (fun cdv A outer s H vs Q E hr h => ?_)
  · obtain ⟨r, le, p, d, m, k, rfl, _⟩ := h
    rfl
  · obtain ⟨r, le, p, d, m, k, rfl, R0, c, ll, q1, q2⟩ := h
    have hr4 : Room 4 _ := hr.mono (by decide)
    have hr1 : Room 1 _ := hr.mono (by decide)
    refine ⟨_, pss_one (ps_expr (pe_meth (pv 0) t.cl mN GN hr1 bN .nil pass0 (pa_cons (pe_tup (pa_cons pe_str (pa_cons (pv 1) (pa_cons (pe_own (E := E) Z.sG Z.iG Z.jG Z.GG hr4 Z.bG (passes_call (takes_of rfl rfl rfl rfl) (fun _ _ _ _ h => h)) (pe_fld (pv 0) rfl) (pv 1) (fun _ _ => rfl)) pa_nil)))) pa_nil))), ?_⟩
    obtain ⟨dr, bk, er, el⟩ := id R0
    obtain ⟨⟨dx, b, e⟩, ed⟩ := id c
    refine ⟨_, rfl, r, dr, _, rfl, er, rlook bk le p (by decide +kernel) (by decide +kernel) (by decide +kernel), _, rfl, _, rfl, r, R, dr, _, _, rfl, er, t.cl, t.nN, rfl_n bk le p, _, rfl, p, dx, _, rfl, e, p, d, m, k, rfl, c, fun v ev => ?_, q2⟩
    refine ⟨(by show 3 ≤ sizeLine; decide), fun a na => ?_⟩
    have s1 := same_new (o := .tup [.str "shown", .str k, .int v]) na
    have la : le.1 ≠ a := ne_of_none el na
    exact ⟨r, le, p, a, rfl, R0.fr (Fr.of (l := []) s1) (by simp) (by simp), ll, fun H' e' f' => q1 v ev a H' na (f' _ _ upd_same (by simpa using la.symm)) e' ((Fr.of s1).trans f')⟩
end
variable (G : Cl)
def lshow (L : LS) (k : Str) : LS × Str := match aget ((L.cs[L.now]?).getD []) k with
  | none => (L, "unset")
  | some v => ({ L with lg := L.lg ++ [[.str "shown", .str k, .int v]] }, "")
def spPlainS : Sp := fun vs H Q _ => ∃ (A : Lb → Addr) (L : LS) (M : RS) (U : TS) (s a : Addr) (k : Str), vs = [.ref (A .w), .ref s, .ref a] ∧ All G A L M U H ∧ L.now < L.cs.length ∧ H s = some (.dK []) ∧ H a = some (.tup [.str "show", .str k]) ∧ L.lg.length ≤ 100000 ∧
  ∀ (A' : Lb → Addr) H', Ag G A A' L M U → All G A' (lshow L k).1 M U H' → Go G A L M U H A' (lshow L k).1 M U H' → Q (.str (lshow L k).2) H'
section
variable {P : Program} {w : World} {K : PySem.W.Frag} {mg : Str → Option Value} {base : Heap}
theorem scPlain : FnScope ["world", "slots", "one", "here", "kind", "found"] ["world", "slots", "one"] (defScope sPlain) := ⟨rfl, rfl, rfl, by decide +kernel, rfl, by decide +kernel, by decide +kernel⟩
theorem ok_plainS {f fS fH fR : Addr} {fd fdS fdH fdR : FuncData} (F : Fun K "_law_plain" "_law_plain" sPlain f fd) (mL : mg "len" = none) (mD : mg "dict" = none)
    (GS : FnOk P w K mg base CX0 1 fS fdS ["world", "source"] (spSource G)) (bS : Binds K fdS ["world", "source"] []) (gS : mg "_law_source" = some (.ref fS)) (kS : PySem.W.keepIn K (.ref fS) = true)
    (GH : FnOk P w K mg base CX0 1 fH fdH ["world", "var", "value"] (spHeld G)) (bH : Binds K fdH ["world", "var", "value"] []) (gH : mg "_law_held" = some (.ref fH)) (kH : PySem.W.keepIn K (.ref fH) = true)
    (GR : FnOk P w K mg base CX0 1 fR fdR ["world", "number"] (spLReset G)) (bR : Binds K fdR ["world", "number"] []) (gR : mg "_law_reset" = some (.ref fR)) (kR : PySem.W.keepIn K (.ref fR) = true) :
    FnOk P w K mg base CX0 2 f fd ["world", "slots", "one"] (spPlainS G) := by
  refine F.ok scPlain (fun vs H Q E h => ?_) (fun cdv A0 outer s H vs Q E hr h => ?_)
  · obtain ⟨A, L, M, U, s, a, k0, rfl, _⟩ := h
    rfl
  · obtain ⟨A, L, M, U, sl, a, k0, rfl, h, nl, es, ea, ll, k⟩ := h
    have hu := hu_of hr
    refine ⟨_, pss_cons (ps_par (i := 3) (j := 4) rfl scPlain.nd rfl rfl (by decide) rfl rfl (pa_cons (pe_ix ix_list (pe_dget hu (pv 0) pe_str (fun _ _ => rfl)) (pe_dget hu (pv 0) pe_str (fun _ _ => rfl)) (fun _ _ => rfl)) (pa_cons (pe_ix ix_tup (pv 2) pe_int (fun _ _ => rfl)) pa_nil)) (by rfl))
      (C8.pss_cut (ps_if (pt_cmpR op_in_seq (pv 4) (pe_tup (pa_cons pe_str (pa_cons pe_str (pa_cons pe_str pa_nil)))) rfl)
          (pss_cons (ps_set (i := 5) scPlain.nd rfl (Or.inl rfl) (pe_call GS hr rfl gS kS bS .nil pass0 (pa_cons (pv 0) (pa_cons (pe_ix ix_tup (pv 2) (pe_un un_neg pe_int) (fun _ _ => rfl)) pa_nil))))
          (pss_cons (ps_if (pt_cmpR (op_eqP hr.units) (pv 5) (pe_lst pa_nil) (nomark _)) (pss_one (ps_ret pe_str)) pss_nil)
          (pss_one (ps_if (pt_cmpR op_eq (pv 4) pe_str (nomark _)) (pss_one (ps_dput hu (pv 3) (pe_ix ix_tup (pv 2) pe_int (fun _ _ => rfl)) (pe_ix ix_list (pv 5) pe_int (fun _ _ => rfl)) rfl))
            (pss_one (ps_if (pt_cmpR op_eq (pv 4) pe_str (nomark _)) (pss_one (ps_dput hu (pv 1) (pe_ix ix_tup (pv 2) pe_int (fun _ _ => rfl)) (pe_call GH hr rfl gH kH bH .nil pass0 (pa_cons (pv 0) (pa_cons (pe_ix ix_tup (pv 2) pe_int (fun _ _ => rfl)) (pa_cons (pe_ix ix_list (pv 5) pe_int (fun _ _ => rfl)) pa_nil)))) rfl))
              (pss_one (ps_expr (pe_bm PySem.F.plainAttrs_list PySem.F.slot_list_append PySem.F.type_list_append mt_append (pe_dget hu (pv 0) pe_str (fun _ _ => rfl)) (pa_cons (pe_tup (pa_cons pe_str (pa_cons (pe_ix ix_tup (pv 2) pe_int (fun _ _ => rfl)) (pa_cons (pe_ix ix_list (pv 5) pe_int (fun _ _ => rfl)) pa_nil)))) pa_nil))))))))))
          (pss_one (ps_if (pt_cmpR op_eq (pv 4) pe_str (nomark _)) (pss_one (ps_ret (pe_ifExp (pt_cmp (pc_notN (pe_dget1 hu (pv 1) (pe_ix ix_tup (pv 2) pe_int (fun _ _ => rfl)) (by constructor <;> rfl)))) (pe_call GR hr rfl gR kR bR .nil pass0 (pa_cons (pv 0) (pa_cons (pe_dget hu (pv 1) (pe_ix ix_tup (pv 2) pe_int (fun _ _ => rfl)) (fun _ _ => rfl)) pa_nil))) pe_str)))
            (pss_one (ps_if (pt_cmpR op_eq (pv 4) pe_str (nomark _)) (pss_one (ps_expr (pe_dpop2 (pv 3) (pe_ix ix_tup (pv 2) pe_int (fun _ _ => rfl)) pe_non (by constructor <;> rfl))))
              (pss_one (ps_if (pt_cmpR op_eq (pv 4) pe_str (nomark _)) (pss_cons (ps_expr (pe_bm PySem.F.plainAttrs_list PySem.F.slot_list_append PySem.F.type_list_append mt_append (pe_dget hu (pv 0) pe_str (fun _ _ => rfl)) (pa_cons (pe_callTy call_dictD (by rfl) mD boot_dict (pa_cons (pv 3) pa_nil)) pa_nil)))
                (pss_one (ps_dput hu (pv 1) (pe_ix ix_tup (pv 2) pe_int (fun _ _ => rfl)) (pe_op op_sub (pe_callB call_len_seq (by rfl) mL boot_len (pa_cons (pe_dget hu (pv 0) pe_str (fun _ _ => rfl)) pa_nil)) pe_int) rfl))) pss_nil)))))))
      (pss_one (ps_ret (pe_ifExp (pt_cmpR op_eq (pv 4) pe_str (nomark _)) pe_str pe_str)))), ?_⟩
    obtain ⟨m, hm⟩ : ∃ m, L.cs[L.now]? = some m := ⟨_, List.getElem?_eq_getElem nl⟩
    have el : lshow L k0 = (match aget m k0 with
      | none => (L, ("unset" : Str))
      | some v => ({ L with lg := L.lg ++ [[.str "shown", .str k0, .int v]] }, ("" : Str))) := by
      unfold lshow
      rw [hm]
      rfl
    have g1 := (wk_c A L.now) ▸ DGet.k (k := Sum.inr "contexts") h.w_
    have g2 := (wk_n A L.now) ▸ DGet.k (k := Sum.inr "now") h.w_
    refine ⟨_, rfl, A .w, _, rfl, g1, _, rfl, A .w, _, rfl, g2, A .cl, _, (L.now : Int), _, rfl, rfl, SqL.of h.cl_, d_at nl, _, rfl, a, _, 0, _, rfl, rfl, SqT.of ea, at_of (j := 0) rfl rfl, _, _, rfl, ?_⟩
    have three : (3 : Nat) ≤ sizeLine := by decide
    refine ⟨fun σ H1 => ∃ z v, σ = [some (.ref (A .w)), some (.ref sl), some (.ref a), some (.ref (A (.d L.now))), some (.str "show"), z] ∧ aget m k0 = some v ∧ ∃ A', Ag G A A' L M U ∧ All G A' { L with lg := L.lg ++ [[.str "shown", .str k0, .int v]] } M U H1 ∧ Go G A L M U H A' { L with lg := L.lg ++ [[.str "shown", .str k0, .int v]] } M U H1, ?_, ?_⟩
    · refine ⟨_, rfl, three, fun t nt => ⟨t, _, rfl, .inr (SqT.of upd_same), rfl, rfl, _, rfl, ?_⟩⟩
      have s1 := same_new (o := .tup [.str "set", .str "hold", .str "show"]) nt
      have h1 := h.same s1
      have ea1 := s1 _ _ ea
      generalize (upd H t (.tup [.str "set", .str "hold", .str "show"])) = H1 at s1 h1 ea1 ⊢
      refine iteT' (by decide +kernel) ?_
      refine ⟨_, rfl, _, rfl, _, rfl, a, _, -1, _, rfl, rfl, SqT.of ea1, rfl, A, L, M, U, m, .str k0, rfl, h1, hm, .inr ⟨k0, rfl⟩, fun l H2 s2 nl2 el2 => ?_⟩
      have el2 : H2 l = some (.lst (oldL (aget m k0))) := el2
      have h2 := h1.same s2
      have ea2 := s2 _ _ ea1
      refine ⟨_, rfl, Nat.zero_le _, fun l2 nl2 => ?_⟩
      have s3 := same_new (o := .lst []) nl2
      have h3 := h2.same s3
      have ea3 := s3 _ _ ea2
      have el3 := s3 _ _ el2
      have en3 : (upd H2 l2 (.lst [])) l2 = some (.lst []) := upd_same
      have s03 := (s1.trans s2).trans s3
      generalize (upd H2 l2 (.lst [])) = H3 at s03 h3 ea3 el3 en3 ⊢
      cases ev : aget m k0 with
      | none =>
        rw [ev] at el el3
        refine ⟨.list [], .list [], .lst (SqL.of el3) .nil, .lst (SqL.of en3) .nil, rfl, rfl, by decide, _, rfl, iteT ?_⟩
        have := k A H3 Ag.refl (by rw [el]; exact h3) (by rw [el]; exact Go.same s03)
        rw [el] at this
        exact this
      | some v =>
        rw [ev] at el3
        refine ⟨.list [.int v], .list [], .lst (SqL.of el3) (.cons (.int v) .nil), .lst (SqL.of en3) .nil, rfl, rfl, by simp [PyData.depth, PyData.depthAll], _, rfl, iteF' (by simp [PyData.eqv, PyData.eqvAll]) ?_⟩
        refine ⟨_, rfl, rfl, _, rfl, iteF' (by decide +kernel) ⟨_, rfl, rfl, _, rfl, iteF' (by decide +kernel) ?_⟩⟩
        have g3 := (wk_l A L.now) ▸ DGet.k (k := Sum.inr "log") h3.w_
        refine ⟨_, rfl, A .w, _, rfl, g3, .inl ⟨rfl, _, SqL.of h3.ll_⟩, _, rfl, a, _, 1, _, rfl, rfl, SqT.of ea3, at_of (j := 1) rfl rfl, _, rfl, l, _, 0, _, rfl, rfl, SqL.of el3, at_of (j := 0) rfl rfl, three, fun t4 nt4 => ?_⟩
        have tla : A .ll ≠ t4 := ne_of_none h3.ll_ nt4
        have f : Fr [A .ll] H3 (upd (upd H3 t4 (.tup [.str "shown", .str k0, .int v])) (A .ll) (.lst (refs A .ev L.lg.length ++ [.ref t4]))) := (Fr.new nt4).trans Fr.one
        obtain ⟨A', ag, al, go⟩ := h3.llog (v := [.str "shown", .str k0, .int v]) nt4 f (by rw [upd_ne tla.symm, upd_same]) upd_same
        exact ⟨A .ll, _, _, rfl, rfl, (by rw [upd_ne tla]; exact h3.ll_), small5 (by rw [refs_len]; exact ll), _, v, rfl, rfl, A', ag, al, (Go.same s03).trans go⟩
    rintro σ H1 ⟨z, v, rfl, ev, A', ag, h1, k1⟩
    rw [ev] at el
    refine ⟨_, rfl, rfl, _, rfl, iteF' (by decide +kernel) ?_⟩
    have := k A' H1 ag (by rw [el]; exact h1) (by rw [el]; exact k1)
    rw [el] at this
    exact this
end
end XA

set_option Elab.async false
set_option linter.all false
set_option maxRecDepth 100000
set_option maxHeartbeats 1000000
/-! The account and the room agree. -/
namespace XA
open PySem PySem.Spec PyProof.Rows L2 SW
/-- they agree -/
structure Mt (G : Cl) (L : LS) (M : RS) (U : TS) : Prop where
  len : L.cs.length = M.cs.length
  eqm : ∀ (i : Nat) (m : Mp) (x : Mp × Bool), L.cs[i]? = some m → M.cs[i]? = some x → Eqm m x.1 ∧ Good G.vars m ∧ Good G.vars x.1 ∧ x.2 = decide (i ∈ L.busy)
  now : L.now = M.now
  nw : L.now < L.cs.length
  tk : L.tk = M.tk
  lg : L.lg = M.lg
  nc : U.nc = (List.range L.cs.length).map fun i => (i, i)
  nt : U.nt = (List.range L.tk.length).map fun i => (i, i)
  tc : ∀ x ∈ L.tk, x.ctx < L.cs.length ∧ x.var ∈ G.vars ∧ ∀ v, x.old = some v → Small v
  ev : ∀ x ∈ L.lg, ∃ k v, x = [.str "shown", .str k, .int v] ∧ k ∈ G.vars ∧ Small v
  bs : ∀ i ∈ L.busy, i < L.cs.length
  bn : L.busy.Nodup
  v3 : G.vars.length ≤ 3
  vn : ∀ k ∈ G.vars, isNm k
  v0 : G.vars ≠ []
def Apart (G : Cl) (a : RA) (A : Lb → Addr) (L : LS) (M : RS) (U : TS) : Prop := ∀ l, (cont G A L M U l).isSome = true → A l ≠ a.s ∧ A l ≠ a.l ∧ A l ≠ a.c
section
variable {G : Cl} {A A' A2 : Lb → Addr} {L L' L2 : LS} {M M' M2 : RS} {U U' U2 : TS} {H H' H2 : Hp} {a : RA} {n n' : Nat} {T0 : List (Addr × Str)}
theorem All.but (h : All G A L M U H) (ap : Apart G a A L M U) (b : But a H H') : All G A L M U H' :=
  ⟨fun l P e => (by
    obtain ⟨o, e1, z⟩ := h.at_ l P e
    obtain ⟨h1, h2, _⟩ := ap l (by rw [e]; rfl)
    exact ⟨o, b _ _ e1 h1 h2, z⟩), h.inj, h.nw, h.tc, h.hc, h.ht⟩
theorem go_rnd (R : Rnd H a n) (ap : Apart G a A L M U) (g : Go G A L M U H A' L' M' U' H') : Rnd H' a n := by
  obtain ⟨ns, ls, e1, e2, e3, r⟩ := R
  exact ⟨ns, ls, g.1 _ _ e1 fun l v => (ap l v).1, g.1 _ _ e2 fun l v => (ap l v).2.2, g.1 _ _ e3 fun l v => (ap l v).2.1, r⟩
theorem go_apart (R : Rnd H a n) (ap : Apart G a A L M U) (g : Go G A L M U H A' L' M' U' H') : Apart G a A' L' M' U' := fun l v => by
  obtain ⟨ns, ls, e1, e2, e3, r⟩ := R
  rcases g.2 l v with ⟨l0, v0, e⟩ | e
  · rw [← e]
    exact ap l0 v0
  · exact ⟨(fun z => by rw [z, e1] at e; cases e), (fun z => by rw [z, e3] at e; cases e), fun z => by rw [z, e2] at e; cases e⟩
theorem tabs_but {T0 : List (Addr × Str)} (R : Rnd H a n) (b : But a H H') (t : LnX.TabsC T0 H) : LnX.TabsC T0 H' := by
  obtain ⟨ns, ls, e1, e2, e3, r⟩ := R
  refine t.keep fun c o e z => b c o e (fun y => ?_) fun y => ?_
  · rw [y, e1] at e
    cases e
    rcases z with ⟨ps, z⟩ | ⟨φ, z⟩ <;> cases z
  · rw [y, e3] at e
    cases e
    rcases z with ⟨ps, z⟩ | ⟨φ, z⟩ <;> cases z
theorem rnd_x (R : Rnd H a n) (e : LamX.ExtN H H') : Rnd H' a n := by
  obtain ⟨ns, ls, h1, h2, h3, r⟩ := R
  exact ⟨ns, ls, e _ _ h1 (by intro _ z; cases z), e _ _ h2 (by intro _ z; cases z), e _ _ h3 (by intro _ z; cases z), r⟩
/-- all of it, the drawing and the tables of code objects beside -/
structure Sy (G : Cl) (a : RA) (T0 : List (Addr × Str)) (A : Lb → Addr) (L : LS) (M : RS) (U : TS) (H : Hp) (n : Nat) : Prop where
  al : All G A L M U H
  rn : Rnd H a n
  ap : Apart G a A L M U
  tb : LnX.TabsC T0 H
theorem Sy.same (h : Sy G a T0 A L M U H n) (s : Same H H') : Sy G a T0 A L M U H' n := ⟨h.al.same s, h.rn.same s, h.ap, h.tb.keep (LnX.KeepT.of s)⟩
theorem Sy.ext (h : Sy G a T0 A L M U H n) (e : LamX.ExtN H H') (tb : LnX.TabsC T0 H') : Sy G a T0 A L M U H' n := ⟨h.al.ext e, rnd_x h.rn e, h.ap, tb⟩
theorem Sy.but (h : Sy G a T0 A L M U H n) (R : Rnd H' a n') (b : But a H H') : Sy G a T0 A L M U H' n' := ⟨h.al.but h.ap b, R, h.ap, tabs_but h.rn b h.tb⟩
theorem Sy.go (h : Sy G a T0 A L M U H n) (al : All G A' L' M' U' H') (g : Go G A L M U H A' L' M' U' H') : Sy G a T0 A' L' M' U' H' n := ⟨al, go_rnd h.rn h.ap g, go_apart h.rn h.ap g, h.tb.keep (g.keepT h.al)⟩
/-- what is none of it -/
def Ou (G : Cl) (a : RA) (A : Lb → Addr) (L : LS) (M : RS) (U : TS) (x : Addr) : Prop := (∀ l, (cont G A L M U l).isSome = true → A l ≠ x) ∧ x ≠ a.s ∧ x ≠ a.l ∧ x ≠ a.c
theorem Sy.ou (h : Sy G a T0 A L M U H n) {x : Addr} (nx : H x = none) : Ou G a A L M U x := by
  refine ⟨fun l v z => ?_, ?_, ?_, ?_⟩
  · obtain ⟨o, e⟩ := h.al.has v
    rw [z, nx] at e
    cases e
  · have := (h.rn.off nx).s; exact this
  · have := (h.rn.off nx).l; exact this
  · have := (h.rn.off nx).c; exact this
theorem Ou.go {x : Addr} {o : HO} (u : Ou G a A L M U x) (e : H x = some o) (g : Go G A L M U H A' L' M' U' H') : Ou G a A' L' M' U' x ∧ H' x = some o := by
  refine ⟨⟨fun l v z => ?_, u.2⟩, g.1 _ _ e u.1⟩
  rcases g.2 l v with ⟨l0, v0, e0⟩ | e0
  · exact u.1 l0 v0 (e0.trans z)
  · rw [z, e] at e0
    cases e0
/-- what is none of it, and no table, stays so -/
def Gx (G : Cl) (a : RA) (A : Lb → Addr) (L : LS) (M : RS) (U : TS) (H : Hp) (A' : Lb → Addr) (L' : LS) (M' : RS) (U' : TS) (H' : Hp) : Prop := ∀ x o, H x = some o → (∀ ps, o ≠ .tbl ps) → Ou G a A L M U x → Ou G a A' L' M' U' x ∧ H' x = some o
theorem Gx.refl : Gx G a A L M U H A L M U H := fun _ _ e _ u => ⟨u, e⟩
theorem Gx.trans (g : Gx G a A L M U H A' L' M' U' H') (g2 : Gx G a A' L' M' U' H' A2 L2 M2 U2 H2) : Gx G a A L M U H A2 L2 M2 U2 H2 := fun x o e n u => let ⟨u1, e1⟩ := g x o e n u; g2 x o e1 n u1
theorem Gx.same (s : Same H H') : Gx G a A L M U H A L M U H' := fun x o e _ u => ⟨u, s _ _ e⟩
theorem Gx.ext (s : LamX.ExtN H H') : Gx G a A L M U H A L M U H' := fun x o e n u => ⟨u, s _ _ e n⟩
theorem Gx.but (b : But a H H') : Gx G a A L M U H A L M U H' := fun x o e _ u => ⟨u, b _ _ e u.2.1 u.2.2.1⟩
theorem Gx.go (g : Go G A L M U H A' L' M' U' H') : Gx G a A L M U H A' L' M' U' H' := fun x o e _ u => u.go e g
/-! the agreement, step by step -/
theorem set_cases {α : Type} {l : List α} {i j : Nat} {v x : α} (h : (l.set i v)[j]? = some x) : (j = i ∧ x = v) ∨ (j ≠ i ∧ l[j]? = some x) := by
  by_cases z : j = i
  · refine .inl ⟨z, ?_⟩
    rw [z] at h
    have hl : i < l.length := by
      have := (List.getElem?_eq_some_iff.mp h).1
      rw [List.length_set] at this
      exact this
    rw [List.getElem?_set_self hl] at h
    exact (Option.some.inj h).symm
  · rw [List.getElem?_set_ne (Ne.symm z)] at h
    exact .inr ⟨z, h⟩
/-- a context's pairs are changed alike -/
theorem Mt.ctx {i : Nat} {m m2 mr mr2 : Mp} {b : Bool} (h : Mt G L M U) (hm : L.cs[i]? = some m) (hr : M.cs[i]? = some (mr, b)) (e : Eqm m2 mr2) (g1 : Good G.vars m2) (g2 : Good G.vars mr2) : Mt G { L with cs := L.cs.set i m2 } { M with cs := M.cs.set i (mr2, b) } U := by
  have hl := (List.getElem?_eq_some_iff.mp hm).1
  refine { h with len := by rw [List.length_set, List.length_set]; exact h.len, eqm := fun j m' x' e1 e2 => ?_, nw := by show L.now < (L.cs.set i m2).length; rw [List.length_set]; exact h.nw, nc := by show U.nc = (List.range (L.cs.set i m2).length).map _; rw [List.length_set]; exact h.nc, tc := fun x hx => by show x.ctx < (L.cs.set i m2).length ∧ _; rw [List.length_set]; exact h.tc x hx, bs := fun j hj => by show j < (L.cs.set i m2).length; rw [List.length_set]; exact h.bs j hj }
  rcases set_cases e1 with ⟨z, rfl⟩ | ⟨z, q1⟩
  · rcases set_cases e2 with ⟨_, rfl⟩ | ⟨z2, _⟩
    · refine ⟨e, g1, g2, ?_⟩
      rw [z]
      exact (h.eqm i m (mr, b) hm hr).2.2.2
    · exact absurd z z2
  · rcases set_cases e2 with ⟨z2, _⟩ | ⟨_, q2⟩
    · exact absurd z2 z
    · exact h.eqm j m' x' q1 q2
theorem app_cases {α : Type} {l : List α} {j : Nat} {v x : α} (h : (l ++ [v])[j]? = some x) : (j = l.length ∧ x = v) ∨ l[j]? = some x := by
  by_cases z : j < l.length
  · rw [List.getElem?_append_left z] at h
    exact .inr h
  · have hj : j < (l ++ [v]).length := (List.getElem?_eq_some_iff.mp h).1
    rw [List.length_append, List.length_singleton] at hj
    have : j = l.length := by omega
    rw [this] at h
    simp at h
    exact .inl ⟨this, h.symm⟩
/-- a context more -/
theorem Mt.copy {m mr : Mp} (h : Mt G L M U) (e : Eqm m mr) (g1 : Good G.vars m) (g2 : Good G.vars mr) : Mt G { L with cs := L.cs ++ [m] } { M with cs := M.cs ++ [(mr, false)] } { U with nc := U.nc ++ [(M.cs.length, L.cs.length)] } := by
  have more : ∀ {j}, j < L.cs.length → j < (L.cs ++ [m]).length := fun {j} hj => by rw [List.length_append]; omega
  refine { h with len := by rw [List.length_append, List.length_append, h.len]; rfl, eqm := fun j m' x' e1 e2 => ?_, nw := more h.nw, nc := ?_, tc := fun x hx => ⟨more (h.tc x hx).1, (h.tc x hx).2⟩, bs := fun j hj => more (h.bs j hj) }
  · rcases app_cases e1 with ⟨z, rfl⟩ | q1
    · rcases app_cases e2 with ⟨_, rfl⟩ | q2
      · refine ⟨e, g1, g2, (decide_eq_false fun z2 => ?_).symm⟩
        have := h.bs j z2
        omega
      · have := (List.getElem?_eq_some_iff.mp q2).1
        rw [← h.len] at this
        omega
    · rcases app_cases e2 with ⟨z, _⟩ | q2
      · have := (List.getElem?_eq_some_iff.mp q1).1
        rw [h.len] at this
        omega
      · exact h.eqm j m' x' q1 q2
  · show U.nc ++ _ = (List.range (L.cs ++ [m]).length).map _
    rw [List.length_append, List.length_singleton, List.range_succ, List.map_append, ← h.nc, h.len]
    rfl
end
end XA

set_option Elab.async false
set_option linter.all false
set_option maxRecDepth 100000
set_option maxHeartbeats 1000000
/-! More steps: an event of the room, a context and a token of the things, a context of the account; the agreement behind them. -/
namespace XA
open PySem PySem.Spec PyProof.Rows L2 SW
section
variable {G : Cl} {A A' A2 : Lb → Addr} {L L' L2 : LS} {M M' M2 : RS} {U U' U2 : TS} {H H' H2 : Hp} {a : Addr}
theorem All.rlog {v : List V} (h : All G A L M U H) (na : H a = none) (f : Fr [A .le] H H') (ea : H' a = some (.tup v)) (e : H' (A .le) = some (.lst (refs A .re M.lg.length ++ [.ref a]))) :
    ∃ A', Ag G A A' L M U ∧ All G A' L { M with lg := M.lg ++ [v] } U H' ∧ Go G A L M U H A' L { M with lg := M.lg ++ [v] } U H' := by
  have hx : cont G A L M U (.re M.lg.length) = none := no_at
  obtain ⟨A', e1, eA, k⟩ := h.add (.re M.lg.length) .le hx rfl na
  refine ⟨A', Ag.of hx eA, k L _ U H' (fun l h1 h2 => ?_) f (fun P eP => ⟨_, ea, ?_⟩) (fun P eP => ⟨_, e, ?_⟩) h.nw h.tc h.hc h.ht, ?_⟩
  rotate_left 3
  · refine Go.add (xs := [.re M.lg.length]) (fun l hl => eA l (by simpa using hl)) (fun x hx => by rw [List.mem_singleton.mp hx, e1]; exact na) (fun l hl v => ?_) (fun y hy => ⟨.le, rfl, (List.mem_singleton.mp hy).symm⟩) f
    rw [← h.relabel hx eA]
    cases l with
    | re j =>
      have v : (((M.lg ++ [_])[j]?).map _).isSome = true := v
      rw [app_old (by intro z; rw [z] at hl; simp at hl)] at v
      exact v
    | _ => exact v
  · cases l with
    | le => exact absurd rfl h2
    | re j => exact app_old fun z => h1 (by rw [z])
    | _ => rfl
  · have eP : ((M.lg ++ [v])[M.lg.length]?).map _ = some P := eP
    rw [app_new] at eP
    cases eP
    rfl
  · cases eP
    show _ = _
    rw [List.length_append, List.length_singleton, refs_snoc, e1, refs_congr fun i hi => eA _ (by intro z; cases z; omega)]
/-- a context more among the things -/
theorem All.hctx {x : Nat × Nat} (h : All G A L M U H) (hx1 : x.1 < M.cs.length) (na : H a = none) (f : Fr [A .hc] H H') (ea : H' a = some (.lst [.ref (A (.p x.1)), .int (x.2 : Int)])) (e : H' (A .hc) = some (.lst (refs A .c U.nc.length ++ [.ref a]))) :
    ∃ A', Ag G A A' L M U ∧ All G A' L M { U with nc := U.nc ++ [x] } H' ∧ Go G A L M U H A' L M { U with nc := U.nc ++ [x] } H' := by
  have hx : cont G A L M U (.c U.nc.length) = none := no_at
  obtain ⟨A', e1, eA, k⟩ := h.add (.c U.nc.length) .hc hx rfl na
  refine ⟨A', Ag.of hx eA, k L M _ H' (fun l h1 h2 => ?_) f (fun P eP => ⟨_, ea, ?_⟩) (fun P eP => ⟨_, e, ?_⟩) h.nw h.tc (fun y hy => ?_) h.ht, ?_⟩
  rotate_left 4
  · refine Go.add (xs := [.c U.nc.length]) (fun l hl => eA l (by simpa using hl)) (fun x hx => by rw [List.mem_singleton.mp hx, e1]; exact na) (fun l hl v => ?_) (fun y hy => ⟨.hc, rfl, (List.mem_singleton.mp hy).symm⟩) f
    rw [← h.relabel hx eA]
    cases l with
    | c j =>
      have v : (((U.nc ++ [_])[j]?).map _).isSome = true := v
      rw [app_old (by intro z; rw [z] at hl; simp at hl)] at v
      exact v
    | _ => exact v
  · cases l with
    | hc => exact absurd rfl h2
    | c j => exact app_old fun z => h1 (by rw [z])
    | _ => rfl
  · have eP : ((U.nc ++ [x])[U.nc.length]?).map _ = some P := eP
    rw [app_new] at eP
    cases eP
    show _ = _
    rw [eA (.p x.1) (by intro z; cases z)]
  · cases eP
    show _ = _
    rw [List.length_append, List.length_singleton, refs_snoc, e1, refs_congr fun i hi => eA _ (by intro z; cases z; omega)]
  · rcases List.mem_append.mp hy with q | q
    · exact h.hc y q
    · rw [List.mem_singleton.mp q]
      exact hx1
/-- a token more among the things -/
theorem All.htok {x : Nat × Nat} (h : All G A L M U H) (hx1 : x.1 < M.tk.length) (na : H a = none) (f : Fr [A .ht] H H') (ea : H' a = some (.lst [.ref (A (.t x.1)), .int (x.2 : Int)])) (e : H' (A .ht) = some (.lst (refs A .k U.nt.length ++ [.ref a]))) :
    ∃ A', Ag G A A' L M U ∧ All G A' L M { U with nt := U.nt ++ [x] } H' ∧ Go G A L M U H A' L M { U with nt := U.nt ++ [x] } H' := by
  have hx : cont G A L M U (.k U.nt.length) = none := no_at
  obtain ⟨A', e1, eA, k⟩ := h.add (.k U.nt.length) .ht hx rfl na
  refine ⟨A', Ag.of hx eA, k L M _ H' (fun l h1 h2 => ?_) f (fun P eP => ⟨_, ea, ?_⟩) (fun P eP => ⟨_, e, ?_⟩) h.nw h.tc h.hc (fun y hy => ?_), ?_⟩
  rotate_left 4
  · refine Go.add (xs := [.k U.nt.length]) (fun l hl => eA l (by simpa using hl)) (fun x hx => by rw [List.mem_singleton.mp hx, e1]; exact na) (fun l hl v => ?_) (fun y hy => ⟨.ht, rfl, (List.mem_singleton.mp hy).symm⟩) f
    rw [← h.relabel hx eA]
    cases l with
    | k j =>
      have v : (((U.nt ++ [_])[j]?).map _).isSome = true := v
      rw [app_old (by intro z; rw [z] at hl; simp at hl)] at v
      exact v
    | _ => exact v
  · cases l with
    | ht => exact absurd rfl h2
    | k j => exact app_old fun z => h1 (by rw [z])
    | _ => rfl
  · have eP : ((U.nt ++ [x])[U.nt.length]?).map _ = some P := eP
    rw [app_new] at eP
    cases eP
    show _ = _
    rw [eA (.t x.1) (by intro z; cases z)]
  · cases eP
    show _ = _
    rw [List.length_append, List.length_singleton, refs_snoc, e1, refs_congr fun i hi => eA _ (by intro z; cases z; omega)]
  · rcases List.mem_append.mp hy with q | q
    · exact h.ht y q
    · rw [List.mem_singleton.mp q]
      exact hx1
/-- a context more in the account -/
theorem All.lcopy {m : Mp} (h : All G A L M U H) (na : H a = none) (f : Fr [A .cl] H H') (ea : H' a = some (.dK (kv m))) (e : H' (A .cl) = some (.lst (refs A .d L.cs.length ++ [.ref a]))) :
    ∃ A', Ag G A A' L M U ∧ All G A' { L with cs := L.cs ++ [m] } M U H' ∧ Go G A L M U H A' { L with cs := L.cs ++ [m] } M U H' := by
  have hx : cont G A L M U (.d L.cs.length) = none := no_at
  obtain ⟨A', e1, eA, k⟩ := h.add (.d L.cs.length) .cl hx rfl na
  refine ⟨A', Ag.of hx eA, k _ M U H' (fun l h1 h2 => ?_) f (fun P eP => ⟨_, ea, ?_⟩) (fun P eP => ⟨_, e, ?_⟩) h.nw h.tc h.hc h.ht, ?_⟩
  rotate_left 3
  · refine Go.add (xs := [.d L.cs.length]) (fun l hl => eA l (by simpa using hl)) (fun x hx => by rw [List.mem_singleton.mp hx, e1]; exact na) (fun l hl v => ?_) (fun y hy => ⟨.cl, rfl, (List.mem_singleton.mp hy).symm⟩) f
    rw [← h.relabel hx eA]
    cases l with
    | d j =>
      have v : (((L.cs ++ [_])[j]?).map _).isSome = true := v
      rw [app_old (by intro z; rw [z] at hl; simp at hl)] at v
      exact v
    | _ => exact v
  · cases l with
    | cl => exact absurd rfl h2
    | d j => exact app_old fun z => h1 (by rw [z])
    | _ => rfl
  · have eP : ((L.cs ++ [m])[L.cs.length]?).map _ = some P := eP
    rw [app_new] at eP
    cases eP
    rfl
  · cases eP
    show _ = _
    rw [List.length_append, List.length_singleton, refs_snoc, e1, refs_congr fun i hi => eA _ (by intro z; cases z; omega)]
/-! the agreement -/
theorem Mt.log {k : Str} {v : Int} (h : Mt G L M U) (hk : k ∈ G.vars) (hv : Small v) : Mt G { L with lg := L.lg ++ [[.str "shown", .str k, .int v]] } { M with lg := M.lg ++ [[.str "shown", .str k, .int v]] } U :=
  { h with lg := by rw [h.lg], ev := fun x hx => (by
      rcases List.mem_append.mp hx with q | q
      · exact h.ev x q
      · rw [List.mem_singleton.mp q]
        exact ⟨k, v, rfl, hk, hv⟩) }
theorem Mt.held {x : Tk} (h : Mt G L M U) (h1 : x.ctx < L.cs.length) (h2 : x.var ∈ G.vars) (h3 : ∀ v, x.old = some v → Small v) : Mt G { L with tk := L.tk ++ [x] } { M with tk := M.tk ++ [x] } { U with nt := U.nt ++ [(M.tk.length, L.tk.length)] } := by
  refine { h with tk := by rw [h.tk], tc := fun y hy => ?_, nt := ?_ }
  rotate_left
  · rcases List.mem_append.mp hy with q | q
    · exact h.tc y q
    · rw [List.mem_singleton.mp q]
      exact ⟨h1, h2, h3⟩
  · show U.nt ++ _ = (List.range (L.tk ++ [x]).length).map _
    rw [List.length_append, List.length_singleton, List.range_succ, List.map_append, ← h.nt, h.tk]
    rfl
theorem Mt.used {j : Nat} {x : Tk} (h : Mt G L M U) (hj : L.tk[j]? = some x) : Mt G { L with tk := L.tk.set j { x with used := true } } { M with tk := M.tk.set j { x with used := true } } U := by
  refine { h with tk := by rw [h.tk], tc := fun y hy => ?_, nt := ?_ }
  rotate_left
  · rcases List.mem_or_eq_of_mem_set hy with q | q
    · exact h.tc y q
    · rw [q]
      exact h.tc x (List.mem_of_getElem? hj)
  · show U.nt = (List.range (L.tk.set j _).length).map _
    rw [List.length_set]
    exact h.nt
theorem eqm_rst {m mr : Mp} (h : Eqm m mr) (k : Str) (o : Option Int) : Eqm (rst m k o) (rset mr k o) := by
  cases o with
  | none => exact h.drop k
  | some v =>
    intro j
    show aget (aput (adrop m k) k v) j = aget (aput mr k v) j
    rw [aget_put, aget_put, aget_drop, h j]
    by_cases z : j = k
    · rw [if_pos z, if_pos z]
    · rw [if_neg z, if_neg z, if_neg z]
theorem good_rst {ns : List Str} {m : Mp} {k : Str} {o : Option Int} (g : Good ns m) (hk : k ∈ ns) (ho : ∀ v, o = some v → Small v) : Good ns (rst m k o) := by
  cases o with
  | none => exact g.drop
  | some v => exact g.drop.put hk (ho v rfl)
theorem good_rset {ns : List Str} {m : Mp} {k : Str} {o : Option Int} (g : Good ns m) (hk : k ∈ ns) (ho : ∀ v, o = some v → Small v) : Good ns (rset m k o) := by
  cases o with
  | none => exact g.drop
  | some v => exact g.put hk (ho v rfl)
theorem good_get {ns : List Str} {m : Mp} {k : Str} {v : Int} (g : Good ns m) (e : aget m k = some v) : Small v := by
  unfold aget at e
  cases z : m.find? fun e => decide (e.1 = k) with
  | none => rw [z] at e; cases e
  | some p =>
    rw [z] at e
    have e : p.2 = v := Option.some.inj e
    rw [← e]
    exact g.sm p (List.mem_of_find?_eq_some z)
/-- what stands at the same place in both -/
theorem Mt.both (h : Mt G L M U) {i : Nat} (hi : i < L.cs.length) : ∃ m mr b, L.cs[i]? = some m ∧ M.cs[i]? = some (mr, b) ∧ Eqm m mr ∧ Good G.vars m ∧ Good G.vars mr ∧ b = decide (i ∈ L.busy) := by
  have e1 : L.cs[i]? = some (L.cs[i]'hi) := List.getElem?_eq_getElem hi
  have hi2 : i < M.cs.length := by rw [← h.len]; exact hi
  have e2 : M.cs[i]? = some (M.cs[i]'hi2) := List.getElem?_eq_getElem hi2
  obtain ⟨q1, q2, q3, q4⟩ := h.eqm i _ _ e1 e2
  exact ⟨_, (M.cs[i]'hi2).1, (M.cs[i]'hi2).2, e1, e2, q1, q2, q3, q4⟩
/-! what is none of it is written -/
section
variable {R : RA} {n : Nat} {T0 : List (Addr × Str)} {x : Addr} {o o0 : HO}
theorem All.out (h : All G A L M U H) (u : ∀ l, (cont G A L M U l).isSome = true → A l ≠ x) : All G A L M U (upd H x o) :=
  ⟨fun l P e => (by
    obtain ⟨o, e1, z⟩ := h.at_ l P e
    exact ⟨o, by rw [upd_ne (u l (by rw [e]; rfl))]; exact e1, z⟩), h.inj, h.nw, h.tc, h.hc, h.ht⟩
theorem Ou.off (u : Ou G R A L M U x) : Off R x := ⟨u.2.1, u.2.2.1, u.2.2.2⟩
theorem Sy.out (h : Sy G R T0 A L M U H n) (u : Ou G R A L M U x) (e : H x = some o0) (p : plainO o0) : Sy G R T0 A L M U (upd H x o) n :=
  ⟨h.al.out u.1, h.rn.upd u.off, h.ap, h.tb.keep (LnX.KeepT.upd (.inr ⟨o0, e, p.1, p.2⟩))⟩
theorem Gx.fresh (g : Gx G R A L M U H A' L' M' U' H') (n : H x = none) : Gx G R A L M U H A' L' M' U' (upd H' x o) := fun y o1 e nt u => by
  obtain ⟨h1, h2⟩ := g y o1 e nt u
  refine ⟨h1, ?_⟩
  rw [upd_ne (ne_of_none e n)]
  exact h2
end
theorem All.k_ (h : All G A L M U H) {j : Nat} {x : Nat × Nat} (hj : U.nt[j]? = some x) : H (A (.k j)) = some (.lst [.ref (A (.t x.1)), .int (x.2 : Int)]) := by
  obtain ⟨o, e, rfl⟩ := h.get (l := .k j) (P := fun o => o = .lst [.ref (A (.t x.1)), .int (x.2 : Int)]) (by show U.nt[j]?.map _ = _; rw [hj]; rfl)
  exact e
theorem All.c_ (h : All G A L M U H) {j : Nat} {x : Nat × Nat} (hj : U.nc[j]? = some x) : H (A (.c j)) = some (.lst [.ref (A (.p x.1)), .int (x.2 : Int)]) := by
  obtain ⟨o, e, rfl⟩ := h.get (l := .c j) (P := fun o => o = .lst [.ref (A (.p x.1)), .int (x.2 : Int)]) (by show U.nc[j]?.map _ = _; rw [hj]; rfl)
  exact e
theorem pair_at {n j : Nat} (h : j < n) : ((List.range n).map fun i => (i, i))[j]? = some (j, j) := by
  rw [List.getElem?_map, List.getElem?_range h]
  rfl
theorem Mt.ntl (h : Mt G L M U) : U.nt.length = L.tk.length := by rw [h.nt, List.length_map, List.length_range]
theorem Mt.ncl (h : Mt G L M U) : U.nc.length = L.cs.length := by rw [h.nc, List.length_map, List.length_range]
end
end XA

set_option Elab.async false
set_option linter.all false
set_option maxRecDepth 100000
set_option maxHeartbeats 1000000
/-! _law_fails of a lambda that may go well; _law_of; what a deed leaves. -/
namespace XA
open PySem PySem.Spec PyProof.Rows L2 SW
/-- what _law_fails makes of its lambda's reading tl: the word of its error, or nothing -/
def TFails2 (CF : Addr) : (XK → Hp → VK → Prop) → Hp → VK → Prop := fun tl H Q => ∀ N : Hp → Prop, (∀ H', Q (.str "") H' → N H') →
  tl (fun cls d H' => cls = .ref CF ∧ ∃ (dd : Addr) (z : Str), d = some dd ∧ H' dd = some (.xd [("word", .str z)]) ∧ ∀ H'', Same H' H'' → Q (.str z) H'') H fun _ H' => N H'
theorem gives1_fails2 {X : Cx} {g CF fI : Addr} {cdg : Value} {q : Str} (R : PySem.ReX.ReTxt X.K X.mg CF fI) (T : IsFacts X.K CF) (mI : X.mg "isinstance" = none) (mR : X.mg "RuntimeError" = none) (mV : X.mg "ValueError" = none) (mL : X.mg "LookupError" = none)
    (k1 : PySem.W.kitOne X.K (.ref CF) (.type "RuntimeError") = some true) (k2 : PySem.W.kitAny X.K (.ref CF) [.type "ValueError", .type "LookupError"] = some false) :
    LnX.Gives1 X ["asked", "caught", "e"] "_law_fails" (defScope sFails) g cdg (defBody sFails) "asked" q (TFails2 CF) := by
  intro f c' P2 s H Q tl act hc h
  refine ⟨_, pss_cons (ps_set (i := 1) scFails.nd rfl (Or.inl rfl) pe_non)
    (pss_cons (ps_try_keep (X := (cxOf C8.CX0 X.prog X.w X.K X.mg X.base ["asked", "caught", "e"] "_law_fails" (defScope sFails) g cdg X.A X.stack s H C8.E0).nox) (i := 2) (j := 1) (c := .ref CF)
        (tb := fun W D σ H => ∃ Ech : XK, (∀ cls d σ' H', Ech cls d H' → W cls d σ' H') ∧ σ[0]? = some (some (.ref f)) ∧ H c' = some (LnX.CodeP c' P2 q) ∧ tl Ech H fun _ H' => D.nx σ H')
        (x := "Fails") rfl rfl rfl scFails.nd rfl rfl rfl rfl (by show 2 < 3; decide) (by decide) ⟨by rfl, by decide, .inl R.gC⟩ LamX.takes0 (fun W pn xe tk _ => ?_))
    (pss_cons (ps_if (pt_cmp (pc_isN (pv 1))) (pss_one (ps_ret pe_str)) pss_nil)
    (pss_cons (ps_if (PW.pt (pw_or
        (pt_not (pt_val (pe_callB (call_isiEO R T) (by rfl) mI boot_isinstance (pa_cons (pv 1) (pa_cons (pe_bltn (v := .ty "RuntimeError") (u := .type "RuntimeError") (by rfl) mR (by decide +kernel) rfl) pa_nil)))))
        (pw_or1 (pt_val (pe_callB (call_isiEOT R T) (by rfl) mI boot_isinstance (pa_cons (pv 1) (pa_cons (pe_tup (pa_cons (pe_bltn (v := .ty "ValueError") (u := .type "ValueError") (by rfl) mV (by decide +kernel) rfl)
          (pa_cons (pe_bltn (v := .ty "LookupError") (u := .type "LookupError") (by rfl) mL (by decide +kernel) rfl) pa_nil))) pa_nil)))))))
      (pss_one (ps_ret pe_str)) pss_nil)
    (pss_one (ps_ret (pe_word R (pv 1))))))), ?_⟩
  · refine ⟨fun pins s' σ H' D I h' => ?_⟩
    obtain ⟨Ech, hW, h1, h2, h3⟩ := h'
    exact (pss_one (ps_expr (act W pn xe Ech _ _ tk hW))).run pins s' σ H' D I ⟨h1, h2, h3⟩
  · refine ⟨_, fun cls d σ' H' ⟨ec, dd, z, ed, hd, hq⟩ => ⟨true, by rw [ec]; exact R.te, fun _ hl a na => ?_, fun z => Bool.noConfusion z⟩, rfl, hc, h _ fun H' q => ?_⟩
    rotate_left
    · subst ec
      subst ed
      obtain ⟨v0, v1, v2, rfl⟩ : ∃ v0 v1 v2 : Option V, σ' = [v0, v1, v2] := by
        match σ', hl with
        | [v0, v1, v2], _ => exact ⟨v0, v1, v2, rfl⟩
      have ea : (upd H' a (EO a (.ref CF) (some dd))) a = some (EO a (.ref CF) (some dd)) := upd_same
      have edd : (upd H' a (EO a (.ref CF) (some dd))) dd = some (.xd [("word", .str z)]) := by
        rw [upd_ne (ne_of_none hd na)]
        exact hd
      have sm := same_new (o := EO a (.ref CF) (some dd)) na
      generalize upd H' a (EO a (.ref CF) (some dd)) = H1 at ea edd sm ⊢
      refine ⟨_, rfl, _, rfl, ?_⟩
      refine iteF ?_
      refine ⟨_, rfl, a, dd, _, _, _, true, rfl, .ty "RuntimeError", ea, edd, k1, _, rfl, ?_⟩
      refine iteF ?_
      refine ⟨_, rfl, (by show 2 ≤ sizeLine; decide), fun tp ntp => ?_⟩
      have s2 := same_new (o := .tup [.ty "ValueError", .ty "LookupError"]) ntp
      refine ⟨a, dd, tp, _, _, _, false, rfl, upd_same, .cons (.ty "ValueError") (.cons (.ty "LookupError") .nil), s2 _ _ ea, s2 _ _ edd, k2, _, rfl, ?_⟩
      refine iteF ?_
      exact ⟨_, rfl, a, dd, _, rfl, s2 _ _ ea, s2 _ _ edd, hq _ (sm.trans s2)⟩
    · refine ⟨_, rfl, _, rfl, ?_⟩
      exact iteT q
section
variable {X : Cx} {R C CF T W : Addr} {k : Nat} {T0 : List (Addr × Str)} {params : Arguments} {body : Expr} {scope : Scope} {names : List Str} {t : Addr → Addr → XK → TE} {p lpos pos : Pos}
theorem pe_fails2 (Z : RKit X.prog X.w X.K X.mg X.base C CF T R W) (hg : Gl X "_law_fails") (hr : Room (k + 2) X.A) (F : LnX.Form X params body scope names)
    (hbody : ∀ (A : Around) (outer : List Env) (s : Shared) (H : Hp) (E : XK) (f c2 P2 : Addr), Room k (A.deeper (LamX.lamEnv X scope s.heap.objs.size f c2)) → PE (LamX.lamCx X A outer s H E scope f c2) body (t c2 P2 E)) :
    PE X (.Call (.Name "_law_fails" p) [.Lambda params body scope lpos] [] pos) (LnX.tL1 X T0 (TFails2 CF) t) :=
  LnX.pe_lam1 (T0 := T0) hg Z.gF Z.kF Z.lkF Z.hcF Z.bF scFails rfl (Or.inl rfl) (gives1_fails2 Z.Y Z.I Z.mI Z.mRt Z.mVe Z.mLe Z.k1 Z.k2) hr F hbody
end
/-- one of a list, drawn -/
abbrev sOf : Stmt := top 76
def spOfL : Sp := fun vs H Q _ => ∃ (a : RA) (n : Nat) (l : Addr) (xs : List V), vs = [.ref a.s, .ref l] ∧ Rnd H a n ∧ n + 60 ≤ 1000000 ∧ H l = some (.lst xs) ∧ l ≠ a.s ∧ l ≠ a.l ∧ xs ≠ [] ∧ xs.length ≤ 1000000 ∧
  ∀ (i : Nat) (x : V) (H' : Hp), xs[i]? = some x → Rnd H' a (n + 1) → But a H H' → Q x H'
section
variable {P : Program} {w : World} {K : PySem.W.Frag} {mg : Str → Option Value} {base : Heap}
theorem scOf : FnScope ["state", "some"] ["state", "some"] (defScope sOf) := ⟨rfl, rfl, rfl, by decide +kernel, rfl, by decide +kernel, by decide +kernel⟩
theorem ok_of {f fD : Addr} {fd fdD : FuncData} (F : Fun K "_law_of" "_law_of" sOf f fd) (GD : FnOk P w K mg base CX0 2 fD fdD ["state", "many"] spDraw) (bD : Binds K fdD ["state", "many"] []) (gD : mg "_law_draw" = some (.ref fD)) (kD : PySem.W.keepIn K (.ref fD) = true) (mL : mg "len" = none) :
    FnOk P w K mg base CX0 3 f fd ["state", "some"] spOfL := by
  refine F.ok scOf (fun vs H Q E h => ?_) (fun cdv A outer s H vs Q E hr h => ?_)
  · obtain ⟨a, n, l, xs, rfl, _⟩ := h
    rfl
  · obtain ⟨a, n, l, xs, rfl, R, hn, el, l1, l2, ne, xl, k⟩ := h
    have hr2 : Room 2 _ := hr.mono (by decide)
    refine ⟨_, pss_one (ps_ret (pe_ix ix_list (pv 1) (pe_call GD hr2 rfl gD kD bD .nil pass0 (pa_cons (pv 0) (pa_cons (pe_callB call_len_seq (by rfl) mL boot_len (pa_cons (pv 1) pa_nil)) pa_nil))) (fun _ _ => rfl))), ?_⟩
    have pos := List.length_pos_iff.mpr ne
    refine ⟨_, rfl, _, rfl, _, rfl, l, _, rfl, .inl (SqL.of el), a, n, (xs.length : Int), rfl, R, hn, by omega, by omega, fun r H' h0 h1 R' b => ?_⟩
    have el' := b _ _ el l1 l2
    obtain ⟨i, hi⟩ : ∃ i : Nat, r = (i : Int) := ⟨r.toNat, by omega⟩
    have il : i < xs.length := by omega
    exact ⟨l, xs, r, xs[i]'il, rfl, rfl, SqL.of el', at_of hi (List.getElem?_eq_getElem il), k i _ H' (List.getElem?_eq_getElem il) R' b⟩
end
/-! a deed -/
abbrev sDeed : Stmt := top 87
abbrev nDeed : List Str := ["state", "room", "world", "things", "way", "var", "value", "here", "tells", "word", "found", "token", "number"]
theorem scDeed : FnScope nDeed ["state", "room", "world", "things"] (defScope sDeed) := ⟨rfl, rfl, rfl, by decide +kernel, rfl, by decide +kernel, by decide +kernel⟩
/-- the places that never change -/
def Kp (A A' : Lb → Addr) (m : Nat) : Prop := A' .w = A .w ∧ A' .r = A .r ∧ A' .th = A .th ∧ ∀ i, i < m → A' (.p i) = A (.p i)
theorem Kp.refl {A : Lb → Addr} {m : Nat} : Kp A A m := ⟨rfl, rfl, rfl, fun _ _ => rfl⟩
theorem Kp.trans {A A1 A2 : Lb → Addr} {m m1 : Nat} (a : Kp A A1 m) (b : Kp A1 A2 m1) (h : m ≤ m1) : Kp A A2 m := ⟨b.1.trans a.1, b.2.1.trans a.2.1, b.2.2.1.trans a.2.2.1, fun i hi => (b.2.2.2 i (Nat.lt_of_lt_of_le hi h)).trans (a.2.2.2 i hi)⟩
theorem Ag.kp {G : Cl} {A A' : Lb → Addr} {L : LS} {M : RS} {U : TS} (a : Ag G A A' L M U) : Kp A A' M.cs.length := ⟨a .w (fun _ z => by cases z) rfl, a .r (fun _ z => by cases z) rfl, a .th (fun _ z => by cases z) rfl, fun i hi => a (.p i) (fun _ z => by cases z) (map_some hi)⟩
/-- behind a deed, or some -/
structure St (G : Cl) (a a2 : RA) (T0 : List (Addr × Str)) (A : Lb → Addr) (L : LS) (M : RS) (U : TS) (H : Hp) (A' : Lb → Addr) (L' : LS) (M' : RS) (U' : TS) (H' : Hp) (n' m : Nat) : Prop where
  sy : Sy G a2 T0 A' L' M' U' H' n'
  mt : Mt G L' M' U'
  gx : Gx G a A L M U H A' L' M' U' H'
  kp : Kp A A' M.cs.length
  c0 : L.cs.length ≤ L'.cs.length
  c : L'.cs.length ≤ L.cs.length + m
  k : L'.tk.length ≤ L.tk.length + m
  l : L'.lg.length ≤ L.lg.length + m
  b : L'.busy = L.busy
  w : L'.now = L.now
def spDeed (G : Cl) (T0 : List (Addr × Str)) : Sp := fun vs H Q _ => ∃ (a : RA) (A : Lb → Addr) (L : LS) (M : RS) (U : TS) (n : Nat), vs = [.ref a.s, .ref (A .r), .ref (A .w), .ref (A .th)] ∧ Sy G a T0 A L M U H n ∧ Mt G L M U ∧ n + 1000 ≤ 1000000 ∧ L.cs.length ≤ 400 ∧ L.tk.length ≤ 400 ∧ L.lg.length ≤ 400 ∧
  ∀ (A' : Lb → Addr) (L' : LS) (M' : RS) (U' : TS) (n' : Nat) (H' : Hp), St G a a T0 A L M U H A' L' M' U' H' n' 1 → n' ≤ n + 20 → Q (.bl true) H'
end XA

set_option Elab.async false
set_option linter.all false
set_option maxRecDepth 100000
set_option maxHeartbeats 2000000
/-! _law_deed. -/
namespace XA
open PySem PySem.Spec PyProof.Rows L2 SW
abbrev qDeed : Str := "_law_deed.<locals>.<lambda>"
section
variable {P : Program} {w : World} {K : PySem.W.Frag} {mg : Str → Option Value} {base : Heap} {CF W : Addr} {G : Cl}
theorem ok_deed {f c Pt : Addr} {oc kV doc pm ct : Value} {od an : Option Addr} {osl : Array (Option Value)}
    (lk : K.lookup f = some ⟨oc, od, .func (PySem.W.fnOf "_law_deed" "_law_deed" (defArgs sDeed) (defBody sDeed) (defScope sDeed) .none kV doc pm an (.ref c) ct), osl⟩) (hcd : PySem.W.codeIn K (.ref c) "_law_deed" = true)
    {T0 : List (Addr × Str)} (hT1 : (Pt, qDeed) ∈ T0) (TB : LamX.TabB base mg c Pt) (Z : RKit P w K mg base G.C CF G.T G.R W) (mD : mg "dict" = none)
    {fD fO fP fS fH fR fSh : Addr} {dD dO dP dS dH dR dSh : FuncData}
    (GD : FnOk P w K mg base CX0 2 fD dD ["state", "many"] spDraw) (bD : Binds K dD ["state", "many"] []) (gD : mg "_law_draw" = some (.ref fD)) (kD : PySem.W.keepIn K (.ref fD) = true)
    (GO : FnOk P w K mg base CX0 3 fO dO ["state", "some"] spOfL) (bO : Binds K dO ["state", "some"] []) (gO : mg "_law_of" = some (.ref fO)) (kO : PySem.W.keepIn K (.ref fO) = true)
    (GP : FnOk P w K mg base CX0 2 fP dP ["world", "slots", "one"] (spPlainS G)) (bP : Binds K dP ["world", "slots", "one"] []) (gP : mg "_law_plain" = some (.ref fP)) (kP : PySem.W.keepIn K (.ref fP) = true)
    (GS : FnOk P w K mg base CX0 1 fS dS ["world", "source"] (spSource G)) (bS : Binds K dS ["world", "source"] []) (gS : mg "_law_source" = some (.ref fS)) (kS : PySem.W.keepIn K (.ref fS) = true)
    (GH : FnOk P w K mg base CX0 1 fH dH ["world", "var", "value"] (spHeld G)) (bH : Binds K dH ["world", "var", "value"] []) (gH : mg "_law_held" = some (.ref fH)) (kH : PySem.W.keepIn K (.ref fH) = true)
    (GR : FnOk P w K mg base CX0 1 fR dR ["world", "number"] (spLReset G)) (bR : Binds K dR ["world", "number"] []) (gR : mg "_law_reset" = some (.ref fR)) (kR : PySem.W.keepIn K (.ref fR) = true)
    (GSh : FnOk P w K mg base (L2.CX P w) 5 fSh dSh ["self", "variable"] (spShow G.R G.C CF)) (bSh : Binds K dSh ["self", "variable"] []) (mSh : Meth K G.R "show" fSh) :
    BK.FnG P w K mg base 10 f (PySem.W.fnOf "_law_deed" "_law_deed" (defArgs sDeed) (defBody sDeed) (defScope sDeed) .none kV doc pm an (.ref c) ct) ["state", "room", "world", "things"] (spDeed G T0) := by
  refine BK.fng_of lk hcd scDeed (fun vs H Q E h => ?_) (fun A0 outer s H vs Q E gd hr h => ?_)
  · obtain ⟨a, A, L, M, U, n, rfl, _⟩ := h
    rfl
  · obtain ⟨a, A, L, M, U, n, rfl, sy, mt, hn, lc, lt, ll, k⟩ := h
    have hu := hu_of hr
    have hr1 : Room 1 _ := hr.mono (by decide)
    have hr2 : Room 2 _ := hr.mono (by decide)
    have hr3 : Room 3 _ := hr.mono (by decide)
    have hr4 : Room 4 _ := hr.mono (by decide)
    have hr5 : Room 5 _ := hr.mono (by decide)
    have hr7 : Room 7 _ := hr.mono (by decide)
    refine ⟨_, C8.pss_cut (ps_asg (pe_tup (pa_cons (pe_call GD hr2 rfl gD kD bD .nil pass0 (pa_cons (pv 0) (pa_cons pe_int pa_nil))) (pa_cons (pe_call GO hr3 rfl gO kO bO .nil pass0 (pa_cons (pv 0) (pa_cons (pe_dget hu (pv 3) pe_str (fun _ _ => rfl)) pa_nil))) pa_nil))) (pg_tup rfl (pgs_cons (pg_name (i := 4) scDeed.nd rfl (Or.inl rfl)) (pgs_cons (pg_name (i := 5) scDeed.nd rfl (Or.inr rfl)) pgs_nil))))
      (C8.pss_cut (ps_set (i := 6) scDeed.nd rfl (Or.inl rfl) (pe_op op_mul (pe_ix ix_list (pe_lst (pa_cons pe_int (pa_cons (pe_op op_sub pe_int pe_int) (pa_cons (pe_op op_pow pe_int pe_int) pa_nil)))) (pe_call GD hr2 rfl gD kD bD .nil pass0 (pa_cons (pv 0) (pa_cons pe_int pa_nil))) (fun _ _ => rfl)) (pe_call GD hr2 rfl gD kD bD .nil pass0 (pa_cons (pv 0) (pa_cons pe_int pa_nil)))))
      (pss_cons (ps_set (i := 7) scDeed.nd rfl (Or.inl rfl) (pe_ix ix_list (pe_dget hu (pv 2) pe_str (fun _ _ => rfl)) (pe_dget hu (pv 2) pe_str (fun _ _ => rfl)) (fun _ _ => rfl)))
      (pss_cons (ps_if (pt_cmpR op_lt (pv 4) pe_int (nomark _)) (pss_cons (ps_dput hu (pv 7) (pv 5) (pv 6) rfl) (pss_one (ps_ret (pe_cmp (pc_isN (pe_meth (pv 1) Z.RR.cl Z.mPu Z.GPu hr2 Z.bPu .nil pass0 (pa_cons (pv 5) (pa_cons (pv 6) pa_nil)))))))) pss_nil)
      (pss_cons (ps_if (pt_cmpR op_eq (pv 4) pe_int (nomark _)) (C8.pss_cut (ps_expr (pe_dpop2 (pv 7) (pv 5) pe_non ⟨rfl, rfl, rfl, rfl⟩)) (pss_one (ps_ret (pe_cmp (pc_isN (pe_meth (pv 1) Z.RR.cl Z.mDr Z.GDr hr2 Z.bDr .nil pass0 (pa_cons (pv 5) pa_nil))))))) pss_nil)
      (pss_cons (ps_if (pt_cmpR op_eq (pv 4) pe_int (nomark _)) (C8.pss_cut (ps_asg (pe_tup (pa_cons (pe_lst pa_nil) (pa_cons (pe_call GP hr2 rfl gP kP bP .nil pass0 (pa_cons (pv 2) (pa_cons pe_dnewK (pa_cons (pe_tup (pa_cons pe_str (pa_cons (pv 5) pa_nil))) pa_nil)))) pa_nil))) (pg_tup rfl (pgs_cons (pg_name (i := 8) scDeed.nd rfl (Or.inr rfl)) (pgs_cons (pg_name (i := 9) scDeed.nd rfl (Or.inl rfl)) pgs_nil))))
        (pss_one (ps_ret (pe_and (pe_cmpR op_eq (pe_fails2 (T0 := T0) (k := 5) (t := fun c2 P2 E => tBM K "list" rAppend (tVar 8) (tCons (tMeth G.R "show" (spShow G.R G.C CF) [] E (tVar 1) (tCons (tVar 5) tNil)) tNil)) Z rfl hr7 (LnX.form0 (LnX.lamG_by (N := nDeed) (sc := defScope sDeed) (by decide +kernel)) rfl (fun _ _ _ _ _ => rfl))
              (fun A outer s H E f c2 P2 hrl => pe_bm PySem.F.plainAttrs_list PySem.F.slot_list_append PySem.F.type_list_append mt_append (pv 8) (pa_cons (pe_meth (E := E) (pv 1) Z.RR.cl mSh GSh hrl bSh .nil (passes_call (takes_of rfl rfl rfl rfl) (fun _ _ _ _ h => h)) (pa_cons (pv 5) pa_nil)) pa_nil))) (pv 9) (nomark _))
            (pe_one (pe_cmpR (op_eqP hr.units) (pv 8) (pe_ifExp (pt_cmpR op_eq (pv 9) pe_str (nomark _)) (pe_lst (pa_cons pe_non pa_nil)) (pe_lst pa_nil)) (nomark _))))))) pss_nil)
      (pss_cons (ps_if (pt_cmpR op_eq (pv 4) pe_int (nomark _)) (pss_cons (ps_set (i := 10) scDeed.nd rfl (Or.inl rfl) (pe_call GS hr1 rfl gS kS bS .nil pass0 (pa_cons (pv 2) (pa_cons (pv 5) pa_nil))))
        (pss_one (ps_ret (pe_ifExp (pt_cmpR (op_neE hr.units0) (pv 10) (pe_lst pa_nil) (nomark _)) (pe_cmpR (op_eqP hr.units) (pv 10) (pe_lst (pa_cons (pe_meth (E := WiX.NoE) (pv 1) Z.RR.cl Z.mRe Z.GRe hr5 Z.bRe .nil (passesN _) (pa_cons (pv 5) pa_nil)) pa_nil)) (nomark _))
            (pe_cmpR op_eq (pe_fails (T0 := T0) (k := 5) (t := fun c2 P2 E => tMeth G.R "read" (spRead G.R G.C CF) [] E (tVar 1) (tCons (tVar 5) tNil)) Z rfl hr7 (LnX.form0 (LnX.lamG_by (N := nDeed) (sc := defScope sDeed) (by decide +kernel)) rfl (fun _ _ _ _ _ => rfl))
              (fun A outer s H E f c2 P2 hrl => pe_meth (E := E) (pv 1) Z.RR.cl Z.mRe Z.GRe hrl Z.bRe .nil (passes_call (takes_of rfl rfl rfl rfl) (fun _ _ _ _ h => h)) (pa_cons (pv 5) pa_nil))) pe_str (nomark _)))))) pss_nil)
      (pss_cons (ps_if (pt_cmpR op_lt (pv 4) pe_int (nomark _)) (C8.pss_cut (ps_set (i := 11) scDeed.nd rfl (Or.inr rfl) (pe_meth (pv 1) Z.RR.cl Z.mHo Z.GHo hr7 Z.bHo .nil pass0 (pa_cons (pv 5) (pa_cons (pv 6) pa_nil))))
        (pss_cons (ps_expr (pe_bm PySem.F.plainAttrs_list PySem.F.slot_list_append PySem.F.type_list_append mt_append (pe_dget hu (pv 3) pe_str (fun _ _ => rfl)) (pa_cons (pe_lst (pa_cons (pv 11) (pa_cons (pe_call GH hr1 rfl gH kH bH .nil pass0 (pa_cons (pv 2) (pa_cons (pv 5) (pa_cons (pv 6) pa_nil)))) pa_nil))) pa_nil)))
        (pss_one (ps_ret pe_bl)))) pss_nil)
      (C8.pss_cut (ps_if (PW.pt (pw_and (pt_cmpR op_lt (pv 4) pe_int (nomark _)) (pw_and1 (pt_cmpR (op_neE hr.units0) (pe_dget hu (pv 3) pe_str (fun _ _ => rfl)) (pe_lst pa_nil) (nomark _)))))
        (C8.pss_cut (ps_asg (pe_call GO hr3 rfl gO kO bO .nil pass0 (pa_cons (pv 0) (pa_cons (pe_dget hu (pv 3) pe_str (fun _ _ => rfl)) pa_nil))) (pg_unl rfl (pgs_cons (pg_name (i := 11) scDeed.nd rfl (Or.inr rfl)) (pgs_cons (pg_name (i := 12) scDeed.nd rfl (Or.inl rfl)) pgs_nil))))
        (pss_one (ps_ret (pe_cmpR op_eq (pe_fails2 (T0 := T0) (k := 5) (t := fun c2 P2 E => tMeth G.R "reset" (spReset G.R G.C G.T CF) [] E (tVar 1) (tCons (tVar 11) tNil)) Z rfl hr7 (LnX.form0 (LnX.lamG_by (N := nDeed) (sc := defScope sDeed) (by decide +kernel)) rfl (fun _ _ _ _ _ => rfl))
              (fun A outer s H E f c2 P2 hrl => pe_meth (E := E) (pv 1) Z.RR.cl Z.mRs Z.GRs (hrl.mono (by decide)) Z.bRs .nil (passes_call (takes_of rfl rfl rfl rfl) (fun _ _ _ _ h => h)) (pa_cons (pv 11) pa_nil))) (pe_call GR hr1 rfl gR kR bR .nil pass0 (pa_cons (pv 2) (pa_cons (pv 12) pa_nil))) (nomark _))))) pss_nil)
      (C8.pss_cut (ps_expr (pe_bm PySem.F.plainAttrs_list PySem.F.slot_list_append PySem.F.type_list_append mt_append (pe_dget hu (pv 3) pe_str (fun _ _ => rfl)) (pa_cons (pe_lst (pa_cons (pe_meth0 (pv 1) Z.RR.cl Z.mCo Z.GCo hr4 Z.bCo .nil pass0) (pa_cons (pe_callB call_len_seq (by rfl) Z.mLn boot_len (pa_cons (pe_dget hu (pv 2) pe_str (fun _ _ => rfl)) pa_nil)) pa_nil))) pa_nil)))
      (pss_cons (ps_expr (pe_bm PySem.F.plainAttrs_list PySem.F.slot_list_append PySem.F.type_list_append mt_append (pe_dget hu (pv 2) pe_str (fun _ _ => rfl)) (pa_cons (pe_callTy call_dictD (by rfl) mD boot_dict (pa_cons (pv 7) pa_nil)) pa_nil)))
      (pss_one (ps_ret pe_bl)))))))))))), ?_⟩
    have three : (3 : Nat) ≤ sizeLine := by decide
    have two : (2 : Nat) ≤ sizeLine := by decide
    -- way, var
    refine ⟨fun σ H1 => ∃ (y : Int) (k0 : Str) (n1 : Nat), σ = [some (.ref a.s), some (.ref (A .r)), some (.ref (A .w)), some (.ref (A .th)), some (.int y), some (.str k0), none, none, none, none, none, none, none] ∧ k0 ∈ G.vars ∧ Sy G a T0 A L M U H1 n1 ∧ n1 ≤ n + 2 ∧ Gx G a A L M U H A L M U H1, ?_, ?_⟩
    · refine ⟨_, rfl, a, n, 10, rfl, sy.rn, by omega, by decide, by decide, fun y H1 y0 y1 R1 b1 => ?_⟩
      have sy1 := sy.but R1 b1
      have gv := (hk_v A) ▸ DGet.k (k := Sum.inr "vars") sy1.al.th_
      refine ⟨_, rfl, _, rfl, A .th, _, rfl, gv, a, n + 1, A .hv, _, rfl, R1, by omega, sy1.al.hv_, (sy.ap .hv rfl).1, (sy.ap .hv rfl).2.1, (by simpa using mt.v0), (by rw [List.length_map]; have := mt.v3; omega), fun i x H2 hx R2 b2 => ?_⟩
      have sy2 := sy1.but R2 b2
      obtain ⟨k0, hk0, rfl⟩ := str_at hx
      refine ⟨two, fun t nt => ⟨t, _, rfl, SqT.of upd_same, rfl, _, _, rfl, _, _, rfl, rfl, ?_⟩⟩
      have s3 := same_new (o := .tup [.int y, .str k0]) nt
      exact ⟨y, k0, n + 2, rfl, List.mem_of_getElem? hk0, sy2.same s3, Nat.le_refl _, ((Gx.but b1).trans (Gx.but b2)).trans (Gx.same s3)⟩
    rintro σ H1 ⟨y, k0, n1, rfl, hk0, sy1, hn1, gx1⟩
    -- value
    refine ⟨fun σ H2 => ∃ (v : Int) (n2 : Nat), σ = [some (.ref a.s), some (.ref (A .r)), some (.ref (A .w)), some (.ref (A .th)), some (.int y), some (.str k0), some (.int v), none, none, none, none, none, none] ∧ Small v ∧ Sy G a T0 A L M U H2 n2 ∧ n2 ≤ n + 4 ∧ Gx G a A L M U H A L M U H2, ?_, ?_⟩
    · refine ⟨_, _, rfl, rfl, _, _, rfl, rfl, ⟨by decide, by decide, by decide⟩, three, fun l nl => ?_⟩
      have s2 := same_new (o := .lst [.int 1, .int (0 - 1), .int (10 ^ 40)]) nl
      have sy2 := sy1.same s2
      have off := sy1.rn.off nl
      refine ⟨_, rfl, a, n1, 3, rfl, sy2.rn, by omega, by decide, by decide, fun j H3 j0 j1 R3 b3 => ?_⟩
      have sy3 := sy2.but R3 b3
      have el3 := b3 _ _ (upd_same (H := H1) (o := .lst [.int 1, .int (0 - 1), .int (10 ^ 40)])) off.s off.l
      obtain ⟨x, hx, xs⟩ : ∃ x : Int, ([V.int 1, V.int (0 - 1), V.int (10 ^ 40)])[j.toNat]? = some (V.int x) ∧ x.natAbs ≤ 10 ^ 40 := by
        have : j = 0 ∨ j = 1 ∨ j = 2 := by omega
        rcases this with rfl | rfl | rfl
        · exact ⟨1, rfl, by decide⟩
        · exact ⟨0 - 1, rfl, by decide⟩
        · exact ⟨10 ^ 40, rfl, by decide⟩
      refine ⟨l, _, j, _, rfl, rfl, SqL.of el3, at_of (j := j.toNat) (by omega) hx, ?_⟩
      refine ⟨_, rfl, a, n1 + 1, 10000, rfl, R3, by omega, by decide, by decide, fun z H4 z0 z1 R4 b4 => ?_⟩
      have sy4 := sy3.but R4 b4
      refine ⟨_, _, rfl, rfl, .inr ⟨by omega, by omega⟩, x * z, n1 + 2, rfl, ?_, sy4, by omega, ((gx1.trans (Gx.same s2)).trans (Gx.but b3)).trans (Gx.but b4)⟩
      show (x * z).natAbs < 10 ^ 60
      rw [Int.natAbs_mul]
      have h1 : z.natAbs < 10000 := by omega
      calc x.natAbs * z.natAbs ≤ 10 ^ 40 * 10000 := Nat.mul_le_mul xs (Nat.le_of_lt h1)
        _ < 10 ^ 60 := by decide
    rintro σ H2 ⟨v, n2, rfl, hv, sy2, hn2, gx2⟩
    obtain ⟨m, mr, b, hm, hmr, em, gm, gr, hb⟩ := mt.both mt.nw
    have al2 := sy2.al
    have nl : L.now < L.cs.length := mt.nw
    have en : M.now = L.now := mt.now.symm
    have hmr' : M.cs[M.now]? = some (mr, b) := by rw [en]; exact hmr
    have mrl' : M.now < M.cs.length := al2.nw
    have ctx2 : ∀ {m2 mr2 : Mp}, Eqm m2 mr2 → Good G.vars m2 → Good G.vars mr2 → Mt G { L with cs := L.cs.set L.now m2 } { M with cs := M.cs.set M.now (mr2, b) } U := fun e g1 g2 => by
      have := mt.ctx hm hmr e g1 g2
      rw [en]
      rw [en] at this
      exact this
    have el : M.cs.length = L.cs.length := mt.len.symm
    have fin : ∀ {n3 : Nat}, n3 ≤ n + 20 → ∀ A' L' M' U' H', Sy G a T0 A' L' M' U' H' n3 → Gx G a A L M U H2 A' L' M' U' H' → Mt G L' M' U' → Kp A A' M.cs.length → L.cs.length ≤ L'.cs.length → L'.cs.length ≤ L.cs.length + 1 → L'.tk.length ≤ L.tk.length + 1 → L'.lg.length ≤ L.lg.length + 1 → L'.busy = L.busy → L'.now = L.now → Q (.bl true) H' :=
      fun {n3} hn3 A' L' M' U' H' h1 h2 h3 h4 h5 h6 h7 h8 h9 h10 => k A' L' M' U' n3 H' ⟨h1, h3, gx2.trans h2, h4, h5, h6, h7, h8, h9, h10⟩ hn3
    have ml : m.length ≤ 100 := by have := gm.len; have := mt.v3; omega
    have mrl : mr.length ≤ 100 := by have := gr.len; have := mt.v3; omega
    -- here
    have g1 := (wk_c A L.now) ▸ DGet.k (k := Sum.inr "contexts") al2.w_
    have g2 := (wk_n A L.now) ▸ DGet.k (k := Sum.inr "now") al2.w_
    refine ⟨_, rfl, A .w, _, rfl, g1, _, rfl, A .w, _, rfl, g2, A .cl, _, (L.now : Int), _, rfl, rfl, SqL.of al2.cl_, d_at nl, ?_⟩
    refine ⟨_, rfl, _, _, rfl, rfl, _, rfl, ite2 (fun _ => ?_) (fun _ => ?_)⟩
    · -- put
      refine ⟨_, rfl, _, rfl, _, rfl, A (.d L.now), _, rfl, DPut.k (k := Sum.inr k0) (al2.d_ hm) (small1000 (by unfold kv; rw [List.length_map]; omega)), ?_⟩
      rw [putK_kv]
      have f3 : SW.Fr [A (.d L.now)] H2 (upd H2 (A (.d L.now)) (.dK (kv (aput m k0 v)))) := Fr.one
      have al3 := al2.lctx nl f3 upd_same
      have go3 : Go G A L M U H2 A { L with cs := L.cs.set L.now (aput m k0 v) } M U _ := Go.one (x := .d L.now) (map_some nl) f3 List.length_set rfl rfl rfl rfl rfl
      generalize (upd H2 (A (.d L.now)) (.dK (kv (aput m k0 v)))) = H3 at al3 go3 ⊢
      refine ⟨_, rfl, at_room al3.room ⟨_, rfl, _, rfl, A .r, (A .le, _), A (.p M.now), A (.e M.now), mr, k0, v, rfl, al3.room, (al3.ctx hmr').at, mrl, fun H4 e4 f4 => ?_⟩⟩
      have go4 : Go G A { L with cs := L.cs.set L.now (aput m k0 v) } M U H3 A { L with cs := L.cs.set L.now (aput m k0 v) } { M with cs := M.cs.set M.now (aput mr k0 v, b) } U H4 := Go.one (x := .e M.now) (map_some mrl') f4 rfl rfl rfl List.length_set rfl rfl
      exact fin (by omega) A _ _ U H4 (sy2.go (al3.rctx hmr' f4 e4) (go3.trans go4)) (Gx.go (go3.trans go4)) (ctx2 (em.put k0 v) (gm.put hk0 hv) (gr.put hk0 hv)) Kp.refl (by simp) (by simp) (by simp) (by simp) rfl rfl
    refine ⟨_, rfl, rfl, _, rfl, ite2 (fun _ => ?_) (fun _ => ?_)⟩
    · -- drop
      refine ⟨fun σ H3 => σ = [some (.ref a.s), some (.ref (A .r)), some (.ref (A .w)), some (.ref (A .th)), some (.int y), some (.str k0), some (.int v), some (.ref (A (.d L.now))), none, none, none, none, none] ∧ All G A { L with cs := L.cs.set L.now (adrop m k0) } M U H3 ∧ Go G A L M U H2 A { L with cs := L.cs.set L.now (adrop m k0) } M U H3, ?_, ?_⟩
      · have d1 := al2.d_ hm
        refine ⟨_, rfl, A (.d L.now), rfl, .inl ⟨_, .inl d1⟩, _, rfl, kv m, .inr k0, d1, rfl, fun v _ => ⟨rfl, ?_, ?_⟩, fun hn => ⟨rfl, ?_, Go.one (x := .d L.now) (map_some nl) Fr.refl List.length_set rfl rfl rfl rfl rfl⟩⟩
        · rw [dropK_kv]
          exact al2.lctx nl Fr.one upd_same
        · exact Go.one (x := .d L.now) (map_some nl) Fr.one List.length_set rfl rfl rfl rfl rfl
        · rw [valV_kv] at hn
          have e0 : adrop m k0 = m := adrop_none (by cases z : aget m k0 with | none => rfl | some _ => rw [z] at hn; cases hn)
          refine al2.lctx nl Fr.refl ?_
          rw [e0]
          exact d1
      rintro σ H3 ⟨rfl, al3, go3⟩
      refine ⟨_, rfl, at_room al3.room ⟨_, rfl, A .r, (A .le, _), A (.p M.now), A (.e M.now), mr, k0, rfl, al3.room, (al3.ctx hmr').at, gr.nd, fun H4 e4 f4 => ?_⟩⟩
      have go4 : Go G A { L with cs := L.cs.set L.now (adrop m k0) } M U H3 A { L with cs := L.cs.set L.now (adrop m k0) } { M with cs := M.cs.set M.now (adrop mr k0, b) } U H4 := Go.one (x := .e M.now) (map_some mrl') f4 rfl rfl rfl List.length_set rfl rfl
      exact fin (by omega) A _ _ U H4 (sy2.go (al3.rctx hmr' f4 e4) (go3.trans go4)) (Gx.go (go3.trans go4)) (ctx2 (em.drop k0) gm.drop gr.drop) Kp.refl (by simp) (by simp) (by simp) (by simp) rfl rfl
    refine ⟨_, rfl, rfl, _, rfl, ite2 (fun _ => ?_) (fun _ => ?_)⟩
    · -- show
      have lgl : (lshow L k0).1.lg.length ≤ L.lg.length + 1 ∧ (lshow L k0).1.cs = L.cs ∧ (lshow L k0).1.tk = L.tk ∧ (lshow L k0).1.now = L.now ∧ (lshow L k0).1.busy = L.busy := by
        unfold lshow
        cases aget ((L.cs[L.now]?).getD []) k0 with
        | none => exact ⟨Nat.le_succ _, rfl, rfl, rfl, rfl⟩
        | some z => exact ⟨by simp, rfl, rfl, rfl, rfl⟩
      refine ⟨fun σ H3 => ∃ (A' : Lb → Addr) (tl : Addr), σ = [some (.ref a.s), some (.ref (A' .r)), some (.ref (A' .w)), some (.ref (A' .th)), some (.int y), some (.str k0), some (.int v), some (.ref (A (.d L.now))), some (.ref tl), some (.str (lshow L k0).2), none, none, none] ∧ Ag G A A' L M U ∧ Sy G a T0 A' (lshow L k0).1 M U H3 n2 ∧ Gx G a A L M U H2 A' (lshow L k0).1 M U H3 ∧ H2 tl = none ∧ Ou G a A' (lshow L k0).1 M U tl ∧ H3 tl = some (.lst []), ?_, ?_⟩
      · refine ⟨Nat.zero_le _, fun tl ntl => ?_⟩
        have s3 := same_new (o := .lst []) ntl
        have sy3 := sy2.same s3
        have o3 : Ou G a A L M U tl := sy2.ou ntl
        have e3 : (upd H2 tl (.lst [])) tl = some (.lst []) := upd_same
        generalize (upd H2 tl (.lst [])) = H3 at s3 sy3 e3 ⊢
        refine ⟨_, rfl, fun sl nsl => ⟨_, rfl, two, fun t nt => ?_⟩⟩
        have s4 := same_new (o := .dK []) nsl
        have e4 : (upd H3 sl (.dK [])) sl = some (.dK []) := upd_same
        generalize (upd H3 sl (.dK [])) = H4 at s4 e4 nt ⊢
        have s5 := same_new (o := .tup [.str "show", .str k0]) nt
        have e5 : (upd H4 t (.tup [.str "show", .str k0])) t = some (.tup [.str "show", .str k0]) := upd_same
        generalize (upd H4 t (.tup [.str "show", .str k0])) = H5 at s5 e5 ⊢
        have sy5 := (sy3.same s4).same s5
        refine ⟨A, L, M, U, sl, t, k0, rfl, sy5.al, nl, s5 _ _ e4, e5, by omega, fun A' H6 ag al6 go6 => ⟨two, fun t2 nt2 => ⟨t2, _, rfl, SqT.of upd_same, rfl, _, _, rfl, _, _, rfl, rfl, ?_⟩⟩⟩
        have s7 := same_new (o := .tup [.ref tl, .str (lshow L k0).2]) nt2
        have kp := ag.kp
        have gxt : Gx G a A L M U H3 A' (lshow L k0).1 M U (upd H6 t2 (.tup [.ref tl, .str (lshow L k0).2])) := ((Gx.same (s4.trans s5)).trans (Gx.go go6)).trans (Gx.same s7)
        obtain ⟨o7, e7⟩ := gxt tl _ e3 (by intro _ z; cases z) o3
        refine ⟨A', tl, ?_, ag, (sy5.go al6 go6).same s7, (Gx.same s3).trans gxt, ntl, o7, e7⟩
        rw [kp.1, kp.2.1, kp.2.2.1]
        rfl
      rintro σ H3 ⟨A', tl, rfl, ag, sy3, gx3, ntl, o3, e3⟩
      have hin : (Pt, ("_law_deed.<locals>." : Str) ++ "<lambda>") ∈ T0 := hT1
      refine ⟨make_static rfl hin TB sy3.tb, fun c2 P2 H4 x4 tb4 _ N hN => ?_⟩
      have sy4 := sy3.ext x4 tb4
      have e4 := x4 _ _ e3 (by intro _ z; cases z)
      have gx4 := gx3.trans (Gx.ext x4)
      have es : lshow L k0 = (match aget m k0 with
        | none => (L, ("unset" : Str))
        | some v => ({ L with lg := L.lg ++ [[.str "shown", .str k0, .int v]] }, ("" : Str))) := by
        unfold lshow
        rw [hm]
        rfl
      refine ⟨_, rfl, .inl ⟨rfl, _, SqL.of e4⟩, _, rfl, at_room sy4.al.room ⟨_, rfl, A' .r, (A' .le, _), A' (.p M.now), A' (.e M.now), mr, k0, rfl, sy4.al.room, (sy4.al.ctx hmr').at, (by rw [refs_len, ← mt.lg]; omega), fun z ez a5 H5 na5 ea5 el5 f5 => ?_, fun ez x nx => ?_⟩⟩
      · have hw : aget m k0 = some z := by rw [em k0]; exact ez
        have es' : lshow L k0 = ({ L with lg := L.lg ++ [[.str "shown", .str k0, .int z]] }, ("" : Str)) := by rw [es, hw]
        rw [es'] at sy4 gx4 o3 hN
        obtain ⟨A2, ag2, al5, go5⟩ := sy4.al.rlog (v := [.str "shown", .str k0, .int z]) na5 f5 ea5 el5
        obtain ⟨o5, e5⟩ := Gx.go (a := a) go5 tl _ e4 (by intro _ z; cases z) o3
        have sy5 := sy4.go al5 go5
        have sy6 := sy5.out (o := .lst [.non]) o5 e5 ⟨fun _ z => (by cases z), fun _ z => by cases z⟩
        have gx6 := (gx4.trans (Gx.go go5)).fresh (o := .lst [.non]) ntl
        refine ⟨tl, [], .non, rfl, rfl, e5, (by rw [sizeLine_eq]; decide), hN _ ⟨_, rfl, rfl, _, rfl, iteT' (by show decide (V.str "" = V.str "") = true; decide +kernel) ?_⟩⟩
        refine ⟨_, rfl, _, rfl, rfl, _, rfl, iteT' (by show decide (V.str "" = V.str "") = true; decide +kernel) ⟨(by rw [sizeLine_eq]; decide), fun l nl' => ?_⟩⟩
        have s7 := same_new (o := .lst [.non]) nl'
        refine ⟨.list [.none], .list [.none], .lst (SqL.of (s7 _ _ upd_same)) (.cons .non .nil), .lst (SqL.of upd_same) (.cons .non .nil), rfl, rfl, by decide, ?_⟩
        exact fin (by omega) A2 _ _ U _ (sy6.same s7) (gx6.trans (Gx.same s7)) (mt.log hk0 (good_get gm hw)) ((ag.kp).trans ag2.kp (Nat.le_refl _)) (Nat.le_refl _) (Nat.le_succ _) (Nat.le_succ _) (by simp) rfl rfl
      · have hw : aget m k0 = none := by rw [em k0]; exact ez
        have es' : lshow L k0 = (L, ("unset" : Str)) := by rw [es, hw]
        rw [es'] at sy4 gx4 o3
        refine ⟨rfl, x, "unset", rfl, upd_same, fun H5 s5' => ?_⟩
        rw [es']
        have s5 := (same_new nx).trans s5'
        have sy5 := sy4.same s5
        have e5 := s5 _ _ e4
        refine ⟨_, rfl, rfl, _, rfl, iteT' (by show decide (V.str "unset" = V.str "unset") = true; decide +kernel) ?_⟩
        refine ⟨_, rfl, _, rfl, rfl, _, rfl, iteF' (by show decide (V.str "unset" = V.str "") = false; decide +kernel) ⟨Nat.zero_le _, fun l nl' => ?_⟩⟩
        have s7 := same_new (o := .lst []) nl'
        refine ⟨.list [], .list [], .lst (SqL.of (s7 _ _ e5)) .nil, .lst (SqL.of upd_same) .nil, rfl, rfl, by decide, ?_⟩
        exact fin (by omega) A' _ _ U _ (sy5.same s7) ((gx4.trans (Gx.same s5)).trans (Gx.same s7)) mt ag.kp (Nat.le_refl _) (Nat.le_succ _) (Nat.le_succ _) (Nat.le_succ _) rfl rfl
    refine ⟨_, rfl, rfl, _, rfl, ite2 (fun _ => ?_) (fun _ => ?_)⟩
    · -- read
      refine ⟨_, rfl, _, rfl, A, L, M, U, m, .str k0, rfl, al2, hm, .inr ⟨k0, rfl⟩, fun l H3 s3 nl3 el3 => ?_⟩
      have el3 : H3 l = some (.lst (oldL (aget m k0))) := el3
      have sy3 := sy2.same s3
      refine ⟨_, rfl, Nat.zero_le _, fun l2 nl2 => ?_⟩
      have s4 := same_new (o := .lst []) nl2
      have sy4 := sy3.same s4
      have el4 := s4 _ _ el3
      have en4 : (upd H3 l2 (.lst [])) l2 = some (.lst []) := upd_same
      have s24 := s3.trans s4
      generalize (upd H3 l2 (.lst [])) = H4 at sy4 el4 en4 s24 ⊢
      cases hw : aget m k0 with
      | none =>
        rw [hw] at el4
        refine ⟨l, l2, [], rfl, rfl, SqL.of el4, SqL.of en4, _, rfl, iteF' rfl ?_⟩
        have hin : (Pt, ("_law_deed.<locals>." : Str) ++ "<lambda>") ∈ T0 := hT1
        refine ⟨make_static rfl hin TB sy4.tb, fun c2 P2 H5 x5 tb5 _ N => ?_⟩
        have sy5 := sy4.ext x5 tb5
        refine ⟨_, rfl, at_room sy5.al.room ⟨_, rfl, A .r, (A .le, _), A (.p M.now), A (.e M.now), mr, k0, rfl, sy5.al.room, (sy5.al.ctx hmr').at, get_none (by rw [← em k0]; exact hw) fun x nx => ?_⟩⟩
        refine ⟨rfl, x, _, rfl, upd_same, fun H6 s6' => ⟨rfl, ?_⟩⟩
        have s6 := (same_new nx).trans s6'
        exact fin (by omega) A L M U H6 (sy5.same s6) (((Gx.same s24).trans (Gx.ext x5)).trans (Gx.same s6)) mt Kp.refl (Nat.le_refl _) (Nat.le_succ _) (Nat.le_succ _) (Nat.le_succ _) rfl rfl
      | some z =>
        rw [hw] at el4
        refine ⟨l, l2, [.int z], rfl, rfl, SqL.of el4, SqL.of en4, _, rfl, iteT' rfl ?_⟩
        refine ⟨_, rfl, _, rfl, at_room sy4.al.room ⟨_, rfl, A .r, (A .le, _), A (.p M.now), A (.e M.now), mr, k0, rfl, sy4.al.room, (sy4.al.ctx hmr').at, get_both (v := z) (by rw [← em k0]; exact hw) ⟨(by show 1 ≤ sizeLine; rw [sizeLine_eq]; decide), fun l5 nl5 => ?_⟩⟩⟩
        have s5 := same_new (o := .lst [.int z]) nl5
        refine ⟨.list [.int z], .list [.int z], .lst (SqL.of (s5 _ _ el4)) (.cons (.int z) .nil), .lst (SqL.of upd_same) (.cons (.int z) .nil), rfl, rfl, (by simp [PyData.depth, PyData.depthAll]), ?_⟩
        rw [SeqAt.eqv_refl_plain _ (show (PyData.list [.int z]).plain = true from rfl)]
        exact fin (by omega) A L M U _ (sy4.same s5) ((Gx.same s24).trans (Gx.same s5)) mt Kp.refl (Nat.le_refl _) (Nat.le_succ _) (Nat.le_succ _) (Nat.le_succ _) rfl rfl
    refine ⟨_, rfl, _, _, rfl, rfl, _, rfl, ite2 (fun _ => ?_) (fun _ => ?_)⟩
    · -- hold
      obtain ⟨x, ex⟩ : ∃ x : Tk, x = ⟨L.now, k0, aget m k0, false⟩ := ⟨_, rfl⟩
      refine ⟨fun σ H3 => ∃ (A' : Lb → Addr), σ = [some (.ref a.s), some (.ref (A' .r)), some (.ref (A' .w)), some (.ref (A' .th)), some (.int y), some (.str k0), some (.int v), some (.ref (A (.d L.now))), none, none, none, some (.ref (A' (.t M.tk.length))), none] ∧ Ag G A A' L M U ∧ All G A' L { M with cs := M.cs.set M.now (aput mr k0 v, b), tk := M.tk ++ [x] } U H3 ∧ Go G A L M U H2 A' L { M with cs := M.cs.set M.now (aput mr k0 v, b), tk := M.tk ++ [x] } U H3, ?_, ?_⟩
      · refine ⟨_, rfl, at_room al2.room ⟨_, rfl, _, rfl, A .r, (A .le, _), A (.p M.now), A (.e M.now), mr, k0, v, rfl, al2.room, (al2.ctx hmr').at, mrl, fun t H3 nt tk e3 f3 => ?_⟩⟩
        obtain ⟨A', ag, et, al, go⟩ := al2.rheld (m2 := aput mr k0 v) (z := x) hmr' (by rw [ex]; show L.now < _; rw [el]; exact nl) nt f3 (by rw [ex, em k0]; show SW.TokAt G.T H3 t (A (.p L.now)) _ _ _; rw [← en]; exact tk) e3
        refine ⟨A', ?_, ag, al, go⟩
        rw [ag.kp.1, ag.kp.2.1, ag.kp.2.2.1, et]
        rfl
      rintro σ H3 ⟨A', rfl, ag, al3, go3⟩
      have gt := (hk_t A') ▸ DGet.k (k := Sum.inr "tokens") al3.th_
      refine ⟨_, rfl, A' .th, _, rfl, gt, .inl ⟨rfl, _, SqL.of al3.ht_⟩, _, rfl, _, rfl, _, rfl, _, rfl, A', L, _, U, m, k0, v, rfl, al3, hm, ml, by omega, fun A2 H4 ag4 al4 go4 => ⟨two, fun l nl4 => ?_⟩⟩
      rw [← ex] at al4 go4
      have eht : A2 .ht = A' .ht := ag4 .ht (fun _ z => by cases z) rfl
      have ett : A2 (.t M.tk.length) = A' (.t M.tk.length) := ag4 (.t M.tk.length) (fun _ z => by cases z) (map_some (by show M.tk.length < (M.tk ++ [x]).length; rw [List.length_append]; exact Nat.lt_succ_self _))
      have ht4 := al4.ht_
      have hta : A2 .ht ≠ l := ne_of_none ht4 nl4
      refine ⟨A' .ht, refs A2 .k U.nt.length, _, rfl, rfl, (by rw [← eht, upd_ne hta]; exact ht4), small1000 (by rw [refs_len, mt.ntl]; omega), ?_⟩
      have f6 : SW.Fr [A2 .ht] H4 (upd (upd H4 l (.lst [.ref (A' (.t M.tk.length)), .int (L.tk.length : Int)])) (A2 .ht) (.lst (refs A2 .k U.nt.length ++ [.ref l]))) := (Fr.new nl4).trans Fr.one
      rw [← eht]
      obtain ⟨A6, ag6, al6, go6⟩ := al4.htok (x := (M.tk.length, L.tk.length)) (by show M.tk.length < (M.tk ++ [x]).length; rw [List.length_append]; exact Nat.lt_succ_self _) nl4 f6 (by rw [upd_ne hta.symm, upd_same, ett]) upd_same
      have mt6 := (ctx2 (em.put k0 v) (gm.put hk0 hv) (gr.put hk0 hv)).held (x := x) (by rw [ex]; show L.now < (L.cs.set _ _).length; rw [List.length_set]; exact nl) (by rw [ex]; exact hk0) (by rw [ex]; exact fun z hz => good_get gm hz)
      have go26 := (go3.trans go4).trans go6
      have kp : Kp A A6 M.cs.length := (ag.kp.trans ag4.kp (by simp)).trans ag6.kp (by simp)
      exact fin (by omega) A6 _ _ _ _ (sy2.go al6 go26) (Gx.go go26) mt6 kp (by simp) (by simp) (by simp) (by simp) rfl rfl
    -- reset
    refine ⟨fun σ H3 => σ = [some (.ref a.s), some (.ref (A .r)), some (.ref (A .w)), some (.ref (A .th)), some (.int y), some (.str k0), some (.int v), some (.ref (A (.d L.now))), none, none, none, none, none] ∧ Sy G a T0 A L M U H3 n2 ∧ Gx G a A L M U H2 A L M U H3, ?_, ?_⟩
    · refine ⟨_, rfl, _, _, rfl, rfl, _, rfl, ite2 (fun _ => ?_) (fun _ => ⟨rfl, sy2, Gx.refl⟩)⟩
      have gt := (hk_t A) ▸ DGet.k (k := Sum.inr "tokens") al2.th_
      refine ⟨_, rfl, A .th, _, rfl, gt, Nat.zero_le _, fun l nl2 => ?_⟩
      have s3 := same_new (o := .lst []) nl2
      have en3 : (upd H2 l (.lst [])) l = some (.lst []) := upd_same
      have sy3 := sy2.same s3
      generalize (upd H2 l (.lst [])) = H3 at s3 en3 sy3 ⊢
      refine ⟨A .ht, l, _, rfl, rfl, SqL.of sy3.al.ht_, SqL.of en3, _, rfl, ite2 (fun hne => ?_) (fun _ => ⟨rfl, sy3, Gx.same s3⟩)⟩
      have hne : refs A .k U.nt.length ≠ [] := fun z => by
        rw [z] at hne
        exact Bool.noConfusion hne
      have gt3 := (hk_t A) ▸ DGet.k (k := Sum.inr "tokens") sy3.al.th_
      refine ⟨fun σ H4 => ∃ j, j < L.tk.length ∧ σ = [some (.ref a.s), some (.ref (A .r)), some (.ref (A .w)), some (.ref (A .th)), some (.int y), some (.str k0), some (.int v), some (.ref (A (.d L.now))), none, none, none, some (.ref (A (.t j))), some (.int (j : Int))] ∧ Sy G a T0 A L M U H4 (n2 + 1) ∧ Gx G a A L M U H2 A L M U H4, ?_, ?_⟩
      · refine ⟨_, rfl, _, rfl, A .th, _, rfl, gt3, a, n2, A .ht, _, rfl, sy3.rn, by omega, sy3.al.ht_, (sy.ap .ht rfl).1, (sy.ap .ht rfl).2.1, hne, (by rw [refs_len, mt.ntl]; omega), fun i x H4 hx R4 b4 => ?_⟩
        have il : i < U.nt.length := by
          have := (List.getElem?_eq_some_iff.mp hx).1
          rw [refs_len] at this
          exact this
        rw [refs_at il] at hx
        cases hx
        have sy4 := sy3.but R4 b4
        have ij : i < L.tk.length := by rw [← mt.ntl]; exact il
        have hk := sy4.al.k_ (j := i) (x := (i, i)) (by rw [mt.nt]; exact pair_at ij)
        exact ⟨A (.k i), _, rfl, SqL.of hk, rfl, _, _, rfl, _, _, rfl, rfl, i, ij, rfl, sy4, (Gx.same s3).trans (Gx.but b4)⟩
      rintro σ H4 ⟨j, jl, rfl, sy4, gx4⟩
      have hin : (Pt, ("_law_deed.<locals>." : Str) ++ "<lambda>") ∈ T0 := hT1
      refine ⟨make_static rfl hin TB sy4.tb, fun c2 P2 H5 x5 tb5 _ N hN => ?_⟩
      have sy5 := sy4.ext x5 tb5
      have gx5 := gx4.trans (Gx.ext x5)
      obtain ⟨x, hx⟩ : ∃ x, L.tk[j]? = some x := ⟨_, List.getElem?_eq_getElem jl⟩
      have hx' : M.tk[j]? = some x := by rw [← mt.tk]; exact hx
      obtain ⟨tc1, tc2, tc3⟩ := mt.tc x (List.mem_of_getElem? hx)
      obtain ⟨q, qr, qb, hq, hqr, qem, qg, qgr, _⟩ := mt.both tc1
      have mls : ∀ m' ∈ L.cs, m'.length ≤ 100 := fun m' hm' => by
        obtain ⟨i, hi⟩ := List.mem_iff_getElem?.mp hm'
        obtain ⟨m2, _, _, h1, _, _, g, _⟩ := mt.both (List.getElem?_eq_some_iff.mp hi).1
        rw [hi] at h1
        cases h1
        have := g.len
        have := mt.v3
        omega
      refine ⟨_, rfl, at_room sy5.al.room ⟨_, rfl, A .r, (A .le, _), A (.p M.now), A (.e M.now), A (.t j), A (.p x.ctx), A (.e x.ctx), mr, qr, x.var, x.old, x.used, rfl, sy5.al.room, (sy5.al.ctx hmr').at, gr.nd, mrl, sy5.al.rtok hx', (sy5.al.ctx hqr).at, fun hu z nz => ?_, fun hu hpp z nz => ?_, fun hu hpp H6 tk6 e6 f6 => ?_⟩⟩
      · refine ⟨rfl, z, _, rfl, upd_same, fun H6 s6' => ?_⟩
        have s6 := (same_new nz).trans s6'
        have sy6 := sy5.same s6
        have el6 : lres L j = (L, ("used" : Str)) := by
          unfold lres
          rw [hx]
          exact if_pos hu
        refine ⟨_, rfl, _, rfl, A, L, M, U, j, rfl, sy6.al, jl, (fun x hx => (mt.tc x hx).1), mls, fun A7 H7 ag7 al7 go7 => ?_⟩
        rw [el6] at al7 go7 ⊢
        refine ⟨rfl, ?_⟩
        exact fin (by omega) A7 _ _ _ _ (sy6.go al7 go7) ((gx5.trans (Gx.same s6)).trans (Gx.go go7)) mt ag7.kp (Nat.le_refl _) (Nat.le_succ _) (Nat.le_succ _) (Nat.le_succ _) rfl rfl
      · refine ⟨rfl, z, _, rfl, upd_same, fun H6 s6' => ?_⟩
        have s6 := (same_new nz).trans s6'
        have sy6 := sy5.same s6
        have hne2 : ¬ x.ctx = L.now := fun z => hpp (by rw [z, en])
        have el6 : lres L j = (L, ("elsewhere" : Str)) := by
          unfold lres
          rw [hx]
          show (if x.used = true then _ else _) = _
          rw [if_neg (by rw [hu]; decide), if_neg hne2]
        refine ⟨_, rfl, _, rfl, A, L, M, U, j, rfl, sy6.al, jl, (fun x hx => (mt.tc x hx).1), mls, fun A7 H7 ag7 al7 go7 => ?_⟩
        rw [el6] at al7 go7 ⊢
        refine ⟨rfl, ?_⟩
        exact fin (by omega) A7 _ _ _ _ (sy6.go al7 go7) ((gx5.trans (Gx.same s6)).trans (Gx.go go7)) mt ag7.kp (Nat.le_refl _) (Nat.le_succ _) (Nat.le_succ _) (Nat.le_succ _) rfl rfl
      · have hec : x.ctx = M.now := by
          have := sy5.al.inj (.p x.ctx) (.p M.now) (map_some (List.getElem?_eq_some_iff.mp hqr).1) (map_some mrl') hpp
          injection this
        have al6 := sy5.al.rreset (m2 := rset mr x.var x.old) hmr' hx' f6 tk6 e6
        have go6 : Go G A L M U H5 A L { M with cs := M.cs.set M.now (rset mr x.var x.old, b), tk := M.tk.set j { x with used := true } } U H6 :=
          Go.fr (xs := [.e M.now, .t j]) (fun y hy => by
            simp only [List.mem_cons, List.not_mem_nil, or_false] at hy
            rcases hy with rfl | rfl
            · exact map_some mrl'
            · exact map_some (List.getElem?_eq_some_iff.mp hx').1) (valid_of rfl rfl rfl List.length_set List.length_set rfl) f6
        have el6 : lres L j = ({ L with tk := L.tk.set j { x with used := true }, cs := L.cs.set L.now (rst m x.var x.old) }, ("" : Str)) := by
          unfold lres
          rw [hx]
          show (if x.used = true then _ else _) = _
          rw [if_neg (by rw [hu]; decide), if_pos (hec.trans en), hec.trans en, hm]
          rfl
        refine hN _ ⟨_, rfl, _, rfl, A, L, _, U, j, rfl, al6, jl, (fun x hx => (mt.tc x hx).1), mls, fun A7 H7 ag7 al7 go7 => ?_⟩
        rw [el6] at al7 go7 ⊢
        refine ⟨rfl, ?_⟩
        have mt7 := (ctx2 (eqm_rst em x.var x.old) (good_rst gm tc2 tc3) (good_rset gr tc2 tc3)).used (j := j) (x := x) hx
        have kp7 : Kp A A7 M.cs.length := by
          have := ag7.kp
          dsimp only at this
          rw [List.length_set] at this
          exact this
        exact fin (by omega) A7 _ _ _ _ (sy5.go al7 (go6.trans go7)) (gx5.trans (Gx.go (go6.trans go7))) mt7 kp7 (by simp) (by simp) (by simp) (by simp) rfl rfl
    rintro σ H3 ⟨rfl, sy3, gx3⟩
    -- copy
    have kp0 : M.cs.length ≤ M.cs.length + 1 := Nat.le_succ _
    refine ⟨fun σ H4 => ∃ (A' : Lb → Addr) (m' : Mp), σ = [some (.ref a.s), some (.ref (A' .r)), some (.ref (A' .w)), some (.ref (A' .th)), some (.int y), some (.str k0), some (.int v), some (.ref (A' (.d L.now))), none, none, none, none, none] ∧ Kp A A' M.cs.length ∧ Eqm m' mr ∧ m'.Perm mr ∧ All G A' L { M with cs := M.cs ++ [(m', false)] } { U with nc := U.nc ++ [(M.cs.length, L.cs.length)] } H4 ∧ Go G A L M U H3 A' L { M with cs := M.cs ++ [(m', false)] } { U with nc := U.nc ++ [(M.cs.length, L.cs.length)] } H4, ?_, ?_⟩
    · have gc := (hk_c A) ▸ DGet.k (k := Sum.inr "contexts") sy3.al.th_
      refine ⟨_, rfl, A .th, _, rfl, gc, .inl ⟨rfl, _, SqL.of sy3.al.hc_⟩, _, rfl, at_room sy3.al.room ⟨A .r, (A .le, _), A (.p M.now), A (.e M.now), mr, rfl, sy3.al.room, (sy3.al.ctx hmr').at, (by have := gr.len; have := mt.v3; omega), gr.nd, fun p' d' m' H4 s4 np nd c4 em' pm => ?_⟩⟩
      have npd : p' ≠ d' := fun z => (ctx_pd c4) z.symm
      obtain ⟨A', ag4, ep, al4, go4⟩ := sy3.al.rcopy np nd npd s4 c4
      have g14 := (wk_c A' L.now) ▸ DGet.k (k := Sum.inr "contexts") al4.w_
      rw [ag4.kp.1] at g14
      have ehc : A' .hc = A .hc := ag4 .hc (fun _ z => by cases z) rfl
      have hc4 := al4.hc_
      refine ⟨_, rfl, A .w, _, rfl, g14, A' .cl, _, rfl, .inl (SqL.of al4.cl_), two, fun l nl4 => ?_⟩
      rw [refs_len]
      have hca : A' .hc ≠ l := ne_of_none hc4 nl4
      refine ⟨A .hc, refs A' .c U.nc.length, _, rfl, rfl, (by rw [← ehc, upd_ne hca]; exact hc4), small1000 (by rw [refs_len, mt.ncl]; omega), ?_⟩
      rw [← ehc]
      have f6 : SW.Fr [A' .hc] H4 (upd (upd H4 l (.lst [.ref p', .int (L.cs.length : Int)])) (A' .hc) (.lst (refs A' .c U.nc.length ++ [.ref l]))) := (Fr.new nl4).trans Fr.one
      obtain ⟨A6, ag6, al6, go6⟩ := al4.hctx (x := (M.cs.length, L.cs.length)) (by show M.cs.length < (M.cs ++ [(m', false)]).length; rw [List.length_append]; exact Nat.lt_succ_self _) nl4 f6 (by rw [upd_ne hca.symm, upd_same, ep]) upd_same
      have kp : Kp A A6 M.cs.length := ag4.kp.trans ag6.kp (by simp)
      refine ⟨A6, m', ?_, kp, em', pm, al6, go4.trans go6⟩
      have ed : A6 (.d L.now) = A (.d L.now) := (ag6 (.d L.now) (fun _ z => by cases z) (map_some nl)).trans (ag4 (.d L.now) (fun _ z => by cases z) (map_some nl))
      rw [kp.1, kp.2.1, kp.2.2.1, ed]
      all_goals rfl
    rintro σ H4 ⟨A', m', rfl, kp4, em', pm, al4, go4⟩
    have g14 := (wk_c A' L.now) ▸ DGet.k (k := Sum.inr "contexts") al4.w_
    refine ⟨_, rfl, A' .w, _, rfl, g14, .inl ⟨rfl, _, SqL.of al4.cl_⟩, ?_⟩
    have d4 := al4.d_ hm
    refine ⟨_, rfl, A' (.d L.now), kv m, rfl, .inl d4, fun p np => ?_⟩
    have cl4 := al4.cl_
    have hcp : A' .cl ≠ p := ne_of_none cl4 np
    refine ⟨A' .cl, refs A' .d L.cs.length, _, rfl, rfl, (by rw [upd_ne hcp]; exact cl4), small1000 (by rw [refs_len]; omega), ?_⟩
    have f6 : SW.Fr [A' .cl] H4 (upd (upd H4 p (.dK (kv m))) (A' .cl) (.lst (refs A' .d L.cs.length ++ [.ref p]))) := (Fr.new np).trans Fr.one
    obtain ⟨A6, ag6, al6, go6⟩ := al4.lcopy (m := m) np f6 (by rw [upd_ne hcp.symm, upd_same]) upd_same
    have kp6 : Kp A A6 M.cs.length := kp4.trans ag6.kp (by simp)
    have mt6 := mt.copy (m := m) (mr := m') (fun i => by rw [em i]; exact (em' i).symm) gm ⟨(pm.map _).nodup_iff.mpr gr.nd, fun i hi => gr.sub i ((pm.map _).mem_iff.mp hi), fun e he => gr.sm e (pm.mem_iff.mp he)⟩
    exact fin (by omega) A6 _ _ _ _ (sy3.go al6 (go4.trans go6)) (gx3.trans (Gx.go (go4.trans go6))) mt6 kp6 (by simp) (by simp) (by simp) (by simp) rfl rfl
end
end XA

set_option Elab.async false
set_option linter.all false
set_option maxRecDepth 100000
set_option maxHeartbeats 1000000
/-! Texts of pairs; repr of numbers and truth values; what a draw leaves. -/
namespace SW
open PySem PySem.Spec PyProof.Rows L2
def pd (e : Str × Int) : PyData := .tuple [.str e.1, .int e.2]
theorem small_log {v : Int} (h : Small v) : v.natAbs.log2 < 1920 := by
  unfold Small at h
  by_cases z : v.natAbs = 0
  · rw [z]
    decide
  · rw [Nat.log2_lt z]
    exact Nat.lt_trans h (by decide +kernel)
theorem small_log2 {v : Int} (h : Small v) : v.natAbs.log2 < 200 := by
  unfold Small at h
  by_cases z : v.natAbs = 0
  · rw [z]
    decide
  · rw [Nat.log2_lt z]
    exact Nat.lt_trans h (by decide +kernel)
theorem isNm_len {z : Str} (h : isNm z) : z.cps.size ≤ 8 := by
  unfold isNm isNmB at h
  rw [Bool.and_eq_true, Bool.and_eq_true] at h
  exact of_decide_eq_true h.1.2
theorem isNm_cps {z : Str} (h : isNm z) : ∀ c ∈ z.cps.toList, c ≤ 122 := fun c hc => by
  unfold isNm isNmB at h
  rw [Bool.and_eq_true] at h
  have q := List.all_eq_true.mp h.2 c hc
  rw [Bool.and_eq_true] at q
  exact of_decide_eq_true q.2
/-- pairs whose texts are short -/
def Short (prs : Mp) : Prop := ∀ e ∈ prs, isNm e.1 ∧ Small e.2
theorem Good.short {ns : List Str} {m : Mp} (g : Good ns m) (h : ∀ z ∈ ns, isNm z) : Short m := fun e he => ⟨h _ (g.sub _ (List.mem_map.mpr ⟨e, he, rfl⟩)), g.sm e he⟩
theorem pd_show : ∀ {prs : Mp}, Short prs → PyData.showableAll (prs.map pd) = true
  | [], _ => rfl
  | e :: r, h => by
    rw [List.map_cons]
    simp only [pd, PyData.showableAll, PyData.showable, pd_show (prs := r) fun x hx => h x (List.mem_cons_of_mem _ hx), decide_eq_true (small_log (h e List.mem_cons_self).2), Bool.and_self]
theorem pd_noDict : ∀ prs : Mp, PyData.hasDictAll (prs.map pd) = false
  | [] => rfl
  | e :: r => by
    rw [List.map_cons]
    simp only [pd, PyData.hasDictAll, PyData.hasDict, pd_noDict r, Bool.or_self]
theorem pd_depth : ∀ prs : Mp, PyData.depthAll (prs.map pd) ≤ 1
  | [] => by decide
  | e :: r => by
    have := pd_depth r
    rw [List.map_cons]
    simp only [pd, PyData.depthAll, PyData.depth]
    omega
theorem pd_lay : ∀ {prs : Mp}, Short prs → PyData.canLayAll0 (prs.map pd) = true
  | [], _ => rfl
  | e :: r, h => by
    have hs : PyData.strOk e.1 = true := by
      unfold PyData.strOk
      rw [Array.all_eq_true_iff_forall_mem]
      intro c hc
      have := isNm_cps (h e List.mem_cons_self).1 c (Array.mem_toList_iff.mpr hc)
      exact decide_eq_true (by omega)
    rw [List.map_cons]
    simp only [pd, PyData.canLayAll0, PyData.canLay0, pd_lay (prs := r) fun x hx => h x (List.mem_cons_of_mem _ hx), hs, Bool.and_self]
theorem pd_leaves : ∀ {prs : Mp}, Short prs → PyData.leavesShortAll 100 (prs.map pd) = true
  | [], _ => rfl
  | e :: r, h => by
    obtain ⟨h1, h2⟩ := h e List.mem_cons_self
    have a : (e.1.cps.toList.all fun c => decide (c < 16 ^ 8)) = true := List.all_eq_true.mpr fun c hc => decide_eq_true (by have := isNm_cps h1 c hc; omega)
    have b : (PyData.shown (.int e.2)).length ≤ 100 := by
      have : (toString e.2).length ≤ 60 + 1 := int_text_length_le10 (by decide) h2
      have q := PyProof.Rows.int_text_len_1921 (small_log h2)
      show (Str.ofString (toString e.2)).length ≤ 100
      rw [PySem.ofString_length]
      omega
    rw [List.map_cons]
    simp only [pd, PyData.leavesShortAll, PyData.leavesShort, pd_leaves (prs := r) fun x hx => h x (List.mem_cons_of_mem _ hx), a, decide_eq_true b, Bool.and_self]
theorem pd_weight : ∀ {prs : Mp}, Short prs → PyData.weightAll (prs.map pd) ≤ 300 * prs.length
  | [], _ => by decide
  | e :: r, h => by
    have ih := pd_weight (prs := r) fun x hx => h x (List.mem_cons_of_mem _ hx)
    obtain ⟨h1, h2⟩ := h e List.mem_cons_self
    have a := isNm_len h1
    have b : (if e.2 == 0 then 0 else e.2.natAbs.log2 + 1) ≤ 200 := by
      split
      · decide
      · exact small_log2 h2
    rw [List.map_cons, List.length_cons]
    simp only [pd, PyData.weightAll, PyData.weight]
    omega
theorem pds_text {prs : Mp} (h : Short prs) (hl : prs.length ≤ 100) : (PyData.tuple (prs.map pd)).shown.length ≤ sizeLine := by
  have := PyData.shown_le 100 (by decide) (.tuple (prs.map pd)) (by simp only [PyData.leavesShort]; exact pd_leaves h)
  have w := pd_weight h
  simp only [PyData.weight] at this
  rw [sizeLine_eq]
  omega
theorem pds_showable {prs : Mp} (h : Short prs) : (PyData.tuple (prs.map pd)).showable = true := by simp only [PyData.showable]; exact pd_show h
theorem pds_noDict (prs : Mp) : (PyData.tuple (prs.map pd)).hasDict = false := by simp only [PyData.hasDict]; exact pd_noDict prs
theorem pds_depth (prs : Mp) : (PyData.tuple (prs.map pd)).depth ≤ 60 := by have := pd_depth prs; simp only [PyData.depth]; omega
theorem pds_shaped {prs : Mp} (h : Short prs) : SeqAt.shaped (.list (prs.map pd)) = true := by
  have := pd_depth prs
  unfold SeqAt.shaped
  simp only [PyData.canLay0, PyData.depth, pd_lay h, Bool.true_and]
  exact decide_eq_true (by omega)
theorem dp_pairs {K : PySem.W.Frag} {H : Hp} : ∀ {ts : List Addr} {prs : Mp}, Paired (fun (q : Addr) (e : Str × Int) => SqT K H q [.str e.1, .int e.2]) ts prs → DpAll K H (ts.map V.ref) (prs.map pd)
  | _, _, .nil => .nil
  | _, _, .cons h t => .cons (.tup h (.cons (.str _) (.cons (.int _) .nil))) (dp_pairs t)
theorem PairsAt.dp {K : PySem.W.Frag} {H : Hp} {t : Addr} {prs : Mp} (h : PairsAt K H t prs) : Dp K H (.ref t) (.tuple (prs.map pd)) := by
  obtain ⟨ts, h1, h2⟩ := h
  exact .tup h1 (dp_pairs h2)
section
variable {X : Cx}
theorem call_repr_bl : CallR X (.builtin "repr") (fun xs H Q => ∃ b, xs = [.bl b] ∧ Q (.str (if b then "True" else "False")) H) := by
  intro pins s σ H xs us Q I r h
  obtain ⟨b, rfl, q⟩ := h
  obtain ⟨u, rfl, e⟩ := vals1 r
  obtain rfl : u = Value.bool b := e
  refine PySem.P.repr_of_bool ⟨.str _, H, I.tok _, ⟨_, rfl⟩, ?_⟩
  have e : Str.ofString (if b = true then "True" else "False") = (if b = true then ("True" : Str) else "False") := by cases b <;> rfl
  first
    | exact q
    | (rw [e]; exact q)
    | (rw [← e] at q; exact q)
end
/-! tuples stay where a draw writes -/
theorem sqt_same {K : PySem.W.Frag} {H H' : Hp} {q : Addr} {xs : List V} (e : Same H H') (h : SqT K H q xs) : SqT K H' q xs := by
  rcases h with (h | ⟨o, h⟩) | h
  · exact .inl (.inl (e _ _ h))
  · exact .inl (.inr ⟨o, e _ _ h⟩)
  · exact .inr h
theorem Rnd.sqt {K : PySem.W.Frag} {H H' : Hp} {a : RA} {n : Nat} {q : Addr} {xs : List V} (R : Rnd H a n) (b : But a H H') (h : SqT K H q xs) : SqT K H' q xs := by
  obtain ⟨ns, ls, h1, h2, h3, _⟩ := R
  rcases h with (h | ⟨o, h⟩) | h
  · exact .inl (.inl (b _ _ h (ne_of h h1 (by intro z; cases z)) (ne_of h h3 (by intro z; cases z))))
  · exact .inl (.inr ⟨o, b _ _ h (ne_of h h1 (by intro z; cases z)) (ne_of h h3 (by intro z; cases z))⟩)
  · exact .inr h
/-- a tuple stays where something else is written -/
theorem sqt_upd {K : PySem.W.Frag} {H : Hp} {q p : Addr} {xs : List V} {o o' : HO} (hp : H p = some o) (nt : ∀ ys, o ≠ .tup ys) (nf : ∀ o2 ys, o ≠ .frz o2 ys) (h : SqT K H q xs) : SqT K (upd H p o') q xs := by
  rcases h with (h | ⟨o2, h⟩) | h
  · exact .inl (.inl (by rw [upd_ne (ne_of h hp (fun z => nt _ z.symm))]; exact h))
  · exact .inl (.inr ⟨o2, by rw [upd_ne (ne_of h hp (fun z => nf _ _ z.symm))]; exact h⟩)
  · exact .inr h
theorem keys_perm {ns ns' : List Str} {m m' : Mp} (g : Good ns m) (g' : Good ns' m') (e : Eqm m m') : (keys m).Perm (keys m') :=
  (List.perm_ext_iff_of_nodup g.nd g'.nd).mpr fun _ => e.mem
theorem srt_alike {m m' : Mp} (e : Eqm m m') (ys : List Str) : srt m ys = srt m' ys := by
  unfold srt
  exact List.map_congr_left fun y _ => by rw [e y]
theorem short_srt {ns : List Str} {m : Mp} (g : Good ns m) (h : ∀ z ∈ ns, isNm z) {ys : List Str} (p : ys.Perm (keys m)) : Short (srt m ys) := fun e he => g.short h e ((srt_perm g.nd p).mem_iff.mp he)
theorem srt_len (m : Mp) (ys : List Str) : (srt m ys).length = ys.length := by unfold srt; rw [List.length_map]
theorem kv_keys (m : Mp) : (kv m).map (·.1) = (keys m).map Sum.inr := by
  unfold kv keys
  rw [List.map_map, List.map_map]
  rfl
end SW
namespace XA
open PySem PySem.Spec PyProof.Rows L2 SW
theorem dpAll_of {K : PySem.W.Frag} {H : Hp} : ∀ {xs : List V} {ds : List PyData}, xs.length = ds.length → (∀ (i : Nat) (x : V) (d : PyData), xs[i]? = some x → ds[i]? = some d → Dp K H x d) → DpAll K H xs ds
  | [], [], _, _ => .nil
  | [], _ :: _, e, _ => by simp at e
  | _ :: _, [], e, _ => by simp at e
  | x :: xs, d :: ds, e, h => .cons (h 0 x d rfl rfl) (dpAll_of (by simpa using e) fun i y z hy hz => h (i + 1) y z hy hz)
/-- an event as data -/
def evD : List V → PyData
  | [.str s, .str k, .int v] => .tuple [.str s, .str k, .int v]
  | _ => .none
def logD (lg : List (List V)) : PyData := .list (lg.map evD)
def EvOk (vars : List Str) (lg : List (List V)) : Prop := ∀ x ∈ lg, ∃ k v, x = [.str "shown", .str k, .int v] ∧ k ∈ vars ∧ Small v
theorem log_dp {K : PySem.W.Frag} {H : Hp} {vars : List Str} {lg : List (List V)} (ok : EvOk vars lg) {l : Addr} {A : Lb → Addr} {f : Nat → Lb} (hl : H l = some (.lst (refs A f lg.length))) (h : ∀ (i : Nat) (x : List V), lg[i]? = some x → H (A (f i)) = some (.tup x)) : Dp K H (.ref l) (logD lg) := by
  refine .lst (SqL.of hl) (dpAll_of (by rw [refs_len, List.length_map]) fun i x d hx hd => ?_)
  have il : i < lg.length := by
    have := (List.getElem?_eq_some_iff.mp hx).1
    rw [refs_len] at this
    exact this
  rw [refs_at il] at hx
  cases hx
  have e : lg[i]? = some (lg[i]'il) := List.getElem?_eq_getElem il
  rw [List.getElem?_map, e] at hd
  obtain ⟨k, v, ex, _⟩ := ok _ (List.mem_of_getElem? e)
  have h2 := h i _ e
  rw [ex] at hd h2
  cases hd
  exact .tup (SqT.of h2) (.cons (.str _) (.cons (.str _) (.cons (.int _) .nil)))
section
variable {vars : List Str}
theorem ev_show (vn : ∀ k ∈ vars, isNm k) : ∀ {lg : List (List V)}, EvOk vars lg → PyData.showableAll (lg.map evD) = true
  | [], _ => rfl
  | x :: r, h => by
    obtain ⟨k, v, rfl, hk, hv⟩ := h x List.mem_cons_self
    rw [List.map_cons]
    simp only [evD, PyData.showableAll, PyData.showable, ev_show vn (lg := r) fun x hx => h x (List.mem_cons_of_mem _ hx), decide_eq_true (small_log hv), Bool.and_self]
theorem ev_noDict : ∀ {lg : List (List V)}, EvOk vars lg → PyData.hasDictAll (lg.map evD) = false
  | [], _ => rfl
  | x :: r, h => by
    obtain ⟨k, v, rfl, hk, hv⟩ := h x List.mem_cons_self
    rw [List.map_cons]
    simp only [evD, PyData.hasDictAll, PyData.hasDict, ev_noDict (lg := r) fun x hx => h x (List.mem_cons_of_mem _ hx), Bool.or_self]
theorem ev_depth : ∀ {lg : List (List V)}, EvOk vars lg → PyData.depthAll (lg.map evD) ≤ 1
  | [], _ => by decide
  | x :: r, h => by
    obtain ⟨k, v, rfl, hk, hv⟩ := h x List.mem_cons_self
    have := ev_depth (lg := r) fun x hx => h x (List.mem_cons_of_mem _ hx)
    rw [List.map_cons]
    simp only [evD, PyData.depthAll, PyData.depth]
    omega
theorem int_short {v : Int} (h2 : Small v) : (PyData.shown (.int v)).length ≤ 100 := by
  have : (toString v).length ≤ 60 + 1 := int_text_length_le10 (by decide) h2
  have q := PyProof.Rows.int_text_len_1921 (small_log h2)
  show (Str.ofString (toString v)).length ≤ 100
  rw [PySem.ofString_length]
  omega
theorem nm_leaf {k : Str} (h1 : isNm k) : (k.cps.toList.all fun c => decide (c < 16 ^ 8)) = true := List.all_eq_true.mpr fun c hc => decide_eq_true (by have := isNm_cps h1 c hc; omega)
theorem shown_leaf : (("shown" : Str).cps.toList.all fun c => decide (c < 16 ^ 8)) = true := by decide +kernel
theorem shown_size : ("shown" : Str).cps.size = 5 := by decide +kernel
theorem ev_leaves (vn : ∀ k ∈ vars, isNm k) : ∀ {lg : List (List V)}, EvOk vars lg → PyData.leavesShortAll 100 (lg.map evD) = true
  | [], _ => rfl
  | x :: r, h => by
    obtain ⟨k, v, rfl, hk, hv⟩ := h x List.mem_cons_self
    rw [List.map_cons]
    simp only [evD, PyData.leavesShortAll, PyData.leavesShort, ev_leaves vn (lg := r) fun x hx => h x (List.mem_cons_of_mem _ hx), nm_leaf (vn k hk), shown_leaf, decide_eq_true (int_short hv), Bool.and_self]
theorem int_weight {v : Int} (h2 : Small v) : (if v == 0 then 0 else v.natAbs.log2 + 1) ≤ 200 := by
  split
  · decide
  · exact small_log2 h2
theorem ev_weight (vn : ∀ k ∈ vars, isNm k) : ∀ {lg : List (List V)}, EvOk vars lg → PyData.weightAll (lg.map evD) ≤ 300 * lg.length
  | [], _ => by decide
  | x :: r, h => by
    obtain ⟨k, v, rfl, hk, hv⟩ := h x List.mem_cons_self
    have ih := ev_weight vn (lg := r) fun x hx => h x (List.mem_cons_of_mem _ hx)
    have a := isNm_len (vn k hk)
    have b := int_weight hv
    have c := shown_size
    rw [List.map_cons, List.length_cons]
    simp only [evD, PyData.weightAll, PyData.weight]
    omega
theorem log_text (vn : ∀ k ∈ vars, isNm k) {lg : List (List V)} (h : EvOk vars lg) (hl : lg.length ≤ 450) : (logD lg).showable = true ∧ (logD lg).hasDict = false ∧ (logD lg).depth ≤ 60 ∧ (logD lg).shown.length ≤ sizeLine := by
  refine ⟨by unfold logD; simp only [PyData.showable]; exact ev_show vn h, by unfold logD; simp only [PyData.hasDict]; exact ev_noDict h, by unfold logD; simp only [PyData.depth]; have := ev_depth h; omega, ?_⟩
  have := PyData.shown_le 100 (by decide) (logD lg) (by unfold logD; simp only [PyData.leavesShort]; exact ev_leaves vn h)
  have w := ev_weight vn h
  unfold logD at this ⊢
  simp only [PyData.weight] at this
  rw [sizeLine_eq]
  omega
/-- what repr asks of what is told of a token -/
theorem tok_text {k : Str} {o : Option Int} {u : Bool} (hk : isNm k) (ho : ∀ v, o = some v → Small v) : (PyData.tuple [.str k, oldD o, .bool u]).showable = true ∧ (PyData.tuple [.str k, oldD o, .bool u]).hasDict = false ∧ (PyData.tuple [.str k, oldD o, .bool u]).depth ≤ 60 ∧ (PyData.tuple [.str k, oldD o, .bool u]).shown.length ≤ sizeLine := by
  have a := isNm_len hk
  cases o with
  | none =>
    refine ⟨rfl, rfl, (by simp [oldD, PyData.depth, PyData.depthAll]), ?_⟩
    have := PyData.shown_le 100 (by decide) (PyData.tuple [.str k, oldD none, .bool u]) (by simp only [oldD, PyData.leavesShort, PyData.leavesShortAll, nm_leaf hk, Bool.and_self])
    simp only [oldD, PyData.weight, PyData.weightAll] at this ⊢
    rw [sizeLine_eq]
    omega
  | some v =>
    have hv := ho v rfl
    refine ⟨by simp only [oldD, PyData.showable, PyData.showableAll, decide_eq_true (small_log hv), Bool.and_self], rfl, (by simp [oldD, PyData.depth, PyData.depthAll]), ?_⟩
    have b := int_weight hv
    have := PyData.shown_le 100 (by decide) (PyData.tuple [.str k, oldD (some v), .bool u]) (by simp only [oldD, PyData.leavesShort, PyData.leavesShortAll, nm_leaf hk, decide_eq_true (int_short hv), Bool.and_self])
    simp only [oldD, PyData.weight, PyData.weightAll] at this ⊢
    rw [sizeLine_eq]
    omega
end
end XA

set_option Elab.async false
set_option linter.all false
set_option maxRecDepth 100000
set_option maxHeartbeats 2000000
/-! _law_all_right. -/
namespace XA
open PySem PySem.Spec PyProof.Rows L2 SW
abbrev sAllR : Stmt := top 86
abbrev nAllR : List Str := ["room", "world", "things", "context", "number", "due", "var", "token"]
theorem scAllR : FnScope nAllR ["room", "world", "things"] (defScope sAllR) := ⟨rfl, rfl, rfl, by decide +kernel, rfl, by decide +kernel, by decide +kernel⟩
/-- contexts are compared -/
structure EqK (P : Program) (w : World) (K : PySem.W.Frag) (mg : Str → Option Value) (base : Heap) (C : Addr) where
  fE : Addr
  dE : FuncData
  GE : FnOk P w K mg base CX0 1 fE dE ["self", "other"] (spEq K C)
  bE : Binds K dE ["self", "other"] []
  sE : PySem.W.findIn K (.ref C) "__eq__" = some (some (.ref fE))
  iE : PySem.W.isFn K (.ref fE) = true
  sN : PySem.W.findIn K (.ref C) "__ne__" = some (some (.builtin "object.__ne__"))
  ob : PySem.W.subIn K (.ref C) (.type "object") = some true
  nf : PySem.W.notFirst K C (.ref C) = true
  ty : ∀ (H : Hp) (a dx : Addr) (fs : List (Str × V)), H a = some (.ins C dx fs) → TyX K H (.ref a) (.ref C)
section
variable {G : Cl} {A : Lb → Addr} {L : LS} {M : RS} {U : TS} {H : Hp}
theorem All.ev_ (h : All G A L M U H) (i : Nat) (x : List V) (hj : L.lg[i]? = some x) : H (A (.ev i)) = some (.tup x) := by
  obtain ⟨o, e, rfl⟩ := h.get (l := .ev i) (P := fun o => o = .tup x) (by show L.lg[i]?.map _ = _; rw [hj]; rfl)
  exact e
theorem All.re_ (h : All G A L M U H) (i : Nat) (x : List V) (hj : M.lg[i]? = some x) : H (A (.re i)) = some (.tup x) := by
  obtain ⟨o, e, rfl⟩ := h.get (l := .re i) (P := fun o => o = .tup x) (by show M.lg[i]?.map _ = _; rw [hj]; rfl)
  exact e
theorem tvar_of {K : PySem.W.Frag} {T t q : Addr} {k : Str} {old : V} {u : Bool} {Q : VK} (TK : TkC K T) (h : TokAt T H t q k old u) (z : Q (.str k) H) : ∃ a C dx fs v, V.ref t = .ref a ∧ H a = some (.ins C dx fs) ∧ Cls K C ∧ NoAttr K C "variable" ∧ fs.lookup ("variable" : Str) = some v ∧ Q v H := by
  obtain ⟨dt, e⟩ := h
  exact ⟨t, T, dt, _, _, rfl, e, TK.cl, TK.nV, tfl_v q k old u, z⟩
theorem told_of {K : PySem.W.Frag} {T t q : Addr} {k : Str} {old : V} {u : Bool} {Q : VK} (TK : TkC K T) (h : TokAt T H t q k old u) (z : Q old H) : ∃ a C dx fs v, V.ref t = .ref a ∧ H a = some (.ins C dx fs) ∧ Cls K C ∧ NoAttr K C "old" ∧ fs.lookup ("old" : Str) = some v ∧ Q v H := by
  obtain ⟨dt, e⟩ := h
  exact ⟨t, T, dt, _, _, rfl, e, TK.cl, TK.nO, tfl_o q k old u, z⟩
theorem cbusy_of {K : PySem.W.Frag} {mg : Str → Option Value} {C p d : Addr} {m : Mp} {b : Bool} {Q : VK} (TX : TxC K mg C) (h : CtxB C H p d m b) (z : Q (.bl b) H) : ∃ a C dx fs v, V.ref p = .ref a ∧ H a = some (.ins C dx fs) ∧ Cls K C ∧ NoAttr K C "is_busy" ∧ fs.lookup ("is_busy" : Str) = some v ∧ Q v H := by
  obtain ⟨⟨dx, e⟩, _⟩ := h
  exact ⟨p, C, dx, _, _, rfl, e, TX.cl, TX.nB, flds_busy b d, z⟩
end
def spAllR (G : Cl) : Sp := fun vs H Q _ => ∃ (A : Lb → Addr) (L : LS) (M : RS) (U : TS), vs = [.ref (A .r), .ref (A .w), .ref (A .th)] ∧ All G A L M U H ∧ Mt G L M U ∧ L.cs.length ≤ 450 ∧ L.tk.length ≤ 450 ∧ L.lg.length ≤ 450 ∧ ∀ H', Same H H' → Q (.bl true) H'
section
variable {P : Program} {w : World} {K : PySem.W.Frag} {mg : Str → Option Value} {base : Heap} {CF W : Addr} {G : Cl}
theorem ok_allr {f : Addr} {oc kV doc pm ct cdv : Value} {od an : Option Addr} {osl : Array (Option Value)}
    (lk : K.lookup f = some ⟨oc, od, .func (PySem.W.fnOf "_law_all_right" "_law_all_right" (defArgs sAllR) (defBody sAllR) (defScope sAllR) .none kV doc pm an cdv ct), osl⟩) (hcd : PySem.W.codeIn K cdv "_law_all_right" = true)
    (Z : RKit P w K mg base G.C CF G.T G.R W) (EK : EqK P w K mg base G.C) (mR : mg "repr" = none) :
    BK.FnG P w K mg base 6 f (PySem.W.fnOf "_law_all_right" "_law_all_right" (defArgs sAllR) (defBody sAllR) (defScope sAllR) .none kV doc pm an cdv ct) ["room", "world", "things"] (spAllR G) := by
  refine BK.fng_of lk hcd scAllR (fun vs H Q E h => ?_) (fun A0 outer s H vs Q E gd hr h => ?_)
  · obtain ⟨A, L, M, U, rfl, _⟩ := h
    rfl
  · obtain ⟨A, L, M, U, rfl, al, mt, lc, lt, ll, k⟩ := h
    have hu := hu_of hr
    have hr0 : Room 0 _ := hr.mono (by decide)
    have hr1 : Room 1 _ := hr.mono (by decide)
    have hr2 : Room 2 _ := hr.mono (by decide)
    have gd' : (A0.deeper (envOfC "_law_all_right" (defScope sAllR) s.heap.objs.size f cdv)).guards = some [] := gd
    refine ⟨_, C8.pss_cut (ps_if (pt_cmpR op_ne (pe_callB (BK.call_reprD gd' hr0) (by rfl) mR boot_repr (pa_cons (pe_meth0 (pv 0) Z.RR.cl Z.mLo Z.GLo hr1 Z.bLo .nil pass0) pa_nil))
          (pe_callB (BK.call_reprD gd' hr0) (by rfl) mR boot_repr (pa_cons (pe_dget hu (pv 1) pe_str (fun _ _ => rfl)) pa_nil)) (nomark _)) (pss_one (ps_ret pe_bl)) pss_nil)
      (C8.pss_cut (ps_for PassesOwn.never rfl (pi_list (pe_dget hu (pv 2) pe_str (fun _ _ => rfl))) (pg_unl rfl (pgs_cons (pg_name (i := 3) scAllR.nd rfl (Or.inl rfl)) (pgs_cons (pg_name (i := 4) scAllR.nd rfl (Or.inl rfl)) pgs_nil)))
        (pss_cons (ps_set (i := 5) scAllR.nd rfl (Or.inr rfl) (pe_ix ix_list (pe_dget hu (pv 1) pe_str (fun _ _ => rfl)) (pv 4) (fun _ _ => rfl)))
        (C8.pss_cut (ps_if (pt_cmpR op_ne
            (pe_callB (BK.call_reprD gd' hr0) (by rfl) mR boot_repr (pa_cons (pe_meth0 (pv 3) Z.Z.T.cl Z.Z.mP Z.Z.GP hr1 Z.Z.bP .nil pass0) pa_nil))
            (pe_callB (BK.call_reprD gd' hr0) (by rfl) mR boot_repr (pa_cons (pe_tupleOf (by rfl) Z.mTu (pe_lc (own := [("var", 6)]) (g := gName 6) (tt := tYes) (te := tTup (tCons (tVar 6) (tCons (tDGet (tVar 5) (tVar 6)) tNil))) rfl scAllR.nd
              (pi_list (pe_callB (call_sortedD rfl) (by rfl) Z.mSo boot_sorted (pa_cons (pv 5) pa_nil)))
              (blkOk_by (N := nAllR) (sc := defScope sAllR) (by decide +kernel))
              (fun _ _ _ _ _ => pg_name (i := 6) scAllR.nd rfl (Or.inl rfl)) (fun _ _ _ _ _ => pts_nil)
              (fun _ _ _ _ _ => pe_tup (pa_cons (pv 6) (pa_cons (by exact pe_dget hu (pv 5) (pv 6) (fun _ _ => rfl)) pa_nil))))) pa_nil)) (nomark _))
          (pss_one (ps_ret pe_bl)) pss_nil)
        (C8.pss_cut (ps_if (pt_cmpR op_ne (pe_callB call_repr_bl (by rfl) mR boot_repr (pa_cons (pe_fld (pv 3) rfl) pa_nil)) (pe_callB call_repr_bl (by rfl) mR boot_repr (pa_cons (pe_cmpR op_in_seq (pv 4) (pe_dget hu (pv 1) pe_str (fun _ _ => rfl)) rfl) pa_nil)) (nomark _)) (pss_one (ps_ret pe_bl)) pss_nil)
        (pss_one (ps_if (PW.pt (pw_and (pt_cmpR op_eq (pv 4) (pe_dget hu (pv 1) pe_str (fun _ _ => rfl)) (nomark _)) (pw_and1 (pt_cmpR (op_ne_own EK.sN EK.ob EK.sE EK.iE EK.GE hr2 EK.bE pass0) (pe_fld (pv 0) rfl) (pv 3) (nomark _))))) (pss_one (ps_ret pe_bl)) pss_nil))))))
      (C8.pss_cut (ps_for PassesOwn.never rfl (pi_list (pe_dget hu (pv 2) pe_str (fun _ _ => rfl))) (pg_unl rfl (pgs_cons (pg_name (i := 7) scAllR.nd rfl (Or.inl rfl)) (pgs_cons (pg_name (i := 4) scAllR.nd rfl (Or.inl rfl)) pgs_nil)))
        (pss_cons (ps_set (i := 5) scAllR.nd rfl (Or.inr rfl) (pe_ix ix_list (pe_dget hu (pv 1) pe_str (fun _ _ => rfl)) (pv 4) (fun _ _ => rfl)))
        (pss_one (ps_if (pt_cmpR op_ne
            (pe_callB (BK.call_reprD gd' hr0) (by rfl) mR boot_repr (pa_cons (pe_tup (pa_cons (pe_fld (pv 7) rfl) (pa_cons (pe_fld (pv 7) rfl) (pa_cons (pe_fld (pv 7) rfl) pa_nil)))) pa_nil))
            (pe_callB (BK.call_reprD gd' hr0) (by rfl) mR boot_repr (pa_cons (pe_tup (pa_cons (pe_ix ix_tup (pv 5) pe_int (fun _ _ => rfl)) (pa_cons (pe_ix ix_list (pe_op op_cat (pe_ix ix_tup (pv 5) pe_int (fun _ _ => rfl)) (pe_lst (pa_cons pe_non pa_nil))) pe_int (fun _ _ => rfl)) (pa_cons (pe_ix ix_tup (pv 5) pe_int (fun _ _ => rfl)) pa_nil)))) pa_nil)) (nomark _)) (pss_one (ps_ret pe_bl)) pss_nil))))
      (pss_one (ps_ret pe_bl)))), ?_⟩
    have two : (2 : Nat) ≤ sizeLine := by decide
    have three : (3 : Nat) ≤ sizeLine := by decide
    -- the log
    refine ⟨fun σ H1 => σ = [some (.ref (A .r)), some (.ref (A .w)), some (.ref (A .th)), none, none, none, none, none] ∧ Same H H1, ?_, ?_⟩
    · refine ⟨_, rfl, at_room al.room ⟨A .r, (A .le, _), A (.p M.now), rfl, al.room, fun l H1 nl el s1 => ?_⟩⟩
      have al1 := al.same s1
      have okL : EvOk G.vars L.lg := mt.ev
      have okM : EvOk G.vars M.lg := by rw [← mt.lg]; exact mt.ev
      obtain ⟨t1, t2, t3, t4⟩ := log_text mt.vn okM (by rw [← mt.lg]; exact ll)
      obtain ⟨t5, t6, t7, t8⟩ := log_text mt.vn okL ll
      have g := (wk_l A L.now) ▸ DGet.k (k := Sum.inr "log") al1.w_
      refine ⟨l, logD M.lg, rfl, log_dp okM el (al1.re_), t1, t2, t3, t4, _, rfl, A .w, _, rfl, g, A .ll, logD L.lg, rfl, log_dp okL al1.ll_ (al1.ev_), t5, t6, t7, t8, ?_⟩
      rw [mt.lg]
      exact ⟨rfl, _, rfl, iteF' (by simp) ⟨rfl, s1⟩⟩
    rintro σ H1 ⟨rfl, s1⟩
    -- contexts
    refine ⟨fun σ H2 => (∃ v3 v4 v5, σ = [some (.ref (A .r)), some (.ref (A .w)), some (.ref (A .th)), v3, v4, v5, none, none]) ∧ Same H H2, ?_, ?_⟩
    · have al1 := al.same s1
      have g := (hk_c A) ▸ DGet.k (k := Sum.inr "contexts") al1.th_
      refine ⟨_, rfl, A .th, _, rfl, g, A .hc, rfl, ⟨_, SqL.of al1.hc_⟩, for_list (K := K) (a := A .hc) (xs := refs A .c U.nc.length) (fun i σ H2 => (∃ v3 v4 v5, σ = [some (.ref (A .r)), some (.ref (A .w)), some (.ref (A .th)), v3, v4, v5, none, none]) ∧ Same H H2)
        ⟨⟨none, none, none, rfl⟩, s1⟩ (fun i σ H2 _ ⟨_, s2⟩ => SqL.of (al.same s2).hc_) ?_ (fun σ H2 h => h)⟩
      rintro i y σ H2 hi ⟨⟨v3, v4, v5, rfl⟩, s2⟩
      have il0 : i < U.nc.length := by
        have := (List.getElem?_eq_some_iff.mp hi).1
        rw [refs_len] at this
        exact this
      rw [refs_at il0] at hi
      cases hi
      have il : i < L.cs.length := by rw [← mt.ncl]; exact il0
      have hnc : U.nc[i]? = some (i, i) := by rw [mt.nc]; exact pair_at il
      obtain ⟨m, mr, b, hm, hmr, em, gm, gr, hb⟩ := mt.both il
      have mll : m.length ≤ 3 := Nat.le_trans gm.len mt.v3
      have mrll : mr.length ≤ 3 := Nat.le_trans gr.len mt.v3
      have al2 := al.same s2
      have g1 := (wk_c A L.now) ▸ DGet.k (k := Sum.inr "contexts") al2.w_
      refine ⟨A (.c i), _, rfl, SqL.of (al2.c_ hnc), rfl, _, _, rfl, _, _, rfl, rfl, ?_⟩
      refine ⟨_, rfl, A .w, _, rfl, g1, _, rfl, A .cl, _, (i : Int), _, rfl, rfl, SqL.of al2.cl_, d_at il, ?_⟩
      refine ⟨fun σ H3 => σ = [some (.ref (A .r)), some (.ref (A .w)), some (.ref (A .th)), some (.ref (A (.p i))), some (.int (i : Int)), some (.ref (A (.d i))), none, none] ∧ Same H H3, ?_, ?_⟩
      · refine ⟨_, rfl, at_ctx (al2.ctx hmr).at ⟨A (.p i), A (.e i), mr, rfl, (al2.ctx hmr).at, by omega, fun ys t H3 s3 nt hp hs pr => ?_⟩⟩
        have ysl : ys.length ≤ 3 := by
          have := hp.length_eq
          unfold keys at this
          rw [List.length_map] at this
          omega
        have al3 := al2.same s3
        have d3 := al3.d_ hm
        refine ⟨t, _, rfl, pr.dp, pds_showable (short_srt gr mt.vn hp), pds_noDict _, pds_depth _, pds_text (short_srt gr mt.vn hp) (by rw [srt_len]; omega), ?_⟩
        refine ⟨_, rfl, A (.d i), kv m, keys m, rfl, .inl d3, kv_keys m, (by unfold keys; rw [List.length_map]; omega), fun zs' l hp' hs' nl => ?_⟩
        have ez : ys = zs' := sorted_one (hp.trans ((keys_perm gm gr em).symm.trans hp'.symm)) hs hs'
        subst ez
        have s4 := s3.trans (same_new (o := .lst (ys.map V.str)) nl)
        refine ⟨l, rfl, ⟨_, SqL.of upd_same⟩, fun D nD => ?_⟩
        refine lc_list (K := K) (a := l) (xs := ys.map V.str) (fun j H4 => Same (upd H3 l (.lst (ys.map V.str))) H4 ∧ ∃ ts : List Addr, H4 D = some (.lst (ts.map V.ref)) ∧ Paired (fun (q : Addr) (e : Str × Int) => SqT K H4 q [.str e.1, .int e.2]) ts (srt m (ys.take j)))
          ⟨same_new nD, [], upd_same, .nil⟩ (fun j H4 _ ⟨s5, _⟩ => s5.seq (SqL.of upd_same)) ?_ ?_
        · rintro j y H4 hj ⟨s5, ts, e4, pq⟩
          obtain ⟨z, hz, rfl⟩ := str_at hj
          have jl : j < ys.length := (List.getElem?_eq_some_iff.mp hz).1
          have hzk : z ∈ keys m := hp'.mem_iff.mp (List.mem_of_getElem? hz)
          obtain ⟨v, hv⟩ := Option.isSome_iff_exists.mp (mem_keys.mp hzk)
          refine ⟨rfl, ?_⟩
          refine tyes ?_
          have du4 := s5 _ _ (s4 _ _ (al2.d_ hm))
          have g := DGet.k (H := H4) (k := Sum.inr z) du4
          rw [valV_kv, hv] at g
          refine ⟨_, rfl, _, rfl, _, rfl, A (.d i), .int v, rfl, g, two, fun t' nt' => ?_⟩
          have nDt : D ≠ t' := ne_of_none e4 nt'
          refine ⟨_, (upd_ne nDt).trans e4, small1000 (by rw [List.length_map, pair_len pq, srt_len, List.length_take]; omega), Same.new (Same.new s5 (s5.free nt')) nD, ts ++ [t'], ?_, ?_⟩
          · rw [upd_same, List.map_append]
            rfl
          · have et : srt m (ys.take (j + 1)) = srt m (ys.take j) ++ [(z, v)] := by
              unfold srt
              rw [List.take_add_one, hz, List.map_append]
              simp only [Option.toList, List.map_cons, List.map_nil, hv, Option.getD]
            rw [et]
            refine Paired.snoc (L2.Paired.mapP pq fun q e h => ?_) (SqT.of (by rw [upd_ne nDt.symm, upd_same]))
            exact sqt_upd ((upd_ne nDt).trans e4) (by intro _ z; cases z) (by intro _ _ z; cases z) (SW.sqt_same (same_new nt') h)
        · rintro H4 ⟨s5, ts, e4, pq⟩
          rw [List.length_map, List.take_length] at pq
          refine Or.inl ⟨D, _, rfl, SqL.of e4, fun t2 nt2 => ?_⟩
          have pr2 : PairsAt K (upd H4 t2 (.tup (ts.map V.ref))) t2 (srt m ys) := ⟨ts, SqT.of upd_same, L2.Paired.mapP pq fun q e h => SW.sqt_same (same_new nt2) h⟩
          refine ⟨t2, _, rfl, pr2.dp, pds_showable (short_srt gm mt.vn hp'), pds_noDict _, pds_depth _, pds_text (short_srt gm mt.vn hp') (by rw [srt_len]; omega), ?_⟩
          refine ⟨rfl, _, rfl, ?_⟩
          refine ite2 (fun h => ?_) (fun _ => ?_)
          · rw [srt_alike em] at h
            simp at h
          · exact ⟨rfl, s2.trans ((s4.trans s5).trans (same_new nt2))⟩
      rintro σ H3 ⟨rfl, s3⟩
      have al3 := al.same s3
      refine ⟨fun σ H4 => σ = [some (.ref (A .r)), some (.ref (A .w)), some (.ref (A .th)), some (.ref (A (.p i))), some (.int (i : Int)), some (.ref (A (.d i))), none, none] ∧ H4 = H3, ?_, ?_⟩
      · have gb := (wk_b A L.now) ▸ DGet.k (k := Sum.inr "busy") al3.w_
        refine ⟨_, rfl, cbusy_of Z.Z.T (al3.ctx hmr) ⟨_, rfl, _, rfl, _, rfl, A .w, _, rfl, gb, A .bl, _, rfl, .inl (SqL.of al3.bl_), rfl, flat_nat _, ⟨_, rfl, ?_⟩⟩⟩
        rw [inV_nat, hb]
        exact ⟨rfl, _, rfl, iteF' (by simp) ⟨rfl, rfl⟩⟩
      rintro σ H4 ⟨rfl, rfl⟩
      have g2 := (wk_n A L.now) ▸ DGet.k (k := Sum.inr "now") al3.w_
      refine ⟨_, rfl, _, rfl, A .w, _, rfl, g2, rfl, _, rfl, ite2 (fun hi => ?_) (fun _ => ⟨⟨_, _, _, rfl⟩, s3⟩)⟩
      have hin : i = L.now := by
        have : (V.int (i : Int)) = V.int (L.now : Int) := by simpa using hi
        injection this with this
        omega
      obtain ⟨⟨dx, ex⟩, ed⟩ := id (al3.ctx hmr)
      have epi : A (.p M.now) = A (.p i) := by rw [← mt.now, hin]
      obtain ⟨dr, bk, er, _⟩ := al3.room
      rw [epi] at er
      refine ⟨_, rfl, A .r, G.R, dr, _, _, rfl, er, Z.RR.cl, Z.RR.nN, rfl_n bk _ _, ?_⟩
      refine ⟨_, rfl, A (.p i), dx, _, _, rfl, ex, EK.ty _ _ _ _ ex, EK.nf, A (.p i), A (.e i), mr, _, rfl, (al3.ctx hmr).at, .inl ⟨A (.p i), A (.e i), mr, rfl, (al3.ctx hmr).at, _, rfl, _, rfl, ?_⟩⟩
      rw [(eqB_iff gr gr).mpr fun _ => rfl]
      exact iteF' rfl ⟨⟨_, _, _, rfl⟩, s3⟩
    rintro σ H2 ⟨⟨v3, v4, v5, rfl⟩, s2⟩
    -- tokens
    refine ⟨fun σ H3 => Same H H3, ?_, fun σ H3 s3 => k H3 s3⟩
    have al2 := al.same s2
    have g := (hk_t A) ▸ DGet.k (k := Sum.inr "tokens") al2.th_
    refine ⟨_, rfl, A .th, _, rfl, g, A .ht, rfl, ⟨_, SqL.of al2.ht_⟩, for_list (K := K) (a := A .ht) (xs := refs A .k U.nt.length) (fun i σ H3 => (∃ v3 v4 v5 v7, σ = [some (.ref (A .r)), some (.ref (A .w)), some (.ref (A .th)), v3, v4, v5, none, v7]) ∧ Same H H3)
      ⟨⟨v3, v4, v5, none, rfl⟩, s2⟩ (fun i σ H3 _ ⟨_, s3⟩ => SqL.of (al.same s3).ht_) ?_ (fun σ H3 h => h.2)⟩
    rintro i y σ H3 hi ⟨⟨w3, w4, w5, w7, rfl⟩, s3⟩
    have il0 : i < U.nt.length := by
      have := (List.getElem?_eq_some_iff.mp hi).1
      rw [refs_len] at this
      exact this
    rw [refs_at il0] at hi
    cases hi
    have il : i < L.tk.length := by rw [← mt.ntl]; exact il0
    have hnt : U.nt[i]? = some (i, i) := by rw [mt.nt]; exact pair_at il
    obtain ⟨x, hx⟩ : ∃ x, L.tk[i]? = some x := ⟨_, List.getElem?_eq_getElem il⟩
    have hx' : M.tk[i]? = some x := by rw [← mt.tk]; exact hx
    obtain ⟨tc1, tc2, tc3⟩ := mt.tc x (List.mem_of_getElem? hx)
    obtain ⟨t1, t2, t3, t4⟩ := tok_text (u := x.used) (mt.vn _ tc2) tc3
    have al3 := al.same s3
    have g1 := (wk_t A L.now) ▸ DGet.k (k := Sum.inr "tokens") al3.w_
    obtain ⟨dt, et⟩ := al3.rtok hx'
    refine ⟨A (.k i), _, rfl, SqL.of (al3.k_ hnt), rfl, _, _, rfl, _, _, rfl, rfl, ?_⟩
    refine ⟨_, rfl, A .w, _, rfl, g1, _, rfl, A .tl, _, (i : Int), _, rfl, rfl, SqL.of al3.tl_, q_at il, ?_⟩
    refine ⟨_, rfl, A (.t i), G.T, dt, _, _, rfl, et, Z.TK.cl, Z.TK.nV, tfl_v _ _ _ _, _, rfl, A (.t i), G.T, dt, _, _, rfl, et, Z.TK.cl, Z.TK.nO, tfl_o _ _ _ _, _, rfl, A (.t i), G.T, dt, _, _, rfl, et, Z.TK.cl, Z.TK.nU, tfl_u _ _ _ _, three, fun t nt => ?_⟩
    have s4 := same_new (o := .tup [.str x.var, oldV x.old, .bl x.used]) nt
    have e4 : (upd H3 t (.tup [.str x.var, oldV x.old, .bl x.used])) t = some (.tup [.str x.var, oldV x.old, .bl x.used]) := upd_same
    have al4 := al3.same s4
    generalize (upd H3 t (.tup [.str x.var, oldV x.old, .bl x.used])) = H4 at s4 e4 al4 ⊢
    refine ⟨t, _, rfl, told_dp (o := x.old) e4, t1, t2, t3, t4, ?_⟩
    have q4 := al4.q_ hx
    have o4 := al4.ol_ hx
    refine ⟨_, rfl, A (.q i), _, 1, _, rfl, rfl, SqT.of q4, at_of (j := 1) rfl rfl, _, rfl, A (.q i), _, 2, _, rfl, rfl, SqT.of q4, at_of (j := 2) rfl rfl, (by show 1 ≤ sizeLine; rw [sizeLine_eq]; decide), fun n1 nn1 => ?_⟩
    have s5 := same_new (o := .lst [.non]) nn1
    refine ⟨A (.ol i), n1, oldL x.old, [.non], rfl, rfl, s5 _ _ o4, upd_same, (by cases x.old <;> (rw [sizeLine_eq]; simp [oldL])), fun n2 nn2 => ?_⟩
    have s6 := same_new (o := .lst (oldL x.old ++ [.non])) nn2
    refine ⟨n2, oldL x.old ++ [.non], 0, oldV x.old, rfl, rfl, SqL.of upd_same, at_of (j := 0) rfl (by cases x.old <;> rfl), ?_⟩
    have s456 := (s4.trans s5).trans s6
    refine ⟨_, rfl, A (.q i), _, 3, _, rfl, rfl, SqT.of ((s5.trans s6) _ _ q4), at_of (j := 3) rfl rfl, three, fun t7 nt7 => ?_⟩
    have s7 := same_new (o := .tup [.str x.var, oldV x.old, .bl x.used]) nt7
    refine ⟨t7, _, rfl, told_dp (o := x.old) upd_same, t1, t2, t3, t4, rfl, _, rfl, iteF' (by simp) ⟨⟨_, _, _, _, rfl⟩, s3.trans (s456.trans s7)⟩⟩
end
end XA

set_option Elab.async false
set_option linter.all false
set_option maxRecDepth 100000
set_option maxHeartbeats 2000000
/-! A lambda within a lambda that is called where no repr runs around; a context that is entered already. -/
namespace LnX
open PySem PySem.Spec PySem.Calls PyProof.Rows L2
section
variable {X : Cx} {pins pinsZ : List (Addr × Obj)} {σ σZ : L2.St} {H H2 HZ : Hp} {s s2 sZ : Shared} {scope : Scope} {names : List Str} {CXg : CXT} {Eg : XK} {Ng : List Str} {qg : Str} {sg : Scope} {g f c2 P2 : Addr} {cdg : Value} {body : Expr} {k : Nat} {pn : List (Addr × Obj)} {xe : Value → Shared → Prop} {W : WX} {E : XK} {tb : TE} {Q : VK}
theorem act_runG (I : Inv X pins σ H s) (L : LamG X.N X.env.scope scope names) (lm : Lam X s H body scope names f c2 P2) (un : Un (frs X.stack) [] H H2 s.heap s2.heap) (tk : Takes ((Zg CXg X Ng qg sg g cdg s2 H2 Eg).tr pn xe) W) (hW : ∀ cls d σ' H', E cls d H' → W cls d σ' H')
    (hr : Room (k + 1) (X.A.deeper (envOfC qg sg s2.heap.objs.size g cdg))) (hbody : ∀ (A : Around) (outer : List Env) (s : Shared) (H : Hp), A.guards = X.A.guards → Room k (A.deeper (LamX.lamEnv X scope s.heap.objs.size f c2)) → PE (LamX.lamCx X A outer s H E scope f c2) body tb)
    (IZ : Inv ((Zg CXg X Ng qg sg g cdg s2 H2 Eg).tr pn xe) pinsZ σZ HZ sZ) (hco : HZ c2 = some (CodeP c2 P2 (X.env.qual ++ "<lambda>"))) (ht : tb σ HZ Q) :
    wpAny (model X.prog X.w) (X.A.deeper (envOfC qg sg s2.heap.objs.size g cdg)) (call (.ref f) []) (EP ((Zg CXg X Ng qg sg g cdg s2 H2 Eg).tr pn xe) pinsZ σZ Q) xe sZ := by
  have u2 : Un (frs X.stack) [] H2 HZ s2.heap sZ.heap := IZ.base
  have rc := run_lam (outer := envOfC qg sg s2.heap.objs.size g cdg :: X.stack) (E := E) I L lm IZ.env0 hr (un.trans u2) hco (fun hr2 => hbody _ _ sZ HZ rfl hr2) ht
  have hx : Passes (L2.CX X.prog X.w) ((Zg CXg X Ng qg sg g cdg s2 H2 Eg).tr pn xe) E := passes_call tk hW
  refine wpAny_call (codeAny_mono rc fun r s3 hq => ?_)
  cases r with
  | error e => exact hx pinsZ σZ HZ sZ e s3 IZ hq
  | ok fl =>
    cases fl with
    | ret u => exact IZ.after hq
    | next => exact False.elim hq
    | brk => exact False.elim hq
    | cont => exact False.elim hq
/-- a(*r, **m) -/
theorem actSG {i j l : Nat} {a r m : Str} {p1 p2 p3 p4 p5 p6 : Pos} (I : Inv X pins σ H s) (L : LamG X.N X.env.scope scope names) (lm : Lam X s H body scope names f c2 P2) (un : Un (frs X.stack) [] H H2 s.heap s2.heap) (tk : Takes ((Zg CXg X Ng qg sg g cdg s2 H2 Eg).tr pn xe) W) (hW : ∀ cls d σ' H', E cls d H' → W cls d σ' H')
    (hr : Room (k + 1) (X.A.deeper (envOfC qg sg s2.heap.objs.size g cdg))) (hbody : ∀ (A : Around) (outer : List Env) (s : Shared) (H : Hp), A.guards = X.A.guards → Room k (A.deeper (LamX.lamEnv X scope s.heap.objs.size f c2)) → PE (LamX.lamCx X A outer s H E scope f c2) body tb)
    (hN : Ng[i]? = some a) (hv : Vis sg a) (hN2 : Ng[j]? = some r) (hv2 : Vis sg r) (hN3 : Ng[l]? = some m) (hv3 : Vis sg m)
    (hd : (a == ("__debug__" : Str)) = false := by decide) (hcd : (a == ("__classdict__" : Str)) = false := by decide) (hd2 : (r == ("__debug__" : Str)) = false := by decide) (hcd2 : (r == ("__classdict__" : Str)) = false := by decide) (hd3 : (m == ("__debug__" : Str)) = false := by decide) (hcd3 : (m == ("__classdict__" : Str)) = false := by decide) :
    PE ((Zg CXg X Ng qg sg g cdg s2 H2 Eg).tr pn xe) (.Call (.Name a p1) [.Starred (.Name r p2) p3] [⟨none, .Name m p4, p5⟩] p6)
      (fun σZ HZ Q => σZ[i]? = some (some (.ref f)) ∧ (∃ tr, σZ[j]? = some (some (.ref tr)) ∧ HZ tr = some (.tup [])) ∧ (∃ dm, σZ[l]? = some (some (.ref dm)) ∧ HZ dm = some (.dK [])) ∧ HZ c2 = some (CodeP c2 P2 (X.env.qual ++ "<lambda>")) ∧ tb σ HZ Q) := by
  refine ⟨fun pinsZ sZ σZ HZ Q IZ h => ?_⟩
  obtain ⟨hs, ⟨tr, hs2, ht2⟩, ⟨dm, hs3, ht3⟩, hc, ht⟩ := h
  refine wpAny_Call_Name_kw (thn ((pe_var (pos := p1) (i := i) hN hv hd hcd).run pinsZ sZ σZ HZ (fun v H1 => v = .ref f ∧ H1 = HZ) IZ ⟨.ref f, hs, rfl, rfl⟩) fun u s1 hu => ?_)
  obtain ⟨v, H1, I1, r1, rfl, rfl⟩ := hu
  obtain rfl : u = Value.ref f := r1
  obtain ⟨nsys, _⟩ := empty_dk I1 ht3
  refine call_rest (a := dm) nsys (thn ((pe_var (pos := p2) (i := j) hN2 hv2 hd2 hcd2).run pinsZ s1 σZ H1 (fun v H => v = .ref tr ∧ H = H1) I1 ⟨.ref tr, hs2, rfl, rfl⟩) fun u s3 hu => ?_)
  obtain ⟨v, H3, I3, r3, rfl, rfl⟩ := hu
  obtain rfl : u = Value.ref tr := r3
  obtain ⟨n, en⟩ : ∃ n, n = s3.heap.objs.size := ⟨_, rfl⟩
  obtain ⟨o, eo⟩ : ∃ o : Obj, o = { cls := .type "dict", data := .dict #[] } := ⟨_, rfl⟩
  have kp : ∀ b ob, s3.heap.get? b = some ob → (s3.heap.push o).get? b = some ob := fun b ob e => Heap.get?_push_of_some _ e
  have I4 : Inv ((Zg CXg X Ng qg sg g cdg s2 H2 Eg).tr pn xe) (pinsZ ++ [(n, o)]) σZ H3 { s3 with heap := s3.heap.push o } := (I3.kept (t' := s3.toks) kp).pins_of fun p hp => by
    rcases List.mem_append.mp hp with z | z
    · obtain ⟨a1, a2⟩ := I3.pin p (List.mem_append_right _ z)
      exact ⟨kp _ _ a1, a2⟩
    · rw [List.mem_singleton.mp z, en]
      exact ⟨Heap.get?_push_size _ (by rw [eo]; rfl), I3.hok.fresh (Nat.le_refl _), Nat.ne_of_gt I3.lt, I3.nofs (Nat.le_refl _), fun v z => by rw [eo] at z; cases z⟩
  have nd : ∀ {pinsq : List (Addr × Obj)} {σq : L2.St} {Hq : Hp} {sq : Shared}, Inv ((Zg CXg X Ng qg sg g cdg s2 H2 Eg).tr pn xe) (pinsZ ++ [(n, o)]) σq Hq sq → EmptyD sq.heap s3.heap.objs.size := fun {pinsq σq Hq sq} Iq => by
    have e := (Iq.pin (n, o) (List.mem_append_right _ (List.mem_append_right _ List.mem_cons_self))).1
    rw [← en]
    exact ⟨o, 0, e, by rw [eo], by rw [eo]⟩
  rw [← eo]
  refine ⟨StX.env0_big I3.env0, thn ((pe_var (pos := p4) (i := l) hN3 hv3 hd3 hcd3).run _ _ σZ H3 (fun v H => v = .ref dm ∧ H = H3) I4 ⟨.ref dm, hs3, rfl, rfl⟩) fun u s5 hu => ?_⟩
  obtain ⟨v, H5, I5, r5, rfl, rfl⟩ := hu
  obtain rfl : u = Value.ref dm := r5
  refine ⟨rfl, (empty_dk I5 ht3).2, nd (pinsq := pinsZ) I5, L2.star_tup I5 (.inl (.inl ht2)) fun us s6 I6 rv => ?_⟩
  cases rv
  have I7 := I6.unpinned
  exact ⟨rfl, nd (pinsq := pinsZ) I6, fn_at lm (un.trans I7.base), act_runG I L lm un tk hW hr hbody I7 hc ht⟩
end
section
variable {X : Cx}
theorem pe_lamRG {T0 : List (Addr × Str)} {TT : (XK → Hp → VK → Prop) → V → V → Hp → VK → XK → Prop} {C g : Addr} {mt a r m qg pA pB : Str} {k : Nat} {pg : Arguments} {bg : List Stmt} {sg : Scope} {dV kV doc pm cdv ct oc : Value} {an od : Option Addr} {osl : Array (Option Value)} {Ng names : List Str} {params : Arguments} {body o e1 : Expr} {scope : Scope}
    {to te : TE} {t : Addr → Addr → XK → TE} {E : XK} {lpos pos apos : Pos} {pl : Sem Bool} (ho : PE X o to) (c : Cls X.K C) (hm : Meth X.K C mt g) (he1 : PE X e1 te) (lk : X.K.lookup g = some ⟨oc, od, .func (PySem.W.fnOf mt qg pg bg sg dV kV doc pm an cdv ct), osl⟩) (hcg : PySem.W.codeIn X.K cdv qg = true)
    (hb : ∀ u1 u2 u3, bindArgs (PySem.W.fnOf mt qg pg bg sg dV kV doc pm an cdv ct) ⟨[u1, u2, u3], []⟩ = (newTuple [] >>= fun t => (alloc ({ cls := .type "dict", data := .dict #[] } : Obj) : Sem Addr) >>= fun d => pure [(pA, u1), (pB, u2), (a, u3), (r, t), (m, Value.ref d)]))
    (Sg : FnScope Ng [pA, pB, a, r, m] sg) (hG : GivesR X Ng qg sg g cdv bg a r m (X.env.qual ++ "<lambda>") TT) (hr : Room (k + 2) X.A) (hx : Passes (L2.CX X.prog X.w) X E) (F : Form X params body scope names)
    (hbody : ∀ (A : Around) (outer : List Env) (s : Shared) (H : Hp) (E : XK) (f c2 P2 : Addr), A.guards = X.A.guards → Room k (A.deeper (LamX.lamEnv X scope s.heap.objs.size f c2)) → PE (LamX.lamCx X A outer s H E scope f c2) body (t c2 P2 E))
    (hst : starEach [e1, .Lambda params body scope lpos] X.env = [(false, eval e1 X.env), (false, eval (.Lambda params body scope lpos) X.env)] := by rfl)
    (ht : eval (.Call (.Attribute o mt apos) [e1, .Lambda params body scope lpos] [] pos) X.env = (do
      let ov ← eval o X.env
      standAt apos.atName
      let (f, first) ← holding [ov] (getMethod ov mt pl)
      callWith pos f first (backTo pos (starEach [e1, .Lambda params body scope lpos] X.env)) (backToKw pos (keywordEach [] X.env))) := by rfl)
    (hd : (a == ("__debug__" : Str)) = false := by decide) (hcd : (a == ("__classdict__" : Str)) = false := by decide) (hd2 : (r == ("__debug__" : Str)) = false := by decide) (hcd2 : (r == ("__classdict__" : Str)) = false := by decide) (hd3 : (m == ("__debug__" : Str)) = false := by decide) (hcd3 : (m == ("__classdict__" : Str)) = false := by decide)
    (hv : Vis sg a := by decide) (hv2 : Vis sg r := by decide) (hv3 : Vis sg m := by decide) (n2 : Ng[2]? = some a := by rfl) (n3 : Ng[3]? = some r := by rfl) (n4 : Ng[4]? = some m := by rfl) :
    PE X (.Call (.Attribute o mt apos) [e1, .Lambda params body scope lpos] [] pos) (tLR X T0 C mt TT E to te t) := by
  refine ⟨fun pins s σ H Q I h => ?_⟩
  refine PySem.W.methodCall_KW (pl := pl) (thn (ho.run pins s σ H _ I h) fun u s1 hu => ?_) ht
  obtain ⟨ov, H1, I1, r1, o, dx, fs, rfl, eo, lo, q1⟩ := hu
  obtain rfl : u = Value.ref o := r1
  refine getmeth_ok I1 eo c hm lo ?_
  refine PySem.W.callWith_K (first := [.ref o]) (h₀ := X.base) I.ok.mod.kin hm.kp ?_ (by rw [hst]; rfl) (by rfl)
  show wpAny _ _ (spliced (backTo pos (starEach [e1, .Lambda params body scope lpos] X.env))) _ _ s1
  rw [hst]
  refine Calls.spliced_cons (thn (he1.run pins s1 σ H1 _ I1 q1) fun u2 s2 hu2 => ?_)
  obtain ⟨cv, H2, I2, r2, hM, h2⟩ := hu2
  obtain ⟨T, cc, PP, mk, hm2, ok⟩ := maker_of I2 hM
  refine Calls.spliced_cons (F.make I2 mk hm2 ok fun f c2 P2 H3 s3 T1 I3 eN ok1 lm hin => ?_)
  refine Calls.spliced_nil ⟨I3.kIn, ?_⟩
  have after := h2 c2 P2 H3 eN ⟨T1, ok1⟩ ⟨T1, ok1, lm.co, hin⟩
  have rc : codeAny (model X.prog X.w) X.A (.call (.ref g) ⟨[.ref o, u2, .ref f], []⟩) (CR (L2.CX X.prog X.w) X.stack X.prog X.w H3 s3 Q E) s3 := by
    refine run_rest (N := Ng) (v1 := .ref o) (v2 := cv) (v3 := .ref f) StX.cxUp lk hcg Sg hr I3.env0 (hb _ _ _) (.cons rfl (.cons r2 (.cons rfl .nil))) fun s4 H4 tr dm un n1 nn ne eH hr2 => ?_
    have c4 : H4 c2 = some (CodeP c2 P2 (X.env.qual ++ "<lambda>")) := by rw [eH, upd_ne (ne_of_none lm.co nn), upd_ne (ne_of_none lm.co n1)]; exact lm.co
    have t4 : H4 tr = some (.tup []) := by rw [eH, upd_ne ne.symm, upd_same]
    have d4 : H4 dm = some (.dK []) := by rw [eH, upd_same]
    refine hG f c2 P2 s4 H4 (.ref o) cv tr dm Q E (fun E2 H' Q' => t c2 P2 E2 σ H' Q') (fun W pn xe E2 p1 p2 p3 p4 p5 p6 tk hW => actSG (i := 2) (j := 3) (l := 4) I3 F.sc lm un tk hW hr2 (fun A outer s H hgd hr3 => hbody A outer s H E2 f c2 P2 hgd hr3) n2 hv n3 hv2 n4 hv3 hd hcd hd2 hcd2 hd3 hcd3) c4 t4 d4 ?_
    rw [eH]
    exact after tr dm n1 nn ne
  refine wpAny_call (codeAny_mono rc fun r s5 hq => ?_)
  cases r with
  | error e => exact hx pins σ H3 s3 e s5 I3 hq
  | ok fl =>
    cases fl with
    | ret u => exact I3.after hq
    | next => exact False.elim hq
    | brk => exact False.elim hq
    | cont => exact False.elim hq
end
end LnX
namespace SW
open PySem PySem.Spec PyProof.Rows L2
/-- what run makes of a context that is entered already -/
def TRunB (W C R CF : Addr) : (XK → Hp → VK → Prop) → V → V → Hp → VK → XK → Prop := fun _ v1 v2 H Q E => ∃ r p d le q m, v1 = .ref r ∧ v2 = .ref p ∧ RoomAt R H r le q ∧ CtxB C H p d m true ∧
  ∀ z H', Same H H' → H' z = none → E (.ref CF) (some z) (upd H' z (.xd [("word", .str "entered")]))
section
variable {X : Cx} {R C CF T W : Addr}
theorem gives_runB {g fW fE fX : Addr} {cdg : Value} {q : Str} {dW dE dX : FuncData} (RR : RoC X.K R) (WW : WnC X.K W)
    (mW : Meth X.K R "within" fW) (GW : FnOk X.prog X.w X.K X.mg X.base CX0 3 fW dW ["self", "context"] (spWithin W)) (bW : Binds X.K dW ["self", "context"] [])
    (mm : WiX.Mgr X.K W fE fX) (GE : FnOk X.prog X.w X.K X.mg X.base (L2.CX X.prog X.w) 3 fE dE ["self"] (spEnter W C R CF)) (bE : Binds X.K dE ["self"] [])
    (GX : FnOk X.prog X.w X.K X.mg X.base C8.CX0 1 fX dX ["self", "kind", "value", "trace"] (spExit W C R)) (GQ : WiX.FnQ X.prog X.w X.K X.mg X.base 1 fX dX ["self", "kind", "value", "trace"] (spExit W C R)) (bX : Binds X.K dX ["self", "kind", "value", "trace"] [])
    (hr : Room 4 X.A) : LnX.GivesR X ["self", "context", "deed", "rest", "more"] "Room.run" (defScope sRun) g cdg (defBody sRun) "deed" "rest" "more" q (TRunB W C R CF) := by
  intro f c2 P2 s2 H2 v1 v2 tr dm Q E tl act hc htr hdm h
  have hr3 : Room 3 (X.A.deeper (envOfC "Room.run" (defScope sRun) s2.heap.objs.size g cdg)) := hr.deeper _
  have hr1 : Room 1 (X.A.deeper (envOfC "Room.run" (defScope sRun) s2.heap.objs.size g cdg)) := hr3.mono (by decide)
  refine ⟨_, pss_one (WiX.ps_with (X := LnX.Zg (L2.CX X.prog X.w) X ["self", "context", "deed", "rest", "more"] "Room.run" (defScope sRun) g cdg s2 H2 E) (E := E) (W := fun cls d σ H => E cls d H)
    (tb := fun W D σ H => ∃ Ech : XK, (∀ cls d σ' H', Ech cls d H' → W cls d σ' H') ∧ σ[2]? = some (some (.ref f)) ∧ (∃ tr, σ[3]? = some (some (.ref tr)) ∧ H tr = some (.tup [])) ∧ (∃ dm, σ[4]? = some (some (.ref dm)) ∧ H dm = some (.dK [])) ∧ H c2 = some (LnX.CodeP c2 P2 q) ∧ tl Ech H D.rt)
    rfl rfl rfl mm (pe_meth (pv 0) RR.cl mW GW hr3 bW .nil pass0 (pa_cons (pv 1) pa_nil)) GE hr3 bE (passes_call (takes_of rfl rfl rfl rfl) (fun _ _ _ _ h => h)) GX hr1 GQ hr1 bX (takes_of rfl rfl rfl rfl) (fun W pn xe tk => ?_)), ?_⟩
  · refine ⟨fun pins s' σ H' D I h' => ?_⟩
    obtain ⟨Ech, hW, h1⟩ := h'
    exact (pss_one (ps_ret (act W pn xe Ech _ _ _ _ _ _ tk hW))).run pins s' σ H' D I h1
  · obtain ⟨r, p, d, le, q0, m, rfl, rfl, R0, c0, k⟩ := h
    obtain ⟨dr, bk, er, el⟩ := id R0
    refine ⟨_, rfl, r, dr, _, rfl, er, rlook bk le q0 (by decide +kernel) (by decide +kernel) (by decide +kernel), _, rfl, r, p, rfl, fun x H3 nx wx s3 => ?_⟩
    obtain ⟨dx, ex⟩ := id wx
    exact ⟨x, dx, _, rfl, ex, x, r, p, d, le, q0, m, true, .non, rfl, wx, R0.fr (Fr.of (l := []) s3) (by simp) (by simp), c0.fr (Fr.of (l := []) s3) (by simp) (by simp), fun z => Bool.noConfusion z, fun _ z nz => k z H3 s3 nz⟩
end
section
variable {X : Cx} {R C CF T W : Addr} {k : Nat} {T0 : List (Addr × Str)} {params : Arguments} {body : Expr} {scope : Scope} {names : List Str} {t : Addr → Addr → XK → TE} {p lpos pos : Pos}
/-- o.run(e, lambda) -/
theorem pe_runLG {o e1 : Expr} {to te : TE} {E : XK} {apos : Pos} {pl : Sem Bool} (Z : RKit X.prog X.w X.K X.mg X.base C CF T R W) (ho : PE X o to) (he1 : PE X e1 te) (hr : Room (k + 6) X.A) (hx : Passes (L2.CX X.prog X.w) X E) (F : LnX.Form X params body scope names)
    (hbody : ∀ (A : Around) (outer : List Env) (s : Shared) (H : Hp) (E : XK) (f c2 P2 : Addr), A.guards = X.A.guards → Room (k + 4) (A.deeper (LamX.lamEnv X scope s.heap.objs.size f c2)) → PE (LamX.lamCx X A outer s H E scope f c2) body (t c2 P2 E))
    (hst : starEach [e1, .Lambda params body scope lpos] X.env = [(false, eval e1 X.env), (false, eval (.Lambda params body scope lpos) X.env)] := by rfl)
    (ht : eval (.Call (.Attribute o "run" apos) [e1, .Lambda params body scope lpos] [] pos) X.env = (do
      let ov ← eval o X.env
      standAt apos.atName
      let (f, first) ← holding [ov] (getMethod ov "run" pl)
      callWith pos f first (backTo pos (starEach [e1, .Lambda params body scope lpos] X.env)) (backToKw pos (keywordEach [] X.env))) := by rfl) :
    PE X (.Call (.Attribute o "run" apos) [e1, .Lambda params body scope lpos] [] pos) (LnX.tLR X T0 R "run" (TRun W C R) E to te t) :=
  LnX.pe_lamRG (T0 := T0) (Ng := ["self", "context", "deed", "rest", "more"]) (pA := "self") (pB := "context") (a := "deed") (r := "rest") (m := "more") ho Z.RR.cl Z.mRu he1 Z.lkR Z.hcR (fun _ _ _ => rfl) scRun
    (gives_run Z.RR Z.WW Z.mWi Z.GWi Z.bWi Z.mm Z.GEn Z.bEn Z.GEx Z.GEq Z.bEx (hr.mono (by omega))) hr hx F hbody hst ht (hv := Or.inl rfl) (hv2 := Or.inl rfl) (hv3 := Or.inl rfl)
theorem pe_runQG {o e1 : Expr} {to te : TE} {E : XK} {apos : Pos} {pl : Sem Bool} (Z : RKit X.prog X.w X.K X.mg X.base C CF T R W) (ho : PE X o to) (he1 : PE X e1 te) (hr : Room (k + 6) X.A) (hx : Passes (L2.CX X.prog X.w) X E) (F : LnX.Form X params body scope names)
    (hbody : ∀ (A : Around) (outer : List Env) (s : Shared) (H : Hp) (E : XK) (f c2 P2 : Addr), A.guards = X.A.guards → Room (k + 4) (A.deeper (LamX.lamEnv X scope s.heap.objs.size f c2)) → PE (LamX.lamCx X A outer s H E scope f c2) body (t c2 P2 E))
    (hst : starEach [e1, .Lambda params body scope lpos] X.env = [(false, eval e1 X.env), (false, eval (.Lambda params body scope lpos) X.env)] := by rfl)
    (ht : eval (.Call (.Attribute o "run" apos) [e1, .Lambda params body scope lpos] [] pos) X.env = (do
      let ov ← eval o X.env
      standAt apos.atName
      let (f, first) ← holding [ov] (getMethod ov "run" pl)
      callWith pos f first (backTo pos (starEach [e1, .Lambda params body scope lpos] X.env)) (backToKw pos (keywordEach [] X.env))) := by rfl) :
    PE X (.Call (.Attribute o "run" apos) [e1, .Lambda params body scope lpos] [] pos) (tLRq X.env.code X.env.qual X.base X.mg T0 R (TRun W C R) E to te t) :=
  pe_runLG (T0 := T0) Z ho he1 hr hx F hbody hst ht
/-- o.run(e, lambda) -/
theorem pe_runLB {o e1 : Expr} {to te : TE} {E : XK} {apos : Pos} {pl : Sem Bool} (Z : RKit X.prog X.w X.K X.mg X.base C CF T R W) (ho : PE X o to) (he1 : PE X e1 te) (hr : Room (k + 6) X.A) (hx : Passes (L2.CX X.prog X.w) X E) (F : LnX.Form X params body scope names)
    (hbody : ∀ (A : Around) (outer : List Env) (s : Shared) (H : Hp) (E : XK) (f c2 P2 : Addr), Room (k + 4) (A.deeper (LamX.lamEnv X scope s.heap.objs.size f c2)) → PE (LamX.lamCx X A outer s H E scope f c2) body (t c2 P2 E))
    (hst : starEach [e1, .Lambda params body scope lpos] X.env = [(false, eval e1 X.env), (false, eval (.Lambda params body scope lpos) X.env)] := by rfl)
    (ht : eval (.Call (.Attribute o "run" apos) [e1, .Lambda params body scope lpos] [] pos) X.env = (do
      let ov ← eval o X.env
      standAt apos.atName
      let (f, first) ← holding [ov] (getMethod ov "run" pl)
      callWith pos f first (backTo pos (starEach [e1, .Lambda params body scope lpos] X.env)) (backToKw pos (keywordEach [] X.env))) := by rfl) :
    PE X (.Call (.Attribute o "run" apos) [e1, .Lambda params body scope lpos] [] pos) (LnX.tLR X T0 R "run" (TRunB W C R CF) E to te t) :=
  LnX.pe_lamR (T0 := T0) (Ng := ["self", "context", "deed", "rest", "more"]) (pA := "self") (pB := "context") (a := "deed") (r := "rest") (m := "more") ho Z.RR.cl Z.mRu he1 Z.lkR Z.hcR (fun _ _ _ => rfl) scRun
    (gives_runB Z.RR Z.WW Z.mWi Z.GWi Z.bWi Z.mm Z.GEn Z.bEn Z.GEx Z.GEq Z.bEx (hr.mono (by omega))) hr hx F hbody hst ht (hv := Or.inl rfl) (hv2 := Or.inl rfl) (hv3 := Or.inl rfl)
theorem pe_runQB {o e1 : Expr} {to te : TE} {E : XK} {apos : Pos} {pl : Sem Bool} (Z : RKit X.prog X.w X.K X.mg X.base C CF T R W) (ho : PE X o to) (he1 : PE X e1 te) (hr : Room (k + 6) X.A) (hx : Passes (L2.CX X.prog X.w) X E) (F : LnX.Form X params body scope names)
    (hbody : ∀ (A : Around) (outer : List Env) (s : Shared) (H : Hp) (E : XK) (f c2 P2 : Addr), Room (k + 4) (A.deeper (LamX.lamEnv X scope s.heap.objs.size f c2)) → PE (LamX.lamCx X A outer s H E scope f c2) body (t c2 P2 E))
    (hst : starEach [e1, .Lambda params body scope lpos] X.env = [(false, eval e1 X.env), (false, eval (.Lambda params body scope lpos) X.env)] := by rfl)
    (ht : eval (.Call (.Attribute o "run" apos) [e1, .Lambda params body scope lpos] [] pos) X.env = (do
      let ov ← eval o X.env
      standAt apos.atName
      let (f, first) ← holding [ov] (getMethod ov "run" pl)
      callWith pos f first (backTo pos (starEach [e1, .Lambda params body scope lpos] X.env)) (backToKw pos (keywordEach [] X.env))) := by rfl) :
    PE X (.Call (.Attribute o "run" apos) [e1, .Lambda params body scope lpos] [] pos) (tLRq X.env.code X.env.qual X.base X.mg T0 R (TRunB W C R CF) E to te t) :=
  pe_runLB (T0 := T0) Z ho he1 hr hx F hbody hst ht
end
end SW

set_option Elab.async false
set_option linter.all false
set_option maxRecDepth 100000
set_option maxHeartbeats 2000000
/-! _law_within: promises, the agreement behind entering and leaving. -/
namespace SW
open PySem PySem.Spec PyProof.Rows L2
theorem rk_room (c l : Addr) (n : Nat) (rm : Int) : valV (rk c l n rm) (.inr "room") = some (.int rm) := by with_unfolding_all rfl
theorem rk_setR (c l : Addr) (n : Nat) (rm r' : Int) : putK (rk c l n rm) (.inr "room") (.int r') = rk c l n r' := by with_unfolding_all rfl
theorem rnd_room {H : Hp} {a : RA} {n : Nat} (R : Rnd H a n) : DGet H a.s (.str "room") (some (.int a.r)) := by
  obtain ⟨ns, ls, h1, _⟩ := R
  have := DGet.k (k := Sum.inr "room") h1
  rw [rk_room] at this
  exact this
theorem rnd_setR {H : Hp} {a : RA} {n : Nat} (R : Rnd H a n) (r : Int) : ∃ H', DPut H a.s (.str "room") (.int r) H' ∧ Rnd H' (a.rm r) n ∧ But a H H' := by
  obtain ⟨ns, ls, h1, h2, h3, e1, e2, e3, e4, e5, e6⟩ := R
  have := DPut.k (k := Sum.inr "room") (v := .int r) h1 (small1000 (by show 4 ≤ 1000; decide))
  rw [rk_setR] at this
  refine ⟨_, this, ⟨ns, ls, upd_same, ?_, ?_, e1, e2, e3, e4, e5, e6⟩, fun b o e n1 _ => ?_⟩
  · show (upd H a.s _) a.c = _
    rw [upd_ne e5]
    exact h2
  · show (upd H a.s _) a.l = _
    rw [upd_ne (ne_of h3 h1 (by intro z; cases z))]
    exact h3
  · rw [upd_ne n1]
    exact e
end SW
namespace XA
open PySem PySem.Spec PyProof.Rows L2 SW
section
variable {G : Cl} {A A' A2 : Lb → Addr} {L L' L2 : LS} {M M' M2 : RS} {U U' U2 : TS} {H H' H2 : Hp} {a a1 a2 : RA} {n n' n1 n2 m1 m2 : Nat} {T0 : List (Addr × Str)}
theorem Sy.rm (h : Sy G a T0 A L M U H n) {r : Int} (R : Rnd H' (a.rm r) n') (b : But a H H') : Sy G (a.rm r) T0 A L M U H' n' := ⟨h.al.but h.ap b, R, h.ap, tabs_but h.rn b h.tb⟩
/-- a context is entered -/
theorem Mt.enter {i : Nat} {m : Mp} {b : Bool} (h : Mt G L M U) (hi : M.cs[i]? = some (m, b)) (hn : i ∉ L.busy) : Mt G { L with busy := L.busy ++ [i], now := i } { M with now := i, cs := M.cs.set i (m, true) } U := by
  have il := (List.getElem?_eq_some_iff.mp hi).1
  have il' : i < L.cs.length := by rw [h.len]; exact il
  refine { h with len := by rw [List.length_set]; exact h.len, now := rfl, nw := il', eqm := fun j m' x' e1 e2 => ?_, bs := fun j hj => ?_, bn := ?_ }
  · rcases set_cases e2 with ⟨z, rfl⟩ | ⟨z, q⟩
    · obtain ⟨q1, q2, q3, _⟩ := h.eqm j m' (m, b) e1 (by rw [z]; exact hi)
      exact ⟨q1, q2, q3, (decide_eq_true (by rw [z]; simp)).symm⟩
    · obtain ⟨q1, q2, q3, q4⟩ := h.eqm j m' x' e1 q
      refine ⟨q1, q2, q3, ?_⟩
      rw [q4]
      refine decide_eq_decide.mpr ⟨fun w => List.mem_append_left _ w, fun w => ?_⟩
      rcases List.mem_append.mp w with w | w
      · exact w
      · exact absurd (List.mem_singleton.mp w) z
  · rcases List.mem_append.mp hj with w | w
    · exact h.bs j w
    · rw [List.mem_singleton.mp w]
      exact il'
  · exact List.nodup_append.mpr ⟨h.bn, (by simp), fun x hx y hy => (by rw [List.mem_singleton.mp hy]; intro z; exact hn (z ▸ hx))⟩
/-- and left -/
theorem Mt.leave {i k : Nat} {m : Mp} {b : Bool} {bs : List Nat} (h : Mt G L M U) (hb : L.busy = bs ++ [i]) (hi : M.cs[i]? = some (m, b)) (hk : k < L.cs.length) : Mt G { L with busy := bs, now := k } { M with now := k, cs := M.cs.set i (m, false) } U := by
  have il := (List.getElem?_eq_some_iff.mp hi).1
  have nd : (bs ++ [i]).Nodup := by rw [← hb]; exact h.bn
  have ni : i ∉ bs := fun z => (List.nodup_append.mp nd).2.2 i z i (List.mem_singleton.mpr rfl) rfl
  refine { h with len := by rw [List.length_set]; exact h.len, now := rfl, nw := hk, eqm := fun j m' x' e1 e2 => ?_, bs := fun j hj => h.bs j (by rw [hb]; exact List.mem_append_left _ hj), bn := (List.nodup_append.mp nd).1 }
  rcases set_cases e2 with ⟨z, rfl⟩ | ⟨z, q⟩
  · obtain ⟨q1, q2, q3, _⟩ := h.eqm j m' (m, b) e1 (by rw [z]; exact hi)
    exact ⟨q1, q2, q3, (decide_eq_false (by rw [z]; exact ni)).symm⟩
  · obtain ⟨q1, q2, q3, q4⟩ := h.eqm j m' x' e1 q
    refine ⟨q1, q2, q3, ?_⟩
    rw [q4, hb]
    refine decide_eq_decide.mpr ⟨fun w => ?_, fun w => List.mem_append_left _ w⟩
    rcases List.mem_append.mp w with w | w
    · exact w
    · exact absurd (List.mem_singleton.mp w) z
theorem Mt.busy_le (h : Mt G L M U) : L.busy.length ≤ L.cs.length := by
  have := nodup_le (zs := List.range L.cs.length) h.bn fun i hi => List.mem_range.mpr (h.bs i hi)
  rw [List.length_range] at this
  exact this
end
abbrev sWith : Stmt := top 88
abbrev nWith : List Str := ["state", "room", "world", "things", "deep", "context", "number", "elder", "word", "found"]
abbrev qWith : Str := "_law_within.<locals>.<lambda>"
theorem scWith : FnScope nWith ["state", "room", "world", "things", "deep"] (defScope sWith) := ⟨rfl, rfl, rfl, by decide +kernel, rfl, by decide +kernel, by decide +kernel⟩
abbrev sDeeds : Stmt := top 89
abbrev nDeeds : List Str := ["state", "room", "world", "things", "deep", "turn", "is_right"]
theorem scDeeds : FnScope nDeeds ["state", "room", "world", "things", "deep"] (defScope sDeeds) := ⟨rfl, rfl, rfl, by decide +kernel, rfl, by decide +kernel, by decide +kernel⟩
abbrev scOutW : Scope := { kind := .function, names := [("context", .free), ("room", .free)], isGenerator := false, isCoroutine := false }
/-- what the walk asks of the counts -/
structure Bd (a : RA) (L : LS) (n : Nat) (e : Int) : Prop where
  r : 0 ≤ a.r
  n : (n : Int) + 40 * a.r ≤ 900000 + e
  c : (L.cs.length : Int) + a.r ≤ 380
  k : (L.tk.length : Int) + a.r ≤ 380
  l : (L.lg.length : Int) + a.r ≤ 380
def spDeeds (G : Cl) (T0 : List (Addr × Str)) (d : Nat) : Sp := fun vs H Q _ => ∃ (a : RA) (A : Lb → Addr) (L : LS) (M : RS) (U : TS) (n : Nat), vs = [.ref a.s, .ref (A .r), .ref (A .w), .ref (A .th), .int (d : Int)] ∧ Sy G a T0 A L M U H n ∧ Mt G L M U ∧ Bd a L n (10 * d) ∧
  ∀ (A' : Lb → Addr) (L' : LS) (M' : RS) (U' : TS) (n' : Nat) (H' : Hp) (r' : Int), St G a (a.rm r') T0 A L M U H A' L' M' U' H' n' (a.r - r').toNat → r' ≤ a.r → (d : Int) ≤ r' + 9 → (n' : Int) + 40 * r' ≤ n + 40 * a.r + 1 → Q (.bl true) H'
def spWith (G : Cl) (T0 : List (Addr × Str)) (d : Nat) : Sp := fun vs H Q _ => d < 8 ∧ ∃ (a : RA) (A : Lb → Addr) (L : LS) (M : RS) (U : TS) (n : Nat), vs = [.ref a.s, .ref (A .r), .ref (A .w), .ref (A .th), .int (d : Int)] ∧ Sy G a T0 A L M U H n ∧ Mt G L M U ∧ Bd a L n (10 * d + 5) ∧
  ∀ (A' : Lb → Addr) (L' : LS) (M' : RS) (U' : TS) (n' : Nat) (H' : Hp) (r' : Int), St G a (a.rm r') T0 A L M U H A' L' M' U' H' n' (a.r - r').toNat → r' ≤ a.r → (d : Int) + 1 ≤ r' + 9 → (n' : Int) + 40 * r' ≤ n + 40 * a.r + 2 → Q (.bl true) H'
/-- room.run(context, lambda at=0: None) of a context that is entered already -/
abbrev tRunN (code : Value) (qual : Str) (base : Heap) (mg : Str → Option Value) (T0 : List (Addr × Str)) (W R C CF : Addr) (E : XK) : TE :=
  tLRq code qual base mg T0 R (TRunB W C R CF) E (tVar 1) (tVar 5) (fun _ _ _ => tC .non)
section
variable {P : Program} {w : World} {K : PySem.W.Frag} {mg : Str → Option Value} {base : Heap} {CF W : Addr} {G : Cl}
theorem ok_with {f c Pt : Addr} {oc kV doc pm ct : Value} {od an : Option Addr} {osl : Array (Option Value)} {d kk : Nat}
    (lk : K.lookup f = some ⟨oc, od, .func (PySem.W.fnOf "_law_within" "_law_within" (defArgs sWith) (defBody sWith) (defScope sWith) .none kV doc pm an (.ref c) ct), osl⟩) (hcd : PySem.W.codeIn K (.ref c) "_law_within" = true)
    {T0 : List (Addr × Str)} (hT1 : (Pt, qWith) ∈ T0) (TB : LamX.TabB base mg c Pt) (Z : RKit P w K mg base G.C CF G.T G.R W)
    {fO fEn fEx fDs : Addr} {dO dEn dEx dDs : FuncData} (hk : 20 ≤ kk)
    (GO : FnOk P w K mg base CX0 3 fO dO ["state", "some"] spOfL) (bO : Binds K dO ["state", "some"] []) (gO : mg "_law_of" = some (.ref fO)) (kO : PySem.W.keepIn K (.ref fO) = true)
    (GE : FnOk P w K mg base CX0 1 fEn dEn ["world", "context"] (spEntered G)) (bE : Binds K dEn ["world", "context"] []) (gE : mg "_law_entered" = some (.ref fEn)) (kE : PySem.W.keepIn K (.ref fEn) = true)
    (GX : FnOk P w K mg base CX0 1 fEx dEx ["world", "elder"] (spExited G)) (bX : Binds K dEx ["world", "elder"] []) (gX : mg "_law_exited" = some (.ref fEx)) (kX : PySem.W.keepIn K (.ref fEx) = true)
    (GD : BK.FnG P w K mg base kk fDs dDs ["state", "room", "world", "things", "deep"] (spDeeds G T0 (d + 1))) (bD : Binds K dDs ["state", "room", "world", "things", "deep"] []) (gD : mg "_law_deeds" = some (.ref fDs)) (kD : PySem.W.keepIn K (.ref fDs) = true) :
    BK.FnG P w K mg base (kk + 8) f (PySem.W.fnOf "_law_within" "_law_within" (defArgs sWith) (defBody sWith) (defScope sWith) .none kV doc pm an (.ref c) ct) ["state", "room", "world", "things", "deep"] (spWith G T0 d) := by
  refine BK.fng_of lk hcd scWith (fun vs H Q E h => ?_) (fun A0 outer s H vs Q E gd hr h => ?_)
  · obtain ⟨_, a, A, L, M, U, n, rfl, _⟩ := h
    rfl
  · obtain ⟨hd8, a, A, L, M, U, n, rfl, sy, mt, bd, k⟩ := h
    have hu := hu_of hr
    have hr1 : Room 1 _ := hr.mono (by omega)
    have hr3 : Room 3 _ := hr.mono (by omega)
    have hr13 : Room (11 + 2) _ := hr.mono (by omega)
    have hrk : Room (kk + 6) _ := hr.mono (by omega)
    refine ⟨_, C8.pss_cut (ps_asg (pe_call GO hr3 rfl gO kO bO .nil pass0 (pa_cons (pv 0) (pa_cons (pe_dget hu (pv 3) pe_str (fun _ _ => rfl)) pa_nil))) (pg_unl rfl (pgs_cons (pg_name (i := 5) scWith.nd rfl (Or.inr rfl)) (pgs_cons (pg_name (i := 6) scWith.nd rfl (Or.inl rfl)) pgs_nil))))
      (C8.pss_cut (ps_par (i := 7) (j := 8) rfl scWith.nd rfl rfl (by decide) rfl rfl (pa_cons (pe_dget hu (pv 2) pe_str (fun _ _ => rfl)) (pa_cons (pe_call GE hr1 rfl gE kE bE .nil pass0 (pa_cons (pv 2) (pa_cons (pv 6) pa_nil))) pa_nil)) (by rfl))
      (pss_cons (ps_if (pt_cmpR op_ne (pv 8) pe_str (nomark _)) (pss_one (ps_ret (pe_cmpR op_eq (pe_fails (T0 := T0) (k := 11) (t := fun c2 P2 E => tRunN (.ref c2) (qWith ++ ".<locals>.") base mg T0 W G.R G.C CF E) Z rfl hr13 (LnX.form0 (LnX.lamG_by (N := nWith) (sc := defScope sWith) (by decide +kernel)) rfl (fun _ _ _ _ _ => rfl))
            (fun A outer s H E f c2 P2 hrl => by
              exact pe_runQB (k := 4) (T0 := T0) (E := E) (t := fun _ _ E2 => tC .non) Z (pv 1) (pv 5) (hrl.mono (by decide)) (passes_call (takes_of rfl rfl rfl rfl) (fun _ _ _ _ h => h))
                (LnX.formD (a0 := "at") (LnX.lamG_by (N := nWith) (sc := scOutW) (by decide +kernel)) rfl rfl (fun s Q E h => wpAny_Constant_int (h _ _)) (fun _ _ _ _ _ _ => ⟨_, rfl, fun _ => rfl⟩))
                (fun A outer s H E f c2 P2 hrl => pe_non))) (pv 8) (nomark _)))) pss_nil)
      (C8.pss_cut (ps_set (i := 9) scWith.nd rfl (Or.inl rfl) (by
          exact pe_runQG (k := kk) (T0 := T0) (E := WiX.NoE) (t := fun _ _ _ => tCall (spDeeds G T0 (d + 1)) [] E0 (tCons (tVar 0) (tCons (tVar 1) (tCons (tVar 2) (tCons (tVar 3) (tCons (tOp (rI0 fun i j => .int (i + j)) (tVar 4) (tC (.int 1))) tNil)))))) Z (pv 1) (pv 5) hrk (passesN _) (LnX.form0 (LnX.lamG_by (N := nWith) (sc := defScope sWith) (by decide +kernel)) rfl (fun _ _ _ _ _ => rfl))
            (fun A outer s H E f c2 P2 hgd hrl => BK.pe_callG GD (hgd.trans gd) (hrl.mono (by omega)) rfl gD kD bD (pa_cons (pv 0) (pa_cons (pv 1) (pa_cons (pv 2) (pa_cons (pv 3) (pa_cons (pe_op op_add (pv 4) pe_int) pa_nil))))))))
      (pss_cons (ps_expr (pe_call GX hr1 rfl gX kX bX .nil pass0 (pa_cons (pv 2) (pa_cons (pv 7) pa_nil))))
      (pss_one (ps_ret (pv 9))))))), ?_⟩
    have two : (2 : Nat) ≤ sizeLine := by decide
    have hin : (Pt, ("_law_within.<locals>." : Str) ++ "<lambda>") ∈ T0 := hT1
    have b1 := bd.r
    have b2 := bd.n
    have b3 := bd.c
    have hn60 : n + 60 ≤ 1000000 := by omega
    -- context, number
    refine ⟨fun σ H1 => ∃ i, i < L.cs.length ∧ σ = [some (.ref a.s), some (.ref (A .r)), some (.ref (A .w)), some (.ref (A .th)), some (.int (d : Int)), some (.ref (A (.p i))), some (.int (i : Int)), none, none, none] ∧ Sy G a T0 A L M U H1 (n + 1) ∧ Gx G a A L M U H A L M U H1, ?_, ?_⟩
    · have gc := (hk_c A) ▸ DGet.k (k := Sum.inr "contexts") sy.al.th_
      have pos := mt.nw
      refine ⟨_, rfl, _, rfl, A .th, _, rfl, gc, a, n, A .hc, _, rfl, sy.rn, hn60, sy.al.hc_, (sy.ap .hc rfl).1, (sy.ap .hc rfl).2.1, (fun z => by
        have := congrArg List.length z
        rw [refs_len, mt.ncl, List.length_nil] at this
        omega), (by rw [refs_len, mt.ncl]; omega), fun i x H1 hx R1 b1 => ?_⟩
      have il0 : i < U.nc.length := by
        have := (List.getElem?_eq_some_iff.mp hx).1
        rw [refs_len] at this
        exact this
      rw [refs_at il0] at hx
      cases hx
      have sy1 := sy.but R1 b1
      have il : i < L.cs.length := by rw [← mt.ncl]; exact il0
      have hk := sy1.al.c_ (j := i) (x := (i, i)) (by rw [mt.nc]; exact pair_at il)
      exact ⟨A (.c i), _, rfl, SqL.of hk, rfl, _, _, rfl, _, _, rfl, rfl, i, il, rfl, sy1, Gx.but b1⟩
    rintro σ H1 ⟨i, il, rfl, sy1, gx1⟩
    -- elder, word
    refine ⟨fun σ H2 => σ = [some (.ref a.s), some (.ref (A .r)), some (.ref (A .w)), some (.ref (A .th)), some (.int (d : Int)), some (.ref (A (.p i))), some (.int (i : Int)), some (.int (L.now : Int)), some (.str (lent L i).2), none] ∧ All G A (lent L i).1 M U H2 ∧ Go G A L M U H1 A (lent L i).1 M U H2, ?_, ?_⟩
    · have g2 := (wk_n A L.now) ▸ DGet.k (k := Sum.inr "now") sy1.al.w_
      have := mt.busy_le
      exact ⟨_, rfl, A .w, _, rfl, g2, _, rfl, _, rfl, A, L, M, U, i, rfl, sy1.al, by omega, fun H2 al2 go2 => ⟨_, _, rfl, rfl, al2, go2⟩⟩
    rintro σ H2 ⟨rfl, al2, go2⟩
    obtain ⟨m, mr, b, hm, hmr, em, gm, gr, hbb⟩ := mt.both il
    by_cases hb : i ∈ L.busy
    · -- entered already
      have el : lent L i = (L, ("entered" : Str)) := if_pos hb
      rw [el] at al2 go2 ⊢
      have sy2 := sy1.go al2 go2
      have hbt : b = true := by rw [hbb]; exact decide_eq_true hb
      subst hbt
      refine ⟨_, rfl, rfl, _, rfl, iteT' (by show (!decide (V.str "entered" = V.str "")) = true; decide +kernel) ?_⟩
      refine ⟨make_static rfl hin TB sy2.tb, fun c2 P2 H3 x3 tb3 ca3 N => ?_⟩
      have sy3 := sy2.ext x3 tb3
      obtain ⟨dr, bk, er, _⟩ := id sy3.al.room
      refine ⟨_, rfl, A .r, dr, _, rfl, er, rlook _ _ _ (by decide +kernel) (by decide +kernel) (by decide +kernel), _, rfl, makeQ_inner rfl TB ca3, fun c4 P4 H4 x4 tb4 ca4 tr dm ntr ndm ne => ?_⟩
      have s5 := (same_new (o := .tup []) ntr).trans (same_new (o := .dK []) (show (upd H4 tr (.tup [])) dm = none by rw [upd_ne ne]; exact ndm))
      have sy5 := (sy3.ext x4 tb4).same s5
      have gx5 : Gx G a A L M U H A L M U (upd (upd H4 tr (.tup [])) dm (.dK [])) := (((gx1.trans (Gx.go go2)).trans (Gx.ext x3)).trans (Gx.ext x4)).trans (Gx.same s5)
      generalize (upd (upd H4 tr (.tup [])) dm (.dK [])) = H5 at sy5 gx5 ⊢
      refine ⟨A .r, A (.p i), A (.e i), (A .le, _), A (.p M.now), mr, rfl, rfl, sy5.al.room, sy5.al.ctx hmr, fun z H6 s6 nz => ⟨rfl, z, _, rfl, upd_same, fun H7 s7 => ?_⟩⟩
      have s67 := (s6.trans (same_new nz)).trans s7
      refine ⟨_, rfl, rfl, ?_⟩
      have e0 : (decide (V.str "entered" = V.str (L, ("entered" : Str)).2)) = true := by show decide (V.str "entered" = V.str "entered") = true; decide +kernel
      rw [e0]
      have sy7 := sy5.same s67
      exact k A L M U (n + 1) H7 a.r ⟨⟨sy7.al, sy7.rn, sy7.ap, sy7.tb⟩, mt, gx5.trans (Gx.same s67), Kp.refl, Nat.le_refl _, Nat.le_add_right _ _, Nat.le_add_right _ _, Nat.le_add_right _ _, rfl, rfl⟩ (Int.le_refl _) (by omega) (by omega)
    · have el : lent L i = ({ L with busy := L.busy ++ [i], now := i }, ("" : Str)) := if_neg hb
      rw [el] at al2 go2 ⊢
      obtain ⟨L1, eL1⟩ : ∃ L1 : LS, L1 = { L with busy := L.busy ++ [i], now := i } := ⟨_, rfl⟩
      have mt1 := mt.enter hmr hb
      have al2 : All G A L1 M U H2 := by rw [eL1]; exact al2
      have go2 : Go G A L M U H1 A L1 M U H2 := by rw [eL1]; exact go2
      rw [← eL1] at mt1
      have sy2 := sy1.go al2 go2
      have hbt : b = false := by rw [hbb]; exact decide_eq_false hb
      subst hbt
      have en : M.now = L.now := mt.now.symm
      have imc : i < M.cs.length := by rw [← mt.len]; exact il
      have c1 : L1.cs = L.cs := by rw [eL1]
      have k1 : L1.tk = L.tk := by rw [eL1]
      have l1 : L1.lg = L.lg := by rw [eL1]
      have w1 : L1.now = i := by rw [eL1]
      have bu1 : L1.busy = L.busy ++ [i] := by rw [eL1]
      refine ⟨_, rfl, rfl, _, rfl, iteF' (by show (!decide (V.str "" = V.str "")) = false; decide +kernel) ?_⟩
      -- run
      refine ⟨fun σ H7 => ∃ (A' : Lb → Addr) (L' : LS) (M' : RS) (U' : TS) (n' : Nat) (r' : Int) (m' : Mp) (b' : Bool), σ = [some (.ref a.s), some (.ref (A' .r)), some (.ref (A' .w)), some (.ref (A' .th)), some (.int (d : Int)), some (.ref (A (.p i))), some (.int (i : Int)), some (.int (L.now : Int)), some (.str ""), some (.bl true)] ∧
        Sy G (a.rm r') T0 A' L' { M' with now := L.now, cs := M'.cs.set i (m', false) } U' H7 n' ∧ Gx G a A L M U H A' L' { M' with now := L.now, cs := M'.cs.set i (m', false) } U' H7 ∧ Mt G L' M' U' ∧ M'.cs[i]? = some (m', b') ∧ Kp A A' M.cs.length ∧
        L.cs.length ≤ L'.cs.length ∧ L'.cs.length ≤ L.cs.length + (a.r - r').toNat ∧ L'.tk.length ≤ L.tk.length + (a.r - r').toNat ∧ L'.lg.length ≤ L.lg.length + (a.r - r').toNat ∧ L'.busy = L.busy ++ [i] ∧ r' ≤ a.r ∧ (d : Int) + 1 ≤ r' + 9 ∧ (n' : Int) + 40 * r' ≤ n + 40 * a.r + 2, ?_, ?_⟩
      · obtain ⟨dr, bk, er, _⟩ := id al2.room
        refine ⟨_, rfl, A .r, dr, _, rfl, er, rlook _ _ _ (by decide +kernel) (by decide +kernel) (by decide +kernel), _, rfl, makeQ_static hin TB sy2.tb, fun c3 P3 H3 x3 tb3 ca3 tr dm ntr ndm ne => ?_⟩
        have s4 := (same_new (o := .tup []) ntr).trans (same_new (o := .dK []) (show (upd H3 tr (.tup [])) dm = none by rw [upd_ne ne]; exact ndm))
        have sy4 := (sy2.ext x3 tb3).same s4
        have gx4 : Gx G a A L M U H A L1 M U (upd (upd H3 tr (.tup [])) dm (.dK [])) := ((gx1.trans (Gx.go go2)).trans (Gx.ext x3)).trans (Gx.same s4)
        generalize (upd (upd H3 tr (.tup [])) dm (.dK [])) = H4 at sy4 gx4 ⊢
        refine ⟨A .r, A (.p i), A (.e i), (A .le, refs A .re M.lg.length), A (.p M.now), mr, rfl, rfl, sy4.al.room, sy4.al.ctx hmr, fun x H5 nx wx ro5 cx5 f5 => ?_⟩
        have al5 := sy4.al.renter hmr imc f5 ro5 cx5
        have go5 : Go G A L1 M U H4 A L1 { M with now := i, cs := M.cs.set i (mr, true) } U H5 :=
          Go.fr (xs := [.r, .p i]) (fun y hy => by
            simp only [List.mem_cons, List.not_mem_nil, or_false] at hy
            rcases hy with rfl | rfl
            · rfl
            · exact map_some imc) (valid_of rfl rfl rfl List.length_set rfl rfl) f5
        have sy5 := sy4.go al5 go5
        have ox : Ou G a A L1 { M with now := i, cs := M.cs.set i (mr, true) } U x := ⟨fun l v => (sy4.ou nx).1 l (valid_of (G := G) (A := A) (L := L1) (M := M) (L' := L1) (M' := { M with now := i, cs := M.cs.set i (mr, true) }) (U := U) rfl rfl rfl List.length_set rfl rfl l v), (sy4.ou nx).2⟩
        have bd1 : Bd a L1 (n + 1) (10 * ((d + 1 : Nat) : Int)) := ⟨b1, by omega, by rw [c1]; exact b3, by rw [k1]; exact bd.k, by rw [l1]; exact bd.l⟩
        obtain ⟨dx, ex⟩ := id wx
        refine ⟨_, rfl, _, rfl, _, rfl, _, rfl, _, rfl, _, _, rfl, rfl, a, A, L1, _, U, n + 1, rfl, sy5, mt1, bd1, fun A' L' M' U' n' H6 r' st hr1 hr2 hn => ?_⟩
        obtain ⟨o6, e6⟩ := st.gx x _ ex (by intro _ z; cases z) ox
        have iM : i < M'.cs.length := by
          have h1 := st.c0
          rw [c1] at h1
          rw [← st.mt.len]
          omega
        obtain ⟨m2, m', b', hm2, hI, _⟩ := st.mt.both (i := i) (by rw [st.mt.len]; exact iM)
        have kp6 : Kp A A' M.cs.length := by
          have := st.kp
          dsimp only at this
          rw [List.length_set] at this
          exact this
        have ep : A' (.p i) = A (.p i) := kp6.2.2.2 i imc
        have eq : A' (.p L.now) = A (.p M.now) := by rw [en]; exact kp6.2.2.2 L.now (by rw [← mt.len]; exact mt.nw)
        have ro6 := st.sy.al.room
        rw [kp6.2.1] at ro6
        have cx6 := st.sy.al.ctx hI
        rw [ep] at cx6
        refine Leave.out ⟨(A' .le, refs A' .re M'.lg.length), A' (.e i), m', b', A' (.p M'.now), ⟨dx, e6⟩, ro6, cx6, fun H7 ro7 cx7 f7 => ?_⟩
        have nM : L.now < M'.cs.length := by
          have h1 := st.c0
          rw [c1] at h1
          rw [← st.mt.len]
          have := mt.nw
          omega
        have f7' : SW.Fr [A' .r, A' (.p i)] H6 H7 := by rw [kp6.2.1, ep]; exact f7
        have al7 := st.sy.al.renter (n := L.now) hI nM f7' (by rw [kp6.2.1, eq]; exact ro7) (by rw [ep]; exact cx7)
        have go7 : Go G A' L' M' U' H6 A' L' { M' with now := L.now, cs := M'.cs.set i (m', false) } U' H7 :=
          Go.fr (xs := [.r, .p i]) (fun y hy => by
            simp only [List.mem_cons, List.not_mem_nil, or_false] at hy
            rcases hy with rfl | rfl
            · rfl
            · exact map_some iM) (valid_of rfl rfl rfl List.length_set rfl rfl) f7'
        have gx5 : Gx G a A L M U H A L1 { M with now := i, cs := M.cs.set i (mr, true) } U H5 := gx4.trans (Gx.go go5)
        refine ⟨A', L', M', U', n', r', m', b', ?_, st.sy.go al7 go7, (gx5.trans st.gx).trans (Gx.go go7), st.mt, hI, kp6, by rw [← c1]; exact st.c0, by rw [← c1]; exact st.c, by rw [← k1]; exact st.k, by rw [← l1]; exact st.l, by rw [← bu1]; exact st.b, hr1, by omega, by omega⟩
        rw [kp6.1, kp6.2.1, kp6.2.2.1]
        rfl
      rintro σ H7 ⟨A', L', M', U', n', r', m', b', rfl, sy7, gx7, mt', hI, kp, q1, q2, q3, q4, q5, q6, q7, q8⟩
      refine ⟨_, rfl, _, rfl, A', L', _, U', L.now, rfl, sy7.al, (by rw [q5]; simp), fun H8 al8 go8 => ⟨_, rfl, ?_⟩⟩
      have mt8 := mt'.leave (bs := L.busy) (k := L.now) q5 hI (by have := mt.nw; omega)
      rw [q5, List.dropLast_concat] at al8 go8
      exact k A' _ _ U' n' H8 r' ⟨sy7.go al8 go8, mt8, gx7.trans (Gx.go go8), kp, q1, q2, q3, q4, rfl, rfl⟩ q6 q7 q8
end
end XA

set_option Elab.async false
set_option linter.all false
set_option maxRecDepth 100000
set_option maxHeartbeats 2000000
/-! _law_deeds. -/
namespace XA
open PySem PySem.Spec PyProof.Rows L2 SW
theorem pe_weak {X : Cx} {e : Expr} {t t' : TE} (h : PE X e t) (hw : ∀ σ H Q, t' σ H Q → t σ H Q) : PE X e t' := ⟨fun pins s σ H Q I hq => h.run pins s σ H Q I (hw σ H Q hq)⟩
/-- the number of turns -/
def tCnt (d : Nat) : TE := fun σ H Q => ∃ (a : RA) (n : Nat), σ[0]? = some (some (.ref a.s)) ∧ σ[4]? = some (some (.int (d : Int))) ∧ Rnd H a n ∧ n + 60 ≤ 1000000 ∧ ∀ (m : Int) (n' : Nat) (H' : Hp), 0 ≤ m → m ≤ 30 → n' ≤ n + 1 → Rnd H' a n' → But a H H' → Q (.int m) H'
theorem St.trans {G : Cl} {a a1 a2 : RA} {T0 : List (Addr × Str)} {A A1 A2 : Lb → Addr} {L L1 L2 : LS} {M M1 M2 : RS} {U U1 U2 : TS} {H H1 H1' H2 : Hp} {n1 n2 m1 m2 m : Nat} (hm : Mt G L M U) (s1 : St G a a1 T0 A L M U H A1 L1 M1 U1 H1 n1 m1) (g : Gx G a A1 L1 M1 U1 H1 A1 L1 M1 U1 H1') (s2 : St G a1 a2 T0 A1 L1 M1 U1 H1' A2 L2 M2 U2 H2 n2 m2)
    (he : a1.s = a.s ∧ a1.l = a.l ∧ a1.c = a.c) (h : m1 + m2 ≤ m) : St G a a2 T0 A L M U H A2 L2 M2 U2 H2 n2 m := by
  have gx2 : Gx G a A1 L1 M1 U1 H1' A2 L2 M2 U2 H2 := by
    have := s2.gx
    unfold Gx Ou at this ⊢
    rw [he.1, he.2.1, he.2.2] at this
    exact this
  exact ⟨s2.sy, s2.mt, (s1.gx.trans g).trans gx2, s1.kp.trans s2.kp (by rw [← hm.len, ← s1.mt.len]; exact s1.c0), Nat.le_trans s1.c0 s2.c0, by have := s1.c; have := s2.c; omega, by have := s1.k; have := s2.k; omega, by have := s1.l; have := s2.l; omega, s2.b.trans s1.b, s2.w.trans s1.w⟩
section
variable {P : Program} {w : World} {K : PySem.W.Frag} {mg : Str → Option Value} {base : Heap} {CF W : Addr} {G : Cl}
theorem ok_deeds {f : Addr} {oc kV doc pm ct cdv : Value} {od an : Option Addr} {osl : Array (Option Value)} {d kk : Nat}
    (lk : K.lookup f = some ⟨oc, od, .func (PySem.W.fnOf "_law_deeds" "_law_deeds" (defArgs sDeeds) (defBody sDeeds) (defScope sDeeds) .none kV doc pm an cdv ct), osl⟩) (hcd : PySem.W.codeIn K cdv "_law_deeds" = true)
    {T0 : List (Addr × Str)} (mRg : mg "range" = none) (hd8 : d ≤ 8) (hk : 20 ≤ kk)
    {fD fW fE fA : Addr} {dD dW dE dA : FuncData}
    (GD : FnOk P w K mg base CX0 2 fD dD ["state", "many"] spDraw) (bD : Binds K dD ["state", "many"] []) (gD : mg "_law_draw" = some (.ref fD)) (kD : PySem.W.keepIn K (.ref fD) = true)
    (GW : BK.FnG P w K mg base (kk + 8) fW dW ["state", "room", "world", "things", "deep"] (spWith G T0 d)) (bW : Binds K dW ["state", "room", "world", "things", "deep"] []) (gW : mg "_law_within" = some (.ref fW)) (kW : PySem.W.keepIn K (.ref fW) = true)
    (GE : BK.FnG P w K mg base 10 fE dE ["state", "room", "world", "things"] (spDeed G T0)) (bE : Binds K dE ["state", "room", "world", "things"] []) (gE : mg "_law_deed" = some (.ref fE)) (kE : PySem.W.keepIn K (.ref fE) = true)
    (GA : BK.FnG P w K mg base 6 fA dA ["room", "world", "things"] (spAllR G)) (bA : Binds K dA ["room", "world", "things"] []) (gA : mg "_law_all_right" = some (.ref fA)) (kA : PySem.W.keepIn K (.ref fA) = true) :
    BK.FnG P w K mg base (kk + 9) f (PySem.W.fnOf "_law_deeds" "_law_deeds" (defArgs sDeeds) (defBody sDeeds) (defScope sDeeds) .none kV doc pm an cdv ct) ["state", "room", "world", "things", "deep"] (spDeeds G T0 d) := by
  refine BK.fng_of lk hcd scDeeds (fun vs H Q E h => ?_) (fun A0 outer s H vs Q E gd hr h => ?_)
  · obtain ⟨a, A, L, M, U, n, rfl, _⟩ := h
    rfl
  · obtain ⟨a, A, L, M, U, n, rfl, sy, mt, bd, k⟩ := h
    have hu := hu_of hr
    have hr2 : Room 2 _ := hr.mono (by omega)
    have hr6 : Room 6 _ := hr.mono (by omega)
    have hr10 : Room 10 _ := hr.mono (by omega)
    have gd' : (A0.deeper (envOfC "_law_deeds" (defScope sDeeds) s.heap.objs.size f cdv)).guards = some [] := gd
    refine ⟨_, pss_cons (ps_for PassesOwn.never rfl (pi_range1 rfl mRg (pa_cons (pe_weak (t' := tCnt d) (pe_ifExp (pt_cmpR op_gt (pv 4) pe_int (nomark _)) (pe_call GD hr2 rfl gD kD bD .nil pass0 (pa_cons (pv 0) (pa_cons pe_int pa_nil))) pe_int) (fun σ H Q h => by
          obtain ⟨a, n, h0, h4, R, hn, q⟩ := h
          refine ⟨_, h4, _, _, rfl, rfl, _, rfl, ite2 (fun _ => ⟨_, h0, a, n, 9, rfl, R, hn, by decide, by decide, fun m H' m0 m1 R' b => q m (n + 1) H' m0 (by omega) (Nat.le_refl _) R' b⟩) (fun _ => q 30 n H (by decide) (by decide) (Nat.le_succ _) R (But.refl a H))⟩)) pa_nil)) (pg_name (i := 5) scDeeds.nd rfl (Or.inl rfl))
        (C8.pss_cut (ps_if (PW.pt (pw_and (pt_cmpR op_eq (pe_call GD hr2 rfl gD kD bD .nil pass0 (pa_cons (pv 0) (pa_cons pe_int pa_nil))) pe_int (nomark _)) (pw_and1 (pt_cmpR op_lt (pv 4) pe_int (nomark _)))))
            (pss_one (ps_set (i := 6) scDeeds.nd rfl (Or.inl rfl) (BK.pe_callG GW gd' hr rfl gW kW bW (pa_cons (pv 0) (pa_cons (pv 1) (pa_cons (pv 2) (pa_cons (pv 3) (pa_cons (pv 4) pa_nil))))))))
            (pss_one (ps_set (i := 6) scDeeds.nd rfl (Or.inl rfl) (BK.pe_callG GE gd' hr10 rfl gE kE bE (pa_cons (pv 0) (pa_cons (pv 1) (pa_cons (pv 2) (pa_cons (pv 3) pa_nil))))))))
        (C8.pss_cut (ps_if (PW.pt (pw_or (pt_cmpR op_isnot_bl (pv 6) pe_bl (nomark _)) (pw_or1 (pt_not (pt_val (BK.pe_callG GA gd' hr6 rfl gA kA bA (pa_cons (pv 1) (pa_cons (pv 2) (pa_cons (pv 3) pa_nil))))))))) (pss_one (ps_ret pe_bl)) pss_nil)
        (pss_cons (ps_dput hu (pv 0) pe_str (pe_op op_sub (pe_dget hu (pv 0) pe_str (fun _ _ => rfl)) pe_int) rfl)
        (pss_one (ps_if (pt_cmpR op_lt (pe_dget hu (pv 0) pe_str (fun _ _ => rfl)) pe_int (nomark _)) (pss_one (ps_ret pe_bl)) pss_nil))))))
      (pss_one (ps_ret pe_bl)), ?_⟩
    have b1 := bd.r
    have b2 := bd.n
    have b3 := bd.c
    have b4 := bd.k
    have b5 := bd.l
    refine ⟨a, n, rfl, rfl, sy.rn, by omega, fun m n1 H1 m0 m30 hn1 R1 bt1 => ?_⟩
    have sy1 := sy.but R1 bt1
    refine ⟨m, rfl, by omega, by omega, for_range (lo := 0) (n := m.toNat) (fun i σ H2 => ∃ (A' : Lb → Addr) (L' : LS) (M' : RS) (U' : TS) (n' : Nat) (r' : Int) (v5 v6 : Option V), σ = [some (.ref a.s), some (.ref (A' .r)), some (.ref (A' .w)), some (.ref (A' .th)), some (.int (d : Int)), v5, v6] ∧
        St G a (a.rm r') T0 A L M U H A' L' M' U' H2 n' (a.r - r').toNat ∧ 0 ≤ r' ∧ r' ≤ a.r ∧ (n' : Int) + 40 * r' ≤ n + 40 * a.r + 1)
      ⟨A, L, M, U, n1, a.r, none, none, rfl, ⟨⟨sy1.al, sy1.rn, sy1.ap, sy1.tb⟩, mt, Gx.but bt1, Kp.refl, Nat.le_refl _, Nat.le_add_right _ _, Nat.le_add_right _ _, Nat.le_add_right _ _, rfl, rfl⟩, b1, Int.le_refl _, by omega⟩ ?_ ?_⟩
    · rintro i σ H2 hi ⟨A', L', M', U', n', r', v5, v6, rfl, st, r0, rr, hn'⟩
      have q1 := st.c
      have q2 := st.k
      have q3 := st.l
      -- within, or a deed
      refine ⟨fun σ H3 => ∃ (A2 : Lb → Addr) (L2 : LS) (M2 : RS) (U2 : TS) (n2 : Nat) (r2 : Int) (v5 : Option V), σ = [some (.ref a.s), some (.ref (A2 .r)), some (.ref (A2 .w)), some (.ref (A2 .th)), some (.int (d : Int)), v5, some (.bl true)] ∧
        St G a (a.rm r2) T0 A L M U H A2 L2 M2 U2 H3 n2 (a.r - (r2 - 1)).toNat ∧ r2 ≤ a.r ∧ (d : Int) ≤ (r2 - 1) + 9 ∧ (n2 : Int) + 40 * (r2 - 1) ≤ n + 40 * a.r + 1, ?_, ?_⟩
      · refine ⟨_, rfl, a.rm r', n', 4, rfl, st.sy.rn, by omega, by decide, by decide, fun y H3 y0 y4 R3 bt3 => ?_⟩
        have sy3 := st.sy.but R3 bt3
        have gx3 : Gx G a A' L' M' U' H2 A' L' M' U' H3 := Gx.but (a := a) bt3
        have deed : ∀ (A2 : Lb → Addr) (L2 : LS) (M2 : RS) (U2 : TS) (n2 : Nat) (H4 : Hp), St G (a.rm r') (a.rm r') T0 A' L' M' U' H3 A2 L2 M2 U2 H4 n2 1 → n2 ≤ n' + 1 + 20 → ∀ w, ∃ (A3 : Lb → Addr) (L3 : LS) (M3 : RS) (U3 : TS) (n3 : Nat) (r3 : Int) (v5 : Option V), [some (V.ref a.s), some (.ref (A' .r)), some (.ref (A' .w)), some (.ref (A' .th)), some (.int (d : Int)), w, some (.bl true)] = [some (.ref a.s), some (.ref (A3 .r)), some (.ref (A3 .w)), some (.ref (A3 .th)), some (.int (d : Int)), v5, some (.bl true)] ∧
            St G a (a.rm r3) T0 A L M U H A3 L3 M3 U3 H4 n3 (a.r - (r3 - 1)).toNat ∧ r3 ≤ a.r ∧ (d : Int) ≤ (r3 - 1) + 9 ∧ (n3 : Int) + 40 * (r3 - 1) ≤ n + 40 * a.r + 1 := fun A2 L2 M2 U2 n2 H4 st2 h2 w => by
          refine ⟨A2, L2, M2, U2, n2, r', w, ?_, St.trans mt st gx3 st2 ⟨rfl, rfl, rfl⟩ (by omega), rr, by omega, by omega⟩
          rw [st2.kp.1, st2.kp.2.1, st2.kp.2.2.1]
        refine ⟨rfl, _, rfl, ite2 (fun _ => ?_) (fun _ => ?_)⟩
        · refine ⟨_, rfl, _, _, rfl, rfl, _, rfl, ite2 (fun hd => ?_) (fun _ => ?_)⟩
          · have hd : d < 8 := by
              have := of_decide_eq_true hd
              omega
            have bd3 : Bd (a.rm r') L' (n' + 1) (10 * d + 5) := ⟨r0, (by show ((n' + 1 : Nat) : Int) + 40 * r' ≤ _; omega), (by show (L'.cs.length : Int) + r' ≤ 380; omega), (by show (L'.tk.length : Int) + r' ≤ 380; omega), (by show (L'.lg.length : Int) + r' ≤ 380; omega)⟩
            refine ⟨_, rfl, _, rfl, _, rfl, _, rfl, _, rfl, hd, a.rm r', A', L', M', U', n' + 1, rfl, sy3, st.mt, bd3, fun A2 L2 M2 U2 n2 H4 r2 st2 h1 h2 h3 => ?_⟩
            have h1 : r2 ≤ r' := h1
            have h3 : (n2 : Int) + 40 * r2 ≤ ((n' + 1 : Nat) : Int) + 40 * r' + 2 := h3
            have st2 : St G (a.rm r') (a.rm r2) T0 A' L' M' U' H3 A2 L2 M2 U2 H4 n2 (r' - r2).toNat := st2
            refine ⟨A2, L2, M2, U2, n2, r2, some (.int (0 + (i : Int))), ?_, St.trans mt st gx3 st2 ⟨rfl, rfl, rfl⟩ (by omega), by omega, by omega, by omega⟩
            rw [st2.kp.1, st2.kp.2.1, st2.kp.2.2.1]
            rfl
          · exact ⟨_, rfl, _, rfl, _, rfl, _, rfl, a.rm r', A', L', M', U', n' + 1, rfl, sy3, st.mt, by omega, by omega, by omega, by omega, fun A2 L2 M2 U2 n2 H4 st2 h2 => deed A2 L2 M2 U2 n2 H4 st2 h2 _⟩
        · exact ⟨_, rfl, _, rfl, _, rfl, _, rfl, a.rm r', A', L', M', U', n' + 1, rfl, sy3, st.mt, by omega, by omega, by omega, by omega, fun A2 L2 M2 U2 n2 H4 st2 h2 => deed A2 L2 M2 U2 n2 H4 st2 h2 _⟩
      rintro σ H3 ⟨A2, L2, M2, U2, n2, r2, w5, rfl, st2, rr2, hd2, hn2⟩
      have p1 := st2.c
      have p2 := st2.k
      have p3 := st2.l
      -- all right
      refine ⟨fun σ H4 => σ = [some (.ref a.s), some (.ref (A2 .r)), some (.ref (A2 .w)), some (.ref (A2 .th)), some (.int (d : Int)), w5, some (.bl true)] ∧ Same H3 H4, ?_, ?_⟩
      · refine ⟨_, rfl, true, true, rfl, rfl, _, rfl, iteF ?_⟩
        refine ⟨_, rfl, _, rfl, _, rfl, A2, L2, M2, U2, rfl, st2.sy.al, st2.mt, by omega, by omega, by omega, fun H4 s4 => ⟨_, rfl, iteF ⟨rfl, s4⟩⟩⟩
      rintro σ H4 ⟨rfl, s4⟩
      have sy4 := st2.sy.same s4
      obtain ⟨H5, dp, R5, bt5⟩ := rnd_setR sy4.rn (r2 - 1)
      refine ⟨_, rfl, a.s, _, rfl, rnd_room (a := a.rm r2) sy4.rn, _, _, rfl, rfl, _, rfl, a.s, H5, rfl, dp, ?_⟩
      have sy5 : Sy G (a.rm (r2 - 1)) T0 A2 L2 M2 U2 H5 n2 := sy4.rm R5 bt5
      have st5 : St G a (a.rm (r2 - 1)) T0 A L M U H A2 L2 M2 U2 H5 n2 (a.r - (r2 - 1)).toNat := ⟨sy5, st2.mt, (st2.gx.trans (Gx.same s4)).trans (Gx.but (a := a) bt5), st2.kp, st2.c0, st2.c, st2.k, st2.l, st2.b, st2.w⟩
      refine ⟨_, rfl, a.s, _, rfl, rnd_room (a := a.rm (r2 - 1)) sy5.rn, _, _, rfl, rfl, _, rfl, ite2 (fun _ => ?_) (fun hneg => ?_)⟩
      · exact k A2 L2 M2 U2 n2 H5 (r2 - 1) st5 (by omega) hd2 hn2
      · have : ¬ (r2 - 1 < 0) := fun z => hneg (decide_eq_true z)
        exact ⟨A2, L2, M2, U2, n2, r2 - 1, _, _, rfl, st5, by omega, by omega, hn2⟩
    · rintro σ H2 ⟨A', L', M', U', n', r', v5, v6, rfl, st, r0, rr, hn'⟩
      exact k A' L' M' U' n' H2 r' st rr (by omega) hn'
end
end XA

set_option Elab.async false
set_option linter.all false
set_option maxRecDepth 100000
set_option maxHeartbeats 2000000
/-! The account at its beginning. -/
namespace XA
open PySem PySem.Spec PyProof.Rows L2 SW
/-- different places, none of them the drawing's -/
def Nd (a : RA) (ys : List Addr) (H : Hp) : Prop := ys.Nodup ∧ ∀ y ∈ ys, (∃ o, H y = some o) ∧ Off a y
theorem Nd.same {a : RA} {ys : List Addr} {H H' : Hp} (h : Nd a ys H) (s : Same H H') : Nd a ys H' := ⟨h.1, fun y hy => let ⟨⟨o, e⟩, f⟩ := h.2 y hy; ⟨⟨o, s _ _ e⟩, f⟩⟩
theorem Nd.add {a : RA} {ys : List Addr} {H H' : Hp} {x : Addr} {o : HO} (h : Nd a ys H) (nx : H x = none) (f : Off a x) (s : Same H H') (e : H' x = some o) : Nd a (x :: ys) H' := by
  refine ⟨List.nodup_cons.mpr ⟨fun hm => ?_, h.1⟩, fun y hy => ?_⟩
  · obtain ⟨⟨o2, e2⟩, _⟩ := h.2 x hm
    rw [nx] at e2
    cases e2
  · rcases List.mem_cons.mp hy with q | q
    · rw [q]
      exact ⟨⟨o, e⟩, f⟩
    · exact (h.same s).2 y q
theorem Nd.new {a : RA} {ys : List Addr} {H : Hp} {x : Addr} {o : HO} {n : Nat} (h : Nd a ys H) (R : Rnd H a n) (nx : H x = none) : Nd a (x :: ys) (upd H x o) := h.add nx (R.off nx) (same_new nx) upd_same
theorem Nd.upd {a : RA} {ys : List Addr} {H : Hp} {x : Addr} {o : HO} (h : Nd a ys H) : Nd a ys (upd H x o) := ⟨h.1, fun y hy => by
  obtain ⟨⟨o2, e⟩, f⟩ := h.2 y hy
  refine ⟨?_, f⟩
  by_cases z : y = x
  · exact ⟨o, by rw [z]; exact upd_same⟩
  · exact ⟨o2, by rw [upd_ne z]; exact e⟩⟩
def labs : List Lb := [.ht, .hc, .c 0, .th, .ll, .tl, .bl, .cl, .d 0, .w, .e 0, .p 0, .le, .r, .hv]
def idx : Lb → Nat
  | .ht => 0 | .hc => 1 | .c _ => 2 | .th => 3 | .ll => 4 | .tl => 5 | .bl => 6 | .cl => 7 | .d _ => 8 | .w => 9 | .e _ => 10 | .p _ => 11 | .le => 12 | .r => 13 | .hv => 14 | _ => 15
def A0 (xs : List Addr) (l : Lb) : Addr := (xs[idx l]?).getD 0
def L0 : LS := ⟨[[]], 0, [0], [], []⟩
def M0 : RS := ⟨[([], true)], 0, [], []⟩
def U0 : TS := ⟨[(0, 0)], []⟩
theorem idx_ok {G : Cl} {A : Lb → Addr} {l : Lb} (h : (cont G A L0 M0 U0 l).isSome = true) : labs[idx l]? = some l := by
  have z0 : ∀ {i : Nat} {α β : Type} {x : α} {f : α → β}, (([x])[i]?.map f).isSome = true → i = 0 := fun {i α β x f} e => by
    cases i with
    | zero => rfl
    | succ i => simp at e
  have no : ∀ {i : Nat} {α β : Type} {f : α → β}, (([] : List α)[i]?.map f).isSome = true → False := fun {i α β f} e => by simp at e
  cases l with
  | d i => have := z0 h; subst this; rfl
  | q j => simp [cont, L0, M0, U0] at h
  | ol j => simp [cont, L0, M0, U0] at h
  | ev j => simp [cont, L0, M0, U0] at h
  | re j => simp [cont, L0, M0, U0] at h
  | p i => have := z0 h; subst this; rfl
  | e i => have := z0 h; subst this; rfl
  | t j => simp [cont, L0, M0, U0] at h
  | c i => have := z0 h; subst this; rfl
  | k j => simp [cont, L0, M0, U0] at h
  | _ => rfl
theorem start {G : Cl} {a : RA} {H : Hp} {r le p d w cl d0 bl tl ll th hc ht hv c0 : Addr} (nd : Nd a [ht, hc, c0, th, ll, tl, bl, cl, d0, w, d, p, le, r, hv] H)
    (ro : RoomAt G.R H r (le, []) p) (cx : CtxB G.C H p d [] true) (ew : H w = some (.dK [(.inr "contexts", .ref cl), (.inr "now", .int 0), (.inr "busy", .ref bl), (.inr "tokens", .ref tl), (.inr "log", .ref ll)]))
    (ecl : H cl = some (.lst [.ref d0])) (ed0 : H d0 = some (.dK [])) (ebl : H bl = some (.lst [.int 0])) (etl : H tl = some (.lst [])) (ell : H ll = some (.lst []))
    (eth : H th = some (.dK [(.inr "contexts", .ref hc), (.inr "tokens", .ref ht), (.inr "vars", .ref hv)])) (ehc : H hc = some (.lst [.ref c0])) (ec0 : H c0 = some (.lst [.ref p, .int 0])) (eht : H ht = some (.lst [])) (ehv : H hv = some (.lst (G.vars.map V.str))) :
    All G (A0 [ht, hc, c0, th, ll, tl, bl, cl, d0, w, d, p, le, r, hv]) L0 M0 U0 H ∧ Apart G a (A0 [ht, hc, c0, th, ll, tl, bl, cl, d0, w, d, p, le, r, hv]) L0 M0 U0 := by
  have len : ([ht, hc, c0, th, ll, tl, bl, cl, d0, w, d, p, le, r, hv]).length = labs.length := rfl
  have lt : ∀ {l}, (cont G (A0 [ht, hc, c0, th, ll, tl, bl, cl, d0, w, d, p, le, r, hv]) L0 M0 U0 l).isSome = true → idx l < 15 := fun {l} h => (List.getElem?_eq_some_iff.mp (idx_ok h)).1
  have at_ : ∀ {l}, (cont G (A0 [ht, hc, c0, th, ll, tl, bl, cl, d0, w, d, p, le, r, hv]) L0 M0 U0 l).isSome = true → ([ht, hc, c0, th, ll, tl, bl, cl, d0, w, d, p, le, r, hv])[idx l]? = some (A0 [ht, hc, c0, th, ll, tl, bl, cl, d0, w, d, p, le, r, hv] l) := fun {l} h => by
    unfold A0
    rw [List.getElem?_eq_getElem (by rw [len]; exact lt h)]
    rfl
  refine ⟨⟨fun l P e => ?_, fun l l' e1 e2 ea => ?_, by decide, (fun x hx => nomatch hx), (fun x hx => by rw [List.mem_singleton.mp hx]; decide), fun x hx => nomatch hx⟩, fun l v => ?_⟩
  · have v : (cont G (A0 [ht, hc, c0, th, ll, tl, bl, cl, d0, w, d, p, le, r, hv]) L0 M0 U0 l).isSome = true := by rw [e]; rfl
    have hl := idx_ok v
    obtain ⟨dr, bk, er, el⟩ := ro
    obtain ⟨⟨dx, ex⟩, ed⟩ := cx
    have z0 : ∀ {i : Nat} {α β : Type} {x : α} {f : α → β}, (([x])[i]?.map f).isSome = true → i = 0 := fun {i α β x f} e => by
      cases i with
      | zero => rfl
      | succ i => simp at e
    have no : ∀ {i : Nat} {α β : Type} {f : α → β}, (([] : List α)[i]?.map f).isSome = true → False := fun {i α β f} e => by simp at e
    cases l with
    | w => cases e; exact ⟨_, ew, rfl⟩
    | cl => cases e; exact ⟨_, ecl, rfl⟩
    | bl => cases e; exact ⟨_, ebl, rfl⟩
    | tl => cases e; exact ⟨_, etl, rfl⟩
    | ll => cases e; exact ⟨_, ell, rfl⟩
    | d i => have := z0 v; subst this; cases e; exact ⟨_, ed0, rfl⟩
    | q j => simp [cont, L0, M0, U0] at v
    | ol j => simp [cont, L0, M0, U0] at v
    | ev j => simp [cont, L0, M0, U0] at v
    | r => cases e; exact ⟨_, er, dr, bk, rfl⟩
    | le => cases e; exact ⟨_, el, rfl⟩
    | re j => simp [cont, L0, M0, U0] at v
    | p i => have := z0 v; subst this; cases e; exact ⟨_, ex, dx, rfl⟩
    | e i => have := z0 v; subst this; cases e; exact ⟨_, ed, rfl⟩
    | t j => simp [cont, L0, M0, U0] at v
    | th => cases e; exact ⟨_, eth, rfl⟩
    | hc => cases e; exact ⟨_, ehc, rfl⟩
    | ht => cases e; exact ⟨_, eht, rfl⟩
    | hv => cases e; exact ⟨_, ehv, rfl⟩
    | c i => have := z0 v; subst this; cases e; exact ⟨_, ec0, rfl⟩
    | k j => simp [cont, L0, M0, U0] at v
  · have h1 := at_ e1
    have h2 := at_ e2
    rw [ea, ← h2] at h1
    have := (List.getElem?_inj (by rw [len]; exact lt e1) nd.1).mp h1
    have k1 := idx_ok e1
    have k2 := idx_ok e2
    rw [this, k2] at k1
    exact (Option.some.inj k1).symm
  · obtain ⟨_, f⟩ := nd.2 _ (List.mem_of_getElem? (at_ v))
    exact ⟨f.s, f.l, f.c⟩
theorem mt_start {G : Cl} (v3 : G.vars.length ≤ 3) (vn : ∀ k ∈ G.vars, isNm k) (v0 : G.vars ≠ []) : Mt G L0 M0 U0 where
  len := rfl
  eqm := fun i m x e1 e2 => by
    cases i with
    | zero =>
      cases e1
      cases e2
      exact ⟨fun _ => rfl, Good.nil _, Good.nil _, rfl⟩
    | succ i => simp [L0] at e1
  now := rfl
  nw := by decide
  tk := rfl
  lg := rfl
  nc := rfl
  nt := rfl
  tc := fun x hx => nomatch hx
  ev := fun x hx => nomatch hx
  bs := fun i hi => by rw [List.mem_singleton.mp hi]; decide
  bn := by decide
  v3 := v3
  vn := vn
  v0 := v0
end XA

set_option Elab.async false
set_option linter.all false
set_option maxRecDepth 100000
set_option maxHeartbeats 2000000
/-! The law. -/
namespace SW
open PySem PySem.Spec PyProof.Rows L2
theorem nm_nameS {z : Str} (h : isNm z) : BK.nameS z = true := by
  unfold isNm isNmB at h
  simp only [Bool.and_eq_true, decide_eq_true_eq, List.all_eq_true] at h
  unfold BK.nameS
  simp only [Bool.and_eq_true, decide_eq_true_eq, List.all_eq_true]
  refine ⟨h.1, fun c hc => ?_⟩
  have := h.2 c hc
  have e : ∀ i : Fin 26, 97 + i.1 ∈ alpha.cps.toList := by decide +kernel
  have := e ⟨c - 97, by omega⟩
  rw [show 97 + (c - 97) = c by omega] at this
  exact this
theorem nm_len {z : Str} (h : isNm z) : z.length ≤ sizeLine := by
  unfold isNm isNmB at h
  simp only [Bool.and_eq_true, decide_eq_true_eq] at h
  have : z.length ≤ 8 := h.1.2
  rw [sizeLine_eq]
  omega
theorem texts_map : ∀ zs : List Str, BK.texts (zs.map BK.Tr.str) = zs
  | [] => rfl
  | z :: r => by
    have := texts_map r
    simp only [List.map_cons, BK.texts, this]
theorem names_book {zs : List Str} (h : ∀ z ∈ zs, isNm z) (nd : zs.Nodup) (l1 : 1 ≤ zs.length) (l3 : zs.length ≤ 3) : BK.faultT (.tup [.tup (zs.map BK.Tr.str), .tup []]) = none := by
  have d : BK.diffT (zs.map BK.Tr.str) = true := by
    unfold BK.diffT
    rw [texts_map]
    simp only [Bool.and_eq_true, List.all_eq_true, decide_eq_true_eq]
    refine ⟨fun t ht => ?_, nd⟩
    obtain ⟨z, hz, rfl⟩ := List.mem_map.mp ht
    exact nm_nameS (h z hz)
  show (if 6 < ([] : List BK.Tr).length then some BK.Place.empty else if 1 ≤ (zs.map BK.Tr.str).length ∧ (zs.map BK.Tr.str).length ≤ 3 ∧ BK.diffT (zs.map BK.Tr.str) = true then BK.piecesL (BK.texts (zs.map BK.Tr.str)) [] 0 [] else some BK.Place.vars) = none
  rw [if_neg (by decide), if_pos ⟨by rw [List.length_map]; exact l1, by rw [List.length_map]; exact l3, d⟩]
  rfl
theorem names_at {K : PySem.W.Frag} {H : Hp} : ∀ {zs : List Str}, (∀ z ∈ zs, isNm z) → BK.TrAll K H (zs.map V.str) (zs.map BK.Tr.str)
  | [], _ => .nil
  | z :: r, h => .cons (.str z (nm_len (h z List.mem_cons_self))) (names_at fun x hx => h x (List.mem_cons_of_mem _ hx))
end SW
namespace XA
open PySem PySem.Spec PyProof.Rows L2 SW
abbrev sLaw : Stmt := top 90
abbrev nLaw : List Str := ["script", "state", "names", "room", "world", "things", "is_right", "found"]
theorem scLaw : FnScope nLaw ["script"] (defScope sLaw) := ⟨rfl, rfl, rfl, by decide +kernel, rfl, by decide +kernel, by decide +kernel⟩
theorem ev_plain {vars : List Str} : ∀ {lg : List (List V)}, EvOk vars lg → PyData.plainAll (lg.map evD) = true
  | [], _ => rfl
  | x :: r, h => by
    obtain ⟨k, v, rfl, hk, hv⟩ := h x List.mem_cons_self
    rw [List.map_cons]
    simp only [evD, PyData.plainAll, PyData.plain, ev_plain (lg := r) fun x hx => h x (List.mem_cons_of_mem _ hx), Bool.and_self]
def spLaw (K : PySem.W.Frag) (T0 : List (Addr × Str)) : Sp := fun vs H Q _ => ∃ (x : Addr) (ns : List Int), vs = [.ref x] ∧ SqL K H x (ns.map V.int) ∧ ns.length ≤ 63 ∧ LnX.TabsC T0 H ∧ ∀ H', Q (.bl true) H'
section
variable {P : Program} {w : World} {K : PySem.W.Frag} {mg : Str → Option Value} {base : Heap} {R C CF T W : Addr}
theorem ok_law {f fB fN fD fE : Addr} {fdB fdN fdD fdE : FuncData} {oc kV doc pm ct cdv : Value} {od an : Option Addr} {osl : Array (Option Value)}
    (lk : K.lookup f = some ⟨oc, od, .func (PySem.W.fnOf "law" "law" (defArgs sLaw) (defBody sLaw) (defScope sLaw) .none kV doc pm an cdv ct), osl⟩) (hcd : PySem.W.codeIn K cdv "law" = true) {T0 : List (Addr × Str)} (Z : RKit P w K mg base C CF T R W)
    (GB : FnOk P w K mg base CX0 1 fB fdB ["script"] (spBegin K)) (bB : Binds K fdB ["script"] []) (gB : mg "_law_begin" = some (.ref fB)) (kB : PySem.W.keepIn K (.ref fB) = true)
    (GN : FnOk P w K mg base CX0 4 fN fdN ["state", "many"] spNames) (bN : Binds K fdN ["state", "many"] []) (gN : mg "_law_names" = some (.ref fN)) (kN : PySem.W.keepIn K (.ref fN) = true)
    (GD : FnOk P w K mg base CX0 2 fD fdD ["state", "many"] spDraw) (bD : Binds K fdD ["state", "many"] []) (gD : mg "_law_draw" = some (.ref fD)) (kD : PySem.W.keepIn K (.ref fD) = true)
    (GE : ∀ vars : List Str, BK.FnG P w K mg base 101 fE fdE ["state", "room", "world", "things", "deep"] (spDeeds ⟨C, T, R, vars⟩ T0 0)) (bE : Binds K fdE ["state", "room", "world", "things", "deep"] []) (gE : mg "_law_deeds" = some (.ref fE)) (kE : PySem.W.keepIn K (.ref fE) = true) :
    BK.FnG P w K mg base 102 f (PySem.W.fnOf "law" "law" (defArgs sLaw) (defBody sLaw) (defScope sLaw) .none kV doc pm an cdv ct) ["script"] (spLaw K T0) := by
  refine BK.fng_of lk hcd scLaw (fun vs H Q E h => ?_) (fun A1 outer s H vs Q E gd hr h => ?_)
  · obtain ⟨x, ns, rfl, _⟩ := h
    rfl
  · obtain ⟨xs, ns, rfl, hs, hn, T0h, k⟩ := h
    have hu := hu_of hr
    have GA : BK.FnG P w K mg base 101 fE fdE ["state", "room", "world", "things", "deep"] (fun vs H Q E => ∃ vars, spDeeds ⟨C, T, R, vars⟩ T0 0 vs H Q E) :=
      ⟨fun vs H Q E h => let ⟨v, h⟩ := h; (GE v).len vs H Q E h, fun A outer s H us vs Q E gd hr e0 hb r hsp => let ⟨v, h⟩ := hsp; (GE v).run A outer s H us vs Q E gd hr e0 hb r h⟩
    have hr1 : Room 1 _ := hr.mono (by decide)
    have hr2 : Room 2 _ := hr.mono (by decide)
    have hr4 : Room 4 _ := hr.mono (by decide)
    have hr19 : Room 19 _ := hr.mono (by decide)
    have gd' : (A1.deeper (envOfC "law" (defScope sLaw) s.heap.objs.size f cdv)).guards = some [] := gd
    refine ⟨_, C8.pss_cut (ps_set (i := 1) scLaw.nd rfl (Or.inl rfl) (pe_call GB hr1 rfl gB kB bB .nil pass0 (pa_cons (pv 0) pa_nil)))
      (C8.pss_cut (ps_set (i := 2) scLaw.nd rfl (Or.inl rfl) (pe_call GN hr4 rfl gN kN bN .nil pass0 (pa_cons (pv 1) (pa_cons (pe_op op_add pe_int (pe_call GD hr2 rfl gD kD bD .nil pass0 (pa_cons (pv 1) (pa_cons pe_int pa_nil)))) pa_nil))))
      (C8.pss_cut (ps_par (i := 3) (j := 4) rfl scLaw.nd rfl rfl (by decide) rfl rfl (pa_cons (pe_make Z.MR Z.GRI hr19 rfl Z.gR Z.bRI .nil pass0 (pa_cons (pe_tup (pa_cons (pe_tupleOf (by rfl) Z.mTu (pv 2)) (pa_cons (pe_tup pa_nil) pa_nil))) pa_nil))
          (pa_cons (pe_disp (pps_cons pe_str (pe_lst (pa_cons pe_dnewK pa_nil)) (pps_cons pe_str pe_int (pps_cons pe_str (pe_lst (pa_cons pe_int pa_nil)) (pps_cons pe_str (pe_lst pa_nil) (pps_cons pe_str (pe_lst pa_nil) pps_nil))))) rfl rfl (by simp) (by decide)) pa_nil)) (by rfl))
      (C8.pss_cut (ps_set (i := 5) scLaw.nd rfl (Or.inl rfl) (pe_disp (pps_cons pe_str (pe_lst (pa_cons (pe_lst (pa_cons (pe_fld (pv 3) rfl) (pa_cons pe_int pa_nil))) pa_nil)) (pps_cons pe_str (pe_lst pa_nil) (pps_cons pe_str (pv 2) pps_nil))) rfl rfl (by simp) (by decide)))
      (pss_cons (ps_dput hu (pv 1) pe_str pe_int rfl)
      (C8.pss_cut (ps_par (i := 6) (j := 7) rfl scLaw.nd rfl rfl (by decide) rfl rfl (pa_cons (BK.pe_callG GA gd' hr rfl gE kE bE (pa_cons (pv 1) (pa_cons (pv 3) (pa_cons (pv 4) (pa_cons (pv 5) (pa_cons pe_int pa_nil)))))) (pa_cons (pe_meth0 (pv 3) Z.RR.cl Z.mLo Z.GLo hr1 Z.bLo .nil pass0) pa_nil)) (by rfl))
      (pss_cons (ps_expr (pe_bm PySem.F.plainAttrs_list PySem.F.slot_list_append PySem.F.type_list_append mt_append (pv 7) (pa_cons (pe_tup (pa_cons pe_str (pa_cons pe_str (pa_cons pe_int pa_nil)))) pa_nil)))
      (pss_one (ps_ret (pe_and (pv 6) (pe_one (pe_cmpR (op_eqP hr.units) (pe_meth0 (pv 3) Z.RR.cl Z.mLo Z.GLo hr1 Z.bLo .nil pass0) (pe_dget hu (pv 4) pe_str (fun _ _ => rfl)) (nomark _)))))))))))), ?_⟩
    have one : (1 : Nat) ≤ sizeLine := by decide
    have two : (2 : Nat) ≤ sizeLine := by decide
    have three : (3 : Nat) ≤ sizeLine := by decide
    -- state
    refine ⟨fun σ H1 => ∃ a : RA, σ = [some (.ref xs), some (.ref a.s), none, none, none, none, none, none] ∧ Rnd H1 a 0 ∧ LnX.TabsC T0 H1, ?_, ?_⟩
    · exact ⟨_, rfl, xs, ns, rfl, hs, hn, fun a H1 s1 _ _ R1 => ⟨a, rfl, R1, T0h.ext s1⟩⟩
    rintro σ H1 ⟨a, rfl, R1, T1⟩
    -- names
    refine ⟨fun σ H2 => ∃ (hv : Addr) (zs : List Str) (n : Nat), σ = [some (.ref xs), some (.ref a.s), some (.ref hv), none, none, none, none, none] ∧ Rnd H2 a n ∧ n ≤ 31 ∧ LnX.TabsC T0 H2 ∧ Off a hv ∧ H2 hv = some (.lst (zs.map V.str)) ∧ 1 ≤ zs.length ∧ zs.length ≤ 3 ∧ zs.Nodup ∧ (∀ z ∈ zs, isNm z), ?_, ?_⟩
    · refine ⟨_, rfl, _, rfl, a, 0, 3, rfl, R1, by decide, by decide, by decide, fun y H2 y0 y3 R2 b2 => ?_⟩
      have T2 := tabs_but R1 b2 T1
      obtain ⟨j, hj⟩ : ∃ j : Nat, y = (j : Int) := ⟨y.toNat, by omega⟩
      subst hj
      refine ⟨_, _, rfl, rfl, a, 1, j + 1, (by show [V.ref a.s, V.int (1 + (j : Int))] = [V.ref a.s, V.int ((j + 1 : Nat) : Int)]; rw [show (1 + (j : Int)) = ((j + 1 : Nat) : Int) by omega]), R2, by omega, by decide, fun p zs n' H3 np op ep zl znd znm hn' R3 b3 => ?_⟩
      exact ⟨p, zs, n', rfl, R3, by omega, tabs_but R2 b3 T2, op, ep, by omega, by omega, znd, znm⟩
    rintro σ H2 ⟨hv, zs, n, rfl, R2, hn2, T2, ohv, ehv, l1, l3, znd, znm⟩
    -- room, world
    refine ⟨fun σ H3 => ∃ (r le p d w cl d0 bl tl ll : Addr), σ = [some (.ref xs), some (.ref a.s), some (.ref hv), some (.ref r), some (.ref w), none, none, none] ∧ Rnd H3 a n ∧ LnX.TabsC T0 H3 ∧ Nd a [ll, tl, bl, cl, d0, w, d, p, le, r, hv] H3 ∧ RoomAt R H3 r (le, []) p ∧ CtxB C H3 p d [] true ∧
      H3 w = some (.dK [(.inr "contexts", .ref cl), (.inr "now", .int 0), (.inr "busy", .ref bl), (.inr "tokens", .ref tl), (.inr "log", .ref ll)]) ∧ H3 cl = some (.lst [.ref d0]) ∧ H3 d0 = some (.dK []) ∧ H3 bl = some (.lst [.int 0]) ∧ H3 tl = some (.lst []) ∧ H3 ll = some (.lst []) ∧ H3 hv = some (.lst (zs.map V.str)), ?_, ?_⟩
    · refine ⟨_, rfl, .inl ⟨hv, _, rfl, SqL.of ehv, fun t1 nt1 => ⟨Nat.zero_le _, fun t2 nt2 => ⟨two, fun bk nbk => fun r dr nr ndr ne => ?_⟩⟩⟩⟩
      have sA := same_new (o := .tup (zs.map V.str)) nt1
      have sB := same_new (o := .tup []) nt2
      have sC := same_new (o := .tup [.ref t1, .ref t2]) nbk
      have u1 := (sA.trans sB).trans sC
      have s3 := same_make (C := R) nr ndr
      have ea := sC _ _ (sB _ _ (show (upd H2 t1 (.tup (zs.map V.str))) t1 = some (.tup (zs.map V.str)) from upd_same))
      have eb := sC _ _ (show (upd (upd H2 t1 (.tup (zs.map V.str))) t2 (.tup [])) t2 = some (.tup []) from upd_same)
      have tr : BK.TrAt K (upd (upd (upd H2 t1 (.tup (zs.map V.str))) t2 (.tup [])) bk (.tup [.ref t1, .ref t2])) (.ref bk) (.tup [.tup (zs.map BK.Tr.str), .tup []]) :=
        .tup (SqT.of upd_same) (.cons (.tup (SqT.of ea) (names_at znm)) (.cons (.tup (SqT.of eb) .nil) .nil))
      refine ⟨r, dr, .ref bk, _, rfl, upd_same, tr.same s3, names_book znm znd l1 l3, fun le p d H6 le0 nle np nd ro cx f => ⟨rfl, ?_⟩⟩
      obtain ⟨le, l2⟩ := le
      obtain rfl : l2 = [] := le0
      have s56 : Same H2 H6 := same_frNew (u1.trans s3) f (u1.free nr)
      have nr2 : H2 r = none := u1.free nr
      have up := u1.trans s3
      have R6 := R2.same s56
      have T6 := T2.ext s56
      have ehv6 := s56 _ _ ehv
      obtain ⟨c1, c2, c3, c4⟩ := room_ctx ro cx
      have c5 := room_le ro
      have c6 := ctx_pd cx
      have hvr : hv ≠ r := ne_of_none ehv nr2
      have nle2 : H2 le = none := up.free nle
      have np2 : H2 p = none := up.free np
      have nd2 : H2 d = none := up.free nd
      have nd6 : Nd a [d, p, le, r, hv] H6 := by
        obtain ⟨dr6, bk6, er6, el6⟩ := id ro
        obtain ⟨⟨dx6, ex6⟩, ed6⟩ := id cx
        refine ⟨?_, fun y hy => ?_⟩
        · have h1 := ne_of_none ehv nle2
          have h2 := ne_of_none ehv np2
          have h3 := ne_of_none ehv nd2
          simp only [List.nodup_cons, List.mem_cons, List.not_mem_nil, or_false, not_or, List.nodup_nil, and_true, not_false_eq_true]
          exact ⟨⟨c6, c4.symm, c2.symm, h3.symm⟩, ⟨c3.symm, c1.symm, h2.symm⟩, ⟨c5, h1.symm⟩, hvr.symm⟩
        · simp only [List.mem_cons, List.not_mem_nil, or_false] at hy
          rcases hy with rfl | rfl | rfl | rfl | rfl
          · exact ⟨⟨_, ed6⟩, R2.off nd2⟩
          · exact ⟨⟨_, ex6⟩, R2.off np2⟩
          · exact ⟨⟨_, el6⟩, R2.off nle2⟩
          · exact ⟨⟨_, er6⟩, R2.off nr2⟩
          · exact ⟨⟨_, ehv6⟩, ohv⟩
      -- the account
      intro w nw
      have nd7 := nd6.new R6 nw (o := .dK [])
      have s7 := same_new (o := .dK []) nw
      have ew7 : (upd H6 w (.dK [])) w = some (.dK []) := upd_same
      have R7 := R6.same s7
      generalize (upd H6 w (.dK [])) = H7 at nd7 s7 ew7 R7 ⊢
      refine fun d0 nd0 => ⟨one, fun cl ncl => ?_⟩
      have nd8 := nd7.new R7 nd0 (o := .dK [])
      have s8 := same_new (o := .dK []) nd0
      have e8 : (upd H7 d0 (.dK [])) d0 = some (.dK []) := upd_same
      have R8 := R7.same s8
      generalize (upd H7 d0 (.dK [])) = H8 at nd8 s8 e8 R8 ncl ⊢
      have nd9 := nd8.new R8 ncl (o := .lst [.ref d0])
      have s9 := same_new (o := .lst [.ref d0]) ncl
      have e9 : (upd H8 cl (.lst [.ref d0])) cl = some (.lst [.ref d0]) := upd_same
      have R9 := R8.same s9
      generalize (upd H8 cl (.lst [.ref d0])) = H9 at nd9 s9 e9 R9 ⊢
      refine ⟨one, fun bl nbl => ⟨Nat.zero_le _, fun tl ntl => ⟨Nat.zero_le _, fun ll nll => ?_⟩⟩⟩
      have ndA := nd9.new R9 nbl (o := .lst [.int 0])
      have sA := same_new (o := .lst [.int 0]) nbl
      have eA : (upd H9 bl (.lst [.int 0])) bl = some (.lst [.int 0]) := upd_same
      have RA_ := R9.same sA
      generalize (upd H9 bl (.lst [.int 0])) = HA at ndA sA eA RA_ ntl nll ⊢
      have ndB := ndA.new RA_ ntl (o := .lst [])
      have sB := same_new (o := .lst []) ntl
      have eB : (upd HA tl (.lst [])) tl = some (.lst []) := upd_same
      have RB := RA_.same sB
      generalize (upd HA tl (.lst [])) = HB at ndB sB eB RB nll ⊢
      have ndC := ndB.new RB nll (o := .lst [])
      have sC := same_new (o := .lst []) nll
      have eC : (upd HB ll (.lst [])) ll = some (.lst []) := upd_same
      have RC := RB.same sC
      generalize (upd HB ll (.lst [])) = HC at ndC sC eC RC ⊢
      have s7C := (((s8.trans s9).trans sA).trans sB).trans sC
      refine ⟨s7C _ _ ew7, [(.inr "contexts", .ref cl), (.inr "now", .int 0), (.inr "busy", .ref bl), (.inr "tokens", .ref tl), (.inr "log", .ref ll)], rfl, (by show 5 ≤ 15; decide), _, _, rfl, ?_⟩
      have emg : mergeK [] [((.inr "contexts" : Key), V.ref cl), (.inr "now", .int 0), (.inr "busy", .ref bl), (.inr "tokens", .ref tl), (.inr "log", .ref ll)] = [(.inr "contexts", .ref cl), (.inr "now", .int 0), (.inr "busy", .ref bl), (.inr "tokens", .ref tl), (.inr "log", .ref ll)] := by with_unfolding_all rfl
      rw [emg]
      have s6C := s7.trans s7C
      have RC6 := R6.same s6C
      have roC := ro.fr (Fr.of (l := []) s6C) (by simp) (by simp)
      have cxC := cx.fr (Fr.of (l := []) s6C) (by simp) (by simp)
      have TC := T6.ext s6C
      have fw : SW.Fr [w] HC (upd HC w (.dK [(.inr "contexts", .ref cl), (.inr "now", .int 0), (.inr "busy", .ref bl), (.inr "tokens", .ref tl), (.inr "log", .ref ll)])) := Fr.one
      have ewC := s7C _ _ ew7
      have ndw := ndC.upd (x := w) (o := .dK [(.inr "contexts", .ref cl), (.inr "now", .int 0), (.inr "busy", .ref bl), (.inr "tokens", .ref tl), (.inr "log", .ref ll)])
      have own := (ndC.2 w (by simp)).2
      have nwy : ∀ y ∈ [ll, tl, bl, cl, d0, d, p, le, r, hv], y ∉ [w] := fun y hy hm => by
        have ends := ndC.1
        rw [List.mem_singleton.mp hm] at hy
        simp only [List.mem_cons, List.not_mem_nil, or_false] at hy
        rcases hy with rfl | rfl | rfl | rfl | rfl | rfl | rfl | rfl | rfl | rfl <;> simp at ends
      refine ⟨r, le, p, d, w, cl, d0, bl, tl, ll, rfl, RC6.upd own, TC.keep (LnX.KeepT.upd (.inr ⟨_, ewC, (fun _ z => by cases z), fun _ z => by cases z⟩)), ndw, roC.fr fw (nwy r (by simp)) (nwy le (by simp)), cxC.fr fw (nwy p (by simp)) (nwy d (by simp)), upd_same, fw _ _ ((sA.trans (sB.trans sC)) _ _ e9) (nwy cl (by simp)), fw _ _ ((((s9.trans sA).trans sB).trans sC) _ _ e8) (nwy d0 (by simp)), fw _ _ ((sB.trans sC) _ _ eA) (nwy bl (by simp)), fw _ _ (sC _ _ eB) (nwy tl (by simp)), fw _ _ eC (nwy ll (by simp)), fw _ _ (s6C _ _ ehv6) (nwy hv (by simp))⟩
    rintro σ H3 ⟨r, le, p, d, w, cl, d0, bl, tl, ll, rfl, R3, T3, nd3, ro3, cx3, ew3, ecl3, ed03, ebl3, etl3, ell3, ehv3⟩
    -- things
    refine ⟨fun σ H4 => ∃ (th hc ht c0 : Addr), σ = [some (.ref xs), some (.ref a.s), some (.ref hv), some (.ref r), some (.ref w), some (.ref th), none, none] ∧ Rnd H4 a n ∧ LnX.TabsC T0 H4 ∧ All ⟨C, T, R, zs⟩ (A0 [ht, hc, c0, th, ll, tl, bl, cl, d0, w, d, p, le, r, hv]) L0 M0 U0 H4 ∧ Apart ⟨C, T, R, zs⟩ a (A0 [ht, hc, c0, th, ll, tl, bl, cl, d0, w, d, p, le, r, hv]) L0 M0 U0, ?_, ?_⟩
    · intro th nth
      have nd4 := nd3.new R3 nth (o := .dK [])
      have s4 := same_new (o := .dK []) nth
      have e4 : (upd H3 th (.dK [])) th = some (.dK []) := upd_same
      have R4 := R3.same s4
      generalize (upd H3 th (.dK [])) = H4 at nd4 s4 e4 R4 ⊢
      obtain ⟨dr, bk, er, _⟩ := ro3.fr (Fr.of (l := []) s4) (by simp) (by simp)
      refine ⟨_, rfl, r, R, dr, _, _, rfl, er, Z.RR.cl, Z.RR.nN, rfl_n bk _ _, two, fun c0 nc0 => ⟨one, fun hc nhc => ?_⟩⟩
      have nd5 := nd4.new R4 nc0 (o := .lst [.ref p, .int 0])
      have s5 := same_new (o := .lst [.ref p, .int 0]) nc0
      have e5 : (upd H4 c0 (.lst [.ref p, .int 0])) c0 = some (.lst [.ref p, .int 0]) := upd_same
      have R5 := R4.same s5
      generalize (upd H4 c0 (.lst [.ref p, .int 0])) = H5 at nd5 s5 e5 R5 nhc ⊢
      have nd6 := nd5.new R5 nhc (o := .lst [.ref c0])
      have s6 := same_new (o := .lst [.ref c0]) nhc
      have e6 : (upd H5 hc (.lst [.ref c0])) hc = some (.lst [.ref c0]) := upd_same
      have R6 := R5.same s6
      generalize (upd H5 hc (.lst [.ref c0])) = H6 at nd6 s6 e6 R6 ⊢
      refine ⟨Nat.zero_le _, fun ht nht => ?_⟩
      have nd7 := nd6.new R6 nht (o := .lst [])
      have s7 := same_new (o := .lst []) nht
      have e7 : (upd H6 ht (.lst [])) ht = some (.lst []) := upd_same
      have R7 := R6.same s7
      generalize (upd H6 ht (.lst [])) = H7 at nd7 s7 e7 R7 ⊢
      have s47 := (s5.trans s6).trans s7
      have eth7 := s47 _ _ e4
      refine ⟨_, rfl, eth7, [(.inr "contexts", .ref hc), (.inr "tokens", .ref ht), (.inr "vars", .ref hv)], rfl, (by show 3 ≤ 15; decide), ?_⟩
      have emg : mergeK [] [((.inr "contexts" : Key), V.ref hc), (.inr "tokens", .ref ht), (.inr "vars", .ref hv)] = [(.inr "contexts", .ref hc), (.inr "tokens", .ref ht), (.inr "vars", .ref hv)] := by with_unfolding_all rfl
      rw [emg]
      have s37 := s4.trans s47
      have fw : SW.Fr [th] H7 (upd H7 th (.dK [(.inr "contexts", .ref hc), (.inr "tokens", .ref ht), (.inr "vars", .ref hv)])) := Fr.one
      have ndw := nd7.upd (x := th) (o := .dK [(.inr "contexts", .ref hc), (.inr "tokens", .ref ht), (.inr "vars", .ref hv)])
      have own := (nd7.2 th (by simp)).2
      have nwy : ∀ y ∈ [ht, hc, c0, ll, tl, bl, cl, d0, w, d, p, le, r, hv], y ∉ [th] := fun y hy hm => by
        have ends := nd7.1
        rw [List.mem_singleton.mp hm] at hy
        simp only [List.mem_cons, List.not_mem_nil, or_false] at hy
        rcases hy with rfl | rfl | rfl | rfl | rfl | rfl | rfl | rfl | rfl | rfl | rfl | rfl | rfl | rfl <;> simp at ends
      have T7 := T3.ext s37
      obtain ⟨al, ap⟩ := start (G := ⟨C, T, R, zs⟩) ndw ((ro3.fr (Fr.of (l := []) s37) (by simp) (by simp)).fr fw (nwy r (by simp)) (nwy le (by simp))) ((cx3.fr (Fr.of (l := []) s37) (by simp) (by simp)).fr fw (nwy p (by simp)) (nwy d (by simp)))
        (fw _ _ (s37 _ _ ew3) (nwy w (by simp))) (fw _ _ (s37 _ _ ecl3) (nwy cl (by simp))) (fw _ _ (s37 _ _ ed03) (nwy d0 (by simp))) (fw _ _ (s37 _ _ ebl3) (nwy bl (by simp))) (fw _ _ (s37 _ _ etl3) (nwy tl (by simp))) (fw _ _ (s37 _ _ ell3) (nwy ll (by simp)))
        upd_same (fw _ _ (s7 _ _ e6) (nwy hc (by simp))) (fw _ _ ((s6.trans s7) _ _ e5) (nwy c0 (by simp))) (fw _ _ e7 (nwy ht (by simp))) (fw _ _ (s37 _ _ ehv3) (nwy hv (by simp)))
      exact ⟨th, hc, ht, c0, rfl, R7.upd own, T7.keep (LnX.KeepT.upd (.inr ⟨_, eth7, (fun _ z => by cases z), fun _ z => by cases z⟩)), al, ap⟩
    rintro σ H4 ⟨th, hc, ht, c0, rfl, R4, T4, al4, ap4⟩
    have mt4 : Mt ⟨C, T, R, zs⟩ L0 M0 U0 := mt_start l3 znm (fun z => by
      have z : zs = [] := z
      rw [z] at l1
      exact absurd l1 (by decide))
    -- room
    obtain ⟨H5, dp, R5, b5⟩ := rnd_setR R4 80
    refine ⟨_, rfl, a.s, H5, rfl, dp, ?_⟩
    have sy4 : Sy ⟨C, T, R, zs⟩ a T0 _ L0 M0 U0 H4 n := ⟨al4, R4, ap4, T4⟩
    have sy5 := sy4.rm R5 b5
    obtain ⟨A, eA⟩ : ∃ A, A = A0 [ht, hc, c0, th, ll, tl, bl, cl, d0, w, d, p, le, r, hv] := ⟨_, rfl⟩
    have er : A .r = r := by rw [eA]; rfl
    have ew : A .w = w := by rw [eA]; rfl
    have eth : A .th = th := by rw [eA]; rfl
    rw [← eA] at sy5
    rw [← er, ← ew, ← eth]
    -- deeds, the log
    refine ⟨fun σ H6 => ∃ (A' : Lb → Addr) (L' : LS) (M' : RS) (U' : TS) (n' : Nat) (r' : Int) (fo : Addr), σ = [some (.ref xs), some (.ref a.s), some (.ref hv), some (.ref (A' .r)), some (.ref (A' .w)), some (.ref (A .th)), some (.bl true), some (.ref fo)] ∧ Sy ⟨C, T, R, zs⟩ (a.rm r') T0 A' L' M' U' H6 n' ∧ Mt ⟨C, T, R, zs⟩ L' M' U' ∧ L'.lg.length ≤ 400 ∧ Ou ⟨C, T, R, zs⟩ a A' L' M' U' fo ∧ ∃ vs, H6 fo = some (.lst vs) ∧ vs.length ≤ 400, ?_, ?_⟩
    · have bd : Bd (a.rm 80) L0 n (10 * ((0 : Nat) : Int)) := ⟨(by show (0 : Int) ≤ 80; decide), (by show (n : Int) + 40 * 80 ≤ _; omega), (by show (1 : Int) + 80 ≤ 380; decide), (by show (0 : Int) + 80 ≤ 380; decide), (by show (0 : Int) + 80 ≤ 380; decide)⟩
      refine ⟨_, rfl, _, rfl, _, rfl, _, rfl, zs, a.rm 80, A, L0, M0, U0, n, rfl, sy5, mt4, bd, fun A' L' M' U' n' H6 r' st h1 h2 h3 => ?_⟩
      have h1 : r' ≤ 80 := h1
      have h2 : (0 : Int) ≤ r' + 9 := h2
      have sl : L'.lg.length ≤ 0 + ((80 : Int) - r').toNat := st.l
      have ro6 := st.sy.al.room
      rw [st.kp.2.1] at ro6
      refine ⟨_, rfl, at_room ro6 ⟨A .r, _, _, rfl, ro6, fun fo H7 nfo efo s7 => ⟨_, _, rfl, ?_⟩⟩⟩
      refine ⟨A', L', M', U', n', r', fo, ?_, st.sy.same s7, st.mt, by omega, ?_, _, efo, by rw [refs_len, ← st.mt.lg]; omega⟩
      · rw [st.kp.1, st.kp.2.1]
        rfl
      · have := st.sy.ou nfo
        exact this
    rintro σ H6 ⟨A', L', M', U', n', r', fo, rfl, sy6, mt6, ll6, ou6, vs6, efo6, lv6⟩
    -- found
    refine ⟨_, rfl, .inl ⟨rfl, _, SqL.of efo6⟩, three, fun t nt => ?_⟩
    have s7 := same_new (o := .tup [.str "shown", .str "more", .int 0]) nt
    have sy7 := sy6.same s7
    have efo7 := s7 _ _ efo6
    generalize (upd H6 t (.tup [.str "shown", .str "more", .int 0])) = H7 at sy7 efo7 ⊢
    refine ⟨fo, vs6, _, rfl, rfl, efo7, small1000 (by omega), ?_⟩
    have sy8 := sy7.out (o := .lst (vs6 ++ [.ref t])) ou6 efo7 ⟨fun _ z => (by cases z), fun _ z => by cases z⟩
    generalize (upd H7 fo (.lst (vs6 ++ [.ref t]))) = H8 at sy8 ⊢
    refine ⟨_, rfl, _, rfl, iteT ?_⟩
    refine ⟨_, rfl, at_room sy8.al.room ⟨A' .r, (A' .le, _), A' (.p M'.now), rfl, sy8.al.room, fun l9 H9 nl9 el9 s9 => ?_⟩⟩
    have al9 := sy8.al.same s9
    have okL : EvOk zs L'.lg := mt6.ev
    have okM : EvOk zs M'.lg := by rw [← mt6.lg]; exact mt6.ev
    have g := (wk_l A' L'.now) ▸ DGet.k (k := Sum.inr "log") al9.w_
    have pl : ∀ {lg : List (List V)}, EvOk zs lg → (logD lg).plain = true := fun h => by
      unfold logD
      simp only [PyData.plain]
      exact ev_plain h
    refine ⟨_, rfl, A' .w, _, rfl, g, logD M'.lg, logD L'.lg, log_dp okM el9 al9.re_, log_dp okL al9.ll_ al9.ev_, pl okM, pl okL, ?_, ?_⟩
    · have := ev_depth okM
      unfold logD
      simp only [PyData.depth]
      omega
    · rw [mt6.lg, SeqAt.eqv_refl_plain _ (pl okM)]
      exact k H9
end
end XA

set_option Elab.async false
set_option linter.all false
set_option maxRecDepth 100000
set_option maxHeartbeats 2000000
/-! The law is called where nothing runs: the tables of code objects, the script. -/
namespace BK
open PySem PySem.Spec PyProof.Rows L2 SW
abbrev emptyTab : Obj := { cls := .none, data := .fields #[] }
abbrev listOf (us : List Value) : Obj := { cls := .type "list", data := .seq us.toArray }
section
variable {P : Program} {w : World} {K : PySem.W.Frag} {mg mb : Str → Option Value} {s : Shared} {us : List Value} {ns : List Int} {tbs : List Addr} {sc : Addr}
/-- what is told at the start: the tables, and the script where the written part does not hold it -/
theorem first_hps (hs : s.heap.get? sc = some (listOf us)) (ht : ∀ tb ∈ tbs, s.heap.get? tb = some emptyTab) (KX : K.In s.heap) (inz : IntsAre us ns) (few : ns.length ≤ sizeLine) :
    ∃ H : Hp, (∀ tb ∈ tbs, H tb = some (.tbl #[])) ∧ SqL K H sc (ns.map V.int) ∧ HOk P w H s.heap ∧ ∀ b u, H b = some u → (b ∈ tbs ∧ u = .tbl #[]) ∨ (b = sc ∧ K.lookup sc = none ∧ ∃ o xs, u = .frz o (.lst xs)) := by
  have ne : sc ∉ tbs := fun e => by
    have := ht sc e
    rw [hs] at this
    cases this
  have vi := vals_ints inz
  have li := inz.length
  obtain ⟨H0, eH0⟩ : ∃ H0 : Hp, H0 = fun b => if b ∈ tbs then some (.tbl #[]) else none := ⟨_, rfl⟩
  have h0 : ∀ tb ∈ tbs, H0 tb = some (.tbl #[]) := fun tb h => by
    rw [eH0]
    exact if_pos h
  have h1 : ∀ b u, H0 b = some u → b ∈ tbs ∧ u = .tbl #[] := fun b u e => by
    rw [eH0] at e
    have e : (if b ∈ tbs then some (HO.tbl #[]) else none) = some u := e
    split at e
    · rename_i h
      exact ⟨h, (Option.some.inj e).symm⟩
    · cases e
  have ok0 : HOk P w H0 s.heap := fun b u e => by
    obtain ⟨hm, rfl⟩ := h1 b u e
    exact ht b hm
  cases kl : K.lookup sc with
  | some o =>
    have eo : o = listOf us := Option.some.inj ((KX sc o kl).symm.trans hs)
    exact ⟨H0, h0, .inr ⟨o, us.toArray, 0, kl, by rw [eo], by rw [eo], by rw [eo], by rw [List.size_toArray, li]; exact few, by simpa using vi⟩, ok0, fun b u e => .inl (h1 b u e)⟩
  | none =>
    refine ⟨upd H0 sc (.frz (listOf us) (.lst (ns.map V.int))), fun tb h => by rw [upd_ne (fun q => ne (by rw [← q]; exact h))]; exact h0 tb h, .inl (.inr ⟨listOf us, upd_same⟩), fun b u e => ?_, fun b u e => ?_⟩
    · by_cases hb : b = sc
      · rw [hb, upd_same] at e
        cases e
        rw [hb]
        exact ⟨hs, by rw [List.length_map]; exact few, us, 0, vi, hs⟩
      · rw [upd_ne hb] at e
        obtain ⟨hm, rfl⟩ := h1 b u e
        exact ht b hm
    · by_cases hb : b = sc
      · rw [hb, upd_same] at e
        cases e
        exact .inr ⟨hb, rfl, _, _, rfl⟩
      · rw [upd_ne hb] at e
        exact .inl (h1 b u e)
/-- the law's promise is called -/
theorem call_laws {k : Nat} {fa : Addr} {fd : FuncData} {x : Str} {sp : Sp} {mks : List (Addr × Addr)} (KX : K.In s.heap) (gl : s.heap.Ns mainGlobals mg) (bl : s.heap.Ns builtinsNs mb) (bb : ∀ x : Str, x ≠ "__name__" → mb x = bootBuiltins x) (nl : s.heap.NoLimit) (ge : s.gens = #[])
    (ht : ∀ tb ∈ tbs, s.heap.get? tb = some emptyTab) (nt : ∀ tb ∈ tbs, K.lookup tb = none) (hm : ∀ p ∈ mks, p.2 ∈ tbs) (hc : ∀ p ∈ mks, PySem.W.CodeHd s.heap p.1 p.2) (hm2 : ∀ tb ∈ tbs, ∃ c, (c, tb) ∈ mks)
    (bm : ∃ (m : Addr) (o : Obj), mg "__builtins__" = some (.ref m) ∧ m ≠ builtinsNs ∧ s.heap.get? m = some o ∧ o.cls = .type "module" ∧ o.dict = some builtinsNs ∧ o.data = .plain)
    (hs : s.heap.get? sc = some (listOf us)) (inz : IntsAre us ns) (few : ns.length ≤ sizeLine) (hr : Room k callerA)
    (F : ∀ base : Heap, K.In base → base.Ns mainGlobals mg → (∀ p ∈ mks, LamX.TabB base mg p.1 p.2) → FnG P w K mg base k fa fd [x] sp) (bd : ∀ (s : Shared) (u : Value), BindsTo s fd ⟨[u], []⟩ [(x, u)])
    (pr : ∀ H : Hp, (∀ tb ∈ tbs, H tb = some (.tbl #[])) → SqL K H sc (ns.map V.int) → sp [.ref sc] H (fun v _ => v = .bl true) fun _ _ _ => False) :
    codeAny (model P w) callerA (.call (.ref fa) ⟨[.ref sc], []⟩) (fun r s' => r = .ok (.ret (.bool true)) ∧ OldK s.heap s'.heap ∧ s'.os = s.os ∧ AllBare s'.gens) s := by
  obtain ⟨H, hT, hS, ok, only⟩ := first_hps (P := P) (w := w) hs ht KX inz few
  -- an object of the state that is none of the told ones stands in the base
  have stays : ∀ {b : Addr} {o : Obj}, s.heap.get? b = some o → (b ∈ tbs → False) → (b = sc → K.lookup sc = none → False) → (hidT s.heap H).get? b = some o := fun {b o} e h1 h2 => hidT_get e (by
    cases q : H b with
    | none => rfl
    | some u =>
      rcases only b u q with ⟨z, _⟩ | ⟨z, z2, _⟩
      · exact (h1 z).elim
      · exact (h2 z z2).elim)
  have other : ∀ {b : Addr} {o : Obj}, s.heap.get? b = some o → o ≠ emptyTab → o ≠ listOf us → (hidT s.heap H).get? b = some o := fun {b o} e h1 h2 =>
    stays e (fun z => h1 (Option.some.inj (e.symm.trans (ht b z)))) (fun z _ => h2 (Option.some.inj ((by rw [← e, z]; exact hs))))
  have kb : K.In (hidT s.heap H) := fun b o e => stays (KX b o e) (fun z => by rw [nt b z] at e; cases e) fun z z2 => by rw [z, z2] at e; cases e
  have dict_ : ∀ {b : Addr} {m : Str → Option Value}, s.heap.Ns b m → (hidT s.heap H).Ns b m := fun {b m} h => by
    obtain ⟨o, es, ep, e, d, r⟩ := h
    exact ⟨o, es, ep, other e (fun z => by rw [z] at d; cases d) (fun z => by rw [z] at d; cases d), d, r⟩
  have md : L2.Mod K mg (hidT s.heap H) := by
    obtain ⟨mc, q1, q2⟩ := nl
    exact ⟨kb, dict_ gl, ⟨mb, dict_ bl, bb⟩, mc, dict_ q1, q2⟩
  have TB : ∀ p ∈ mks, LamX.TabB (hidT s.heap H) mg p.1 p.2 := fun p hp => by
    have htp := ht p.2 (hm p hp)
    refine ⟨?_, ?_, fun z => ?_⟩
    · obtain ⟨o, vs, file, tf, flags, tg, inF, text, tt, e1, r1, r2, r3, rest⟩ := hc p hp
      refine ⟨o, vs, file, tf, flags, tg, inF, text, tt, other e1 (fun z => ?_) (fun z => ?_), r1, r2, r3, rest⟩
      · rw [z] at r2
        cases r2
        simp at r3
      · rw [z] at r2
        cases r2
    · obtain ⟨m, o, b1, b2, b3, b4, b5, b6⟩ := bm
      refine ⟨m, o, b1, b2, fun q => ?_, fun q => ?_, other b3 (fun z => by rw [z] at b6; cases b6) (fun z => by rw [z] at b6; cases b6), b4, b5, b6⟩
      · obtain ⟨o2, es, ep, e, d, _⟩ := gl
        rw [q, e] at b3
        cases b3
        rw [d] at b6
        cases b6
      · rw [q, htp] at b3
        cases b3
        cases b6
    · obtain ⟨o2, es, ep, e, d, _⟩ := gl
      rw [z, htp] at e
      cases e
      cases d
  have e0 : Env0 P w K mg (hidT s.heap H) callerA [] s H := ⟨rfl, md, fun b o e => of_hidT e, Nat.le_of_eq (hidT_size _ _), trivial, (fun b hb => by cases hb), ok, .of_eq ge⟩
  refine codeAny_mono ((F _ kb (dict_ gl) TB).run callerA [] s H [.ref sc] [.ref sc] _ _ rfl hr e0 (bd s (.ref sc)) (.cons rfl .nil) (pr H hT hS)) fun r s' h => ?_
  match r, h with
  | .ok (.ret u), ⟨v, H', os, bare, un, ok', rv, q⟩ =>
    have ev : v = .bl true := q
    rw [ev] at rv
    have eu : u = Value.bool true := rv
    have tab' : ∀ tb ∈ tbs, ∃ more, s'.heap.get? tb = some { cls := .none, data := .fields (#[] ++ more) } := fun tb hb => by
      obtain ⟨more, gr⟩ := un.tbls tb #[] (hT tb hb)
      exact ⟨more, ok' tb _ gr⟩
    have old : ∀ b o, b ∉ tbs → s.heap.get? b = some o → s'.heap.get? b = some o := fun b o nb e => by
      cases q : H b with
      | none => exact un.keep b o e q (by intro z; cases z) (by simp)
      | some u =>
        rcases only b u q with ⟨z, _⟩ | ⟨_, _, o2, xs, z⟩
        · exact absurd z nb
        · rw [z] at q
          have a1 := (ok b _ q).1
          have a2 := (ok' b _ (un.frzs b o2 _ q)).1
          rw [e] at a1
          cases a1
          exact a2
    refine ⟨by rw [eu], ⟨fun b o e => ?_, fun b o e => ?_⟩, os, bare⟩
    · by_cases hb : b ∈ tbs
      · obtain ⟨c, hcm⟩ := hm2 b hb
        obtain ⟨more, tb'⟩ := tab' b hb
        have hcc : PySem.W.CodeHd s.heap c b := hc _ hcm
        have htb := ht b hb
        rw [htb] at e
        cases e
        exact .inr (.inl ⟨(hcc.tab htb).isCodeTable, rfl, #[], more, rfl, tb'⟩)
      · exact .inl (old b o hb e)
    · by_cases hb : b ∈ tbs
      · obtain ⟨more, tb'⟩ := tab' b hb
        exact ⟨_, tb'⟩
      · exact ⟨o, old b o hb e⟩
end

/-- a law: F gives the written part, the tables, the law's promise -/
theorem walkM {l : PySem.W.OpenLaw} {q : Program} {loose : List Str} {XP : (Str → Option Value) → Heap → Prop} {YP : World → Heap → Prop} {d : DefRec} (hn : l.most = some 63) (hdf : d.params.defaults = [])
    (F : ∀ (w : World) (mg : Str → Option Value) (fa : Addr) (h : Heap), YP w h → h.Ns mainGlobals mg → mg d.name = some (.ref fa) →
      ∃ (K : PySem.W.Frag) (fd : FuncData) (mks : List (Addr × Addr)) (k : Nat) (sp : Sp), K.In h ∧ (∀ p ∈ mks, h.get? p.2 = some emptyTab ∧ K.lookup p.2 = none ∧ PySem.W.codeHdIn K p.1 p.2 = true) ∧ Room k callerA ∧ (∀ (s : Shared) (u : Value), BindsTo s fd ⟨[u], []⟩ [("script", u)]) ∧
        (∀ (H : Hp) (a : Addr) (ns : List Int), ns.length ≤ 63 → (∀ p ∈ mks, H p.2 = some (.tbl #[])) → SqL K H a (ns.map V.int) → sp [.ref a] H (fun v _ => v = .bl true) fun _ _ _ => False) ∧
        ∀ base : Heap, K.In base → base.Ns mainGlobals mg → (∀ p ∈ mks, LamX.TabB base mg p.1 p.2) → FnG l.prog w K mg base k fa fd ["script"] sp) :
    PySem.W.WalkO q loose XP YP l.row.toRowW d [] (fun f vs => PySem.call f vs) := by
  refine Att.attach_callB hn hdf fun w s0 s mg mb fa o pm cd doc a vs ns G Y _ _ _ hmg obj inz few _ ge => ?_
  obtain ⟨K, fd, mks, k, sp, KX, ht, hr, bd, pr, GF⟩ := F w mg fa _ Y G.T.g hmg
  have mem : ∀ tb ∈ mks.map (·.2), ∃ p ∈ mks, p.2 = tb := fun tb h => List.mem_map.mp h
  refine call_laws (tbs := mks.map (·.2)) (mks := mks) KX G.T.g G.T.b G.T.builtins G.T.nolimit ge (fun tb h => ?_) (fun tb h => ?_) (fun p hp => List.mem_map.mpr ⟨p, hp, rfl⟩) (fun p hp => PySem.W.codeHd_of_K KX (ht p hp).2.2) (fun tb h => ?_) G.T.bmain obj inz (Nat.le_trans few (by decide)) hr GF bd
    fun H h1 h2 => pr H a ns few (fun p hp => h1 p.2 (List.mem_map.mpr ⟨p, hp, rfl⟩)) h2
  · obtain ⟨p, hp, rfl⟩ := mem tb h
    exact (ht p hp).1
  · obtain ⟨p, hp, rfl⟩ := mem tb h
    exact (ht p hp).2.1
  · obtain ⟨p, hp, rfl⟩ := mem tb h
    exact ⟨p.1, hp⟩
end BK

set_option Elab.async false
set_option linter.all false
set_option maxRecDepth 100000
set_option maxHeartbeats 4000000
/-! What the top has written. -/
namespace BK
open PySem PySem.Spec PyProof.Rows L2
theorem kinds_mem {x : Str} {ks : List Str} (h : kindsOf x = some ks) : (x, ks) ∈ kindTab := by
  unfold kindsOf at h
  cases e : kindTab.find? fun e => decide (e.1 = x) with
  | none => rw [e] at h; cases h
  | some p =>
    rw [e] at h
    have q : p.2 = ks := Option.some.inj h
    have q0 : (fun e : Str × List Str => decide (e.1 = x)) p = true := List.find?_some (p := fun e : Str × List Str => decide (e.1 = x)) e
    have q1 : p.1 = x := of_decide_eq_true q0
    have m := List.mem_of_find?_eq_some e
    rw [← q, ← q1]
    exact m
theorem kinds_no {x : Str} (h : kindsOf x = none) : x ∉ keys_PARTS := by
  have all : (keys_PARTS.all fun y => (kindsOf y).isSome) = true := by decide +kernel
  intro hm
  have := List.all_eq_true.mp all x hm
  rw [h] at this
  cases this
theorem isFBs_ok {K : PySem.W.Frag} {C : Addr} (h : isFB K C = true) : SW.IsFacts K C := by
  unfold isFB at h
  obtain ⟨h1, h⟩ := Bool.and_eq_true_iff.mp h
  obtain ⟨h2, h⟩ := Bool.and_eq_true_iff.mp h
  obtain ⟨h3, h⟩ := Bool.and_eq_true_iff.mp h
  obtain ⟨h4, h5⟩ := Bool.and_eq_true_iff.mp h
  exact ⟨h1, He.eqO_ok h2, He.eqO_ok h3, of_decide_eq_true h4, of_decide_eq_true h5⟩
theorem isFB_ok {K : PySem.W.Frag} {C : Addr} (h : isFB K C = true) : IsFacts K C := by
  unfold isFB at h
  obtain ⟨h1, h⟩ := Bool.and_eq_true_iff.mp h
  obtain ⟨h2, h⟩ := Bool.and_eq_true_iff.mp h
  obtain ⟨h3, h⟩ := Bool.and_eq_true_iff.mp h
  obtain ⟨h4, h5⟩ := Bool.and_eq_true_iff.mp h
  exact ⟨h1, He.eqO_ok h2, He.eqO_ok h3, of_decide_eq_true h4, of_decide_eq_true h5⟩
theorem facts {P : Program} {w : World} {K : PySem.W.Frag} {h : Heap} {mg : Str → Option Value} {fa : Addr} (X : K.In h) (G : h.Ns mainGlobals mg) (hfa : mg "law" = some (.ref fa)) (c : He.SaysX faH fnH tsH tfH exH w h K) :
    ∃ (fd : FuncData) (mks : List (Addr × Addr)) (k : Nat) (sp : Sp), (∀ p ∈ mks, h.get? p.2 = some emptyTab ∧ K.lookup p.2 = none ∧ PySem.W.codeHdIn K p.1 p.2 = true) ∧ Room k callerA ∧ (∀ (s : Shared) (u : Value), BindsTo s fd ⟨[u], []⟩ [("script", u)]) ∧
        (∀ (H : Hp) (a : Addr) (ns : List Int), ns.length ≤ 63 → (∀ p ∈ mks, H p.2 = some (.tbl #[])) → SqL K H a (ns.map V.int) → sp [.ref a] H (fun v _ => v = .bl true) fun _ _ _ => False) ∧
        ∀ base : Heap, K.In base → base.Ns mainGlobals mg → (∀ p ∈ mks, LamX.TabB base mg p.1 p.2) → FnG P w K mg base k fa fd ["script"] sp := by
  have cd := c.t.d
  have cx : allB (exL K) = true := c.more
  have gCK : mg "Check" = some (.ref (He.ga K "Check")) := (He.glo_ok X G (cd.fact 0 (f := .glo "Check") rfl))
  have gCB : mg "BadBook" = some (.ref (He.ga K "BadBook")) := (He.glo_ok X G (cd.fact 1 (f := .glo "BadBook") rfl))
  have gCF : mg "Fails" = some (.ref (He.ga K "Fails")) := (He.glo_ok X G (cd.fact 2 (f := .glo "Fails") rfl))
  have gC : mg "Context" = some (.ref (He.ga K "Context")) := (He.glo_ok X G (cd.fact 3 (f := .glo "Context") rfl))
  have gCT : mg "Token" = some (.ref (He.ga K "Token")) := (He.glo_ok X G (cd.fact 4 (f := .glo "Token") rfl))
  have gCW : mg "Within" = some (.ref (He.ga K "Within")) := (He.glo_ok X G (cd.fact 5 (f := .glo "Within") rfl))
  have gCR : mg "Room" = some (.ref (He.ga K "Room")) := (He.glo_ok X G (cd.fact 6 (f := .glo "Room") rfl))
  obtain ⟨fdisn, FDisn⟩ := cd.def_ 0 (d := d_isn) rfl
  have Fisn : Fun K "is_name" "is_name" BK.sName (He.fAd K ("is_name", none)) fdisn := fun_of FDisn
  have gisn : mg "is_name" = some (.ref (He.fAd K ("is_name", none))) := (He.glo_ok X G (cd.fact 7 (f := .glo "is_name") rfl))
  have kisn := Fisn.kp
  have bisn := Fisn.binds (ps := ["thing"]) fun _ _ _ _ _ _ us hl => match us, hl with | [_], _ => rfl
  obtain ⟨fdarn, FDarn⟩ := cd.def_ 1 (d := d_arn) rfl
  have Farn : Fun K "are_names" "are_names" sAreNames (He.fAd K ("are_names", none)) fdarn := fun_of FDarn
  have garn : mg "are_names" = some (.ref (He.fAd K ("are_names", none))) := (He.glo_ok X G (cd.fact 8 (f := .glo "are_names") rfl))
  have karn := Farn.kp
  have barn := Farn.binds (ps := ["thing"]) fun _ _ _ _ _ _ us hl => match us, hl with | [_], _ => rfl
  obtain ⟨fditg, FDitg⟩ := cd.def_ 2 (d := d_itg) rfl
  have Fitg : Fun K "is_integer" "is_integer" sInteger (He.fAd K ("is_integer", none)) fditg := fun_of FDitg
  have gitg : mg "is_integer" = some (.ref (He.fAd K ("is_integer", none))) := (He.glo_ok X G (cd.fact 9 (f := .glo "is_integer") rfl))
  have kitg := Fitg.kp
  have bitg := Fitg.binds (ps := ["thing"]) fun _ _ _ _ _ _ us hl => match us, hl with | [_], _ => rfl
  obtain ⟨fdnum, FDnum⟩ := cd.def_ 3 (d := d_num) rfl
  have Fnum : Fun K "is_number" "is_number" sNumber (He.fAd K ("is_number", none)) fdnum := fun_of FDnum
  have gnum : mg "is_number" = some (.ref (He.fAd K ("is_number", none))) := (He.glo_ok X G (cd.fact 10 (f := .glo "is_number") rfl))
  have knum := Fnum.kp
  have bnum := Fnum.binds (ps := ["thing", "most"]) fun _ _ _ _ _ _ us hl => match us, hl with | [_, _], _ => rfl
  obtain ⟨fdtup, FDtup⟩ := cd.def_ 4 (d := d_tup) rfl
  have Ftup : Fun K "is_tuple" "is_tuple" sTuple (He.fAd K ("is_tuple", none)) fdtup := fun_of FDtup
  have gtup : mg "is_tuple" = some (.ref (He.fAd K ("is_tuple", none))) := (He.glo_ok X G (cd.fact 11 (f := .glo "is_tuple") rfl))
  have ktup := Ftup.kp
  have btup := Ftup.binds (ps := ["thing", "count"]) fun _ _ _ _ _ _ us hl => match us, hl with | [_, _], _ => rfl
  obtain ⟨fddif, FDdif⟩ := cd.def_ 5 (d := d_dif) rfl
  have Fdif : Fun K "are_different_names" "are_different_names" sDiff (He.fAd K ("are_different_names", none)) fddif := fun_of FDdif
  have gdif : mg "are_different_names" = some (.ref (He.fAd K ("are_different_names", none))) := (He.glo_ok X G (cd.fact 12 (f := .glo "are_different_names") rfl))
  have kdif := Fdif.kp
  have bdif := Fdif.binds (ps := ["things"]) fun _ _ _ _ _ _ us hl => match us, hl with | [_], _ => rfl
  obtain ⟨fdprt, FDprt⟩ := cd.def_ 6 (d := d_prt) rfl
  have Fprt : Fun K "is_part" "is_part" sPart (He.fAd K ("is_part", none)) fdprt := fun_of FDprt
  have gprt : mg "is_part" = some (.ref (He.fAd K ("is_part", none))) := (He.glo_ok X G (cd.fact 13 (f := .glo "is_part") rfl))
  have kprt := Fprt.kp
  have bprt := Fprt.binds (ps := ["thing", "kind"]) fun _ _ _ _ _ _ us hl => match us, hl with | [_, _], _ => rfl
  obtain ⟨fdwrd, FDwrd⟩ := cd.def_ 7 (d := d_wrd) rfl
  have Fwrd : Fun K "word_of" "word_of" sWord (He.fAd K ("word_of", none)) fdwrd := fun_of FDwrd
  have gwrd : mg "word_of" = some (.ref (He.fAd K ("word_of", none))) := (He.glo_ok X G (cd.fact 14 (f := .glo "word_of") rfl))
  have kwrd := Fwrd.kp
  have bwrd := Fwrd.binds (ps := ["thing"]) fun _ _ _ _ _ _ us hl => match us, hl with | [_], _ => rfl
  obtain ⟨fdfit, FDfit⟩ := cd.def_ 8 (d := d_fit) rfl
  have Ffit : Fun K "fits" "fits" sFits (He.fAd K ("fits", none)) fdfit := fun_of FDfit
  have gfit : mg "fits" = some (.ref (He.fAd K ("fits", none))) := (He.glo_ok X G (cd.fact 15 (f := .glo "fits") rfl))
  have kfit := Ffit.kp
  have bfit := Ffit.binds (ps := ["thing", "kinds"]) fun _ _ _ _ _ _ us hl => match us, hl with | [_, _], _ => rfl
  obtain ⟨fdfrm, FDfrm⟩ := cd.def_ 9 (d := d_frm) rfl
  have Ffrm : Fun K "has_form" "has_form" sForm (He.fAd K ("has_form", none)) fdfrm := fun_of FDfrm
  have gfrm : mg "has_form" = some (.ref (He.fAd K ("has_form", none))) := (He.glo_ok X G (cd.fact 16 (f := .glo "has_form") rfl))
  have kfrm := Ffrm.kp
  have bfrm := Ffrm.binds (ps := ["thing"]) fun _ _ _ _ _ _ us hl => match us, hl with | [_], _ => rfl
  obtain ⟨fdpts, FDpts⟩ := cd.def_ 10 (d := d_pts) rfl
  have Fpts : Fun K "parts_of" "parts_of" sParts (He.fAd K ("parts_of", none)) fdpts := fun_of FDpts
  have gpts : mg "parts_of" = some (.ref (He.fAd K ("parts_of", none))) := (He.glo_ok X G (cd.fact 17 (f := .glo "parts_of") rfl))
  have kpts := Fpts.kp
  have bpts := Fpts.binds (ps := ["statement"]) fun _ _ _ _ _ _ us hl => match us, hl with | [_], _ => rfl
  obtain ⟨fdblk, FDblk⟩ := cd.def_ 11 (d := d_blk) rfl
  have Fblk : Fun K "blocks_of" "blocks_of" sBlocks (He.fAd K ("blocks_of", none)) fdblk := fun_of FDblk
  have gblk : mg "blocks_of" = some (.ref (He.fAd K ("blocks_of", none))) := (He.glo_ok X G (cd.fact 18 (f := .glo "blocks_of") rfl))
  have kblk := Fblk.kp
  have bblk := Fblk.binds (ps := ["statement"]) fun _ _ _ _ _ _ us hl => match us, hl with | [_], _ => rfl
  obtain ⟨fdcan, FDcan⟩ := cd.def_ 12 (d := d_can) rfl
  have Fcan : Fun K "can_stand" "can_stand" sCan (He.fAd K ("can_stand", none)) fdcan := fun_of FDcan
  have gcan : mg "can_stand" = some (.ref (He.fAd K ("can_stand", none))) := (He.glo_ok X G (cd.fact 19 (f := .glo "can_stand") rfl))
  have kcan := Fcan.kp
  have bcan := Fcan.binds (ps := ["statement", "around"]) fun _ _ _ _ _ _ us hl => match us, hl with | [_, _], _ => rfl
  obtain ⟨fdhyi, FDhyi⟩ := cd.def_ 13 (d := d_hyi) rfl
  have Fhyi : Fun K "has_yield" "has_yield" sYield (He.fAd K ("has_yield", none)) fdhyi := fun_of FDhyi
  have ghyi : mg "has_yield" = some (.ref (He.fAd K ("has_yield", none))) := (He.glo_ok X G (cd.fact 20 (f := .glo "has_yield") rfl))
  have khyi := Fhyi.kp
  have bhyi := Fhyi.binds (ps := ["block"]) fun _ _ _ _ _ _ us hl => match us, hl with | [_], _ => rfl
  obtain ⟨fdknd, FDknd⟩ := cd.def_ 14 (d := d_knd) rfl
  have Fknd : Fun K "is_kind" "is_kind" sKind (He.fAd K ("is_kind", none)) fdknd := fun_of FDknd
  have gknd : mg "is_kind" = some (.ref (He.fAd K ("is_kind", none))) := (He.glo_ok X G (cd.fact 21 (f := .glo "is_kind") rfl))
  have kknd := Fknd.kp
  have bknd := Fknd.binds (ps := ["thing"]) fun _ _ _ _ _ _ us hl => match us, hl with | [_], _ => rfl
  obtain ⟨fdprm, FDprm⟩ := cd.def_ 15 (d := d_prm) rfl
  have Fprm : Fun K "are_params" "are_params" sParams (He.fAd K ("are_params", none)) fdprm := fun_of FDprm
  have gprm : mg "are_params" = some (.ref (He.fAd K ("are_params", none))) := (He.glo_ok X G (cd.fact 22 (f := .glo "are_params") rfl))
  have kprm := Fprm.kp
  have bprm := Fprm.binds (ps := ["thing"]) fun _ _ _ _ _ _ us hl => match us, hl with | [_], _ => rfl
  obtain ⟨fdtrp, FDtrp⟩ := cd.def_ 16 (d := d_trp) rfl
  have Ftrp : Fun K "is_triple" "is_triple" sTriple (He.fAd K ("is_triple", none)) fdtrp := fun_of FDtrp
  have gtrp : mg "is_triple" = some (.ref (He.fAd K ("is_triple", none))) := (He.glo_ok X G (cd.fact 23 (f := .glo "is_triple") rfl))
  have ktrp := Ftrp.kp
  have btrp := Ftrp.binds (ps := ["thing"]) fun _ _ _ _ _ _ us hl => match us, hl with | [_], _ => rfl
  obtain ⟨fdfpc, FDfpc⟩ := cd.def_ 17 (d := d_fpc) rfl
  have Ffpc : Fun K "fault_of_pieces" "fault_of_pieces" sPieces (He.fAd K ("fault_of_pieces", none)) fdfpc := fun_of FDfpc
  have gfpc : mg "fault_of_pieces" = some (.ref (He.fAd K ("fault_of_pieces", none))) := (He.glo_ok X G (cd.fact 24 (f := .glo "fault_of_pieces") rfl))
  have kfpc := Ffpc.kp
  have bfpc := Ffpc.binds (ps := ["variables", "pieces"]) fun _ _ _ _ _ _ us hl => match us, hl with | [_, _], _ => rfl
  obtain ⟨fdflt, FDflt⟩ := cd.def_ 18 (d := d_flt) rfl
  have Fflt : Fun K "fault_of" "fault_of" sFaultOf (He.fAd K ("fault_of", none)) fdflt := fun_of FDflt
  have gflt : mg "fault_of" = some (.ref (He.fAd K ("fault_of", none))) := (He.glo_ok X G (cd.fact 25 (f := .glo "fault_of") rfl))
  have kflt := Fflt.kp
  have bflt := Fflt.binds (ps := ["thing"]) fun _ _ _ _ _ _ us hl => match us, hl with | [_], _ => rfl
  obtain ⟨fdnee, FDnee⟩ := cd.def_ 19 (d := d_nee) rfl
  have Fnee : Fun K "need_book" "need_book" sNeed (He.fAd K ("need_book", none)) fdnee := fun_of FDnee
  have gnee : mg "need_book" = some (.ref (He.fAd K ("need_book", none))) := (He.glo_ok X G (cd.fact 26 (f := .glo "need_book") rfl))
  have knee := Fnee.kp
  have bnee := Fnee.binds (ps := ["thing"]) fun _ _ _ _ _ _ us hl => match us, hl with | [_], _ => rfl
  obtain ⟨fdmix, FDmix⟩ := cd.def_ 20 (d := d_mix) rfl
  have Fmix : Fun K "_law_mixed" "_law_mixed" SW.sMixed (He.fAd K ("_law_mixed", none)) fdmix := fun_of FDmix
  have gmix : mg "_law_mixed" = some (.ref (He.fAd K ("_law_mixed", none))) := (He.glo_ok X G (cd.fact 27 (f := .glo "_law_mixed") rfl))
  have kmix := Fmix.kp
  have bmix := Fmix.binds (ps := ["cell", "k"]) fun _ _ _ _ _ _ us hl => match us, hl with | [_, _], _ => rfl
  obtain ⟨fdbeg, FDbeg⟩ := cd.def_ 21 (d := d_beg) rfl
  have Fbeg : Fun K "_law_begin" "_law_begin" SW.sBegin (He.fAd K ("_law_begin", none)) fdbeg := fun_of FDbeg
  have gbeg : mg "_law_begin" = some (.ref (He.fAd K ("_law_begin", none))) := (He.glo_ok X G (cd.fact 28 (f := .glo "_law_begin") rfl))
  have kbeg := Fbeg.kp
  have bbeg := Fbeg.binds (ps := ["script"]) fun _ _ _ _ _ _ us hl => match us, hl with | [_], _ => rfl
  obtain ⟨fddrw, FDdrw⟩ := cd.def_ 22 (d := d_drw) rfl
  have Fdrw : Fun K "_law_draw" "_law_draw" SW.sDraw (He.fAd K ("_law_draw", none)) fddrw := fun_of FDdrw
  have gdrw : mg "_law_draw" = some (.ref (He.fAd K ("_law_draw", none))) := (He.glo_ok X G (cd.fact 29 (f := .glo "_law_draw") rfl))
  have kdrw := Fdrw.kp
  have bdrw := Fdrw.binds (ps := ["state", "many"]) fun _ _ _ _ _ _ us hl => match us, hl with | [_, _], _ => rfl
  obtain ⟨fdnam, FDnam⟩ := cd.def_ 23 (d := d_nam) rfl
  have Fnam : Fun K "_law_name" "_law_name" SW.sName (He.fAd K ("_law_name", none)) fdnam := fun_of FDnam
  have gnam : mg "_law_name" = some (.ref (He.fAd K ("_law_name", none))) := (He.glo_ok X G (cd.fact 30 (f := .glo "_law_name") rfl))
  have knam := Fnam.kp
  have bnam := Fnam.binds (ps := ["state"]) fun _ _ _ _ _ _ us hl => match us, hl with | [_], _ => rfl
  obtain ⟨fdnms, FDnms⟩ := cd.def_ 24 (d := d_nms) rfl
  have Fnms : Fun K "_law_names" "_law_names" SW.sNames (He.fAd K ("_law_names", none)) fdnms := fun_of FDnms
  have gnms : mg "_law_names" = some (.ref (He.fAd K ("_law_names", none))) := (He.glo_ok X G (cd.fact 31 (f := .glo "_law_names") rfl))
  have knms := Fnms.kp
  have bnms := Fnms.binds (ps := ["state", "many"]) fun _ _ _ _ _ _ us hl => match us, hl with | [_, _], _ => rfl
  obtain ⟨fdlof, FDlof⟩ := cd.def_ 25 (d := d_lof) rfl
  have Flof : Fun K "_law_of" "_law_of" XA.sOf (He.fAd K ("_law_of", none)) fdlof := fun_of FDlof
  have glof : mg "_law_of" = some (.ref (He.fAd K ("_law_of", none))) := (He.glo_ok X G (cd.fact 32 (f := .glo "_law_of") rfl))
  have klof := Flof.kp
  have blof := Flof.binds (ps := ["state", "some"]) fun _ _ _ _ _ _ us hl => match us, hl with | [_, _], _ => rfl
  obtain ⟨fdlfa, FDlfa⟩ := cd.def_ 26 (d := d_lfa) rfl
  have Flfa : Fun K "_law_fails" "_law_fails" SW.sFails (He.fAd K ("_law_fails", none)) fdlfa := fun_of FDlfa
  have glfa : mg "_law_fails" = some (.ref (He.fAd K ("_law_fails", none))) := (He.glo_ok X G (cd.fact 33 (f := .glo "_law_fails") rfl))
  have klfa := Flfa.kp
  obtain ⟨oclfa, odlfa, kVlfa, dclfa, pmlfa, anlfa, cdlfa, ctlfa, sllfa, llfa, clfa, elfa⟩ := fun_ex Flfa
  subst elfa
  have blfa := Flfa.binds (ps := ["asked"]) fun _ _ _ _ _ _ us hl => match us, hl with | [_], _ => rfl
  obtain ⟨fdsrc, FDsrc⟩ := cd.def_ 27 (d := d_src) rfl
  have Fsrc : Fun K "_law_source" "_law_source" XA.sSource (He.fAd K ("_law_source", none)) fdsrc := fun_of FDsrc
  have gsrc : mg "_law_source" = some (.ref (He.fAd K ("_law_source", none))) := (He.glo_ok X G (cd.fact 34 (f := .glo "_law_source") rfl))
  have ksrc := Fsrc.kp
  have bsrc := Fsrc.binds (ps := ["world", "source"]) fun _ _ _ _ _ _ us hl => match us, hl with | [_, _], _ => rfl
  obtain ⟨fdlrs, FDlrs⟩ := cd.def_ 28 (d := d_lrs) rfl
  have Flrs : Fun K "_law_reset" "_law_reset" XA.sLReset (He.fAd K ("_law_reset", none)) fdlrs := fun_of FDlrs
  have glrs : mg "_law_reset" = some (.ref (He.fAd K ("_law_reset", none))) := (He.glo_ok X G (cd.fact 35 (f := .glo "_law_reset") rfl))
  have klrs := Flrs.kp
  have blrs := Flrs.binds (ps := ["world", "number"]) fun _ _ _ _ _ _ us hl => match us, hl with | [_, _], _ => rfl
  obtain ⟨fdlhe, FDlhe⟩ := cd.def_ 29 (d := d_lhe) rfl
  have Flhe : Fun K "_law_held" "_law_held" XA.sHeld (He.fAd K ("_law_held", none)) fdlhe := fun_of FDlhe
  have glhe : mg "_law_held" = some (.ref (He.fAd K ("_law_held", none))) := (He.glo_ok X G (cd.fact 36 (f := .glo "_law_held") rfl))
  have klhe := Flhe.kp
  have blhe := Flhe.binds (ps := ["world", "var", "value"]) fun _ _ _ _ _ _ us hl => match us, hl with | [_, _, _], _ => rfl
  obtain ⟨fdlpl, FDlpl⟩ := cd.def_ 30 (d := d_lpl) rfl
  have Flpl : Fun K "_law_plain" "_law_plain" XA.sPlain (He.fAd K ("_law_plain", none)) fdlpl := fun_of FDlpl
  have glpl : mg "_law_plain" = some (.ref (He.fAd K ("_law_plain", none))) := (He.glo_ok X G (cd.fact 37 (f := .glo "_law_plain") rfl))
  have klpl := Flpl.kp
  have blpl := Flpl.binds (ps := ["world", "slots", "one"]) fun _ _ _ _ _ _ us hl => match us, hl with | [_, _, _], _ => rfl
  obtain ⟨fdlen, FDlen⟩ := cd.def_ 31 (d := d_len) rfl
  have Flen : Fun K "_law_entered" "_law_entered" XA.sEntered (He.fAd K ("_law_entered", none)) fdlen := fun_of FDlen
  have glen : mg "_law_entered" = some (.ref (He.fAd K ("_law_entered", none))) := (He.glo_ok X G (cd.fact 38 (f := .glo "_law_entered") rfl))
  have klen := Flen.kp
  have blen := Flen.binds (ps := ["world", "context"]) fun _ _ _ _ _ _ us hl => match us, hl with | [_, _], _ => rfl
  obtain ⟨fdlex, FDlex⟩ := cd.def_ 32 (d := d_lex) rfl
  have Flex : Fun K "_law_exited" "_law_exited" XA.sExited (He.fAd K ("_law_exited", none)) fdlex := fun_of FDlex
  have glex : mg "_law_exited" = some (.ref (He.fAd K ("_law_exited", none))) := (He.glo_ok X G (cd.fact 39 (f := .glo "_law_exited") rfl))
  have klex := Flex.kp
  have blex := Flex.binds (ps := ["world", "elder"]) fun _ _ _ _ _ _ us hl => match us, hl with | [_, _], _ => rfl
  obtain ⟨fdlar, FDlar⟩ := cd.def_ 33 (d := d_lar) rfl
  have Flar : Fun K "_law_all_right" "_law_all_right" XA.sAllR (He.fAd K ("_law_all_right", none)) fdlar := fun_of FDlar
  have glar : mg "_law_all_right" = some (.ref (He.fAd K ("_law_all_right", none))) := (He.glo_ok X G (cd.fact 40 (f := .glo "_law_all_right") rfl))
  have klar := Flar.kp
  obtain ⟨oclar, odlar, kVlar, dclar, pmlar, anlar, cdlar, ctlar, sllar, llar, clar, elar⟩ := fun_ex Flar
  subst elar
  have blar := Flar.binds (ps := ["room", "world", "things"]) fun _ _ _ _ _ _ us hl => match us, hl with | [_, _, _], _ => rfl
  obtain ⟨fdlde, FDlde⟩ := cd.def_ 34 (d := d_lde) rfl
  have Flde : Fun K "_law_deed" "_law_deed" XA.sDeed (He.fAd K ("_law_deed", none)) fdlde := fun_of FDlde
  have glde : mg "_law_deed" = some (.ref (He.fAd K ("_law_deed", none))) := (He.glo_ok X G (cd.fact 41 (f := .glo "_law_deed") rfl))
  have klde := Flde.kp
  obtain ⟨oclde, odlde, kVlde, dclde, pmlde, anlde, ctlde, sllde, llde, clde, elde⟩ := lam_of Flde
  subst elde
  have blde := Flde.binds (ps := ["state", "room", "world", "things"]) fun _ _ _ _ _ _ us hl => match us, hl with | [_, _, _, _], _ => rfl
  obtain ⟨fdlwi, FDlwi⟩ := cd.def_ 35 (d := d_lwi) rfl
  have Flwi : Fun K "_law_within" "_law_within" XA.sWith (He.fAd K ("_law_within", none)) fdlwi := fun_of FDlwi
  have glwi : mg "_law_within" = some (.ref (He.fAd K ("_law_within", none))) := (He.glo_ok X G (cd.fact 42 (f := .glo "_law_within") rfl))
  have klwi := Flwi.kp
  obtain ⟨oclwi, odlwi, kVlwi, dclwi, pmlwi, anlwi, ctlwi, sllwi, llwi, clwi, elwi⟩ := lam_of Flwi
  subst elwi
  have blwi := Flwi.binds (ps := ["state", "room", "world", "things", "deep"]) fun _ _ _ _ _ _ us hl => match us, hl with | [_, _, _, _, _], _ => rfl
  obtain ⟨fdlds, FDlds⟩ := cd.def_ 36 (d := d_lds) rfl
  have Flds : Fun K "_law_deeds" "_law_deeds" XA.sDeeds (He.fAd K ("_law_deeds", none)) fdlds := fun_of FDlds
  have glds : mg "_law_deeds" = some (.ref (He.fAd K ("_law_deeds", none))) := (He.glo_ok X G (cd.fact 43 (f := .glo "_law_deeds") rfl))
  have klds := Flds.kp
  obtain ⟨oclds, odlds, kVlds, dclds, pmlds, anlds, cdlds, ctlds, sllds, llds, clds, elds⟩ := fun_ex Flds
  subst elds
  have blds := Flds.binds (ps := ["state", "room", "world", "things", "deep"]) fun _ _ _ _ _ _ us hl => match us, hl with | [_, _, _, _, _], _ => rfl
  obtain ⟨fdlaw, FDlaw⟩ := cd.def_ 37 (d := d_law) rfl
  have Flaw : Fun K "law" "law" XA.sLaw (He.fAd K ("law", none)) fdlaw := fun_of FDlaw
  have glaw : mg "law" = some (.ref (He.fAd K ("law", none))) := (He.glo_ok X G (cd.fact 44 (f := .glo "law") rfl))
  have klaw := Flaw.kp
  obtain ⟨oclaw, odlaw, kVlaw, dclaw, pmlaw, anlaw, cdlaw, ctlaw, sllaw, llaw, claw, elaw⟩ := fun_ex Flaw
  subst elaw
  have e_law := hfa.symm.trans glaw
  cases e_law
  have blaw := Flaw.binds (ps := ["script"]) fun _ _ _ _ _ _ us hl => match us, hl with | [_], _ => rfl
  obtain ⟨fdcin, FDcin⟩ := cd.def_ 38 (d := d_cin) rfl
  have Fcin : Fun K "__init__" "Check.__init__" sCInit (He.ma K (He.ga K "Check") "__init__") fdcin := fun_of FDcin
  have bcin := Fcin.binds (ps := ["self", "variables", "params"]) fun _ _ _ _ _ _ us hl => match us, hl with | [_, _, _], _ => rfl
  obtain ⟨fdtak, FDtak⟩ := cd.def_ 39 (d := d_tak) rfl
  have Ftak : Fun K "takes" "Check.takes" sTakes (He.ma K (He.ga K "Check") "takes") fdtak := fun_of FDtak
  have btak := Ftak.binds (ps := ["self", "statement", "around"]) fun _ _ _ _ _ _ us hl => match us, hl with | [_, _, _], _ => rfl
  obtain ⟨fdknw, FDknw⟩ := cd.def_ 40 (d := d_knw) rfl
  have Fknw : Fun K "knows" "Check.knows" sKnows (He.ma K (He.ga K "Check") "knows") fdknw := fun_of FDknw
  have bknw := Fknw.binds (ps := ["self", "statement"]) fun _ _ _ _ _ _ us hl => match us, hl with | [_, _], _ => rfl
  obtain ⟨fdfin, FDfin⟩ := cd.def_ 41 (d := d_fin) rfl
  have Ffin : Fun K "fault_in" "Check.fault_in" sFault (He.ma K (He.ga K "Check") "fault_in") fdfin := fun_of FDfin
  have bfin := Ffin.binds (ps := ["self", "block", "way", "around"]) fun _ _ _ _ _ _ us hl => match us, hl with | [_, _, _, _], _ => rfl
  obtain ⟨fdbin, FDbin⟩ := cd.def_ 42 (d := d_bin) rfl
  have Fbin : Fun K "__init__" "BadBook.__init__" sBadInit (He.ma K (He.ga K "BadBook") "__init__") fdbin := fun_of FDbin
  have bbin := Fbin.binds (ps := ["self", "place"]) fun _ _ _ _ _ _ us hl => match us, hl with | [_, _], _ => rfl
  obtain ⟨fdfai, FDfai⟩ := cd.def_ 43 (d := d_fai) rfl
  obtain ⟨fdcti, FDcti⟩ := cd.def_ 44 (d := d_cti) rfl
  obtain ⟨fdctg, FDctg⟩ := cd.def_ 45 (d := d_ctg) rfl
  have Fctg : Fun K "__getitem__" "Context.__getitem__" SW.sGet (He.ma K (He.ga K "Context") "__getitem__") fdctg := fun_of FDctg
  have bctg := Fctg.binds (ps := ["self", "variable"]) fun _ _ _ _ _ _ us hl => match us, hl with | [_, _], _ => rfl
  obtain ⟨fdcts, FDcts⟩ := cd.def_ 46 (d := d_cts) rfl
  have Fcts : Fun K "__setitem__" "Context.__setitem__" SW.sSet (He.ma K (He.ga K "Context") "__setitem__") fdcts := fun_of FDcts
  have bcts := Fcts.binds (ps := ["self", "variable", "value"]) fun _ _ _ _ _ _ us hl => match us, hl with | [_, _, _], _ => rfl
  obtain ⟨fdcth, FDcth⟩ := cd.def_ 47 (d := d_cth) rfl
  have Fcth : Fun K "__contains__" "Context.__contains__" SW.sHas (He.ma K (He.ga K "Context") "__contains__") fdcth := fun_of FDcth
  have bcth := Fcth.binds (ps := ["self", "variable"]) fun _ _ _ _ _ _ us hl => match us, hl with | [_, _], _ => rfl
  obtain ⟨fdctl, FDctl⟩ := cd.def_ 48 (d := d_ctl) rfl
  have Fctl : Fun K "__len__" "Context.__len__" SW.sLen (He.ma K (He.ga K "Context") "__len__") fdctl := fun_of FDctl
  have bctl := Fctl.binds (ps := ["self"]) fun _ _ _ _ _ _ us hl => match us, hl with | [_], _ => rfl
  obtain ⟨fdctd, FDctd⟩ := cd.def_ 49 (d := d_ctd) rfl
  have Fctd : Fun K "drop" "Context.drop" SW.sDrop (He.ma K (He.ga K "Context") "drop") fdctd := fun_of FDctd
  have bctd := Fctd.binds (ps := ["self", "variable"]) fun _ _ _ _ _ _ us hl => match us, hl with | [_, _], _ => rfl
  obtain ⟨fdctp, FDctp⟩ := cd.def_ 50 (d := d_ctp) rfl
  have Fctp : Fun K "pairs" "Context.pairs" SW.sPairs (He.ma K (He.ga K "Context") "pairs") fdctp := fun_of FDctp
  have bctp := Fctp.binds (ps := ["self"]) fun _ _ _ _ _ _ us hl => match us, hl with | [_], _ => rfl
  obtain ⟨fdcty, FDcty⟩ := cd.def_ 51 (d := d_cty) rfl
  have Fcty : Fun K "copy" "Context.copy" SW.sCopy (He.ma K (He.ga K "Context") "copy") fdcty := fun_of FDcty
  have bcty := Fcty.binds (ps := ["self"]) fun _ _ _ _ _ _ us hl => match us, hl with | [_], _ => rfl
  obtain ⟨fdctw, FDctw⟩ := cd.def_ 52 (d := d_ctw) rfl
  have Fctw : Fun K "is_same" "Context.is_same" SW.sSame (He.ma K (He.ga K "Context") "is_same") fdctw := fun_of FDctw
  have bctw := Fctw.binds (ps := ["self", "other"]) fun _ _ _ _ _ _ us hl => match us, hl with | [_, _], _ => rfl
  obtain ⟨fdcte, FDcte⟩ := cd.def_ 53 (d := d_cte) rfl
  have Fcte : Fun K "__eq__" "Context.__eq__" SW.sEq (He.ma K (He.ga K "Context") "__eq__") fdcte := fun_of FDcte
  have bcte := Fcte.binds (ps := ["self", "other"]) fun _ _ _ _ _ _ us hl => match us, hl with | [_, _], _ => rfl
  obtain ⟨fdtki, FDtki⟩ := cd.def_ 54 (d := d_tki) rfl
  have Ftki : Fun K "__init__" "Token.__init__" SW.sTok (He.ma K (He.ga K "Token") "__init__") fdtki := fun_of FDtki
  have btki := Ftki.binds (ps := ["self", "context", "variable"]) fun _ _ _ _ _ _ us hl => match us, hl with | [_, _, _], _ => rfl
  obtain ⟨fdwii, FDwii⟩ := cd.def_ 55 (d := d_wii) rfl
  have Fwii : Fun K "__init__" "Within.__init__" SW.sWinI (He.ma K (He.ga K "Within") "__init__") fdwii := fun_of FDwii
  have bwii := Fwii.binds (ps := ["self", "room", "context"]) fun _ _ _ _ _ _ us hl => match us, hl with | [_, _, _], _ => rfl
  obtain ⟨fdwie, FDwie⟩ := cd.def_ 56 (d := d_wie) rfl
  have Fwie : Fun K "__enter__" "Within.__enter__" SW.sEnter (He.ma K (He.ga K "Within") "__enter__") fdwie := fun_of FDwie
  have bwie := Fwie.binds (ps := ["self"]) fun _ _ _ _ _ _ us hl => match us, hl with | [_], _ => rfl
  obtain ⟨fdwix, FDwix⟩ := cd.def_ 57 (d := d_wix) rfl
  have Fwix : Fun K "__exit__" "Within.__exit__" SW.sExit (He.ma K (He.ga K "Within") "__exit__") fdwix := fun_of FDwix
  have bwix := Fwix.binds (ps := ["self", "kind", "value", "trace"]) fun _ _ _ _ _ _ us hl => match us, hl with | [_, _, _, _], _ => rfl
  obtain ⟨fdroi, FDroi⟩ := cd.def_ 58 (d := d_roi) rfl
  have Froi : Fun K "__init__" "Room.__init__" SW.sRInit (He.ma K (He.ga K "Room") "__init__") fdroi := fun_of FDroi
  have broi := Froi.binds (ps := ["self", "book"]) fun _ _ _ _ _ _ us hl => match us, hl with | [_, _], _ => rfl
  obtain ⟨fdrop, FDrop⟩ := cd.def_ 59 (d := d_rop) rfl
  have Frop : Fun K "put" "Room.put" SW.sPut (He.ma K (He.ga K "Room") "put") fdrop := fun_of FDrop
  have brop := Frop.binds (ps := ["self", "variable", "value"]) fun _ _ _ _ _ _ us hl => match us, hl with | [_, _, _], _ => rfl
  obtain ⟨fdrod, FDrod⟩ := cd.def_ 60 (d := d_rod) rfl
  have Frod : Fun K "drop" "Room.drop" SW.sRDrop (He.ma K (He.ga K "Room") "drop") fdrod := fun_of FDrod
  have brod := Frod.binds (ps := ["self", "variable"]) fun _ _ _ _ _ _ us hl => match us, hl with | [_, _], _ => rfl
  obtain ⟨fdror, FDror⟩ := cd.def_ 61 (d := d_ror) rfl
  have Fror : Fun K "read" "Room.read" SW.sRead (He.ma K (He.ga K "Room") "read") fdror := fun_of FDror
  have bror := Fror.binds (ps := ["self", "variable"]) fun _ _ _ _ _ _ us hl => match us, hl with | [_, _], _ => rfl
  obtain ⟨fdroh, FDroh⟩ := cd.def_ 62 (d := d_roh) rfl
  have Froh : Fun K "hold" "Room.hold" SW.sHold (He.ma K (He.ga K "Room") "hold") fdroh := fun_of FDroh
  have broh := Froh.binds (ps := ["self", "variable", "value"]) fun _ _ _ _ _ _ us hl => match us, hl with | [_, _, _], _ => rfl
  obtain ⟨fdros, FDros⟩ := cd.def_ 63 (d := d_ros) rfl
  have Fros : Fun K "reset" "Room.reset" SW.sReset (He.ma K (He.ga K "Room") "reset") fdros := fun_of FDros
  have bros := Fros.binds (ps := ["self", "token"]) fun _ _ _ _ _ _ us hl => match us, hl with | [_, _], _ => rfl
  obtain ⟨fdroc, FDroc⟩ := cd.def_ 64 (d := d_roc) rfl
  have Froc : Fun K "copy" "Room.copy" SW.sRCopy (He.ma K (He.ga K "Room") "copy") fdroc := fun_of FDroc
  have broc := Froc.binds (ps := ["self"]) fun _ _ _ _ _ _ us hl => match us, hl with | [_], _ => rfl
  obtain ⟨fdrou, FDrou⟩ := cd.def_ 65 (d := d_rou) rfl
  obtain ⟨fdrow, FDrow⟩ := cd.def_ 66 (d := d_row) rfl
  have Frow : Fun K "within" "Room.within" SW.sWithin (He.ma K (He.ga K "Room") "within") fdrow := fun_of FDrow
  have brow := Frow.binds (ps := ["self", "context"]) fun _ _ _ _ _ _ us hl => match us, hl with | [_, _], _ => rfl
  obtain ⟨fdrol, FDrol⟩ := cd.def_ 67 (d := d_rol) rfl
  have Frol : Fun K "log" "Room.log" SW.sLog (He.ma K (He.ga K "Room") "log") fdrol := fun_of FDrol
  have brol := Frol.binds (ps := ["self"]) fun _ _ _ _ _ _ us hl => match us, hl with | [_], _ => rfl
  obtain ⟨fdrsh, FDrsh⟩ := cd.def_ 68 (d := d_rsh) rfl
  have Frsh : Fun K "show" "Room.show" XA.sShow (He.ma K (He.ga K "Room") "show") fdrsh := fun_of FDrsh
  have brsh := Frsh.binds (ps := ["self", "variable"]) fun _ _ _ _ _ _ us hl => match us, hl with | [_, _], _ => rfl
  obtain ⟨fdrno, FDrno⟩ := cd.def_ 69 (d := d_rno) rfl
  have Frno : Fun K "note" "Room.note" XA.sNote (He.ma K (He.ga K "Room") "note") fdrno := fun_of FDrno
  have brno := Frno.binds (ps := ["self", "event"]) fun _ _ _ _ _ _ us hl => match us, hl with | [_, _], _ => rfl
  have m_isinstance : mg "isinstance" = none := He.free_ok X G (cd.fact 45 (f := .free "isinstance") rfl)
  have m_str : mg "str" = none := He.free_ok X G (cd.fact 46 (f := .free "str") rfl)
  have m_int : mg "int" = none := He.free_ok X G (cd.fact 47 (f := .free "int") rfl)
  have m_bool : mg "bool" = none := He.free_ok X G (cd.fact 48 (f := .free "bool") rfl)
  have m_tuple : mg "tuple" = none := He.free_ok X G (cd.fact 49 (f := .free "tuple") rfl)
  have m_len : mg "len" = none := He.free_ok X G (cd.fact 50 (f := .free "len") rfl)
  have m_all : mg "all" = none := He.free_ok X G (cd.fact 51 (f := .free "all") rfl)
  have m_set : mg "set" = none := He.free_ok X G (cd.fact 52 (f := .free "set") rfl)
  have m_zip : mg "zip" = none := He.free_ok X G (cd.fact 53 (f := .free "zip") rfl)
  have m_list : mg "list" = none := He.free_ok X G (cd.fact 54 (f := .free "list") rfl)
  have m_enumerate : mg "enumerate" = none := He.free_ok X G (cd.fact 55 (f := .free "enumerate") rfl)
  have m_range : mg "range" = none := He.free_ok X G (cd.fact 56 (f := .free "range") rfl)
  have m_sorted : mg "sorted" = none := He.free_ok X G (cd.fact 57 (f := .free "sorted") rfl)
  have m_dict : mg "dict" = none := He.free_ok X G (cd.fact 58 (f := .free "dict") rfl)
  have m_repr : mg "repr" = none := He.free_ok X G (cd.fact 59 (f := .free "repr") rfl)
  have m_RuntimeError : mg "RuntimeError" = none := He.free_ok X G (cd.fact 60 (f := .free "RuntimeError") rfl)
  have m_ValueError : mg "ValueError" = none := He.free_ok X G (cd.fact 61 (f := .free "ValueError") rfl)
  have m_LookupError : mg "LookupError" = none := He.free_ok X G (cd.fact 62 (f := .free "LookupError") rfl)
  obtain ⟨t_MOST_LETTERS, v_MOST_LETTERS⟩ : ∃ t, mg "MOST_LETTERS" = some (.int 8 t) := He.int_ok X G (cd.fact 63 (f := .int "MOST_LETTERS" 8) rfl)
  obtain ⟨t_MOST_NUMBER, v_MOST_NUMBER⟩ : ∃ t, mg "MOST_NUMBER" = some (.int 99 t) := He.int_ok X G (cd.fact 64 (f := .int "MOST_NUMBER" 99) rfl)
  obtain ⟨t_MOST_VALUE, v_MOST_VALUE⟩ : ∃ t, mg "MOST_VALUE" = some (.int 9999 t) := He.int_ok X G (cd.fact 65 (f := .int "MOST_VALUE" 9999) rfl)
  obtain ⟨t_MOST_PIECES, v_MOST_PIECES⟩ : ∃ t, mg "MOST_PIECES" = some (.int 6 t) := He.int_ok X G (cd.fact 66 (f := .int "MOST_PIECES" 6) rfl)
  obtain ⟨t_MOST_VARS, v_MOST_VARS⟩ : ∃ t, mg "MOST_VARS" = some (.int 3 t) := He.int_ok X G (cd.fact 67 (f := .int "MOST_VARS" 3) rfl)
  obtain ⟨t_MOST_PARAMS, v_MOST_PARAMS⟩ : ∃ t, mg "MOST_PARAMS" = some (.int 2 t) := He.int_ok X G (cd.fact 68 (f := .int "MOST_PARAMS" 2) rfl)
  obtain ⟨t_MOST_STATEMENTS, v_MOST_STATEMENTS⟩ : ∃ t, mg "MOST_STATEMENTS" = some (.int 16 t) := He.int_ok X G (cd.fact 69 (f := .int "MOST_STATEMENTS" 16) rfl)
  obtain ⟨t_MOST_AROUND, v_MOST_AROUND⟩ : ∃ t, mg "MOST_AROUND" = some (.int 4 t) := He.int_ok X G (cd.fact 70 (f := .int "MOST_AROUND" 4) rfl)
  obtain ⟨t_LETTERS, v_LETTERS⟩ : ∃ t, mg "LETTERS" = some (.str "abcdefghijklmnopqrstuvwxyz" t) := He.str_ok X G (cd.fact 71 (f := .str "LETTERS" "abcdefghijklmnopqrstuvwxyz") rfl)
  have T : Forms mg := ⟨⟨_, v_LETTERS⟩, ⟨_, v_MOST_LETTERS⟩, ⟨_, v_MOST_NUMBER⟩, m_isinstance, m_str, m_int, m_bool, m_tuple, m_len, m_all⟩
  have Kd : BK.Kinds K mg := ⟨⟨_, (He.glo_ok X G (cd.fact 72 (f := .glo "KINDS") rfl)), (fun H => He.tupB_ok (K := K) (x := "KINDS") (vs := [.str "context", .str "token"]) (allB_at (i := 0) cx (Nat.le_of_ble_eq_true rfl)) H)⟩, ⟨_, v_MOST_PARAMS⟩⟩
  have Mo : BK.Most mg := ⟨⟨_, v_MOST_STATEMENTS⟩, ⟨_, v_MOST_AROUND⟩⟩
  have Mb : MostB mg := ⟨⟨_, v_MOST_PIECES⟩, ⟨_, v_MOST_VARS⟩⟩
  obtain ⟨es_PARTS, n_PARTS, KD_PARTS⟩ := c.t.tab 0 (t := (fun K => He.ga K "PARTS", keys_PARTS)) rfl
  obtain ⟨key_PARTS, rf_PARTS, nd_PARTS, ln_PARTS⟩ := tabX_ok (allB_at (i := 1) cx (Nat.le_of_ble_eq_true rfl)) KD_PARTS.at_
  have at_PARTS : ∀ y ks, (y, ks) ∈ tab_PARTS → ∃ t, PySem.W.nsIn K (He.ga K "PARTS") y = some (some (.ref t)) ∧ ∀ H, SqT K H t (ks.map V.str) := fun y ks h => tupsB_ok (allB_at (i := 2) cx (Nat.le_of_ble_eq_true rfl)) h
  have no_PARTS : ∀ y, y ∉ keys_PARTS → PySem.W.nsIn K (He.ga K "PARTS") y = some none := fun y h => noKey KD_PARTS.at_ key_PARTS y h
  have D : PartsD K mg w (He.ga K "PARTS") es_PARTS n_PARTS := { d := KD_PARTS, g := (He.glo_ok X G (cd.fact 73 (f := .glo "PARTS") rfl)), no := fun x hx => no_PARTS x (kinds_no hx), at_ := fun x ks e => at_PARTS x ks (kinds_mem e) }
  have clK : Cls K (He.ga K "Check") := He.cls_ok (cd.fact 74 (f := .cls "Check") rfl)
  have M : Mk K (He.ga K "Check") (He.ma K (He.ga K "Check") "__init__") := He.mkr_ok (cd.fact 75 (f := .mkr "Check") rfl)
  have Mt : Meth K (He.ga K "Check") "takes" (He.ma K (He.ga K "Check") "takes") := He.meth_ok (cd.fact 76 (f := .meth "Check" "takes") rfl)
  have Mn : Meth K (He.ga K "Check") "knows" (He.ma K (He.ga K "Check") "knows") := He.meth_ok (cd.fact 77 (f := .meth "Check" "knows") rfl)
  have Mf : Meth K (He.ga K "Check") "fault_in" (He.ma K (He.ga K "Check") "fault_in") := He.meth_ok (cd.fact 78 (f := .meth "Check" "fault_in") rfl)
  have Tx : TxK K mg (He.ga K "Check") := ⟨clK, (He.noat_ok (cd.fact 79 (f := .noat "Check" "variables") rfl)), (He.noat_ok (cd.fact 80 (f := .noat "Check" "kinds") rfl)), (He.noat_ok (cd.fact 81 (f := .noat "Check" "met") rfl)), gCK⟩
  have k_B : PySem.W.keepIn K (.ref (He.ga K "BadBook")) = true := (allB_at (i := 3) cx (Nat.le_of_ble_eq_true rfl))
  have e_B : PySem.W.subIn K (.ref (He.ga K "BadBook")) (.type "BaseException") = some true := (of_decide_eq_true (allB_at (i := 4) cx (Nat.le_of_ble_eq_true rfl)))
  have tt_B : PySem.W.typeIn K (.ref (He.ga K "BadBook")) = some (.type "type") := (of_decide_eq_true (allB_at (i := 5) cx (Nat.le_of_ble_eq_true rfl)))
  have sa_B : PySem.W.findIn K (.ref (He.ga K "BadBook")) "__setattr__" = some (some (.builtin "object.__setattr__")) := (He.eqO_ok (allB_at (i := 6) cx (Nat.le_of_ble_eq_true rfl)))
  have xx_B := excB_ok (allB_at (i := 7) cx (Nat.le_of_ble_eq_true rfl))
  have nb_B_place : PySem.W.findIn K (.ref (He.ga K "BadBook")) "place" = some none := (He.eqO_ok (allB_at (i := 8) cx (Nat.le_of_ble_eq_true rfl)))
  have ga_B : PySem.W.findIn K (.ref (He.ga K "BadBook")) "__getattribute__" = some (some (.builtin "BaseException.__getattribute__")) := (He.eqO_ok (allB_at (i := 9) cx (Nat.le_of_ble_eq_true rfl)))
  have gg_B : PySem.W.findIn K (.ref (He.ga K "BadBook")) "__getattr__" = some none := (He.eqO_ok (allB_at (i := 10) cx (Nat.le_of_ble_eq_true rfl)))
  have hd_B : PySem.W.hasDictIn K (He.ga K "BadBook") = true := (allB_at (i := 11) cx (Nat.le_of_ble_eq_true rfl))
  have OxB : OexC K (He.ga K "BadBook") := ⟨xx_B, sa_B, e_B, tt_B, k_B⟩
  have IsB : IsFacts K (He.ga K "BadBook") := isFB_ok (allB_at (i := 12) cx (Nat.le_of_ble_eq_true rfl))
  have aiB : PySem.W.findIn K (.ref (He.ga K "BadBook")) "__init__" = some (some (.ref (He.ma K (He.ga K "BadBook") "__init__"))) := (He.eqO_ok (allB_at (i := 13) cx (Nat.le_of_ble_eq_true rfl)))
  have tyB : PySem.W.typeIn K (.ref (He.ma K (He.ga K "BadBook") "__init__")) = some (.type "function") := (of_decide_eq_true (allB_at (i := 14) cx (Nat.le_of_ble_eq_true rfl)))
  have x_F := excP_ok (allB_at (i := 15) cx (Nat.le_of_ble_eq_true rfl))
  have sa_F : PySem.W.findIn K (.ref (He.ga K "Fails")) "__setattr__" = some (some (.builtin "object.__setattr__")) := (He.eqO_ok (allB_at (i := 16) cx (Nat.le_of_ble_eq_true rfl)))
  have ga_F : PySem.W.findIn K (.ref (He.ga K "Fails")) "__getattribute__" = some (some (.builtin "BaseException.__getattribute__")) := (He.eqO_ok (allB_at (i := 17) cx (Nat.le_of_ble_eq_true rfl)))
  have gg_F : PySem.W.findIn K (.ref (He.ga K "Fails")) "__getattr__" = some none := (He.eqO_ok (allB_at (i := 18) cx (Nat.le_of_ble_eq_true rfl)))
  have nw_F : PySem.W.findIn K (.ref (He.ga K "Fails")) "word" = some none := (He.eqO_ok (allB_at (i := 19) cx (Nat.le_of_ble_eq_true rfl)))
  have ic_F : PySem.W.findIn K (.ref (He.ga K "Fails")) "__init__" = some (some (.ref (He.ma K (He.ga K "Fails") "__init__"))) := (He.eqO_ok (allB_at (i := 20) cx (Nat.le_of_ble_eq_true rfl)))
  have tc_F : PySem.W.typeIn K (.ref (He.ma K (He.ga K "Fails") "__init__")) = some (.type "function") := (of_decide_eq_true (allB_at (i := 21) cx (Nat.le_of_ble_eq_true rfl)))
  have kc_F : PySem.W.keepIn K (.ref (He.ga K "Fails")) = true := (allB_at (i := 22) cx (Nat.le_of_ble_eq_true rfl))
  have ex_F : PySem.W.subIn K (.ref (He.ga K "Fails")) (.type "BaseException") = some true := (of_decide_eq_true (allB_at (i := 23) cx (Nat.le_of_ble_eq_true rfl)))
  have ty_F : PySem.W.typeIn K (.ref (He.ga K "Fails")) = some (.type "type") := (of_decide_eq_true (allB_at (i := 24) cx (Nat.le_of_ble_eq_true rfl)))
  have hd_F : PySem.W.hasDictIn K (He.ga K "Fails") = true := (allB_at (i := 25) cx (Nat.le_of_ble_eq_true rfl))
  have te_F : PySem.W.exmOne K (.ref (He.ga K "Fails")) (.ref (He.ga K "Fails")) = some true := (of_decide_eq_true (allB_at (i := 26) cx (Nat.le_of_ble_eq_true rfl)))
  have k1_F : PySem.W.kitOne K (.ref (He.ga K "Fails")) (.type "RuntimeError") = some true := (of_decide_eq_true (allB_at (i := 27) cx (Nat.le_of_ble_eq_true rfl)))
  have k2_F : PySem.W.kitAny K (.ref (He.ga K "Fails")) [.type "ValueError", .type "LookupError"] = some false := (of_decide_eq_true (allB_at (i := 28) cx (Nat.le_of_ble_eq_true rfl)))
  have is_F : SW.IsFacts K (He.ga K "Fails") := isFBs_ok (allB_at (i := 29) cx (Nat.le_of_ble_eq_true rfl))
  have Ffai : Fun K "__init__" "Fails.__init__" (inClass (topH 4) 0) (He.ma K (He.ga K "Fails") "__init__") fdfai := fun_of FDfai
  obtain ⟨ocF, odF, kVF, docF, pmF, anF, cdF, ctF, slF, eF, lF, cF⟩ := Ffai.ex
  have kv_F := kvB_ok (allB_at (i := 30) cx (Nat.le_of_ble_eq_true rfl)) lF
  subst eF
  have kv_F : kVF = .none := kv_F
  subst kv_F
  have RT : PySem.ReX.ReTxt K mg (He.ga K "Fails") (He.ma K (He.ga K "Fails") "__init__") := ⟨gCF, x_F, sa_F, ga_F, gg_F, nw_F, ic_F, tc_F, kc_F, ex_F, ty_F, hd_F, te_F, ⟨ocF, odF, docF, pmF, anF, cdF, ctF, slF, _, _, _, _, _, _, lF, cF⟩⟩
  have clC : Cls K (He.ga K "Context") := He.cls_ok (cd.fact 82 (f := .cls "Context") rfl)
  have MC : Mk K (He.ga K "Context") (He.ma K (He.ga K "Context") "__init__") := He.mkr_ok (cd.fact 83 (f := .mkr "Context") rfl)
  have Mctg : Meth K (He.ga K "Context") "__getitem__" (He.ma K (He.ga K "Context") "__getitem__") := He.meth_ok (cd.fact 84 (f := .meth "Context" "__getitem__") rfl)
  have Mcts : Meth K (He.ga K "Context") "__setitem__" (He.ma K (He.ga K "Context") "__setitem__") := He.meth_ok (cd.fact 85 (f := .meth "Context" "__setitem__") rfl)
  have Mcth : Meth K (He.ga K "Context") "__contains__" (He.ma K (He.ga K "Context") "__contains__") := He.meth_ok (cd.fact 86 (f := .meth "Context" "__contains__") rfl)
  have Mctl : Meth K (He.ga K "Context") "__len__" (He.ma K (He.ga K "Context") "__len__") := He.meth_ok (cd.fact 87 (f := .meth "Context" "__len__") rfl)
  have Mctd : Meth K (He.ga K "Context") "drop" (He.ma K (He.ga K "Context") "drop") := He.meth_ok (cd.fact 88 (f := .meth "Context" "drop") rfl)
  have Mctp : Meth K (He.ga K "Context") "pairs" (He.ma K (He.ga K "Context") "pairs") := He.meth_ok (cd.fact 89 (f := .meth "Context" "pairs") rfl)
  have Mcty : Meth K (He.ga K "Context") "copy" (He.ma K (He.ga K "Context") "copy") := He.meth_ok (cd.fact 90 (f := .meth "Context" "copy") rfl)
  have Mctw : Meth K (He.ga K "Context") "is_same" (He.ma K (He.ga K "Context") "is_same") := He.meth_ok (cd.fact 91 (f := .meth "Context" "is_same") rfl)
  have Mcte : Meth K (He.ga K "Context") "__eq__" (He.ma K (He.ga K "Context") "__eq__") := He.meth_ok (cd.fact 92 (f := .meth "Context" "__eq__") rfl)
  have TC : SW.TxC K mg (He.ga K "Context") := ⟨clC, (He.noat_ok (cd.fact 93 (f := .noat "Context" "is_busy") rfl)), (He.noat_ok (cd.fact 94 (f := .noat "Context" "_held") rfl)), gC⟩
  have FI : FunD K "__init__" "Context.__init__" (defArgs SW.sInit) (defBody SW.sInit) (defScope SW.sInit) [.ref (He.dflAt ("Context", some "__init__") 0 K)] [] (He.ma K (He.ga K "Context") "__init__") fdcti := FDcti
  have t0 : ∀ H, SqT K H (He.dflAt ("Context", some "__init__") 0 K) [] := nilB_ok (allB_at (i := 31) cx (Nat.le_of_ble_eq_true rfl))
  have bI : Binds K fdcti ["self", "pairs"] [] := by
    obtain ⟨ds, rv, b⟩ := FI.binds1 (ps := ["self", "pairs"]) 2 1 (by simp) rfl (fun T kV doc pm an cdv ct us its h1 h2 => match us, its, h1, h2 with | [_, _], [_], _, _ => ⟨_, rfl, rfl⟩)
    cases rv
    exact b
  have b0 : Binds K fdcti ["self", "pairs"] [.ref (He.dflAt ("Context", some "__init__") 0 K)] := by
    obtain ⟨ds, rv, b⟩ := FI.binds1 (ps := ["self", "pairs"]) 1 0 (by simp) rfl (fun T kV doc pm an cdv ct us its h1 h2 => match us, its, h1, h2 with | [_], [_], _, _ => ⟨_, rfl, rfl⟩)
    cases rv with
    | cons r1 r2 =>
      cases r2
      cases r1
      exact b
  have jG : PySem.W.fnIn K (He.ma K (He.ga K "Context") "__getitem__") = true := (allB_at (i := 32) cx (Nat.le_of_ble_eq_true rfl))
  have nq : PySem.W.noSeq K (He.ga K "Context") = true := (allB_at (i := 33) cx (Nat.le_of_ble_eq_true rfl))
  have clT : Cls K (He.ga K "Token") := He.cls_ok (cd.fact 95 (f := .cls "Token") rfl)
  have MT : Mk K (He.ga K "Token") (He.ma K (He.ga K "Token") "__init__") := He.mkr_ok (cd.fact 96 (f := .mkr "Token") rfl)
  have TK : SW.TkC K (He.ga K "Token") := ⟨clT, (He.noat_ok (cd.fact 97 (f := .noat "Token" "context") rfl)), (He.noat_ok (cd.fact 98 (f := .noat "Token" "variable") rfl)), (He.noat_ok (cd.fact 99 (f := .noat "Token" "old") rfl)), (He.noat_ok (cd.fact 100 (f := .noat "Token" "is_used") rfl))⟩
  have clW : Cls K (He.ga K "Within") := He.cls_ok (cd.fact 101 (f := .cls "Within") rfl)
  have MW : Mk K (He.ga K "Within") (He.ma K (He.ga K "Within") "__init__") := He.mkr_ok (cd.fact 102 (f := .mkr "Within") rfl)
  have Mwie : Meth K (He.ga K "Within") "__enter__" (He.ma K (He.ga K "Within") "__enter__") := He.meth_ok (cd.fact 103 (f := .meth "Within" "__enter__") rfl)
  have Mwix : Meth K (He.ga K "Within") "__exit__" (He.ma K (He.ga K "Within") "__exit__") := He.meth_ok (cd.fact 104 (f := .meth "Within" "__exit__") rfl)
  have WW : SW.WnC K (He.ga K "Within") := ⟨clW, (He.noat_ok (cd.fact 105 (f := .noat "Within" "room") rfl)), (He.noat_ok (cd.fact 106 (f := .noat "Within" "context") rfl)), (He.noat_ok (cd.fact 107 (f := .noat "Within" "elder") rfl))⟩
  have mm : WiX.Mgr K (He.ga K "Within") (He.ma K (He.ga K "Within") "__enter__") (He.ma K (He.ga K "Within") "__exit__") := ⟨Mwie.at_, Mwie.fn, Mwix.at_, Mwix.fn⟩
  have clR : Cls K (He.ga K "Room") := He.cls_ok (cd.fact 108 (f := .cls "Room") rfl)
  have MR : Mk K (He.ga K "Room") (He.ma K (He.ga K "Room") "__init__") := He.mkr_ok (cd.fact 109 (f := .mkr "Room") rfl)
  have RR : SW.RoC K (He.ga K "Room") := ⟨clR, (He.noat_ok (cd.fact 110 (f := .noat "Room" "_book") rfl)), (He.noat_ok (cd.fact 111 (f := .noat "Room" "_events") rfl)), (He.noat_ok (cd.fact 112 (f := .noat "Room" "now") rfl))⟩
  have Mrop : Meth K (He.ga K "Room") "put" (He.ma K (He.ga K "Room") "put") := He.meth_ok (cd.fact 113 (f := .meth "Room" "put") rfl)
  have Mrod : Meth K (He.ga K "Room") "drop" (He.ma K (He.ga K "Room") "drop") := He.meth_ok (cd.fact 114 (f := .meth "Room" "drop") rfl)
  have Mror : Meth K (He.ga K "Room") "read" (He.ma K (He.ga K "Room") "read") := He.meth_ok (cd.fact 115 (f := .meth "Room" "read") rfl)
  have Mroh : Meth K (He.ga K "Room") "hold" (He.ma K (He.ga K "Room") "hold") := He.meth_ok (cd.fact 116 (f := .meth "Room" "hold") rfl)
  have Mros : Meth K (He.ga K "Room") "reset" (He.ma K (He.ga K "Room") "reset") := He.meth_ok (cd.fact 117 (f := .meth "Room" "reset") rfl)
  have Mroc : Meth K (He.ga K "Room") "copy" (He.ma K (He.ga K "Room") "copy") := He.meth_ok (cd.fact 118 (f := .meth "Room" "copy") rfl)
  have Mrou : Meth K (He.ga K "Room") "run" (He.ma K (He.ga K "Room") "run") := He.meth_ok (cd.fact 119 (f := .meth "Room" "run") rfl)
  have Mrow : Meth K (He.ga K "Room") "within" (He.ma K (He.ga K "Room") "within") := He.meth_ok (cd.fact 120 (f := .meth "Room" "within") rfl)
  have Mrol : Meth K (He.ga K "Room") "log" (He.ma K (He.ga K "Room") "log") := He.meth_ok (cd.fact 121 (f := .meth "Room" "log") rfl)
  have Mrsh : Meth K (He.ga K "Room") "show" (He.ma K (He.ga K "Room") "show") := He.meth_ok (cd.fact 122 (f := .meth "Room" "show") rfl)
  have Mrno : Meth K (He.ga K "Room") "note" (He.ma K (He.ga K "Room") "note") := He.meth_ok (cd.fact 123 (f := .meth "Room" "note") rfl)
  have Frou : Fun K "run" "Room.run" SW.sRun (He.ma K (He.ga K "Room") "run") fdrou := fun_of FDrou
  obtain ⟨ocR, odR, kVR, docR, pmR, anR, cdR, ctR, slR, eR, lR, cR⟩ := Frou.ex
  subst eR
  have sN_C : PySem.W.findIn K (.ref (He.ga K "Context")) "__ne__" = some (some (.builtin "object.__ne__")) := (He.eqO_ok (allB_at (i := 34) cx (Nat.le_of_ble_eq_true rfl)))
  have ob_C : PySem.W.subIn K (.ref (He.ga K "Context")) (.type "object") = some true := (of_decide_eq_true (allB_at (i := 35) cx (Nat.le_of_ble_eq_true rfl)))
  have nf_C : PySem.W.notFirst K (He.ga K "Context") (.ref (He.ga K "Context")) = true := (allB_at (i := 36) cx (Nat.le_of_ble_eq_true rfl))
  have kc_C : PySem.W.kitOne K (.ref (He.ga K "Context")) (.ref (He.ga K "Context")) = some true := (of_decide_eq_true (allB_at (i := 37) cx (Nat.le_of_ble_eq_true rfl)))
  have hC_C : PySem.W.findIn K (.ref (He.ga K "Context")) "__class__" = some (some (.builtin "object.__class__")) := (He.eqO_ok (allB_at (i := 38) cx (Nat.le_of_ble_eq_true rfl)))
  have hN_C : PySem.W.specialIn K (.builtin "object.__class__") "__get__" = some (some (.builtin "getset_descriptor.__get__")) := (He.eqO_ok (allB_at (i := 39) cx (Nat.le_of_ble_eq_true rfl)))
  have hT_C : PySem.W.takesIn K (.builtin "object.__class__") = some true := (of_decide_eq_true (allB_at (i := 40) cx (Nat.le_of_ble_eq_true rfl)))
  have hM_C : PySem.W.mroIn K (He.ga K "Context") (.type "object") = some true := (of_decide_eq_true (allB_at (i := 41) cx (Nat.le_of_ble_eq_true rfl)))
  have ty_C : ∀ (H : Hp) (a dx : Addr) (fs : List (Str × V)), H a = some (.ins (He.ga K "Context") dx fs) → TyX K H (.ref a) (.ref (He.ga K "Context")) := fun H a dx fs e => .base (.ins e clC hC_C hN_C hT_C hM_C)
  obtain ⟨t1, et1⟩ : ∃ t, t = (He.cT K ("_law_deed", none)).2 := ⟨_, rfl⟩
  obtain ⟨t2, et2⟩ : ∃ t, t = (He.cT K ("_law_within", none)).2 := ⟨_, rfl⟩
  have n12 : t1 ≠ t2 := by rw [et1, et2]; exact (of_decide_eq_true (allB_at (i := 42) cx (Nat.le_of_ble_eq_true rfl)))
  have u1 : (t1, XA.qDeed) ∈ [(t1, XA.qDeed), (t2, XA.qWith)] := .head _
  have w1 : ∀ p ∈ [(t1, XA.qDeed), (t2, XA.qWith)], p.1 = t1 → p.2 = XA.qDeed := fun p hp e => by
    simp only [List.mem_cons, List.not_mem_nil, or_false] at hp
    rcases hp with rfl | rfl
    · rfl
    · exact absurd e (Ne.symm n12)
  have u2 : (t2, XA.qWith) ∈ [(t1, XA.qDeed), (t2, XA.qWith)] := .tail _ (.head _)
  have w2 : ∀ p ∈ [(t1, XA.qDeed), (t2, XA.qWith)], p.1 = t2 → p.2 = XA.qWith := fun p hp e => by
    simp only [List.mem_cons, List.not_mem_nil, or_false] at hp
    rcases hp with rfl | rfl
    · exact absurd e n12
    · rfl
  refine ⟨(PySem.W.fnOf "law" "law" (defArgs XA.sLaw) (defBody XA.sLaw) (defScope XA.sLaw) .none kVlaw dclaw pmlaw anlaw cdlaw ctlaw), [(He.codeOf K ("_law_deed", none), t1), (He.codeOf K ("_law_within", none), t2)], 102, XA.spLaw K [(t1, XA.qDeed), (t2, XA.qWith)], fun p hp => ?_, ⟨rfl, by decide, by decide⟩, fun s u => .of_eq rfl, fun H a ns few h1 h2 => ?_, fun base _ _ TBs => ?_⟩
  · simp only [List.mem_cons, List.not_mem_nil, or_false] at hp
    rcases hp with rfl | rfl
    · rw [et1]; exact ⟨c.empty ("_law_deed", none) (by simp [tfH]), c.out ("_law_deed", none) (by simp [tfH]), c.hd ("_law_deed", none) (by simp [tfH])⟩
    · rw [et2]; exact ⟨c.empty ("_law_within", none) (by simp [tfH]), c.out ("_law_within", none) (by simp [tfH]), c.hd ("_law_within", none) (by simp [tfH])⟩
  · have hT : LnX.TabsC [(t1, XA.qDeed), (t2, XA.qWith)] H := LnX.TabsC.nil (fun p hp r hr e => (by
      simp only [List.mem_cons, List.not_mem_nil, or_false] at hr
      rcases hr with rfl | rfl
      · exact w1 p hp e
      · exact w2 p hp e)) fun p hp => (by
      simp only [List.mem_cons, List.not_mem_nil, or_false] at hp
      rcases hp with rfl | rfl
      · exact h1 (_, t1) (.head _)
      · exact h1 (_, t2) (.tail _ (.head _)))
    exact ⟨a, ns, rfl, h2, few, hT, fun _ => rfl⟩
  have TB1 := TBs _ (.head _)
  have TB2 := TBs _ (.tail _ (.head _))
  have Gisn := BK.ok_name (P := P) (w := w) (base := base) (mg := mg) Fisn T
  have Garn := ok_areNames (P := P) (w := w) (base := base) (mg := mg) Farn T Gisn bisn gisn kisn
  have Gitg := ok_integer (P := P) (w := w) (base := base) (mg := mg) Fitg T
  have Gnum := ok_number (P := P) (w := w) (base := base) (mg := mg) Fnum Gitg bitg gitg kitg
  have Gtup := ok_tuple (P := P) (w := w) (base := base) (mg := mg) Ftup T
  have Gdif := ok_diff (P := P) (w := w) (base := base) (mg := mg) Fdif T m_set Gisn bisn gisn kisn
  have Gprt := ok_part (P := P) (w := w) (base := base) (mg := mg) Fprt T ⟨_, v_MOST_VALUE⟩ Gisn bisn gisn kisn Gnum bnum gnum knum Garn barn garn karn
  have Gwrd := ok_word (P := P) (w := w) (base := base) (mg := mg) Fwrd T
  have Gfit := ok_fits (P := P) (w := w) (base := base) (mg := mg) Ffit T m_zip Gprt bprt gprt kprt
  have Gfrm := ok_form (P := P) (w := w) (base := base) (mg := mg) Ffrm D Gwrd bwrd gwrd kwrd Gfit bfit gfit kfit
  have Gpts := ok_parts (P := P) (w := w) (base := base) (mg := mg) Fpts D.parts m_list m_zip
  have Gblk := ok_blocks (P := P) (w := w) (base := base) (mg := mg) Fblk T
  have Ghyi := ok_yield (P := P) (w := w) (base := base) (mg := mg) Fhyi Gfrm bfrm gfrm kfrm
  have Gcan := ok_can (P := P) (w := w) (base := base) (mg := mg) Fcan Ghyi bhyi ghyi khyi
  have Gknd := ok_kind (P := P) (w := w) (base := base) (mg := mg) Fknd T Kd
  have Gprm := ok_params (P := P) (w := w) (base := base) (mg := mg) Fprm T Kd Gtup btup gtup ktup Gknd bknd gknd kknd Gdif bdif gdif kdif
  have Gtrp := ok_triple (P := P) (w := w) (base := base) (mg := mg) Ftrp T Gtup btup gtup ktup Gisn bisn gisn kisn Gprm bprm gprm kprm
  have Gcin := ok_cinit (P := P) (w := w) (base := base) (mg := mg) Fcin Tx
  have Gknw := ok_knows (P := P) (w := w) (base := base) (mg := mg) Fknw T Kd Tx Gpts bpts gpts kpts
  have Gtak := ok_takes (P := P) (w := w) (base := base) (mg := mg) Ftak T Mo Tx Gfrm bfrm gfrm kfrm Gknw bknw Mn Gcan bcan gcan kcan
  have Gfin := ok_fault (P := P) (w := w) (base := base) (mg := mg) Ffin Tx m_enumerate Gtak btak Mt Gblk bblk gblk kblk bfin Mf 5
  have Gfpc := ok_pieces (P := P) (w := w) (base := base) (mg := mg) Ffpc Tx m_enumerate Gtrp btrp gtrp ktrp M Gcin bcin Gfin bfin Mf
  have Gflt := ok_faultOf (P := P) (w := w) (base := base) (mg := mg) Fflt T Mb Gtup btup gtup ktup Gdif bdif gdif kdif Gfpc bfpc gfpc kfpc
  have Gbin := ok_badInit (P := P) (w := w) (base := base) (mg := mg) Fbin OxB nb_B_place
  have Gnee := ok_need (P := P) (w := w) (base := base) (mg := mg) Fnee Gflt bflt gflt kflt OxB gCB aiB tyB Gbin bbin
  have Gmix := SW.ok_mixed (P := P) (w := w) (base := base) (mg := mg) Fmix m_int
  have Gbeg := SW.ok_begin (P := P) (w := w) (base := base) (mg := mg) Fbeg m_list
  have Gdrw := SW.ok_draw (P := P) (w := w) (base := base) (mg := mg) Fdrw Gmix bmix gmix kmix m_int m_len
  have Gnam := SW.ok_name (P := P) (w := w) (base := base) (mg := mg) Fnam Gdrw bdrw gdrw kdrw m_range
  have Gnms := SW.ok_names (P := P) (w := w) (base := base) (mg := mg) Fnms Gnam bnam gnam knam m_range m_len
  have Gcti := SW.ok_init (P := P) (w := w) (base := base) (mg := mg) FI TC
  have Gctg := SW.ok_get (P := P) (w := w) (base := base) (mg := mg) Fctg TC RT
  have Gcts := SW.ok_set (P := P) (w := w) (base := base) (mg := mg) Fcts TC
  have Gcth := SW.ok_has (P := P) (w := w) (base := base) (mg := mg) Fcth TC
  have Gctl := SW.ok_len (P := P) (w := w) (base := base) (mg := mg) Fctl TC m_len
  have Gctd := SW.ok_drop (P := P) (w := w) (base := base) (mg := mg) Fctd TC
  have Gctp := SW.ok_pairs (P := P) (w := w) (base := base) (mg := mg) Fctp TC m_tuple m_sorted
  have Gcty := SW.ok_copy (P := P) (w := w) (base := base) (mg := mg) Fcty TC MC Gcti bI Gctp bctp Mctp
  have Gctw := SW.ok_same (P := P) (w := w) (base := base) (mg := mg) (C := (He.ga K "Context")) Fctw
  have CZ : SW.CKit P w K mg base (He.ga K "Context") (He.ga K "Fails") := { T := TC, fI := _, T0 := (He.dflAt ("Context", some "__init__") 0 K), fG := _, fH := _, fL := _, fP := _, fS := _, fD := _, fY := _, fW := _, dI := _, dG := _, dH := _, dL := _, dP := _, dS := _, dD := _, dY := _, dW := _, M := MC, GI := Gcti, bI := bI, b0 := b0, t0 := t0, GG := Gctg, GH := Gcth, GL := Gctl, GP := Gctp, GS := Gcts, GD := Gctd, GY := Gcty, GW := Gctw, bG := bctg, bH := bcth, bL := bctl, bP := bctp, bS := bcts, bD := bctd, bY := bcty, bW := bctw, mP := Mctp, mD := Mctd, mY := Mcty, mW := Mctw, sG := Mctg.at_, sH := Mcth.at_, sL := Mctl.at_, sS := Mcts.at_, iG := Mctg.fn, iH := Mcth.fn, iL := Mctl.fn, iS := Mcts.fn, jG := jG, nq := nq }
  have Gtki := SW.ok_tok (P := P) (w := w) (base := base) (mg := mg) Ftki CZ TK
  have Gwii := SW.ok_winI (P := P) (w := w) (base := base) (mg := mg) Fwii WW
  have Gwie := SW.ok_enter (P := P) (w := w) (base := base) (mg := mg) Fwie WW TC RR RT
  have Gwix := SW.ok_exit (P := P) (w := w) (base := base) (mg := mg) Fwix WW TC RR
  have Gwiq := SW.okq_exit (P := P) (w := w) (base := base) (mg := mg) Fwix WW TC RR
  have Groi := SW.ok_rinit (P := P) (w := w) (base := base) (mg := mg) Froi CZ RR Gnee bnee gnee knee
  have Grop := SW.ok_put (P := P) (w := w) (base := base) (mg := mg) Frop CZ RR
  have Grod := SW.ok_rdrop (P := P) (w := w) (base := base) (mg := mg) Frod CZ RR
  have Gror := SW.ok_read (P := P) (w := w) (base := base) (mg := mg) Fror CZ RR
  have Groh := SW.ok_hold (P := P) (w := w) (base := base) (mg := mg) Froh CZ RR MT Gtki btki gCT
  have Gros := SW.ok_reset (P := P) (w := w) (base := base) (mg := mg) Fros CZ RR TK RT
  have Groc := SW.ok_rcopy (P := P) (w := w) (base := base) (mg := mg) Froc CZ RR
  have Grow := SW.ok_within (P := P) (w := w) (base := base) (mg := mg) Frow MW Gwii bwii gCW
  have Grol := SW.ok_log (P := P) (w := w) (base := base) (mg := mg) Frol RR m_list
  have RK : SW.RKit P w K mg base (He.ga K "Context") (He.ga K "Fails") (He.ga K "Token") (He.ga K "Room") (He.ga K "Within") := { Z := CZ, fI := _, Y := RT, I := is_F, RR := RR, TK := TK, WW := WW, fPu := _, fDr := _, fRe := _, fHo := _, fRs := _, fCo := _, fLo := _, fWi := _, fEn := _, fEx := _, fRI := _, fTI := _, dPu := _, dDr := _, dRe := _, dHo := _, dRs := _, dCo := _, dLo := _, dWi := _, dEn := _, dEx := _, dRI := _, dTI := _, GPu := Grop, GDr := Grod, GRe := Gror, GHo := Groh, GRs := Gros, GCo := Groc, GLo := Grol, GWi := Grow, GEn := Gwie, GEx := Gwix, GEq := Gwiq, GRI := Groi, GTI := Gtki, bPu := brop, bDr := brod, bRe := bror, bHo := broh, bRs := bros, bCo := broc, bLo := brol, bWi := brow, bEn := bwie, bEx := bwix, bRI := broi, bTI := btki, mPu := Mrop, mDr := Mrod, mRe := Mror, mHo := Mroh, mRs := Mros, mCo := Mroc, mLo := Mrol, mWi := Mrow, mm := mm, MR := MR, MT := MT, gR := gCR, gT := gCT, gC := gC, mI := m_isinstance, mRt := m_RuntimeError, mVe := m_ValueError, mLe := m_LookupError, mLn := m_len, mTu := m_tuple, mSo := m_sorted, mRg := m_range, k1 := k1_F, k2 := k2_F, fF := _, fRu := _, ocF := _, kVF := _, docF := _, pmF := _, ctF := _, cdF := _, ocR := _, kVR := _, docR := _, pmR := _, ctR := _, cdR := _, odF := _, anF := _, odR := _, anR := _, oslF := _, oslR := _, lkF := llfa, hcF := clfa, gF := glfa, kF := klfa, bF := blfa, lkR := lR, hcR := cR, mRu := Mrou }
  have Gcte := SW.ok_eq (P := P) (w := w) (base := base) (mg := mg) Fcte TC m_isinstance ty_C kc_C
  have EK : XA.EqK P w K mg base (He.ga K "Context") := { fE := _, dE := _, GE := Gcte, bE := bcte, sE := Mcte.at_, iE := Mcte.fn, sN := sN_C, ob := ob_C, nf := nf_C, ty := ty_C }
  have Grno := XA.ok_note (P := P) (w := w) (base := base) (mg := mg) Frno RR
  have Grsh := XA.ok_show (P := P) (w := w) (base := base) (mg := mg) Frsh CZ RR Grno brno Mrno
  have Glof := XA.ok_of (P := P) (w := w) (base := base) (mg := mg) Flof Gdrw bdrw gdrw kdrw m_len
  have Glds : ∀ vars : List Str, FnG P w K mg base 101 (He.fAd K ("_law_deeds", none)) (PySem.W.fnOf "_law_deeds" "_law_deeds" (defArgs XA.sDeeds) (defBody XA.sDeeds) (defScope XA.sDeeds) .none kVlds dclds pmlds anlds cdlds ctlds) ["state", "room", "world", "things", "deep"] (XA.spDeeds ⟨(He.ga K "Context"), (He.ga K "Token"), (He.ga K "Room"), vars⟩ [(t1, XA.qDeed), (t2, XA.qWith)] 0) := fun vars => by
    obtain ⟨G, eG⟩ : ∃ G : XA.Cl, G = ⟨(He.ga K "Context"), (He.ga K "Token"), (He.ga K "Room"), vars⟩ := ⟨_, rfl⟩
    have RK : SW.RKit P w K mg base G.C (He.ga K "Fails") G.T G.R (He.ga K "Within") := by rw [eG]; exact RK
    have EK : XA.EqK P w K mg base G.C := by rw [eG]; exact EK
    have Grsh : FnOk P w K mg base (L2.CX P w) 5 (He.ma K (He.ga K "Room") "show") fdrsh ["self", "variable"] (XA.spShow G.R G.C (He.ga K "Fails")) := by rw [eG]; exact Grsh
    have Mrsh : Meth K G.R "show" (He.ma K (He.ga K "Room") "show") := by rw [eG]; exact Mrsh
    rw [← eG]
    have Gsrc := XA.ok_source (P := P) (w := w) (base := base) (mg := mg) G Fsrc T
    have Glrs := XA.ok_lreset (P := P) (w := w) (base := base) (mg := mg) G Flrs
    have Glhe := XA.ok_held (P := P) (w := w) (base := base) (mg := mg) G Flhe m_len
    have Glpl := XA.ok_plainS (P := P) (w := w) (base := base) (mg := mg) G Flpl m_len m_dict Gsrc bsrc gsrc ksrc Glhe blhe glhe klhe Glrs blrs glrs klrs
    have Glen := XA.ok_entered (P := P) (w := w) (base := base) (mg := mg) G Flen
    have Glex := XA.ok_exited (P := P) (w := w) (base := base) (mg := mg) G Flex
    have Glde := XA.ok_deed (P := P) (w := w) (base := base) (mg := mg) (G := G) llde clde u1 TB1 RK m_dict Gdrw bdrw gdrw kdrw Glof blof glof klof Glpl blpl glpl klpl Gsrc bsrc gsrc ksrc Glhe blhe glhe klhe Glrs blrs glrs klrs Grsh brsh Mrsh
    have Glar := XA.ok_allr (P := P) (w := w) (base := base) (mg := mg) (G := G) llar clar RK EK m_repr
    have step : ∀ (d kk : Nat), d ≤ 8 → 20 ≤ kk → (hw : FnG P w K mg base (kk + 8) (He.fAd K ("_law_within", none)) _ ["state", "room", "world", "things", "deep"] (XA.spWith G [(t1, XA.qDeed), (t2, XA.qWith)] d)) → FnG P w K mg base (kk + 9) (He.fAd K ("_law_deeds", none)) (PySem.W.fnOf "_law_deeds" "_law_deeds" (defArgs XA.sDeeds) (defBody XA.sDeeds) (defScope XA.sDeeds) .none kVlds dclds pmlds anlds cdlds ctlds) ["state", "room", "world", "things", "deep"] (XA.spDeeds G [(t1, XA.qDeed), (t2, XA.qWith)] d) :=
      fun d kk hd hk hw => XA.ok_deeds (P := P) (w := w) (base := base) (mg := mg) (G := G) llds clds m_range hd hk Gdrw bdrw gdrw kdrw hw blwi glwi klwi Glde blde glde klde Glar blar glar klar
    have all : ∀ e : Nat, e ≤ 8 → FnG P w K mg base (29 + 9 * e) (He.fAd K ("_law_deeds", none)) (PySem.W.fnOf "_law_deeds" "_law_deeds" (defArgs XA.sDeeds) (defBody XA.sDeeds) (defScope XA.sDeeds) .none kVlds dclds pmlds anlds cdlds ctlds) ["state", "room", "world", "things", "deep"] (XA.spDeeds G [(t1, XA.qDeed), (t2, XA.qWith)] (8 - e)) := fun e => by
      induction e with
      | zero => exact fun _ => step 8 20 (Nat.le_refl _) (Nat.le_refl _) ⟨fun vs H Q E h => absurd h.1 (by decide), fun A outer s H us vs Q E gd hr e0 hb r h => absurd h.1 (by decide)⟩
      | succ e ih =>
        intro he
        have G1 := ih (by omega)
        have e1 : 8 - e = (8 - (e + 1)) + 1 := by omega
        rw [e1] at G1
        have Gw := XA.ok_with (P := P) (w := w) (base := base) (mg := mg) (G := G) (d := 8 - (e + 1)) (kk := 29 + 9 * e) llwi clwi u2 TB2 RK (by omega) Glof blof glof klof Glen blen glen klen Glex blex glex klex G1 blds glds klds
        have G2 := step (8 - (e + 1)) (29 + 9 * e) (by omega) (by omega) Gw
        rw [show 29 + 9 * (e + 1) = 29 + 9 * e + 9 by omega]
        exact G2
    exact all 8 (Nat.le_refl _)
  exact XA.ok_law (P := P) (w := w) (base := base) (mg := mg) llaw claw RK Gbeg bbeg gbeg kbeg Gnms bnms gnms knms Gdrw bdrw gdrw kdrw Glds blds glds klds
end BK

set_option Elab.async false
set_option maxRecDepth 100000
set_option maxHeartbeats 0
open PySem PySem.W PySem.Calls PyProof.Rows
theorem PySem.Challenge.cw_stepwhere_k04_whole_rooms_kept_holds : PySem.Challenge.rw_stepwhere_k04_whole_rooms_kept.Holds := by
  w_on; o_law
  refine HandSHeadRun.head_any (r := OpenLaw.row PySem.Challenge.rw_stepwhere_k04_whole_rooms_kept) (q := view (OpenLaw.row PySem.Challenge.rw_stepwhere_k04_whole_rooms_kept).prog [90]) (H := BK.HkL) (ob := BK.ObL) (M := 20000) (loose := BK.nmL) (d := HandSHeadRun.topDef (OpenLaw.row PySem.Challenge.rw_stepwhere_k04_whole_rooms_kept).prog 90) (kwd := []) BK.ObL_eq
    (by kernel_rfl) (fun s => by kernel_rfl) BK.runL (by kernel_rfl) (by kernel_rfl) (by kernel_rfl) (by rfl) (by first | assumption | decide +kernel) (by decide +kernel) ⟨rfl, rfl, rfl, rfl, rfl, by decide +kernel⟩ ?hw ?hc
  case hw => w_witness2
  case hc =>
    refine BK.walkM (l := PySem.Challenge.rw_stepwhere_k04_whole_rooms_kept) rfl (by kernel_rfl) ?F
    intro w mg fa h Y G hmg0
    obtain ⟨K, KX, c⟩ := Y
    have hmg : mg ("law" : PySem.Str) = some (.ref fa) := by
      have e : (HandSHeadRun.topDef (OpenLaw.row PySem.Challenge.rw_stepwhere_k04_whole_rooms_kept).prog 90).name = ("law" : PySem.Str) := by kernel_rfl
      rw [← e]
      exact hmg0
    obtain ⟨fd, mks, k, sp, h1, h2, h3, h4, h5⟩ := BK.facts (P := (PySem.Challenge.rw_stepwhere_k04_whole_rooms_kept).prog) (w := w) KX G hmg c
    exact ⟨K, fd, mks, k, sp, KX, h1, h2, h3, h4, h5⟩

