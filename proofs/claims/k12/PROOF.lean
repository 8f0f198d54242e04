import PyProof.Rows.All
import Wide.All
import OpenK.AllK
import Wide.FinOn
import HandS.ForMost
import HandS.ForExc
import HandS.Wide
import HandS.IsInst
import HandS.Zip
import HandS.TupAny
import HandS.TupLe
import HandS.TupMul
import HandS.Codes
import HandS.Conv
import HandS.Deep
import HandS.Flow
import HandS.Style
import HandS.More
import HandS.StrMore
import HandS.Walk
import HandS.SetKeys
import PyProof.NeKinds
import PyProof.NeData
import HandS.RaiseMore
import PyProof.ReprRoads
import HandS.Ends
import HandS.Defaults
import HandS.Head0
import HandS.Head1
import HandS.Head2
import HandS.HeadHook1
import HandS.HeadHook2
import KE.KStateDown
import PyProof.Rows.StrCut
import HandS.HeadEnd
import PySem.Challenge.RW_mighthave_k12_what_is_a_test
set_option Elab.async false
set_option linter.all false
set_option maxRecDepth 100000
set_option maxHeartbeats 0
/-! M0: a mirror: data by value (lists, dicts by places in a store), results, what relates them to the abstract heap. -/
namespace Mi
open PySem PySem.Spec PyProof.Rows L2

inductive D where
  | non | bl (b : Bool) | int (i : Int) | str (x : Str) | ty (n : String)
  | tup (xs : List D) | loc (i : Nat) | scr (ns : List Int) | fn (x : Str)
deriving Inhabited

inductive SO where
  | lst (xs : List D) | dK (kvs : List (Key × D)) | dT (kvs : List (List Key × D))
abbrev Store := List SO
/-- what is raised: the class's name, its one attribute -/
structure Ex where
  cls : Str
  val : Option (Str × D)
inductive R (α : Type) where
  | ok (a : α) (s : Store) | exc (x : Ex) (s : Store) | no
def R.bind {α β : Type} (r : R α) (f : α → Store → R β) : R β := match r with
  | .ok a s => f a s
  | .exc x s => .exc x s
  | .no => .no
@[simp] theorem R.bind_ok {α β : Type} (a : α) (s : Store) (f : α → Store → R β) : (R.ok a s).bind f = f a s := rfl
@[simp] theorem R.bind_exc {α β : Type} (x : Ex) (s : Store) (f : α → Store → R β) : (R.exc x s : R α).bind f = .exc x s := rfl
@[simp] theorem R.bind_no {α β : Type} (f : α → Store → R β) : (R.no : R α).bind f = .no := rfl

/-! ### data and values -/
/-- a list that nobody writes: locked, or an object of the module -/
def FzL (K : PySem.W.Frag) (H : Hp) (a : Addr) (xs : List V) : Prop :=
  (∃ o, H a = some (.frz o (.lst xs))) ∨
    ∃ (o : Obj) (its : Array Value) (n : Nat), K.lookup a = some o ∧ o.cls = .type "list" ∧ o.dict = none ∧ o.data = .seq its n ∧ its.size ≤ sizeLine ∧ Vals xs its.toList
theorem FzL.sq {K : PySem.W.Frag} {H : Hp} {a : Addr} {xs : List V} (h : FzL K H a xs) : SqL K H a xs := by
  rcases h with h | h
  · exact .inl (.inr h)
  · exact .inr h
/-- a function of the module, of this name -/
def FnV (K : PySem.W.Frag) (x : Str) (a : Addr) : Prop := ∃ (o : Obj) (fd : FuncData), K.lookup a = some o ∧ o.cls = .type "function" ∧ o.data = .func fd ∧ fd.name = x
section
variable (K : PySem.W.Frag) (ι : Nat → Addr) (n : Nat) (H : Hp)
mutual
inductive RD : D → V → Prop
  | non : RD .non .non
  | bl (b : Bool) : RD (.bl b) (.bl b)
  | int (i : Int) : RD (.int i) (.int i)
  | str (x : Str) : RD (.str x) (.str x)
  | ty (x : String) : RD (.ty x) (.ty x)
  | tup {xs : List D} {a : Addr} {vs : List V} : SqT K H a vs → RDs xs vs → RD (.tup xs) (.ref a)
  | loc (i : Nat) : i < n → RD (.loc i) (.ref (ι i))
  | scr {ns : List Int} {a : Addr} : FzL K H a (ns.map V.int) → RD (.scr ns) (.ref a)
  | fn {x : Str} {a : Addr} : FnV K x a → RD (.fn x) (.ref a)
inductive RDs : List D → List V → Prop
  | nil : RDs [] []
  | cons {x : D} {v : V} {xs : List D} {vs : List V} : RD x v → RDs xs vs → RDs (x :: xs) (v :: vs)
end
end
section
variable {K : PySem.W.Frag} {ι ι' : Nat → Addr} {n n' : Nat} {H H' : Hp}
/-- what was there stays readable -/
structure Ext (K : PySem.W.Frag) (ι : Nat → Addr) (n : Nat) (H : Hp) (ι' : Nat → Addr) (n' : Nat) (H' : Hp) : Prop where
  le : n ≤ n'
  ag : ∀ i, i < n → ι' i = ι i
  tup : ∀ a xs, SqT K H a xs → SqT K H' a xs
  frz : ∀ a xs, FzL K H a xs → FzL K H' a xs
theorem Ext.refl : Ext K ι n H ι n H := ⟨Nat.le_refl _, fun _ _ => rfl, fun _ _ h => h, fun _ _ h => h⟩
theorem Ext.trans {ι2 : Nat → Addr} {n2 : Nat} {H2 : Hp} (a : Ext K ι n H ι' n' H') (b : Ext K ι' n' H' ι2 n2 H2) : Ext K ι n H ι2 n2 H2 :=
  ⟨Nat.le_trans a.le b.le, fun i h => (b.ag i (Nat.lt_of_lt_of_le h a.le)).trans (a.ag i h), fun c xs h => b.tup c xs (a.tup c xs h), fun c xs h => b.frz c xs (a.frz c xs h)⟩
mutual
theorem RD.ext (e : Ext K ι n H ι' n' H') : ∀ {x : D} {v : V}, RD K ι n H x v → RD K ι' n' H' x v
  | _, _, .non => .non
  | _, _, .bl b => .bl b
  | _, _, .int i => .int i
  | _, _, .str x => .str x
  | _, _, .ty x => .ty x
  | _, _, .tup h r => .tup (e.tup _ _ h) (RDs.ext e r)
  | _, _, .loc i h => by rw [← e.ag i h]; exact .loc i (Nat.lt_of_lt_of_le h e.le)
  | _, _, .scr h => .scr (e.frz _ _ h)
  | _, _, .fn h => .fn h
theorem RDs.ext (e : Ext K ι n H ι' n' H') : ∀ {xs : List D} {vs : List V}, RDs K ι n H xs vs → RDs K ι' n' H' xs vs
  | _, _, .nil => .nil
  | _, _, .cons h r => .cons (RD.ext e h) (RDs.ext e r)
end
theorem RDs.length : ∀ {xs : List D} {vs : List V}, RDs K ι n H xs vs → xs.length = vs.length
  | _, _, .nil => rfl
  | _, _, .cons _ r => congrArg (· + 1) (RDs.length r)
theorem RDs.get : ∀ {xs : List D} {vs : List V} {i : Nat} {x : D}, RDs K ι n H xs vs → xs[i]? = some x → ∃ v, vs[i]? = some v ∧ RD K ι n H x v
  | _, _, _, _, .nil, h => by simp at h
  | _, _, 0, _, .cons r _, h => by simp at h; subst h; exact ⟨_, by simp, r⟩
  | _, _, i + 1, _, .cons _ t, h => by
    obtain ⟨v, e, r⟩ := RDs.get (i := i) t (by simpa using h)
    exact ⟨v, by simpa using e, r⟩
theorem RDs.append : ∀ {xs ys : List D} {vs ws : List V}, RDs K ι n H xs vs → RDs K ι n H ys ws → RDs K ι n H (xs ++ ys) (vs ++ ws)
  | _, _, _, _, .nil, s => s
  | _, _, _, _, .cons r t, s => .cons r (RDs.append t s)
theorem RDs.take : ∀ {xs : List D} {vs : List V} (k : Nat), RDs K ι n H xs vs → RDs K ι n H (xs.take k) (vs.take k)
  | _, _, 0, _ => by simpa using RDs.nil
  | _, _, _ + 1, .nil => by simpa using RDs.nil
  | _, _, k + 1, .cons r t => by simpa using RDs.cons r (RDs.take k t)
theorem RDs.drop : ∀ {xs : List D} {vs : List V} (k : Nat), RDs K ι n H xs vs → RDs K ι n H (xs.drop k) (vs.drop k)
  | _, _, 0, r => by simpa using r
  | _, _, _ + 1, .nil => by simpa using RDs.nil
  | _, _, k + 1, .cons _ t => by simpa using RDs.drop k t
theorem RDs.set {x : D} {v : V} (h : RD K ι n H x v) : ∀ {xs : List D} {vs : List V} (i : Nat), RDs K ι n H xs vs → RDs K ι n H (xs.set i x) (vs.set i v)
  | _, _, _, .nil => by simpa using RDs.nil
  | _, _, 0, .cons _ t => by simpa using RDs.cons h t
  | _, _, i + 1, .cons r t => by simpa using RDs.cons r (RDs.set h i t)
theorem RDs.one {x : D} {v : V} (h : RD K ι n H x v) : RDs K ι n H [x] [v] := .cons h .nil
theorem RDs.reverse : ∀ {xs : List D} {vs : List V}, RDs K ι n H xs vs → RDs K ι n H xs.reverse vs.reverse
  | _, _, .nil => by simpa using RDs.nil
  | _, _, .cons r t => by simpa using (RDs.reverse t).append (.one r)
end

/-! ### the store and the heap -/
def kvR (K : PySem.W.Frag) (ι : Nat → Addr) (n : Nat) (H : Hp) {κ : Type} (kvs : List (κ × D)) (kws : List (κ × V)) : Prop := kvs.map (·.1) = kws.map (·.1) ∧ RDs K ι n H (kvs.map (·.2)) (kws.map (·.2))
def SOk (K : PySem.W.Frag) (ι : Nat → Addr) (n : Nat) (H : Hp) (a : Addr) : SO → Prop
  | .lst xs => ∃ vs, H a = some (.lst vs) ∧ RDs K ι n H xs vs
  | .dK kvs => ∃ kws, H a = some (.dK kws) ∧ kvR K ι n H kvs kws
  | .dT kvs => ∃ kws, H a = some (.dT kws) ∧ kvR K ι n H kvs kws
structure Sim (K : PySem.W.Frag) (ι : Nat → Addr) (st : Store) (H : Hp) : Prop where
  inj : ∀ i j o u, st[i]? = some o → st[j]? = some u → ι i = ι j → i = j
  ok : ∀ i o, st[i]? = some o → SOk K ι st.length H (ι i) o
section
variable {K : PySem.W.Frag} {ι ι' : Nat → Addr} {n n' : Nat} {H H' : Hp} {st st' : Store}
theorem SOk.mut {a : Addr} {o : SO} (h : SOk K ι n H a o) : ∃ u, H a = some u ∧ (∀ xs, u ≠ .tup xs) ∧ (∀ ob v, u ≠ .frz ob v) := by
  cases o with
  | lst xs => obtain ⟨vs, e, _⟩ := h; exact ⟨_, e, (fun _ z => nomatch z), fun _ _ z => nomatch z⟩
  | dK kvs => obtain ⟨vs, e, _⟩ := h; exact ⟨_, e, (fun _ z => nomatch z), fun _ _ z => nomatch z⟩
  | dT kvs => obtain ⟨vs, e, _⟩ := h; exact ⟨_, e, (fun _ z => nomatch z), fun _ _ z => nomatch z⟩
theorem sqt_upd {p : Addr} {o : HO} (hp : ∀ xs, H p ≠ some (.tup xs)) (hf : ∀ ob u, H p ≠ some (.frz ob u)) {a : Addr} {xs : List V} (h : SqT K H a xs) : SqT K (upd H p o) a xs := by
  rcases h with (h | ⟨ob, h⟩) | h
  · exact .inl (.inl (by rw [upd_ne (fun e : a = p => hp xs (by rw [← e]; exact h))]; exact h))
  · exact .inl (.inr ⟨ob, by rw [upd_ne (fun e : a = p => hf ob _ (by rw [← e]; exact h))]; exact h⟩)
  · exact .inr h
theorem fzl_upd {p : Addr} {o : HO} (hf : ∀ ob u, H p ≠ some (.frz ob u)) {a : Addr} {xs : List V} (h : FzL K H a xs) : FzL K (upd H p o) a xs := by
  rcases h with ⟨ob, h⟩ | h
  · exact .inl ⟨ob, by rw [upd_ne (fun e : a = p => hf ob _ (by rw [← e]; exact h))]; exact h⟩
  · exact .inr h
theorem kvR.ext {κ : Type} {kvs : List (κ × D)} {kws : List (κ × V)} (e : Ext K ι n H ι' n' H') (h : kvR K ι n H kvs kws) : kvR K ι' n' H' kvs kws := ⟨h.1, h.2.ext e⟩
/-- an object that isn't touched -/
theorem SOk.keep {a : Addr} {o : SO} (h : SOk K ι n H a o) (e : Ext K ι n H ι' n' H') (k : ∀ u, H a = some u → H' a = some u) : SOk K ι' n' H' a o := by
  cases o with
  | lst xs => obtain ⟨vs, q, r⟩ := h; exact ⟨vs, k _ q, r.ext e⟩
  | dK kvs => obtain ⟨vs, q, r⟩ := h; exact ⟨vs, k _ q, r.ext e⟩
  | dT kvs => obtain ⟨vs, q, r⟩ := h; exact ⟨vs, k _ q, r.ext e⟩
/-- a new address holds something new: nothing of the store is touched -/
theorem Sim.fresh {p : Addr} {o : HO} (S : Sim K ι st H) (hp : H p = none) : Sim K ι st (upd H p o) ∧ Ext K ι st.length H ι st.length (upd H p o) := by
  have e : Ext K ι st.length H ι st.length (upd H p o) := ⟨Nat.le_refl _, fun _ _ => rfl, fun a xs h => sqt_upd (fun xs z => by rw [hp] at z; cases z) (fun o u z => by rw [hp] at z; cases z) h, fun a xs h => fzl_upd (fun o u z => by rw [hp] at z; cases z) h⟩
  exact ⟨⟨S.inj, fun i u h => (S.ok i u h).keep e fun v z => by rw [upd_ne (ne_of_none z hp)]; exact z⟩, e⟩
theorem Sim.tup {p : Addr} {xs : List D} {vs : List V} (S : Sim K ι st H) (hp : H p = none) (r : RDs K ι st.length H xs vs) :
    Sim K ι st (upd H p (.tup vs)) ∧ Ext K ι st.length H ι st.length (upd H p (.tup vs)) ∧ RD K ι st.length (upd H p (.tup vs)) (.tup xs) (.ref p) := by
  obtain ⟨S', e⟩ := S.fresh (o := HO.tup vs) hp
  exact ⟨S', e, .tup (SqT.of upd_same) (r.ext e)⟩
def ins (ι : Nat → Addr) (n : Nat) (p : Addr) : Nat → Addr := fun i => if i = n then p else ι i
theorem ins_same {p : Addr} : ins ι n p n = p := if_pos rfl
theorem ins_lt {p : Addr} {i : Nat} (h : i < n) : ins ι n p i = ι i := if_neg (Nat.ne_of_lt h)
theorem lt_of_get {α : Type} {l : List α} {i : Nat} {x : α} (h : l[i]? = some x) : i < l.length := (List.getElem?_eq_some_iff.mp h).1
/-- a new object of the store -/
theorem Sim.push {p : Addr} {o : HO} {so : SO} (S : Sim K ι st H) (hp : H p = none) (new : ∀ ι' n', Ext K ι st.length H ι' n' (upd H p o) → SOk K ι' n' (upd H p o) p so) :
    Sim K (ins ι st.length p) (st ++ [so]) (upd H p o) ∧ Ext K ι st.length H (ins ι st.length p) (st ++ [so]).length (upd H p o) := by
  have e : Ext K ι st.length H (ins ι st.length p) (st ++ [so]).length (upd H p o) :=
    ⟨by simp, fun _ h => ins_lt h, fun a xs h => sqt_upd (fun xs z => by rw [hp] at z; cases z) (fun o u z => by rw [hp] at z; cases z) h, fun a xs h => fzl_upd (fun o u z => by rw [hp] at z; cases z) h⟩
  have old : ∀ i u, (st ++ [so])[i]? = some u → (i < st.length ∧ st[i]? = some u) ∨ (i = st.length ∧ u = so) := fun i u h => by
    by_cases hi : i < st.length
    · rw [List.getElem?_append_left hi] at h; exact .inl ⟨hi, h⟩
    · have hl := lt_of_get h
      have : i = st.length := by simp at hl; omega
      subst this
      simp at h
      exact .inr ⟨rfl, h.symm⟩
  refine ⟨⟨fun i j u v hi hj hz => ?_, fun i u h => ?_⟩, e⟩
  · rcases old i u hi with ⟨li, hi1⟩ | ⟨ei, eu⟩ <;> rcases old j v hj with ⟨lj, hj1⟩ | ⟨ej, ev⟩
    · rw [ins_lt li, ins_lt lj] at hz
      exact S.inj i j u v hi1 hj1 hz
    · rw [ins_lt li, ej, ins_same] at hz
      obtain ⟨w, hw, _⟩ := (S.ok i u hi1).mut
      rw [hz, hp] at hw; cases hw
    · rw [ei, ins_same, ins_lt lj] at hz
      obtain ⟨w, hw, _⟩ := (S.ok j v hj1).mut
      rw [← hz, hp] at hw; cases hw
    · rw [ei, ej]
  · rcases old i u h with ⟨li, hi⟩ | ⟨rfl, rfl⟩
    · rw [ins_lt li]
      exact (S.ok i u hi).keep e fun v z => by rw [upd_ne (ne_of_none z hp)]; exact z
    · rw [ins_same]
      exact new _ _ e
theorem Sim.newL {p : Addr} {xs : List D} {vs : List V} (S : Sim K ι st H) (hp : H p = none) (r : RDs K ι st.length H xs vs) :
    ∃ ι', Sim K ι' (st ++ [.lst xs]) (upd H p (.lst vs)) ∧ Ext K ι st.length H ι' (st ++ [SO.lst xs]).length (upd H p (.lst vs)) ∧ RD K ι' (st ++ [SO.lst xs]).length (upd H p (.lst vs)) (.loc st.length) (.ref p) := by
  obtain ⟨S', e⟩ := S.push (o := .lst vs) (so := .lst xs) hp fun ι' n' e => ⟨vs, upd_same, r.ext e⟩
  refine ⟨_, S', e, ?_⟩
  have h : RD K (ins ι st.length p) (st ++ [SO.lst xs]).length (upd H p (.lst vs)) (.loc st.length) (.ref (ins ι st.length p st.length)) := .loc _ (by simp)
  rw [ins_same] at h
  exact h
/-- an object of the store is changed -/
theorem Sim.write {i : Nat} {so so' : SO} {o : HO} (S : Sim K ι st H) (hi : st[i]? = some so)
    (new : Ext K ι st.length H ι st.length (upd H (ι i) o) → SOk K ι st.length (upd H (ι i) o) (ι i) so') :
    Sim K ι (st.set i so') (upd H (ι i) o) ∧ Ext K ι st.length H ι (st.set i so').length (upd H (ι i) o) := by
  obtain ⟨w, hw, nt, nf⟩ := (S.ok i so hi).mut
  have e : Ext K ι st.length H ι st.length (upd H (ι i) o) := ⟨Nat.le_refl _, fun _ _ => rfl, fun a xs h => sqt_upd (fun xs z => by rw [hw] at z; cases z; exact nt _ rfl) (fun ob u z => by rw [hw] at z; cases z; exact nf _ _ rfl) h, fun a xs h => fzl_upd (fun ob u z => by rw [hw] at z; cases z; exact nf _ _ rfl) h⟩
  have hl := lt_of_get hi
  have old : ∀ j u, (st.set i so')[j]? = some u → (j ≠ i ∧ st[j]? = some u) ∨ (j = i ∧ u = so') := fun j u h => by
    by_cases hj : j = i
    · subst hj
      rw [List.getElem?_set_self hl] at h
      exact .inr ⟨rfl, (Option.some.inj h).symm⟩
    · rw [List.getElem?_set_ne (Ne.symm hj)] at h
      exact .inl ⟨hj, h⟩
  refine ⟨⟨fun j k u v hj hk hz => ?_, fun j u h => ?_⟩, by rw [List.length_set]; exact e⟩
  · rcases old j u hj with ⟨_, hj1⟩ | ⟨ej, eu⟩ <;> rcases old k v hk with ⟨_, hk1⟩ | ⟨ek, ev⟩
    · exact S.inj j k u v hj1 hk1 hz
    · rw [ek] at hz ⊢; exact S.inj j i u so hj1 hi hz
    · rw [ej] at hz ⊢; exact S.inj i k so v hi hk1 hz
    · rw [ej, ek]
  · rw [List.length_set]
    rcases old j u h with ⟨nj, hj⟩ | ⟨rfl, rfl⟩
    · have ne : ι j ≠ ι i := fun z => nj (S.inj j i u so hj hi z)
      exact (S.ok j u hj).keep e fun v z => by rw [upd_ne ne]; exact z
    · exact new e
theorem Sim.setL {i : Nat} {xs ys : List D} {vs : List V} (S : Sim K ι st H) (hi : st[i]? = some (.lst xs)) (r : RDs K ι st.length H ys vs) :
    Sim K ι (st.set i (.lst ys)) (upd H (ι i) (.lst vs)) ∧ Ext K ι st.length H ι (st.set i (SO.lst ys)).length (upd H (ι i) (.lst vs)) :=
  S.write hi fun e => ⟨vs, upd_same, r.ext e⟩
theorem Sim.lst {i : Nat} {xs : List D} (S : Sim K ι st H) (hi : st[i]? = some (.lst xs)) : ∃ vs, H (ι i) = some (.lst vs) ∧ RDs K ι st.length H xs vs := S.ok i _ hi
/-- a list of the store -/
def lsOf (st : Store) (i : Nat) : Option (List D) := match st[i]? with
  | some (.lst xs) => some xs
  | _ => none
theorem Sim.ls {i : Nat} {xs : List D} (S : Sim K ι st H) (hi : lsOf st i = some xs) : i < st.length ∧ ∃ vs, H (ι i) = some (.lst vs) ∧ RDs K ι st.length H xs vs := by
  unfold lsOf at hi
  split at hi
  · rename_i ys h
    cases hi
    obtain ⟨vs, e, r⟩ := S.ok i _ h
    exact ⟨lt_of_get h, vs, e, r⟩
  · cases hi
theorem rds_ints : ∀ ns : List Int, RDs K ι n H (ns.map D.int) (ns.map V.int)
  | [] => .nil
  | i :: ns => .cons (.int i) (rds_ints ns)
end
end Mi
/-! M1: judgements over the mirror, expressions. -/
namespace Mi
open PySem PySem.Spec PyProof.Rows L2

abbrev SlD := List (Option D)
abbrev ME := SlD → Store → R D
abbrev MT := SlD → Store → R Bool
abbrev MA := SlD → Store → R (List D)
def FrR (K : PySem.W.Frag) (ι : Nat → Addr) (n : Nat) (H : Hp) (σD : SlD) (σ : L2.St) : Prop := σD.length = σ.length ∧ ∀ (i : Nat) (d : D), σD[i]? = some (some d) → ∃ v : V, σ[i]? = some (some v) ∧ RD K ι n H d v
def RX (K : PySem.W.Frag) (mg : Str → Option Value) (ι : Nat → Addr) (n : Nat) (H : Hp) (x : Ex) (cls : Value) (dx : Option Addr) : Prop :=
  ∃ C, mg x.cls = some (.ref C) ∧ cls = .ref C ∧ match x.val with
    | none => True
    | some (f, d) => ∃ a v, dx = some a ∧ H a = some (.xd [(f, v)]) ∧ RD K ι n H d v
section
variable {K : PySem.W.Frag} {ι ι' : Nat → Addr} {n n' : Nat} {H H' : Hp}
theorem FrR.ext {σD : SlD} {σ : L2.St} (e : Ext K ι n H ι' n' H') (h : FrR K ι n H σD σ) : FrR K ι' n' H' σD σ :=
  ⟨h.1, fun i d q => let ⟨v, a, r⟩ := h.2 i d q; ⟨v, a, r.ext e⟩⟩
theorem FrR.set {σD : SlD} {σ : L2.St} {d : D} {v : V} (i : Nat) (h : FrR K ι n H σD σ) (r : RD K ι n H d v) : FrR K ι n H (σD.set i (some d)) (σ.set i (some v)) := by
  refine ⟨by simpa using h.1, fun j d' q => ?_⟩
  by_cases hj : i = j
  · subst hj
    have hl := lt_of_get q
    rw [List.length_set] at hl
    rw [List.getElem?_set_self hl] at q
    have e := Option.some.inj (Option.some.inj q)
    subst e
    exact ⟨v, by rw [List.getElem?_set_self (by rw [← h.1]; exact hl)], r⟩
  · rw [List.getElem?_set_ne hj] at q
    obtain ⟨w, a, b⟩ := h.2 j d' q
    exact ⟨w, by rw [List.getElem?_set_ne hj]; exact a, b⟩
end

/-! ### a result is good for what follows -/
def RG {α β : Type} (X : Cx) (W : WX) (ι : Nat → Addr) (n : Nat) (H : Hp) (σ : L2.St) (rel : (Nat → Addr) → Nat → Hp → α → β → Prop) (Q : β → Hp → Prop) : R α → Prop
  | .ok a st' => ∀ ι' H' v, Ext X.K ι n H ι' st'.length H' → Sim X.K ι' st' H' → rel ι' st'.length H' a v → Q v H'
  | .exc x st' => ∀ ι' H' cls dx, Ext X.K ι n H ι' st'.length H' → Sim X.K ι' st' H' → RX X.K X.mg ι' st'.length H' x cls dx → W cls dx σ H'
  | .no => False
abbrev relD (K : PySem.W.Frag) : (Nat → Addr) → Nat → Hp → D → V → Prop := fun ι n H d v => RD K ι n H d v
abbrev relDs (K : PySem.W.Frag) : (Nat → Addr) → Nat → Hp → List D → List V → Prop := fun ι n H d v => RDs K ι n H d v
abbrev relB : (Nat → Addr) → Nat → Hp → Bool → Bool → Prop := fun _ _ _ a b => a = b
section
variable {α β γ δ : Type} {X : Cx} {W : WX} {ι ι' : Nat → Addr} {n n' : Nat} {H H' : Hp} {σ : L2.St} {rel : (Nat → Addr) → Nat → Hp → α → β → Prop} {rel' : (Nat → Addr) → Nat → Hp → γ → δ → Prop} {Q : β → Hp → Prop} {Q' : δ → Hp → Prop}
theorem RG.mono {r : R α} (e : Ext X.K ι n H ι' n' H') (h : RG X W ι n H σ rel Q r) : RG X W ι' n' H' σ rel Q r := by
  cases r with
  | ok a st => exact fun i2 h2 v e2 => h i2 h2 v (e.trans e2)
  | exc x st => exact fun i2 h2 c d e2 => h i2 h2 c d (e.trans e2)
  | no => exact h
/-- the first of two steps -/
theorem RG.step {r : R γ} {k : γ → Store → R α} (h : RG X W ι n H σ rel Q (r.bind k))
    (hk : ∀ a st' ι' H' v, r = .ok a st' → Ext X.K ι n H ι' st'.length H' → Sim X.K ι' st' H' → rel' ι' st'.length H' a v → RG X W ι' st'.length H' σ rel Q (k a st') → Q' v H') : RG X W ι n H σ rel' Q' r := by
  cases r with
  | ok a st => exact fun i2 h2 v e s q => hk a st i2 h2 v rfl e s q (RG.mono e h)
  | exc x st => exact h
  | no => exact h
theorem RG.conv {r : R α} {Q2 : β → Hp → Prop} (h : RG X W ι n H σ rel Q r) (hq : ∀ v H', Q v H' → Q2 v H') : RG X W ι n H σ rel Q2 r := by
  cases r with
  | ok a st => exact fun i2 h2 v e s q => hq _ _ (h i2 h2 v e s q)
  | exc x st => exact h
  | no => exact h
end
def R.of {α : Type} : Option (α × Store) → R α
  | some (a, s) => .ok a s
  | none => .no

/-! ### the judgements -/
def tev (X : Cx) (W : WX) (r : ME) : TE := fun σ H Q => ∃ ι st σD, Sim X.K ι st H ∧ FrR X.K ι st.length H σD σ ∧ RG X W ι st.length H σ (relD X.K) Q (r σD st)
def ttv (X : Cx) (W : WX) (r : MT) : TT := fun σ H Q => ∃ ι st σD, Sim X.K ι st H ∧ FrR X.K ι st.length H σD σ ∧ RG X W ι st.length H σ relB Q (r σD st)
def tav (X : Cx) (W : WX) (r : MA) : TA := fun σ H Q => ∃ ι st σD, Sim X.K ι st H ∧ FrR X.K ι st.length H σD σ ∧ RG X W ι st.length H σ (relDs X.K) Q (r σD st)
abbrev SE (X : Cx) (W : WX) (e : Expr) (r : ME) : Prop := PE X e (tev X W r)
abbrev ST (X : Cx) (W : WX) (e : Expr) (r : MT) : Prop := PT X e (ttv X W r)
abbrev SW (X : Cx) (W : WX) (e : Expr) (r : MT) : Prop := PW X e (ttv X W r)
abbrev SA (X : Cx) (W : WX) (es : List Expr) (r : MA) : Prop := PA X es (tav X W r)
theorem PE.of {X : Cx} {e : Expr} {t t' : TE} (h : PE X e t) (i : ∀ σ H Q, t' σ H Q → t σ H Q) : PE X e t' := ⟨fun pins s σ H Q I q => h.run pins s σ H Q I (i σ H Q q)⟩
theorem PT.of {X : Cx} {e : Expr} {t t' : TT} (h : PT X e t) (i : ∀ σ H Q, t' σ H Q → t σ H Q) : PT X e t' := ⟨fun pins s σ H Q I q => h.run pins s σ H Q I (i σ H Q q)⟩
theorem PW.of {X : Cx} {e : Expr} {t t' : TT} (h : PW X e t) (i : ∀ σ H Q, t' σ H Q → t σ H Q) : PW X e t' := ⟨fun wh pins s σ H Q I q => h.run wh pins s σ H Q I (i σ H Q q)⟩
theorem PA.of {X : Cx} {e : List Expr} {t t' : TA} (h : PA X e t) (i : ∀ σ H Q, t' σ H Q → t σ H Q) : PA X e t' := ⟨fun pos pins s σ H Q I q => h.run pos pins s σ H Q I (i σ H Q q)⟩

/-! ### leaves -/
def eVar (i : Nat) : ME := fun σ s => match σ[i]? with
  | some (some d) => .ok d s
  | _ => .no
def eC (d : D) : ME := fun _ s => .ok d s
section
variable {X : Cx} {W : WX} {pos : Pos}
theorem se_var (i : Nat) {x : Str} (hN : X.N[i]? = some x := by rfl) (hv : Vis X.env.scope x := by first | exact Or.inl rfl | exact Or.inr (Or.inl rfl) | exact Or.inr (Or.inr rfl))
    (hd : (x == ("__debug__" : Str)) = false := by decide) (hcd : (x == ("__classdict__" : Str)) = false := by decide) : SE X W (.Name x pos) (eVar i) := by
  refine PE.of (pe_var hN hv hd hcd) fun σ H Q h => ?_
  obtain ⟨ι, st, σD, S, hs, g⟩ := h
  unfold eVar at g
  split at g
  · rename_i d e
    obtain ⟨v, hv, r⟩ := hs.2 i d e
    exact ⟨v, hv, g ι H v Ext.refl S r⟩
  · exact g.elim
theorem se_c {e : Expr} {v : V} {d : D} (h : PE X e (tC v)) (r : ∀ ι n H, RD X.K ι n H d v) : SE X W e (eC d) := by
  refine PE.of h fun σ H Q h => ?_
  obtain ⟨ι, st, σD, S, hs, g⟩ := h
  exact g ι H v Ext.refl S (r _ _ _)
theorem se_int {i j} : SE X W (.Constant (.int i) j pos) (eC (.int i)) := se_c pe_int fun _ _ _ => .int _
theorem se_bl {b j} : SE X W (.Constant (.bool b) j pos) (eC (.bl b)) := se_c pe_bl fun _ _ _ => .bl _
theorem se_non {j} : SE X W (.Constant .none j pos) (eC .non) := se_c pe_non fun _ _ _ => .non
theorem se_str {x j} : SE X W (.Constant (.str x) j pos) (eC (.str x)) := se_c pe_str fun _ _ _ => .str _
end
/-- what a module's name stands for, as data -/
def GD (K : PySem.W.Frag) (mg : Str → Option Value) (x : Str) (d : D) : Prop := ∃ u v, mg x = some u ∧ (∀ w, u = w → RelV v w) ∧ ∀ ι n H, RD K ι n H d v
section
variable {X : Cx} {W : WX} {pos : Pos}
theorem se_glob {x : Str} {d : D} (g : GD X.K X.mg x d) (hg : Gl X x := by rfl) (hd : (x == ("__debug__" : Str)) = false := by decide) : SE X W (.Name x pos) (eC d) := by
  obtain ⟨u, v, h1, h2, h3⟩ := g
  exact se_c (pe_glob hg h1 (h2 _ rfl) hd) h3
theorem se_ty {x : Str} {n : String} (hm : X.mg x = none) (hv : bootBuiltins x = some (.type n)) (hg : Gl X x := by rfl) (hn : x ≠ "__name__" := by decide) (hd : (x == ("__debug__" : Str)) = false := by decide) : SE X W (.Name x pos) (eC (.ty n)) :=
  se_c (pe_bltn hg hm hv (v := .ty n) rfl hn hd) fun _ _ _ => .ty _
end

/-! ### operators by values -/
abbrev F2 := D → D → Store → Option (D × Store)
abbrev F1 := D → Store → Option (D × Store)
def eOp (f : F2) (a b : ME) : ME := fun σ s => (a σ s).bind fun x s1 => (b σ s1).bind fun y s2 => .of (f x y s2)
def eUn (f : F1) (a : ME) : ME := fun σ s => (a σ s).bind fun x s1 => .of (f x s1)
/-- what a value's operator must bear out -/
def V2 (X : Cx) (f : Value → Value → Sem Value) (m : F2) : Prop :=
  ∀ (ι : Nat → Addr) (st : Store) (H : Hp) (dx dy d : D) (st' : Store) (x y : V) (Q : VK), Sim X.K ι st H → RD X.K ι st.length H dx x → RD X.K ι st.length H dy y → m dx dy st = some (d, st') →
    (∀ ι' H' v, Ext X.K ι st.length H ι' st'.length H' → Sim X.K ι' st' H' → RD X.K ι' st'.length H' d v → Q v H') → ∃ r : R2, OpR X f r ∧ r x y H Q
def rV2 (X : Cx) (f : Value → Value → Sem Value) : R2 := fun x y H Q => ∃ r : R2, OpR X f r ∧ r x y H Q
theorem opr_rV2 {X : Cx} {f : Value → Value → Sem Value} : OpR X f (rV2 X f) := fun pins s σ H x y v u Q I rx ry ⟨r, h, q⟩ => h pins s σ H x y v u Q I rx ry q
theorem op_two {X : Cx} {W : WX} {f : Value → Value → Sem Value} {m : F2} (hm : V2 X f m) {ra rb : ME} {σ : L2.St} {H : Hp} {Q : VK} (h : tev X W (eOp m ra rb) σ H Q) : tOp (rV2 X f) (tev X W ra) (tev X W rb) σ H Q := by
  obtain ⟨ι, st, σD, S, hs, g⟩ := h
  refine ⟨ι, st, σD, S, hs, RG.step (rel' := relD X.K) g fun a st1 ι1 H1 v1 _ e1 S1 r1 g1 => ?_⟩
  refine ⟨ι1, st1, σD, S1, hs.ext e1, RG.step (rel' := relD X.K) g1 fun b st2 ι2 H2 v2 _ e2 S2 r2 g2 => ?_⟩
  cases q : m a b st2 with
  | none => rw [q] at g2; exact g2.elim
  | some p =>
    obtain ⟨d, st3⟩ := p
    rw [q] at g2
    exact hm ι2 st2 H2 a b d st3 v1 v2 Q S2 (r1.ext e2) r2 q fun ι' H' v => g2 ι' H' v
section
variable {X : Cx} {W : WX} {pos : Pos} {a b c : Expr} {ra rb rc : ME} {m : F2}
theorem se_op {op : Operator} (hm : V2 X (binaryOp op) m) (ha : SE X W a ra) (hb : SE X W b rb) : SE X W (.BinOp a op b pos) (eOp m ra rb) :=
  PE.of (pe_op opr_rV2 ha hb) fun _ _ _ h => op_two hm h
theorem se_cmp {op : CmpOp} (hm : V2 X (compareOp op) m) (ha : SE X W a ra) (hb : SE X W b rb) (hk : behindInMarks op b = false := by rfl) : SE X W (.Compare a [op] [b] pos) (eOp m ra rb) :=
  PE.of (pe_cmpR opr_rV2 ha hb hk) fun _ _ _ h => op_two hm h
end
/-- a value that is a truth -/
def asB : D → Option Bool
  | .bl b => some b
  | _ => none
def tB' (r : ME) : MT := fun σ s => (r σ s).bind fun d s1 => match d with
  | .bl b => .ok b s1
  | _ => .no
section
variable {X : Cx} {W : WX} {pos : Pos} {a b c : Expr} {ra rb rc : ME} {m m' : F2}
theorem tB_to {r : ME} {t : TE} {σ : L2.St} {H : Hp} {Q : Bool → Hp → Prop} (h : ttv X W (tB' r) σ H Q) : tTest (tev X W r) σ H Q := by
  obtain ⟨ι, st, σD, S, hs, g⟩ := h
  refine ⟨ι, st, σD, S, hs, RG.step (rel' := relD X.K) g fun d st1 ι1 H1 v1 _ e1 S1 r1 g1 => ?_⟩
  cases r1 with
  | bl b => exact ⟨b, rfl, g1 ι1 H1 b Ext.refl S1 rfl⟩
  | _ => exact (show False from g1).elim
theorem st_cmp {op : CmpOp} (hm : V2 X (compareOp op) m) (ha : SE X W a ra) (hb : SE X W b rb) (hk : behindInMarks op b = false := by rfl) : ST X W (.Compare a [op] [b] pos) (tB' (eOp m ra rb)) := by
  refine PT.of (pt_cmpR opr_rV2 ha hb hk) fun σ H Q h => ?_
  obtain ⟨ι, st, σD, S, hs, g⟩ := h
  refine op_two hm ⟨ι, st, σD, S, hs, RG.step (rel' := relD X.K) g fun d st1 ι1 H1 v1 _ e1 S1 r1 g1 => ?_⟩
  cases r1 with
  | bl b => exact ⟨b, rfl, g1 ι1 H1 b Ext.refl S1 rfl⟩
  | _ => exact (show False from g1).elim
/-- a < b < c -/
def eCh (m m' : F2) (ra rb rc : ME) : ME := fun σ s => (ra σ s).bind fun x s1 => (rb σ s1).bind fun y s2 => (R.of (m x y s2)).bind fun z s3 => match z with
  | .bl true => (rc σ s3).bind fun w s4 => .of (m' y w s4)
  | .bl false => .ok (.bl false) s3
  | _ => .no
theorem ch_to {op op' : CmpOp} (hm : V2 X (compareOp op) m) (hm' : V2 X (compareOp op') m') {σ : L2.St} {H : Hp} {Q : VK} (h : tev X W (eCh m m' ra rb rc) σ H Q) :
    tChain (rV2 X (compareOp op)) (rV2 X (compareOp op')) (tev X W ra) (tev X W rb) (tev X W rc) σ H Q := by
  obtain ⟨ι, st, σD, S, hs, g⟩ := h
  refine ⟨ι, st, σD, S, hs, RG.step (rel' := relD X.K) g fun a st1 ι1 H1 v1 _ e1 S1 r1 g1 => ?_⟩
  refine ⟨ι1, st1, σD, S1, hs.ext e1, RG.step (rel' := relD X.K) g1 fun b st2 ι2 H2 v2 _ e2 S2 r2 g2 => ?_⟩
  cases q : m a b st2 with
  | none => rw [q] at g2; exact g2.elim
  | some p =>
    obtain ⟨d, st3⟩ := p
    rw [q] at g2
    refine hm ι2 st2 H2 a b d st3 v1 v2 _ S2 (r1.ext e2) r2 q fun ι3 H3 v3 e3 S3 r3 => ?_
    have g3 := RG.mono e3 g2
    cases r3 with
    | bl k =>
      refine ⟨k, rfl, ?_⟩
      cases k with
      | false => exact (show Q (.bl false) H3 from g3 ι3 H3 _ Ext.refl S3 (.bl false))
      | true =>
        rw [if_pos rfl]
        refine ⟨ι3, st3, σD, S3, ((hs.ext e1).ext e2).ext e3, RG.step (rel' := relD X.K) g3 fun c st4 ι4 H4 v4 _ e4 S4 r4 g4 => ?_⟩
        cases q' : m' b c st4 with
        | none => rw [q'] at g4; exact g4.elim
        | some p' =>
          obtain ⟨d', st5⟩ := p'
          rw [q'] at g4
          exact hm' ι4 st4 H4 b c d' st5 v2 v4 Q S4 ((r2.ext e3).ext e4) r4 q' fun ι' H' v => g4 ι' H' v
    | _ => exact (show False from g3).elim
theorem se_chain {op op' : CmpOp} (hm : V2 X (compareOp op) m) (hm' : V2 X (compareOp op') m') (ha : SE X W a ra) (hb : SE X W b rb) (hc : SE X W c rc)
    (hk : lastMarks [op, op'] [b, c] = false := by rfl) : SE X W (.Compare a [op, op'] [b, c] pos) (eCh m m' ra rb rc) :=
  PE.of (pe_chain opr_rV2 opr_rV2 ha hb hc (hm := hk)) fun _ _ _ h => ch_to hm hm' h
theorem st_chain {op op' : CmpOp} (hm : V2 X (compareOp op) m) (hm' : V2 X (compareOp op') m') (ha : SE X W a ra) (hb : SE X W b rb) (hc : SE X W c rc)
    (hk : lastMarks [op, op'] [b, c] = false := by rfl) : ST X W (.Compare a [op, op'] [b, c] pos) (tB' (eCh m m' ra rb rc)) := by
  refine PT.of (pt_chain opr_rV2 opr_rV2 ha hb hc (hm := hk)) fun σ H Q h => ?_
  obtain ⟨ι, st, σD, S, hs, g⟩ := h
  refine ch_to hm hm' ⟨ι, st, σD, S, hs, RG.step (rel' := relD X.K) g fun d st1 ι1 H1 v1 _ e1 S1 r1 g1 => ?_⟩
  cases r1 with
  | bl b => exact ⟨b, rfl, g1 ι1 H1 b Ext.refl S1 rfl⟩
  | _ => exact (show False from g1).elim
end
end Mi
/-! M2: truth, and / or / not, displays, subscripts, calls of built-ins and of methods. -/
namespace Mi
open PySem PySem.Spec PyProof.Rows L2

theorem PE.any {X : Cx} {e : Expr} : PE X e (fun σ H Q => ∃ t, PE X e t ∧ t σ H Q) := ⟨fun pins s σ H Q I ⟨t, h, q⟩ => h.run pins s σ H Q I q⟩

/-! ### truth -/
def tru (s : Store) : D → Option Bool
  | .non => some false
  | .bl b => some b
  | .int i => some (i != 0)
  | .str x => if x.length ≤ 16777216 then some ((x.length : Int) != 0) else none
  | .tup xs => some (!xs.isEmpty)
  | .loc i => match s[i]? with
    | some (.lst xs) => some (!xs.isEmpty)
    | some (.dK kvs) => some (!kvs.isEmpty)
    | _ => none
  | .ty _ => none
  | .fn _ => none
  | .scr ns => some (!ns.isEmpty)
section
variable {K : PySem.W.Frag} {ι : Nat → Addr} {n : Nat} {H : Hp} {st : Store}
theorem RDs.isEmpty {xs : List D} {vs : List V} (r : RDs K ι n H xs vs) : xs.isEmpty = vs.isEmpty := by cases r <;> rfl
theorem kvR.isEmpty {κ : Type} {kvs : List (κ × D)} {kws : List (κ × V)} (h : kvR K ι n H kvs kws) : kvs.isEmpty = kws.isEmpty := by
  have e := congrArg List.length h.1
  simp only [List.length_map] at e
  cases kvs <;> cases kws <;> simp at e ⊢
theorem tru_rel {d : D} {v : V} {k : Bool} (S : Sim K ι st H) (r : RD K ι st.length H d v) (h : tru st d = some k) : TruV K v H k := by
  cases r with
  | non => exact (Option.some.inj h).symm
  | bl b => exact (Option.some.inj h).symm
  | int i => exact (Option.some.inj h).symm
  | str x =>
    simp only [tru] at h
    split at h
    · rename_i hx
      exact ⟨by rw [show sizeLine = 16777216 from sizeLine_eq]; exact hx, (Option.some.inj h).symm⟩
    · cases h
  | tup hs rs =>
    refine .inr (.inl ⟨_, hs, ?_⟩)
    rw [← rs.isEmpty]
    exact (Option.some.inj h).symm
  | loc i hi =>
    simp only [tru] at h
    split at h
    · rename_i xs e
      obtain ⟨vs, q, rs⟩ := S.lst e
      refine .inl ⟨_, SqL.of q, ?_⟩
      rw [← rs.isEmpty]
      exact (Option.some.inj h).symm
    · rename_i xs e
      obtain ⟨vs, q, rs⟩ := S.ok i _ e
      refine .inr (.inr ⟨_, q, ?_⟩)
      rw [← rs.isEmpty]
      exact (Option.some.inj h).symm
    · cases h
  | ty n => cases h
  | fn z => cases h
  | scr hz =>
    refine .inl ⟨_, hz.sq, ?_⟩
    rw [← (Option.some.inj h : _ = k)]
    simp
end
def tTru (r : ME) : MT := fun σ s => (r σ s).bind fun d s1 => match tru s1 d with
  | some k => .ok k s1
  | none => .no
def eAnd (a b : ME) : ME := fun σ s => (a σ s).bind fun d s1 => match tru s1 d with
  | some true => b σ s1
  | some false => .ok d s1
  | none => .no
def eOr (a b : ME) : ME := fun σ s => (a σ s).bind fun d s1 => match tru s1 d with
  | some true => .ok d s1
  | some false => b σ s1
  | none => .no
def eNot (a : ME) : ME := fun σ s => (a σ s).bind fun d s1 => match tru s1 d with
  | some k => .ok (.bl (!k)) s1
  | none => .no
def tAndM (a b : MT) : MT := fun σ s => (a σ s).bind fun k s1 => match k with
  | true => b σ s1
  | false => .ok false s1
def tOrM (a b : MT) : MT := fun σ s => (a σ s).bind fun k s1 => match k with
  | true => .ok true s1
  | false => b σ s1
def tNotM (a : MT) : MT := fun σ s => (a σ s).bind fun k s1 => .ok (!k) s1
def eIf (t : MT) (a b : ME) : ME := fun σ s => (t σ s).bind fun k s1 => match k with
  | true => a σ s1
  | false => b σ s1
section
variable {X : Cx} {W : WX} {pos : Pos} {a b c : Expr} {rest : List Expr} {ra rb rc : ME} {ta tb tc : MT}
theorem st_tru (ha : SE X W a ra) (he : ∀ whole, isTrue a X.env whole = (do let v ← whole; standAt a.pos; holding [v] (truthy v)) := by intro _; rfl) : ST X W a (tTru ra) := by
  refine PT.of (pt_truth ha he) fun σ H Q h => ?_
  obtain ⟨ι, st, σD, S, hs, g⟩ := h
  refine ⟨ι, st, σD, S, hs, RG.step (rel' := relD X.K) g fun d st1 ι1 H1 v1 _ e1 S1 r1 g1 => ?_⟩
  cases q : tru st1 d with
  | none => rw [q] at g1; exact (show False from g1).elim
  | some k => rw [q] at g1; exact ⟨k, tru_rel S1 r1 q, g1 ι1 H1 k Ext.refl S1 rfl⟩
theorem se_and1 {op} (ha : SE X W a ra) : SE X W (.BoolOp op [a] pos) ra := pe_one ha
theorem se_and (ha : SE X W a ra) (hb : SE X W (.BoolOp .And (b :: rest) pos) rb) : SE X W (.BoolOp .And (a :: b :: rest) pos) (eAnd ra rb) := by
  refine PE.of (pe_andT ha hb) fun σ H Q h => ?_
  obtain ⟨ι, st, σD, S, hs, g⟩ := h
  refine ⟨ι, st, σD, S, hs, RG.step (rel' := relD X.K) g fun d st1 ι1 H1 v1 _ e1 S1 r1 g1 => ?_⟩
  cases q : tru st1 d with
  | none => rw [q] at g1; exact (show False from g1).elim
  | some k =>
    rw [q] at g1
    refine ⟨k, tru_rel S1 r1 q, ?_⟩
    cases k with
    | true => exact ⟨ι1, st1, σD, S1, hs.ext e1, g1⟩
    | false => exact (show Q v1 H1 from g1 ι1 H1 v1 Ext.refl S1 r1)
theorem se_or (ha : SE X W a ra) (hb : SE X W (.BoolOp .Or (b :: rest) pos) rb) : SE X W (.BoolOp .Or (a :: b :: rest) pos) (eOr ra rb) := by
  refine PE.of (pe_orT ha hb) fun σ H Q h => ?_
  obtain ⟨ι, st, σD, S, hs, g⟩ := h
  refine ⟨ι, st, σD, S, hs, RG.step (rel' := relD X.K) g fun d st1 ι1 H1 v1 _ e1 S1 r1 g1 => ?_⟩
  cases q : tru st1 d with
  | none => rw [q] at g1; exact (show False from g1).elim
  | some k =>
    rw [q] at g1
    refine ⟨k, tru_rel S1 r1 q, ?_⟩
    cases k with
    | false => exact ⟨ι1, st1, σD, S1, hs.ext e1, g1⟩
    | true => exact (show Q v1 H1 from g1 ι1 H1 v1 Ext.refl S1 r1)
theorem se_not (ha : SE X W a ra) : SE X W (.UnaryOp .Not a pos) (eNot ra) := by
  refine PE.of (pe_notT ha) fun σ H Q h => ?_
  obtain ⟨ι, st, σD, S, hs, g⟩ := h
  refine ⟨ι, st, σD, S, hs, RG.step (rel' := relD X.K) g fun d st1 ι1 H1 v1 _ e1 S1 r1 g1 => ?_⟩
  cases q : tru st1 d with
  | none => rw [q] at g1; exact (show False from g1).elim
  | some k => rw [q] at g1; exact ⟨k, tru_rel S1 r1 q, g1 ι1 H1 _ Ext.refl S1 (.bl _)⟩
theorem st_pw {e : Expr} (h : SW X W e ta) : ST X W e ta := h.pt
theorem sw_and1 (ha : ST X W a ta) : SW X W (.BoolOp .And [a] pos) ta := pw_and1 ha
theorem sw_or1 (ha : ST X W a ta) : SW X W (.BoolOp .Or [a] pos) ta := pw_or1 ha
theorem sw_and (ha : ST X W a ta) (hb : SW X W (.BoolOp .And (b :: rest) pos) tb) : SW X W (.BoolOp .And (a :: b :: rest) pos) (tAndM ta tb) := by
  refine PW.of (pw_and ha hb) fun σ H Q h => ?_
  obtain ⟨ι, st, σD, S, hs, g⟩ := h
  refine ⟨ι, st, σD, S, hs, RG.step (rel' := relB) g fun k st1 ι1 H1 k1 _ e1 S1 r1 g1 => ?_⟩
  cases r1
  cases k with
  | true => exact ⟨ι1, st1, σD, S1, hs.ext e1, g1⟩
  | false => exact (show Q false H1 from g1 ι1 H1 _ Ext.refl S1 rfl)
theorem sw_or (ha : ST X W a ta) (hb : SW X W (.BoolOp .Or (b :: rest) pos) tb) : SW X W (.BoolOp .Or (a :: b :: rest) pos) (tOrM ta tb) := by
  refine PW.of (pw_or ha hb) fun σ H Q h => ?_
  obtain ⟨ι, st, σD, S, hs, g⟩ := h
  refine ⟨ι, st, σD, S, hs, RG.step (rel' := relB) g fun k st1 ι1 H1 k1 _ e1 S1 r1 g1 => ?_⟩
  cases r1
  cases k with
  | false => exact ⟨ι1, st1, σD, S1, hs.ext e1, g1⟩
  | true => exact (show Q true H1 from g1 ι1 H1 _ Ext.refl S1 rfl)
theorem st_not (ha : ST X W a ta) : ST X W (.UnaryOp .Not a pos) (tNotM ta) := by
  refine PT.of (pt_not ha) fun σ H Q h => ?_
  obtain ⟨ι, st, σD, S, hs, g⟩ := h
  refine ⟨ι, st, σD, S, hs, RG.step (rel' := relB) g fun k st1 ι1 H1 k1 _ e1 S1 r1 g1 => ?_⟩
  cases r1
  exact g1 ι1 H1 _ Ext.refl S1 rfl
theorem se_if (hc : ST X W c tc) (ha : SE X W a ra) (hb : SE X W b rb) : SE X W (.IfExp c a b pos) (eIf tc ra rb) := by
  refine PE.of (pe_ifExp hc ha hb) fun σ H Q h => ?_
  obtain ⟨ι, st, σD, S, hs, g⟩ := h
  refine ⟨ι, st, σD, S, hs, RG.step (rel' := relB) g fun k st1 ι1 H1 k1 _ e1 S1 r1 g1 => ?_⟩
  cases r1
  cases k with
  | true => exact (show tev X W ra σ H1 Q from ⟨ι1, st1, σD, S1, hs.ext e1, g1⟩)
  | false => exact (show tev X W rb σ H1 Q from ⟨ι1, st1, σD, S1, hs.ext e1, g1⟩)
end

/-! ### argument lists, displays -/
def aNil : MA := fun _ s => .ok [] s
def aCons (a : ME) (r : MA) : MA := fun σ s => (a σ s).bind fun d s1 => (r σ s1).bind fun ds s2 => .ok (d :: ds) s2
def eTup (r : MA) : ME := fun σ s => (r σ s).bind fun ds s1 => if ds.length ≤ 16777216 then .ok (.tup ds) s1 else .no
def eLst (r : MA) : ME := fun σ s => (r σ s).bind fun ds s1 => if ds.length ≤ 16777216 then .ok (.loc s1.length) (s1 ++ [.lst ds]) else .no
section
variable {X : Cx} {W : WX} {pos : Pos} {e : Expr} {es : List Expr} {ra : ME} {rs : MA}
theorem sa_nil : SA X W [] aNil := PA.of pa_nil fun σ H Q ⟨ι, st, σD, S, hs, g⟩ => g ι H [] Ext.refl S .nil
theorem sa_cons (ha : SE X W e ra) (hr : SA X W es rs) (hs : starEach (e :: es) X.env = (false, eval e X.env) :: starEach es X.env := by rfl) : SA X W (e :: es) (aCons ra rs) := by
  refine PA.of (pa_cons ha hr hs) fun σ H Q h => ?_
  obtain ⟨ι, st, σD, S, hs, g⟩ := h
  refine ⟨ι, st, σD, S, hs, RG.step (rel' := relD X.K) g fun d st1 ι1 H1 v1 _ e1 S1 r1 g1 => ?_⟩
  refine ⟨ι1, st1, σD, S1, hs.ext e1, RG.step (rel' := relDs X.K) g1 fun ds st2 ι2 H2 vs _ e2 S2 r2 g2 => ?_⟩
  exact g2 ι2 H2 _ Ext.refl S2 (.cons (r1.ext e2) r2)
theorem zline {n : Nat} (h : n ≤ 16777216) : n ≤ sizeLine := by rw [show sizeLine = 16777216 from sizeLine_eq]; exact h
theorem se_tup {x1} (h : SA X W es rs) : SE X W (.Tuple es x1 pos) (eTup rs) := by
  refine PE.of (pe_tup h) fun σ H Q h => ?_
  obtain ⟨ι, st, σD, S, hs, g⟩ := h
  refine ⟨ι, st, σD, S, hs, RG.step (rel' := relDs X.K) g fun ds st1 ι1 H1 vs _ e1 S1 r1 g1 => ?_⟩
  split at g1
  · rename_i hl
    refine ⟨by rw [← r1.length]; exact zline hl, fun p hp => ?_⟩
    obtain ⟨S2, e2, r2⟩ := S1.tup hp r1
    exact g1 ι1 _ _ e2 S2 r2
  · exact (show False from g1).elim
theorem se_lst (h : SA X W es rs) : SE X W (.List es pos) (eLst rs) := by
  refine PE.of (pe_lst h) fun σ H Q h => ?_
  obtain ⟨ι, st, σD, S, hs, g⟩ := h
  refine ⟨ι, st, σD, S, hs, RG.step (rel' := relDs X.K) g fun ds st1 ι1 H1 vs _ e1 S1 r1 g1 => ?_⟩
  split at g1
  · rename_i hl
    refine ⟨by rw [← r1.length]; exact zline hl, fun p hp => ?_⟩
    obtain ⟨ι2, S2, e2, r2⟩ := S1.newL hp r1
    exact g1 ι2 _ _ e2 S2 r2
  · exact (show False from g1).elim
end

/-! ### subscripts -/
def rIxV (X : Cx) : R2 := fun x y H Q => ∃ r : R2, IxR X r ∧ r x y H Q
theorem ix_rIxV {X : Cx} : IxR X (rIxV X) := fun a b pins s σ H x y v u Q I rx ry ⟨r, h, q⟩ hs => h a b pins s σ H x y v u Q I rx ry q hs
def ixD : F2
  | .tup xs, .int i, s => (atI xs i).map fun d => (d, s)
  | .str z, .int i, s => if z.length ≤ 16777216 then (atI z.cps.toList i).map fun c => (.str ⟨#[c]⟩, s) else none
  | .loc l, .int i, s => match lsOf s l with
    | some xs => (atI xs i).map fun d => (d, s)
    | none => none
  | .scr ns, .int i, s => (atI ns i).map fun k => (.int k, s)
  | _, _, _ => none
section
variable {X : Cx} {W : WX} {pos : Pos} {a b : Expr} {ra rb : ME}
theorem RDs.atI {K : PySem.W.Frag} {ι : Nat → Addr} {n : Nat} {H : Hp} {xs : List D} {vs : List V} {i : Int} {d : D} (r : RDs K ι n H xs vs) (h : L2.atI xs i = some d) : ∃ v, L2.atI vs i = some v ∧ RD K ι n H d v := by
  unfold L2.atI at h ⊢
  rw [← r.length]
  cases q : L2.ixN xs.length i with
  | none => rw [q] at h; cases h
  | some j =>
    rw [q] at h
    exact r.get h
theorem se_ix (ha : SE X W a ra) (hb : SE X W b rb) (hs : PlainIx b := by exact fun _ _ => rfl) : SE X W (.Subscript a b pos) (eOp ixD ra rb) := by
  refine PE.of (pe_ix ix_rIxV ha hb hs) fun σ H Q h => ?_
  obtain ⟨ι, st, σD, S, hs, g⟩ := h
  refine ⟨ι, st, σD, S, hs, RG.step (rel' := relD X.K) g fun x st1 ι1 H1 v1 _ e1 S1 r1 g1 => ?_⟩
  refine ⟨ι1, st1, σD, S1, hs.ext e1, RG.step (rel' := relD X.K) g1 fun y st2 ι2 H2 v2 _ e2 S2 r2 g2 => ?_⟩
  have r1 := r1.ext e2
  cases r2 with
  | int i =>
    cases r1 with
    | @tup xs aa vs hs rs =>
      cases q : atI xs i with
      | none => simp only [ixD, q] at g2; exact (show False from g2).elim
      | some d =>
        simp only [ixD, q] at g2
        obtain ⟨v, hv, r⟩ := rs.atI q
        exact ⟨_, ix_tup, _, _, _, _, rfl, rfl, hs, hv, g2 ι2 H2 v Ext.refl S2 r⟩
    | str z =>
      simp only [ixD] at g2
      split at g2
      · rename_i hl
        cases q : atI z.cps.toList i with
        | none => simp only [q] at g2; exact (show False from g2).elim
        | some c =>
          simp only [q] at g2
          exact ⟨_, ix_str, _, _, _, rfl, rfl, zline hl, q, g2 ι2 H2 _ Ext.refl S2 (.str _)⟩
      · exact (show False from g2).elim
    | loc l hl =>
      cases q0 : lsOf st2 l with
      | none => simp only [ixD, q0] at g2; exact (show False from g2).elim
      | some xs =>
        obtain ⟨_, vs, hs, rs⟩ := S2.ls q0
        cases q : atI xs i with
        | none => simp only [ixD, q0, q] at g2; exact (show False from g2).elim
        | some d =>
          simp only [ixD, q0, q] at g2
          obtain ⟨v, hv, r⟩ := rs.atI q
          exact ⟨_, ix_list, _, _, _, _, rfl, rfl, SqL.of hs, hv, g2 ι2 H2 v Ext.refl S2 r⟩
    | @scr ns aa hz =>
      cases q : atI ns i with
      | none => simp only [ixD, q] at g2; exact (show False from g2).elim
      | some k =>
        simp only [ixD, q] at g2
        have hv : atI (ns.map V.int) i = some (.int k) := by
          unfold L2.atI at q ⊢
          rw [List.length_map]
          cases q1 : L2.ixN ns.length i with
          | none => rw [q1] at q; cases q
          | some j =>
            rw [q1] at q
            show (ns.map V.int)[j]? = _
            rw [List.getElem?_map, (show ns[j]? = some k from q)]
            rfl
        exact ⟨_, ix_list, _, _, _, _, rfl, rfl, hz.sq, hv, g2 ι2 H2 _ Ext.refl S2 (.int _)⟩
    | _ => exact (show False from g2).elim
  | _ => cases r1 <;> exact (show False from g2).elim
/-- xs[lo:hi] -/
abbrev MP := SlD → Store → R (Option Int)
def pNo : MP := fun _ s => .ok none s
def pI (r : ME) : MP := fun σ s => (r σ s).bind fun d s1 => match d with
  | .int i => .ok (some i) s1
  | _ => .no
def cutL {α : Type} (xs : List α) (lo hi : Option Int) : List α := (xs.drop (HT.sIx xs.length 0 lo)).take (HT.sIx xs.length xs.length hi - HT.sIx xs.length 0 lo)
def slD (x : D) (lo hi : Option Int) (s : Store) : Option (D × Store) := match x with
  | .tup xs => some (.tup (cutL xs lo hi), s)
  | .str z => if z.length ≤ 16777216 then some (.str (Txt.slice z lo hi), s) else none
  | .loc l => match lsOf s l with
    | some xs => some (.loc s.length, s ++ [.lst (cutL xs lo hi)])
    | none => none
  | _ => none
def eSl (r : ME) (lo hi : MP) : ME := fun σ s => (r σ s).bind fun x s1 => (lo σ s1).bind fun l s2 => (hi σ s2).bind fun h s3 => .of (slD x l h s3)
def relP : (Nat → Addr) → Nat → Hp → Option Int → Option Int → Prop := fun _ _ _ a b => a = b
def tpv (X : Cx) (W : WX) (r : MP) : L2.St → Hp → (Option Int → Hp → Prop) → Prop := fun σ H Q => ∃ ι st σD, Sim X.K ι st H ∧ FrR X.K ι st.length H σD σ ∧ RG X W ι st.length H σ relP Q (r σD st)

theorem PO.of {e : Option Expr} {t t' : TO} (h : PO X e t) (i : ∀ σ H Q, t' σ H Q → t σ H Q) : PO X e t' := ⟨fun pins s σ H Q I q => h.run pins s σ H Q I (i σ H Q q)⟩
abbrev SP' (X : Cx) (W : WX) (e : Option Expr) (r : MP) : Prop := PO X e (tpv X W r)
theorem sp_no : SP' X W none pNo := PO.of po_none fun σ H Q ⟨ι, st, σD, S, hs, g⟩ => g ι H none Ext.refl S rfl
theorem sp_i {e : Expr} {r : ME} (h : SE X W e r) : SP' X W (some e) (pI r) := by
  refine PO.of (po_some h) fun σ H Q h => ?_
  obtain ⟨ι, st, σD, S, hs, g⟩ := h
  refine ⟨ι, st, σD, S, hs, RG.step (rel' := relD X.K) g fun x st1 ι1 H1 v1 _ e1 S1 r1 g1 => ?_⟩
  cases r1 with
  | int i => exact ⟨i, rfl, g1 ι1 H1 _ Ext.refl S1 rfl⟩
  | _ => exact (show False from g1).elim
theorem RDs.cut {K : PySem.W.Frag} {ι : Nat → Addr} {n : Nat} {H : Hp} {xs : List D} {vs : List V} (r : RDs K ι n H xs vs) (lo hi : Option Int) : RDs K ι n H (cutL xs lo hi) (cutV vs lo hi) := by
  unfold cutL cutV
  rw [r.length]
  exact (r.drop _).take _
def rSlV (X : Cx) : V → Option Int → Option Int → Hp → VK → Prop := fun x lo hi H Q => ∃ r, L2.SlR X r ∧ r x lo hi H Q
theorem sl_rSlV : L2.SlR X (rSlV X) := fun pins s σ H x v vl vu lo hi sl Q I rx hs pl pu ⟨r, h, q⟩ => h pins s σ H x v vl vu lo hi sl Q I rx hs pl pu q
theorem cut_whole {xs : List D} {lo hi : Option Int} (h : HT.sIx xs.length 0 lo = 0 ∧ HT.sIx xs.length xs.length hi = xs.length) : cutL xs lo hi = xs := by
  unfold cutL
  rw [h.1, h.2]
  simp
theorem se_sl {lo hi : Option Expr} {p2 : Pos} {rl rh : MP} (ha : SE X W a ra) (hl : SP' X W lo rl) (hh : SP' X W hi rh) : SE X W (.Subscript a (.Slice lo hi none p2) pos) (eSl ra rl rh) := by
  refine PE.of (pe_slice sl_rSlV ha hl hh) fun σ H Q h => ?_
  obtain ⟨ι, st, σD, S, hs, g⟩ := h
  refine ⟨ι, st, σD, S, hs, RG.step (rel' := relD X.K) g fun x st1 ι1 H1 v1 _ e1 S1 r1 g1 => ?_⟩
  refine ⟨ι1, st1, σD, S1, hs.ext e1, RG.step (rel' := relP) g1 fun l st2 ι2 H2 l' _ e2 S2 q2 g2 => ?_⟩
  refine ⟨ι2, st2, σD, S2, (hs.ext e1).ext e2, RG.step (rel' := relP) g2 fun h st3 ι3 H3 h' _ e3 S3 q3 g3 => ?_⟩
  cases q2
  cases q3
  have r1 := (r1.ext e2).ext e3
  cases r1 with
  | @tup xs aa vs hs rs =>
    refine ⟨_, sl_tupA, aa, vs, rfl, hs, fun hw => ?_, fun hw p hp => ?_⟩
    · rw [← rs.length] at hw
      have g3 : Q (.ref aa) H3 := g3 ι3 H3 _ Ext.refl S3 (by rw [cut_whole hw]; exact .tup hs rs)
      exact g3
    · obtain ⟨S4, e4, r4⟩ := S3.tup hp (rs.cut l h)
      exact g3 ι3 _ _ e4 S4 r4
  | str z =>
    simp only [slD] at g3
    split at g3
    · rename_i hz
      exact ⟨_, C8.sl_txt, z, rfl, zline hz, g3 ι3 H3 _ Ext.refl S3 (.str _)⟩
    · exact (show False from g3).elim
  | loc i hi =>
    cases q0 : lsOf st3 i with
    | none => simp only [slD, q0] at g3; exact (show False from g3).elim
    | some xs =>
      simp only [slD, q0] at g3
      obtain ⟨_, vs, hs, rs⟩ := S3.ls q0
      refine ⟨_, sl_list, _, vs, rfl, SqL.of hs, fun p hp => ?_⟩
      obtain ⟨ι4, S4, e4, r4⟩ := S3.newL hp (rs.cut l h)
      exact g3 ι4 _ _ e4 S4 r4
  | _ => exact (show False from g3).elim
end

/-! ### calls of built-ins -/
abbrev FL := List D → Store → Option (D × Store)
def VC (X : Cx) (f : Value) (m : FL) : Prop :=
  ∀ (ι : Nat → Addr) (st : Store) (H : Hp) (ds : List D) (d : D) (st' : Store) (vs : List V) (Q : VK), Sim X.K ι st H → RDs X.K ι st.length H ds vs → m ds st = some (d, st') →
    (∀ ι' H' v, Ext X.K ι st.length H ι' st'.length H' → Sim X.K ι' st' H' → RD X.K ι' st'.length H' d v → Q v H') → ∃ r, CallR X f r ∧ r vs H Q
def rVC (X : Cx) (f : Value) : List V → Hp → VK → Prop := fun vs H Q => ∃ r, CallR X f r ∧ r vs H Q
theorem cr_rVC {X : Cx} {f : Value} : CallR X f (rVC X f) := fun pins s σ H xs us Q I rx ⟨r, h, q⟩ => h pins s σ H xs us Q I rx q
def eCB (m : FL) (ra : MA) : ME := fun σ s => (ra σ s).bind fun ds s1 => .of (m ds s1)
section
variable {X : Cx} {W : WX} {pos p : Pos} {e o : Expr} {es : List Expr} {ra : MA} {ro : ME} {m : FL} {x : Str}
theorem cb_to {f : Value} (hm : VC X f m) {σ : L2.St} {H : Hp} {Q : VK} (h : tev X W (eCB m ra) σ H Q) : tCB (rVC X f) (tav X W ra) σ H Q := by
  obtain ⟨ι, st, σD, S, hs, g⟩ := h
  refine ⟨ι, st, σD, S, hs, RG.step (rel' := relDs X.K) g fun ds st1 ι1 H1 vs _ e1 S1 r1 g1 => ?_⟩
  cases q : m ds st1 with
  | none => rw [q] at g1; exact g1.elim
  | some p =>
    obtain ⟨d, st2⟩ := p
    rw [q] at g1
    exact hm ι1 st1 H1 ds d st2 vs Q S1 r1 q fun ι' H' v => g1 ι' H' v
theorem se_callB {id : String} (hc : VC X (.builtin id) m) (hm : X.mg x = none) (hv : bootBuiltins x = some (.builtin id)) (ha : SA X W (e :: es) ra) (hg : Gl X x := by rfl) (hn : x ≠ "__name__" := by decide) (hdb : (x == ("__debug__" : Str)) = false := by decide)
    (he : starEach (e :: es) X.env = (false, eval e X.env) :: starEach es X.env := by rfl) (hpl : (backTo pos (starEach es X.env)).any (·.1) = false := by rfl) : SE X W (.Call (.Name x p) (e :: es) [] pos) (eCB m ra) :=
  PE.of (pe_callB cr_rVC hg hm hv ha hn hdb he hpl) fun _ _ _ h => cb_to hc h
theorem se_callTy {T : String} (hc : VC X (.type T) m) (hm : X.mg x = none) (hv : bootBuiltins x = some (.type T)) (ha : SA X W (e :: es) ra) (hg : Gl X x := by rfl) (hn : x ≠ "__name__" := by decide) (hdb : (x == ("__debug__" : Str)) = false := by decide)
    (he : starEach (e :: es) X.env = (false, eval e X.env) :: starEach es X.env := by rfl) (hpl : (backTo pos (starEach es X.env)).any (·.1) = false := by rfl) : SE X W (.Call (.Name x p) (e :: es) [] pos) (eCB m ra) :=
  PE.of (pe_callTy cr_rVC hg hm hv ha hn hdb he hpl) fun _ _ _ h => cb_to hc h
end

/-! ### methods of built-in types -/
abbrev FM := D → List D → Store → Option (D × Store)
def isL (s : Store) : D → Bool
  | .loc i => (lsOf s i).isSome
  | .scr _ => true
  | _ => false
def isDc (s : Store) : D → Bool
  | .loc i => match s[i]? with
    | some (.dK _) => true
    | some (.dT _) => true
    | _ => false
  | _ => false
def isSt : D → Bool
  | .str _ => true
  | _ => false
/-- the receiver's type, by the mirror -/
def tyOk (T : String) (s : Store) (d : D) : Bool := if T = "list" then isL s d else if T = "str" then isSt d else if T = "dict" then isDc s d else false
def VM (X : Cx) (id : String) (m : FM) : Prop :=
  ∀ (ι : Nat → Addr) (st : Store) (H : Hp) (x : D) (ds : List D) (d : D) (st' : Store) (v : V) (vs : List V) (Q : VK), Sim X.K ι st H → RD X.K ι st.length H x v → RDs X.K ι st.length H ds vs → m x ds st = some (d, st') →
    (∀ ι' H' v, Ext X.K ι st.length H ι' st'.length H' → Sim X.K ι' st' H' → RD X.K ι' st'.length H' d v → Q v H') → ∃ r, MtR X id r ∧ r v vs H Q
def rVM (X : Cx) (id : String) : V → List V → Hp → VK → Prop := fun x vs H Q => ∃ r, MtR X id r ∧ r x vs H Q
theorem mt_rVM {X : Cx} {id : String} : MtR X id (rVM X id) := fun pins s σ H x xs v us Q I rx rxs ⟨r, h, q⟩ => h pins s σ H x xs v us Q I rx rxs q
def eBM (T : String) (m : FM) (ro : ME) (ra : MA) : ME := fun σ s => (ro σ s).bind fun x s1 => if tyOk T s1 x = true then (ra σ s1).bind fun ds s2 => .of (m x ds s2) else .no
theorem tyOk_rel {K : PySem.W.Frag} {ι : Nat → Addr} {st : Store} {H : Hp} {T : String} {x : D} {v : V} (S : Sim K ι st H) (r : RD K ι st.length H x v) (h : tyOk T st x = true) : tyV K T v H := by
  unfold tyOk at h
  split at h
  · rename_i hT
    subst hT
    cases r with
    | loc i hi =>
      simp only [isL] at h
      cases q : lsOf st i with
      | none => rw [q] at h; cases h
      | some xs =>
        obtain ⟨_, vs, hs, _⟩ := S.ls q
        exact .inl ⟨rfl, vs, SqL.of hs⟩
    | scr hz => exact .inl ⟨rfl, _, hz.sq⟩
    | _ => cases h
  · split at h
    · rename_i hT
      subst hT
      cases r with
      | str z => rfl
      | _ => cases h
    · split at h
      · rename_i hT
        subst hT
        cases r with
        | loc i hi =>
          simp only [isDc] at h
          split at h
          · rename_i kvs e
            obtain ⟨kws, q, _⟩ := S.ok i _ e
            exact .inr (.inr (.inl ⟨rfl, .inl ⟨_, q⟩⟩))
          · rename_i kvs e
            obtain ⟨kws, q, _⟩ := S.ok i _ e
            exact .inr (.inr (.inl ⟨rfl, .inr ⟨_, q⟩⟩))
          · cases h
        | _ => cases h
      · cases h
section
variable {X : Cx} {W : WX} {pos p cpos apos : Pos} {e o : Expr} {es : List Expr} {ra : MA} {ro : ME} {m : FM} {T id : String} {name : Str}
theorem se_bm (pa : PlainAttrs T) (slot : Slot T name id) (hty : typeOf (.builtin id) = pure (.type "method_descriptor")) (hm : VM X id m) (ho : SE X W o ro) (ha : SA X W (e :: es) ra)
    (hbase : attributeBase o name X.env (eval o X.env) = eval o X.env := by rfl)
    (hfew : ((backTo cpos (starEach (e :: es) X.env)).all (fun x => !x.1) && (backToKw cpos (keywordEach [] X.env)).all (fun x => x.1.isSome)
      && decide ((e :: es).length + ([] : List Keyword).length + (if ([] : List Keyword).isEmpty then 0 else 1) < 30)) = true := by rfl)
    (hline : (apos.endLine == cpos.line) = true := by rfl) (hs : starEach (e :: es) X.env = (false, eval e X.env) :: starEach es X.env := by rfl) (hplain : (backTo cpos (starEach es X.env)).any (·.1) = false := by rfl) :
    SE X W (.Call (.Attribute o name apos) (e :: es) [] cpos) (eBM T m ro ra) := by
  refine PE.of (pe_bm pa slot hty mt_rVM ho ha hbase hfew hline hs hplain) fun σ H Q h => ?_
  obtain ⟨ι, st, σD, S, hs, g⟩ := h
  refine ⟨ι, st, σD, S, hs, RG.step (rel' := relD X.K) g fun x st1 ι1 H1 v1 _ e1 S1 r1 g1 => ?_⟩
  split at g1
  · rename_i hT
    refine ⟨tyOk_rel S1 r1 hT, ι1, st1, σD, S1, hs.ext e1, RG.step (rel' := relDs X.K) g1 fun ds st2 ι2 H2 vs _ e2 S2 r2 g2 => ?_⟩
    cases q : m x ds st2 with
    | none => rw [q] at g2; exact g2.elim
    | some p =>
      obtain ⟨d, st3⟩ := p
      rw [q] at g2
      exact hm ι2 st2 H2 x ds d st3 v1 vs Q S2 (r1.ext e2) r2 q fun ι' H' v => g2 ι' H' v
  · exact (show False from g1).elim
theorem se_bm0 (pa : PlainAttrs T) (slot : Slot T name id) (hty : typeOf (.builtin id) = pure (.type "method_descriptor")) (hm : VM X id m) (ho : SE X W o ro)
    (hbase : attributeBase o name X.env (eval o X.env) = eval o X.env := by rfl) (hline : (apos.endLine == cpos.line) = true := by rfl) :
    SE X W (.Call (.Attribute o name apos) [] [] cpos) (eBM T m ro aNil) := by
  refine PE.of (pe_bm0 pa slot hty mt_rVM ho hbase hline) fun σ H Q h => ?_
  obtain ⟨ι, st, σD, S, hs, g⟩ := h
  refine ⟨ι, st, σD, S, hs, RG.step (rel' := relD X.K) g fun x st1 ι1 H1 v1 _ e1 S1 r1 g1 => ?_⟩
  split at g1
  · rename_i hT
    refine ⟨tyOk_rel S1 r1 hT, ?_⟩
    simp only [aNil, R.bind_ok] at g1
    cases q : m x [] st1 with
    | none => rw [q] at g1; exact g1.elim
    | some p =>
      obtain ⟨d, st3⟩ := p
      rw [q] at g1
      exact hm ι1 st1 H1 x [] d st3 v1 [] Q S1 r1 .nil q fun ι' H' v => g1 ι' H' v
  · exact (show False from g1).elim
end
end Mi
/-! M3: statements, targets, loops, comprehensions. -/
namespace Mi
open PySem PySem.Spec PyProof.Rows L2

inductive O where
  | nx (σ : SlD) (s : Store) | rt (d : D) (s : Store) | bk (σ : SlD) (s : Store) | ct (σ : SlD) (s : Store) | exc (x : Ex) (σ : SlD) (s : Store) | no
abbrev MS := SlD → Store → O
def OG (X : Cx) (W : WX) (ι : Nat → Addr) (n : Nat) (H : Hp) (E : Ends) : O → Prop
  | .nx σD st => ∀ ι' H' σ', Ext X.K ι n H ι' st.length H' → Sim X.K ι' st H' → FrR X.K ι' st.length H' σD σ' → E.nx σ' H'
  | .rt d st => ∀ ι' H' v, Ext X.K ι n H ι' st.length H' → Sim X.K ι' st H' → RD X.K ι' st.length H' d v → E.rt v H'
  | .bk σD st => ∀ ι' H' σ', Ext X.K ι n H ι' st.length H' → Sim X.K ι' st H' → FrR X.K ι' st.length H' σD σ' → E.bk σ' H'
  | .ct σD st => ∀ ι' H' σ', Ext X.K ι n H ι' st.length H' → Sim X.K ι' st H' → FrR X.K ι' st.length H' σD σ' → E.ct σ' H'
  | .exc x σD st => ∀ ι' H' σ' cls dx, Ext X.K ι n H ι' st.length H' → Sim X.K ι' st H' → FrR X.K ι' st.length H' σD σ' → RX X.K X.mg ι' st.length H' x cls dx → W cls dx σ' H'
  | .no => False
def tsv (X : Cx) (W : WX) (r : MS) : TS := fun E σ H => ∃ ι st σD, Sim X.K ι st H ∧ FrR X.K ι st.length H σD σ ∧ OG X W ι st.length H E (r σD st)
abbrev SS (X : Cx) (W : WX) (s : Stmt) (r : MS) : Prop := PS X s (tsv X W r)
abbrev SSs (X : Cx) (W : WX) (s : List Stmt) (r : MS) : Prop := PSs X s (tsv X W r)
theorem PS.of {X : Cx} {e : Stmt} {t t' : TS} (h : PS X e t) (i : ∀ E σ H, t' E σ H → t E σ H) : PS X e t' := ⟨fun pins s σ H E I q => h.run pins s σ H E I (i E σ H q)⟩
theorem PSs.of {X : Cx} {e : List Stmt} {t t' : TS} (h : PSs X e t) (i : ∀ E σ H, t' E σ H → t E σ H) : PSs X e t' := ⟨fun pins s σ H E I q => h.run pins s σ H E I (i E σ H q)⟩
section
variable {X : Cx} {W : WX} {ι ι' : Nat → Addr} {n n' : Nat} {H H' : Hp} {E : Ends}
theorem OG.mono {r : O} (e : Ext X.K ι n H ι' n' H') (h : OG X W ι n H E r) : OG X W ι' n' H' E r := by
  cases r with
  | nx σ st => exact fun i2 h2 v e2 => h i2 h2 v (e.trans e2)
  | rt d st => exact fun i2 h2 v e2 => h i2 h2 v (e.trans e2)
  | bk σ st => exact fun i2 h2 v e2 => h i2 h2 v (e.trans e2)
  | ct σ st => exact fun i2 h2 v e2 => h i2 h2 v (e.trans e2)
  | exc x σ st => exact fun i2 h2 v c d e2 => h i2 h2 v c d (e.trans e2)
  | no => exact h
end
/-- an expression's result, then a statement's -/
def R.thenO {α : Type} (r : R α) (σ : SlD) (k : α → Store → O) : O := match r with
  | .ok a s => k a s
  | .exc x s => .exc x σ s
  | .no => .no
@[simp] theorem R.thenO_ok {α : Type} (a : α) (s : Store) (σ : SlD) (f : α → Store → O) : (R.ok a s).thenO σ f = f a s := rfl
@[simp] theorem R.thenO_exc {α : Type} (x : Ex) (s : Store) (σ : SlD) (f : α → Store → O) : (R.exc x s : R α).thenO σ f = .exc x σ s := rfl
@[simp] theorem R.thenO_no {α : Type} (σ : SlD) (f : α → Store → O) : (R.no : R α).thenO σ f = .no := rfl
section
variable {α β : Type} {X : Cx} {W : WX} {ι : Nat → Addr} {n : Nat} {H : Hp} {σ : L2.St} {σD : SlD} {rel : (Nat → Addr) → Nat → Hp → α → β → Prop} {Q : β → Hp → Prop} {E : Ends}
theorem RG.stepO {r : R α} {k : α → Store → O} (fr : FrR X.K ι n H σD σ) (h : OG X W ι n H E (r.thenO σD k))
    (hk : ∀ a st' ι' H' v, r = .ok a st' → Ext X.K ι n H ι' st'.length H' → Sim X.K ι' st' H' → rel ι' st'.length H' a v → OG X W ι' st'.length H' E (k a st') → Q v H') : RG X W ι n H σ rel Q r := by
  cases r with
  | ok a st => exact fun i2 h2 v e s q => hk a st i2 h2 v rfl e s q (OG.mono e h)
  | exc x st => exact fun i2 h2 c d e s q => h i2 h2 σ c d e s (fr.ext e) q
  | no => exact h
end

/-! ### blocks, small statements -/
def sNil : MS := fun σ s => .nx σ s
def sSeq (a b : MS) : MS := fun σ s => match a σ s with
  | .nx σ1 s1 => b σ1 s1
  | o => o
def sExpr (e : ME) : MS := fun σ s => (e σ s).thenO σ fun _ s1 => .nx σ s1
def sRet (e : ME) : MS := fun σ s => (e σ s).thenO σ fun d s1 => .rt d s1
def sRetN : MS := fun _ s => .rt .non s
def sBrk : MS := fun σ s => .bk σ s
def sCnt : MS := fun σ s => .ct σ s
def sIf (t : MT) (a b : MS) : MS := fun σ s => (t σ s).thenO σ fun k s1 => match k with
  | true => a σ s1
  | false => b σ s1
section
variable {X : Cx} {W : WX} {pos : Pos} {e c : Expr} {st : Stmt} {sa sb rest : List Stmt} {re : ME} {tc : MT} {ra rb : MS}
theorem sss_nil : SSs X W [] sNil := PSs.of pss_nil fun E σ H ⟨ι, st, σD, S, hs, g⟩ => g ι H σ Ext.refl S hs
theorem seq_to {σ : L2.St} {H : Hp} {E : Ends} (h : tsv X W (sSeq ra rb) E σ H) : tSeq (tsv X W ra) (tsv X W rb) E σ H := by
  obtain ⟨ι, st, σD, S, hs, g⟩ := h
  refine ⟨ι, st, σD, S, hs, ?_⟩
  unfold sSeq at g
  cases q : ra σD st with
  | nx σ1 s1 =>
    rw [q] at g
    exact fun ι' H' σ' e s f => ⟨ι', s1, σ1, s, f, OG.mono e g⟩
  | rt d s1 => rw [q] at g; exact g
  | bk σ1 s1 => rw [q] at g; exact g
  | ct σ1 s1 => rw [q] at g; exact g
  | exc x σ1 s1 => rw [q] at g; exact g
  | no => rw [q] at g; exact g
theorem sss_cons (h1 : SS X W st ra) (h2 : SSs X W rest rb) : SSs X W (st :: rest) (sSeq ra rb) := PSs.of (pss_cons h1 h2) fun _ _ _ h => seq_to h
theorem sss_one (h1 : SS X W st ra) : SSs X W [st] ra := pss_one h1
theorem ss_pass : SS X W (.Pass pos) sNil := PS.of ps_pass fun E σ H ⟨ι, st, σD, S, hs, g⟩ => g ι H σ Ext.refl S hs
theorem ss_brk : SS X W (.Break pos) sBrk := PS.of ps_break fun E σ H ⟨ι, st, σD, S, hs, g⟩ => g ι H σ Ext.refl S hs
theorem ss_cnt : SS X W (.Continue pos) sCnt := PS.of ps_continue fun E σ H ⟨ι, st, σD, S, hs, g⟩ => g ι H σ Ext.refl S hs
theorem ss_doc {x j pos'} : SS X W (.Expr (.Constant (.str x) j pos) pos') sNil := PS.of ps_doc fun E σ H ⟨ι, st, σD, S, hs, g⟩ => g ι H σ Ext.refl S hs
theorem ss_expr (he : SE X W e re) (hs : swapsWith e none pos.line X.env = pure false := by rfl) : SS X W (.Expr e pos) (sExpr re) := by
  refine PS.of (ps_expr he hs) fun E σ H h => ?_
  obtain ⟨ι, st, σD, S, hs, g⟩ := h
  exact ⟨ι, st, σD, S, hs, RG.stepO (rel := relD X.K) hs g fun d st1 ι1 H1 v1 _ e1 S1 r1 g1 => g1 ι1 H1 σ Ext.refl S1 (hs.ext e1)⟩
theorem ss_ret (he : SE X W e re) : SS X W (.Return (some e) pos) (sRet re) := by
  refine PS.of (ps_ret he) fun E σ H h => ?_
  obtain ⟨ι, st, σD, S, hs, g⟩ := h
  exact ⟨ι, st, σD, S, hs, RG.stepO (rel := relD X.K) hs g fun d st1 ι1 H1 v1 _ e1 S1 r1 g1 => g1 ι1 H1 v1 Ext.refl S1 r1⟩
theorem ss_retN : SS X W (.Return none pos) sRetN := PS.of ps_retN fun E σ H ⟨ι, st, σD, S, hs, g⟩ => g ι H .non Ext.refl S .non
theorem ss_if (hc : ST X W c tc) (ha : SSs X W sa ra) (hb : SSs X W sb rb) : SS X W (.If c sa sb pos) (sIf tc ra rb) := by
  refine PS.of (ps_if hc ha hb) fun E σ H h => ?_
  obtain ⟨ι, st, σD, S, hs, g⟩ := h
  refine ⟨ι, st, σD, S, hs, RG.stepO (rel := relB) hs g fun k st1 ι1 H1 k1 _ e1 S1 r1 g1 => ?_⟩
  cases r1
  cases k with
  | true => exact (show tsv X W ra E σ H1 from ⟨ι1, st1, σD, S1, hs.ext e1, g1⟩)
  | false => exact (show tsv X W rb E σ H1 from ⟨ι1, st1, σD, S1, hs.ext e1, g1⟩)
end

/-! ### targets -/
abbrev MG := D → SlD → Store → Option (List (Nat × D) × Store)
def setD (σ : SlD) : List (Nat × D) → SlD
  | [] => σ
  | p :: r => setD (σ.set p.1 (some p.2)) r
def setV (σ : L2.St) : List (Nat × V) → L2.St
  | [] => σ
  | p :: r => setV (σ.set p.1 (some p.2)) r
theorem setD_append (σ : SlD) (a b : List (Nat × D)) : setD σ (a ++ b) = setD (setD σ a) b := by
  induction a generalizing σ with
  | nil => rfl
  | cons p r ih => exact ih _
theorem setV_append (σ : L2.St) (a b : List (Nat × V)) : setV σ (a ++ b) = setV (setV σ a) b := by
  induction a generalizing σ with
  | nil => rfl
  | cons p r ih => exact ih _
/-- the same places, related values -/
inductive PR (K : PySem.W.Frag) (ι : Nat → Addr) (n : Nat) (H : Hp) : List (Nat × D) → List (Nat × V) → Prop
  | nil : PR K ι n H [] []
  | cons {i : Nat} {d : D} {v : V} {as : List (Nat × D)} {vs : List (Nat × V)} : RD K ι n H d v → PR K ι n H as vs → PR K ι n H ((i, d) :: as) ((i, v) :: vs)
section
variable {K : PySem.W.Frag} {ι ι' : Nat → Addr} {n n' : Nat} {H H' : Hp}
theorem PR.ext (e : Ext K ι n H ι' n' H') : ∀ {as : List (Nat × D)} {vs : List (Nat × V)}, PR K ι n H as vs → PR K ι' n' H' as vs
  | _, _, .nil => .nil
  | _, _, .cons r t => .cons (r.ext e) (PR.ext e t)
theorem PR.append : ∀ {as bs : List (Nat × D)} {vs ws : List (Nat × V)}, PR K ι n H as vs → PR K ι n H bs ws → PR K ι n H (as ++ bs) (vs ++ ws)
  | _, _, _, _, .nil, s => s
  | _, _, _, _, .cons r t, s => .cons r (PR.append t s)
theorem FrR.sets {as : List (Nat × D)} {vs : List (Nat × V)} (p : PR K ι n H as vs) : ∀ {σD : SlD} {σ : L2.St}, FrR K ι n H σD σ → FrR K ι n H (setD σD as) (setV σ vs) := by
  induction p with
  | nil => exact fun h => h
  | cons r _ ih => exact fun h => ih (h.set _ r)
theorem PR.mem {as : List (Nat × D)} {vs : List (Nat × V)} (p : PR K ι n H as vs) : ∀ q ∈ vs, ∃ d, (q.1, d) ∈ as := by
  induction p with
  | nil => intro q h; cases h
  | cons r _ ih =>
    intro q h
    rcases List.mem_cons.mp h with h | h
    · cases h; exact ⟨_, List.mem_cons_self⟩
    · obtain ⟨d, hd⟩ := ih q h
      exact ⟨d, List.mem_cons_of_mem _ hd⟩
end
def tgv (X : Cx) (W : WX) (g : MG) : TG := fun v σ H Q => ∃ ι st σD d as st', Sim X.K ι st H ∧ FrR X.K ι st.length H σD σ ∧ RD X.K ι st.length H d v ∧ g d σD st = some (as, st') ∧
  ∀ ι' H' vs, Ext X.K ι st.length H ι' st'.length H' → Sim X.K ι' st' H' → PR X.K ι' st'.length H' as vs → Q (setV σ vs) H'
abbrev SG (X : Cx) (W : WX) (tg : Expr) (g : MG) : Prop := PG X tg (tgv X W g)
theorem PG.of {X : Cx} {e : Expr} {t t' : TG} (h : PG X e t) (i : ∀ v σ H Q, t' v σ H Q → t v σ H Q) : PG X e t' := ⟨fun pins s σ H v u Q I r q => h.run pins s σ H v u Q I r (i v σ H Q q)⟩
def gNm (i : Nat) : MG := fun d _ s => some ([(i, d)], s)
/-- targets of a tuple, one behind another -/
abbrev MGs := List D → SlD → Store → Option (List (Nat × D) × Store)
def gsNil : MGs := fun ds _ s => match ds with
  | [] => some ([], s)
  | _ => none
def gsCons (g : MG) (r : MGs) : MGs := fun ds σ s => match ds with
  | [] => none
  | d :: ds => match g d σ s with
    | none => none
    | some (as, s1) => match r ds (setD σ as) s1 with
      | none => none
      | some (bs, s2) => some (as ++ bs, s2)
def gTp (r : MGs) : MG := fun d σ s => match d with
  | .tup xs => r xs σ s
  | _ => none
def tgsv (X : Cx) (W : WX) (g : MGs) : TGs := fun vs σ H Q => ∃ ι st σD ds as st', Sim X.K ι st H ∧ FrR X.K ι st.length H σD σ ∧ RDs X.K ι st.length H ds vs ∧ g ds σD st = some (as, st') ∧
  ∀ ι' H' ws, Ext X.K ι st.length H ι' st'.length H' → Sim X.K ι' st' H' → PR X.K ι' st'.length H' as ws → Q (setV σ ws) H'
abbrev SGs (X : Cx) (W : WX) (tg : List Expr) (g : MGs) : Prop := PGs X tg (tgsv X W g)
theorem PGs.of {X : Cx} {e : List Expr} {t t' : TGs} (h : PGs X e t) (i : ∀ v σ H Q, t' v σ H Q → t v σ H Q) : PGs X e t' := ⟨fun pins s σ H v u Q I r q => h.run pins s σ H v u Q I r (i v σ H Q q)⟩
/-- how many targets: a tuple of another length is refused by the mirror -/
def gLen (n : Nat) (r : MGs) : MGs := fun ds σ s => if ds.length = n then r ds σ s else none
section
variable {X : Cx} {W : WX} {pos : Pos} {e : Expr} {es : List Expr} {g : MG} {gs : MGs}
theorem sg_nm (i : Nat) {x : Str} (hN : X.N.Nodup) (hi : X.N[i]? = some x := by rfl) (hx : Loc X.env.scope x := by first | exact Or.inl rfl | exact Or.inr rfl) (hf : X.fn x = true ∨ X.env.scope.names.lookup x = some .local := by first | exact .inl rfl | exact .inr rfl) : SG X W (.Name x pos) (gNm i) := by
  refine PG.of (pg_name hN hi hx hf) fun v σ H Q h => ?_
  obtain ⟨ι, st, σD, d, as, st', S, hs, r, q, k⟩ := h
  cases q
  exact k ι H [(i, v)] Ext.refl S (.cons r .nil)
theorem sgs_nil : SGs X W [] gsNil := by
  refine PGs.of pgs_nil fun vs σ H Q h => ?_
  obtain ⟨ι, st, σD, ds, as, st', S, hs, r, q, k⟩ := h
  cases r with
  | nil => cases q; exact ⟨rfl, k ι H [] Ext.refl S .nil⟩
  | cons _ _ => cases q
theorem sgs_cons (h1 : SG X W e g) (h2 : SGs X W es gs) (hs : (assignEach (e :: es) X.env).map (·.2) = assign e X.env :: (assignEach es X.env).map (·.2) := by rfl) : SGs X W (e :: es) (gsCons g gs) := by
  refine PGs.of (pgs_cons h1 h2 hs) fun vs σ H Q h => ?_
  obtain ⟨ι, st, σD, ds, as, st', S, hs, r, q, k⟩ := h
  cases r with
  | nil => cases q
  | @cons d v ds vs r rr =>
    simp only [gsCons] at q
    cases q1 : g d σD st with
    | none => rw [q1] at q; cases q
    | some p =>
      obtain ⟨as1, s1⟩ := p
      rw [q1] at q
      simp only at q
      cases q2 : gs ds (setD σD as1) s1 with
      | none => rw [q2] at q; cases q
      | some p2 =>
        obtain ⟨bs, s2⟩ := p2
        rw [q2] at q
        cases q
        refine ⟨v, vs, rfl, ι, st, σD, d, as1, s1, S, hs, r, q1, fun ι1 H1 vs1 e1 S1 p1 => ?_⟩
        refine ⟨ι1, s1, setD σD as1, ds, bs, _, S1, (hs.ext e1).sets p1, rr.ext e1, q2, fun ι2 H2 vs2 e2 S2 p2 => ?_⟩
        rw [← setV_append]
        exact k ι2 H2 _ (e1.trans e2) S2 ((p1.ext e2).append p2)
theorem sg_tup {k : Nat} (hc : X.calm = true) (h : SGs X W es gs) (n : Nat) (hn : (assignEach es X.env).length = n := by rfl) (hst : (assignEach es X.env).findIdx? (·.1) = none := by rfl) : SG X W (.Tuple es k pos) (gTp (gLen n gs)) := by
  refine PG.of (pg_tup hc h hn hst) fun v σ H Q h => ?_
  obtain ⟨ι, st, σD, d, as, st', S, hs, r, q, k⟩ := h
  cases r with
  | @tup xs a vs ha rs =>
    simp only [gTp, gLen] at q
    split at q
    · rename_i hl
      exact ⟨a, vs, rfl, ha, rs.length.symm.trans hl, ι, st, σD, xs, as, st', S, hs, rs, q, k⟩
    · cases q
  | _ => cases q
end
/-- o[i] = v, by values -/
abbrev F3 := D → D → D → Store → Option Store
def V3 (X : Cx) (m : F3) : Prop := ∀ (ι : Nat → Addr) (st : Store) (H : Hp) (dx dy dz : D) (st' : Store) (x y z : V) (Q : Hp → Prop), Sim X.K ι st H → RD X.K ι st.length H dx x → RD X.K ι st.length H dy y → RD X.K ι st.length H dz z →
  m dx dy dz st = some st' → (∀ ι' H', Ext X.K ι st.length H ι' st'.length H' → Sim X.K ι' st' H' → Q H') → ∃ t : TSet, PSet X t ∧ t x y z H Q
def rV3 (X : Cx) : TSet := fun x y z H Q => ∃ t : TSet, PSet X t ∧ t x y z H Q
theorem ps_rV3 {X : Cx} : PSet X (rV3 X) := fun pins s σ H o i v ov iv u Q I r1 r2 r3 ⟨t, h, q⟩ => h pins s σ H o i v ov iv u Q I r1 r2 r3 q
def gSb (m : F3) (ro ri : ME) : MG := fun d σ s => match ro σ s with
  | .ok o s1 => match ri σ s1 with
    | .ok i s2 => (m o i d s2).map fun s3 => ([], s3)
    | _ => none
  | _ => none
section
variable {X : Cx} {W : WX} {pos : Pos} {o i e : Expr} {ro ri re : ME} {m : F3} {g : MG} {tg : Expr}
theorem sg_sub (hm : V3 X m) (ho : SE X W o ro) (hi : SE X W i ri)
    (ha : ∀ v, assign (.Subscript o i pos) X.env v = (do
      let ov ← holding [v] (eval o X.env)
      let iv ← holding [v, ov] (eval i X.env)
      standAt pos
      holding [v, ov, iv] (setItem ov iv v)
      release [v, ov, iv] []) := by intro _; rfl) : SG X W (.Subscript o i pos) (gSb m ro ri) := by
  refine PG.of (pg_sub ho hi ps_rV3 ha) fun v σ H Q h => ?_
  obtain ⟨ι, st, σD, d, as, st', S, hs, r, q, k⟩ := h
  simp only [gSb] at q
  refine ⟨ι, st, σD, S, hs, ?_⟩
  cases q1 : ro σD st with
  | ok od s1 =>
    rw [q1] at q
    simp only at q
    refine fun ι1 H1 v1 e1 S1 r1 => ⟨ι1, s1, σD, S1, hs.ext e1, ?_⟩
    cases q2 : ri σD s1 with
    | ok id s2 =>
      rw [q2] at q
      simp only at q
      refine fun ι2 H2 v2 e2 S2 r2 => ?_
      cases q3 : m od id d s2 with
      | none => rw [q3] at q; cases q
      | some s3 =>
        rw [q3] at q
        cases q
        exact hm ι2 s2 H2 od id d _ v1 v2 v _ S2 (r1.ext e2) r2 ((r.ext e1).ext e2) q3 fun ι3 H3 e3 S3 => k ι3 H3 [] ((e1.trans e2).trans e3) S3 .nil
    | exc x s2 => rw [q2] at q; cases q
    | no => rw [q2] at q; cases q
  | exc x s1 => rw [q1] at q; cases q
  | no => rw [q1] at q; cases q
def sAsg (e : ME) (g : MG) : MS := fun σ s => (e σ s).thenO σ fun d s1 => match g d σ s1 with
  | some (as, s2) => .nx (setD σ as) s2
  | none => .no
theorem asg_to {σ : L2.St} {H : Hp} {E : Ends} (h : tsv X W (sAsg re g) E σ H) : tAsg (tev X W re) (tgv X W g) E σ H := by
  obtain ⟨ι, st, σD, S, hs, k⟩ := h
  refine ⟨ι, st, σD, S, hs, RG.stepO (rel := relD X.K) hs k fun d st1 ι1 H1 v1 _ e1 S1 r1 g1 => ?_⟩
  cases q : g d σD st1 with
  | none => rw [q] at g1; exact g1.elim
  | some p =>
    obtain ⟨as, s2⟩ := p
    rw [q] at g1
    exact ⟨ι1, st1, σD, d, as, s2, S1, hs.ext e1, r1, q, fun ι2 H2 vs e2 S2 pr => g1 ι2 H2 _ e2 S2 (((hs.ext e1).ext e2).sets pr)⟩
theorem ss_asg (he : SE X W e re) (hg : SG X W tg g) (hs : swapsWithSole [tg] e pos.line X.env = pure false := by rfl) (hw : swappedStores [tg] e X.env = pure none := by rfl)
    (h1 : (assignEach [tg] X.env).map (·.2) = [assign tg X.env] := by rfl) : SS X W (.Assign [tg] e pos) (sAsg re g) := PS.of (ps_asg he hg hs hw h1) fun _ _ _ h => asg_to h
theorem ss_set (i : Nat) {x : Str} {pos' : Pos} (hN : X.N.Nodup) (he : SE X W e re) (hi : X.N[i]? = some x := by rfl) (hx : Loc X.env.scope x := by first | exact Or.inl rfl | exact Or.inr rfl) (hs : swapsWith e (some (.Name x pos')) pos.line X.env = pure false := by rfl)
    (hf : X.fn x = true ∨ X.env.scope.names.lookup x = some .local := by first | exact .inl rfl | exact .inr rfl) : SS X W (.Assign [.Name x pos'] e pos) (sAsg re (gNm i)) := by
  refine PS.of (ps_set hN hi hx he hs hf) fun E σ H h => ?_
  have h2 := asg_to h
  obtain ⟨ι, st, σD, S, hs, k⟩ := h2
  refine ⟨ι, st, σD, S, hs, k.conv fun v H' q => ?_⟩
  obtain ⟨ι, st, σD, d, as, st', S, hs, r, q, k⟩ := q
  cases q
  exact k ι H' [(i, v)] Ext.refl S (.cons r .nil)
end
/-- x op= e, x a name -/
def V2I (X : Cx) (op : Operator) (m : F2) : Prop := V2 X (inplaceOp op) m
def rIpV (X : Cx) (op : Operator) : TIp := fun x y H Q => ∃ r : R2, OpR X (inplaceOp op) r ∧ r x y H Q
theorem pip_rIpV {X : Cx} {op : Operator} : PIp X op (rIpV X op) := fun pins s σ H x y v u Q I rx ry ⟨r, h, q⟩ => h pins s σ H x y v u Q I rx ry q
def sAug (i : Nat) (m : F2) (e : ME) : MS := fun σ s => match σ[i]? with
  | some (some x) => (e σ s).thenO σ fun y s1 => match m x y s1 with
    | some (z, s2) => .nx (σ.set i (some z)) s2
    | none => .no
  | _ => .no
section
variable {X : Cx} {W : WX} {pos : Pos} {e : Expr} {re : ME} {m : F2}
theorem ss_aug (i : Nat) {x : Str} {op : Operator} {pos' : Pos} (hN : X.N.Nodup) (hm : V2 X (inplaceOp op) m) (he : SE X W e re) (hi : X.N[i]? = some x := by rfl) (hx : Loc X.env.scope x := by first | exact Or.inl rfl | exact Or.inr rfl)
    (hf : X.fn x = true ∨ X.env.scope.names.lookup x = some .local := by first | exact .inl rfl | exact .inr rfl) : SS X W (.AugAssign (.Name x pos') op e pos) (sAug i m re) := by
  refine PS.of (ps_aug hN hi hx he pip_rIpV hf) fun E σ H h => ?_
  obtain ⟨ι, st, σD, S, hs, g⟩ := h
  unfold sAug at g
  split at g
  · rename_i d e0
    obtain ⟨v, hv, rd⟩ := hs.2 i d e0
    refine ⟨v, hv, ι, st, σD, S, hs, RG.stepO (rel := relD X.K) hs g fun y st1 ι1 H1 v1 _ e1 S1 r1 g1 => ?_⟩
    cases q : m d y st1 with
    | none => rw [q] at g1; exact g1.elim
    | some p =>
      obtain ⟨z, s2⟩ := p
      rw [q] at g1
      exact hm ι1 st1 H1 d y z s2 v v1 _ S1 (rd.ext e1) r1 q fun ι2 H2 v2 e2 S2 r2 => g1 ι2 H2 _ e2 S2 (((hs.ext e1).ext e2).set i r2)
  · exact g.elim
end

/-! ### while -/
def whL (t : MT) (b : MS) : Nat → MS
  | 0 => fun _ _ => .no
  | k + 1 => fun σ s => (t σ s).thenO σ fun c s1 => match c with
    | false => .nx σ s1
    | true => match b σ s1 with
      | .nx σ2 s2 => whL t b k σ2 s2
      | .ct σ2 s2 => whL t b k σ2 s2
      | .bk σ2 s2 => .nx σ2 s2
      | o => o
section
variable {X : Cx} {W : WX} {pos : Pos} {c : Expr} {body : List Stmt} {t : MT} {b : MS}
theorem ss_while (fuel : Nat) (hp : PassesOwn (model X.prog X.w) X.A X.env X.xe) (hc : ST X W c t) (hb : SSs X W body b) : SS X W (.While c body [] pos) (whL t b fuel) := by
  refine PS.of (ps_while hp hc hb) fun E σ H h => ?_
  obtain ⟨ι, st, σD, S, hs, g⟩ := h
  refine ⟨fun m σ H => ∃ ι st σD, Sim X.K ι st H ∧ FrR X.K ι st.length H σD σ ∧ OG X W ι st.length H E (whL t b m σD st), ⟨fuel, ι, st, σD, S, hs, g⟩, ?_⟩
  rintro m σ H ⟨ι, st, σD, S, hs, g⟩
  cases m with
  | zero => exact (show False from g).elim
  | succ m =>
    refine ⟨ι, st, σD, S, hs, RG.stepO (rel := relB) hs g fun k st1 ι1 H1 k1 _ e1 S1 r1 g1 => ?_⟩
    cases r1
    cases k with
    | false => exact (show E.nx σ H1 from g1 ι1 H1 σ Ext.refl S1 (hs.ext e1))
    | true =>
      rw [if_pos rfl]
      refine ⟨fun σ' H' => ∃ ι st σD, Sim X.K ι st H' ∧ FrR X.K ι st.length H' σD σ' ∧ OG X W ι st.length H' E (whL t b m σD st), fun σ' H' w => ⟨m, Nat.lt_succ_self m, w⟩, ?_⟩
      refine ⟨ι1, st1, σD, S1, hs.ext e1, ?_⟩
      simp only at g1
      cases q : b σD st1 with
      | nx σ2 s2 => rw [q] at g1; exact fun ι2 H2 σ' e2 S2 f2 => ⟨ι2, s2, σ2, S2, f2, OG.mono e2 g1⟩
      | ct σ2 s2 => rw [q] at g1; exact fun ι2 H2 σ' e2 S2 f2 => ⟨ι2, s2, σ2, S2, f2, OG.mono e2 g1⟩
      | bk σ2 s2 => rw [q] at g1; exact g1
      | rt d s2 => rw [q] at g1; exact g1
      | exc x σ2 s2 => rw [q] at g1; exact g1
      | no => rw [q] at g1; exact g1
end

/-! ### what is walked -/
structure MI where
  n : Nat
  item : Nat → Store → Option (D × Store)
  fin : Store → Bool
def WkR (K : PySem.W.Frag) (ι : Nat → Addr) (n : Nat) (H : Hp) (J : MI) (Jh : It) : Prop :=
  ∀ ι2 st2 H2, Ext K ι n H ι2 st2.length H2 → Sim K ι2 st2 H2 →
    (∀ i d st3, i < J.n → J.item i st2 = some (d, st3) → Jh.go i H2 ∧ ∀ v H3, Jh.yld i H2 v H3 → ∃ ι3, Ext K ι2 st2.length H2 ι3 st3.length H3 ∧ Sim K ι3 st3 H3 ∧ RD K ι3 st3.length H3 d v) ∧
    (J.fin st2 = true → Jh.stop J.n H2)
abbrev MIE := SlD → Store → R MI
abbrev relI (K : PySem.W.Frag) : (Nat → Addr) → Nat → Hp → MI → It → Prop := fun ι n H J Jh => WkR K ι n H J Jh
def tiv (X : Cx) (W : WX) (r : MIE) : TI := fun σ H Q => ∃ ι st σD, Sim X.K ι st H ∧ FrR X.K ι st.length H σD σ ∧ RG X W ι st.length H σ (relI X.K) Q (r σD st)
abbrev SI (X : Cx) (W : WX) (tg iter : Expr) (r : MIE) : Prop := PI X tg iter (tiv X W r)
theorem PI.of {X : Cx} {tg e : Expr} {t t' : TI} (h : PI X tg e t) (i : ∀ σ H Q, t' σ H Q → t σ H Q) : PI X tg e t' := ⟨fun pins s σ H Q I q => h.run pins s σ H Q I (i σ H Q q)⟩
theorem PI.any {X : Cx} {tg e : Expr} : PI X tg e (fun σ H Q => ∃ t, PI X tg e t ∧ t σ H Q) := ⟨fun pins s σ H Q I ⟨t, h, q⟩ => h.run pins s σ H Q I q⟩
theorem WkR.ext {K : PySem.W.Frag} {ι ι' : Nat → Addr} {n n' : Nat} {H H' : Hp} {J : MI} {Jh : It} (e : Ext K ι n H ι' n' H') (w : WkR K ι n H J Jh) : WkR K ι' n' H' J Jh := fun ι2 st2 H2 e2 => w ι2 st2 H2 (e.trans e2)
def forL (J : MI) (g : MG) (b : MS) : Nat → Nat → MS
  | 0, _ => fun σ s => if J.fin s = true then .nx σ s else .no
  | k + 1, i => fun σ s => match J.item i s with
    | none => .no
    | some (d, s1) => match g d σ s1 with
      | none => .no
      | some (as, s2) => match b (setD σ as) s2 with
        | .nx σ2 s3 => forL J g b k (i + 1) σ2 s3
        | .ct σ2 s3 => forL J g b k (i + 1) σ2 s3
        | .bk σ2 s3 => .nx σ2 s3
        | o => o
def sFor (r : MIE) (g : MG) (b : MS) : MS := fun σ s => (r σ s).thenO σ fun J s1 => forL J g b J.n 0 σ s1
section
variable {X : Cx} {W : WX} {pos : Pos} {tg iter : Expr} {body : List Stmt} {r : MIE} {g : MG} {b : MS}
theorem ss_for (hp : PassesOwn (model X.prog X.w) X.A X.env X.xe) (hc : X.calm = true) (hi : SI X W tg iter r) (hg : SG X W tg g) (hb : SSs X W body b)
    (hs : ∀ x, foldedSetIterable iter X.env x = pure x := by intro _; rfl) : SS X W (.For tg iter body [] pos) (sFor r g b) := by
  refine PS.of (ps_for hp hc hi hg hb hs) fun E σ H h => ?_
  obtain ⟨ι, st, σD, S, hs, k⟩ := h
  refine ⟨ι, st, σD, S, hs, RG.stepO (rel := relI X.K) hs k fun J st1 ι1 H1 Jh _ e1 S1 w1 k1 => ?_⟩
  refine ⟨fun i m σ H => ∃ ι st σD, Ext X.K ι1 st1.length H1 ι st.length H ∧ Sim X.K ι st H ∧ FrR X.K ι st.length H σD σ ∧ i + m = J.n ∧ OG X W ι st.length H E (forL J g b m i σD st),
    ⟨J.n, ι1, st1, σD, Ext.refl, S1, hs.ext e1, Nat.zero_add _, k1⟩, ?_⟩
  rintro i m σ H ⟨ι, st, σD, e, S, hs, him, k⟩
  obtain ⟨wi, wf⟩ := w1 ι st H e S
  cases m with
  | zero =>
    simp only [forL] at k
    split at k
    · rename_i hf
      have : i = J.n := by omega
      subst this
      exact .inl ⟨wf hf, k ι H σ Ext.refl S hs⟩
    · exact k.elim
  | succ m =>
    simp only [forL] at k
    cases q : J.item i st with
    | none => rw [q] at k; exact k.elim
    | some p =>
      obtain ⟨d, s1⟩ := p
      rw [q] at k
      simp only at k
      obtain ⟨go, yl⟩ := wi i d s1 (by omega) q
      refine .inr ⟨go, fun σ' H' => ∃ ι st σD, Ext X.K ι1 st1.length H1 ι st.length H' ∧ Sim X.K ι st H' ∧ FrR X.K ι st.length H' σD σ' ∧ i + 1 + m = J.n ∧ OG X W ι st.length H' E (forL J g b m (i + 1) σD st),
        fun σ' H' w => ⟨m, Nat.lt_succ_self m, w⟩, fun x H' y => ?_⟩
      obtain ⟨ι2, e2, S2, r2⟩ := yl x H' y
      cases q2 : g d σD s1 with
      | none => rw [q2] at k; exact k.elim
      | some p2 =>
        obtain ⟨as, s2⟩ := p2
        rw [q2] at k
        simp only at k
        refine ⟨ι2, s1, σD, d, as, s2, S2, hs.ext e2, r2, q2, fun ι3 H3 vs e3 S3 pr => ?_⟩
        have f3 := ((hs.ext e2).ext e3).sets pr
        refine ⟨ι3, s2, setD σD as, S3, f3, ?_⟩
        have e03 := (e.trans e2).trans e3
        have k := OG.mono (e2.trans e3) k
        cases q3 : b (setD σD as) s2 with
        | nx σ2 s3 => rw [q3] at k; exact fun ι4 H4 σ' e4 S4 f4 => ⟨ι4, s3, σ2, e03.trans e4, S4, f4, by omega, OG.mono e4 k⟩
        | ct σ2 s3 => rw [q3] at k; exact fun ι4 H4 σ' e4 S4 f4 => ⟨ι4, s3, σ2, e03.trans e4, S4, f4, by omega, OG.mono e4 k⟩
        | bk σ2 s3 => rw [q3] at k; exact k
        | rt d s3 => rw [q3] at k; exact k
        | exc x σ2 s3 => rw [q3] at k; exact k
        | no => rw [q3] at k; exact k
end
end Mi
/-! M4: what is walked, list comprehensions. -/
namespace Mi
open PySem PySem.Spec PyProof.Rows L2

/-! ### items of a tuple, of a list as it stands, of a text -/
def iSeq (s : Store) : D → Option MI
  | .tup xs => some ⟨xs.length, fun i s => (xs[i]?).map fun d => (d, s), fun _ => true⟩
  | .loc l => match lsOf s l with
    | some ys => some ⟨ys.length, fun i s => match lsOf s l with
        | some xs => (xs[i]?).map fun d => (d, s)
        | none => none, fun s => match lsOf s l with
        | some xs => decide (xs.length ≤ ys.length)
        | none => false⟩
    | none => none
  | .scr ns => some ⟨ns.length, fun i s => (ns[i]?).map fun k => (.int k, s), fun _ => true⟩
  | .str z => some ⟨z.cps.size, fun i s => (z.cps[i]?).map fun c => (.str ⟨#[c]⟩, s), fun _ => true⟩
  | _ => none
def iOf (r : ME) : MIE := fun σ s => (r σ s).bind fun d s1 => match iSeq s1 d with
  | some J => .ok J s1
  | none => .no
section
variable {K : PySem.W.Frag} {ι : Nat → Addr} {n : Nat} {H : Hp}
theorem SqT.inj' {a : Addr} {xs ys : List V} (h : H a = some (.tup xs)) (h' : H a = some (.tup ys)) : xs = ys := by rw [h] at h'; cases h'; rfl
theorem wk_tup {a : Addr} {xs : List D} {vs : List V} (hs : SqT K H a vs) (rs : RDs K ι n H xs vs) : WkR K ι n H ⟨xs.length, fun i s => (xs[i]?).map fun d => (d, s), fun _ => true⟩ (Itt K a) := by
  intro ι2 st2 H2 e S
  refine ⟨fun i d st3 hi q => ?_, fun _ => ⟨vs, e.tup _ _ hs, by rw [rs.length]; exact Nat.le_refl _⟩⟩
  cases q0 : xs[i]? with
  | none => simp only [q0] at q; cases q
  | some x =>
    simp only [q0] at q
    cases q
    obtain ⟨v, hv, r⟩ := (rs.ext e).get q0
    refine ⟨⟨vs, v, e.tup _ _ hs, hv⟩, fun v' H3 y => ?_⟩
    obtain ⟨rfl, y⟩ := y
    have := y vs (e.tup _ _ hs)
    rw [hv] at this
    cases this
    exact ⟨ι2, Ext.refl, S, r⟩
theorem wk_list {st : Store} {l : Nat} {ys : List D} (S0 : Sim K ι st H) (h0 : lsOf st l = some ys) : WkR K ι st.length H ⟨ys.length, fun i s => match lsOf s l with
        | some xs => (xs[i]?).map fun d => (d, s)
        | none => none, fun s => match lsOf s l with
        | some xs => decide (xs.length ≤ ys.length)
        | none => false⟩ (Itl K (ι l)) := by
  intro ι2 st2 H2 e S
  have hl := (S0.ls h0).1
  have ag := e.ag l hl
  refine ⟨fun i d st3 hi q => ?_, fun q => ?_⟩
  · simp only at q
    cases q1 : lsOf st2 l with
    | none => rw [q1] at q; cases q
    | some xs =>
      rw [q1] at q
      simp only at q
      cases q0 : xs[i]? with
      | none => rw [q0] at q; cases q
      | some x =>
        rw [q0] at q
        cases q
        obtain ⟨_, vs, hs, rs⟩ := S.ls q1
        rw [ag] at hs
        have hs := SqL.of (K := K) hs
        obtain ⟨v, hv, r⟩ := rs.get q0
        refine ⟨⟨vs, v, hs, hv⟩, fun v' H3 y => ?_⟩
        obtain ⟨rfl, y⟩ := y
        have := y vs hs
        rw [hv] at this
        cases this
        exact ⟨ι2, Ext.refl, S, r⟩
  · simp only at q
    cases q1 : lsOf st2 l with
    | none => rw [q1] at q; cases q
    | some xs =>
      rw [q1] at q
      obtain ⟨_, vs, hs, rs⟩ := S.ls q1
      rw [ag] at hs
      exact ⟨vs, SqL.of hs, by rw [← rs.length]; exact of_decide_eq_true q⟩
theorem wk_scr {a : Addr} {ns : List Int} (hs : FzL K H a (ns.map V.int)) : WkR K ι n H ⟨ns.length, fun i s => (ns[i]?).map fun k => (.int k, s), fun _ => true⟩ (Itl K a) := by
  intro ι2 st2 H2 e S
  have hs := (e.frz _ _ hs).sq
  refine ⟨fun i d st3 hi q => ?_, fun _ => ⟨_, hs, by rw [List.length_map]; exact Nat.le_refl _⟩⟩
  cases q0 : ns[i]? with
  | none => simp only [q0] at q; cases q
  | some x =>
    simp only [q0] at q
    cases q
    have hv : (ns.map V.int)[i]? = some (.int x) := by rw [List.getElem?_map, q0]; rfl
    refine ⟨⟨_, _, hs, hv⟩, fun v' H3 y => ?_⟩
    obtain ⟨rfl, y⟩ := y
    have := y _ hs
    rw [hv] at this
    cases this
    exact ⟨ι2, Ext.refl, S, .int _⟩
theorem wk_str {z : Str} : WkR K ι n H ⟨z.cps.size, fun i s => (z.cps[i]?).map fun c => (.str ⟨#[c]⟩, s), fun _ => true⟩ (Its z) := by
  intro ι2 st2 H2 e S
  refine ⟨fun i d st3 hi q => ?_, fun _ => Nat.le_refl _⟩
  have hi : i < z.cps.size := hi
  refine ⟨hi, fun v H3 y => ?_⟩
  obtain ⟨rfl, c, hc, rfl⟩ := y
  simp only [hc] at q
  cases q
  exact ⟨ι2, Ext.refl, S, .str _⟩
end
section
variable {X : Cx} {W : WX} {tg e : Expr} {r : ME}
theorem si_of (h : SE X W e r) : SI X W tg e (iOf r) := by
  refine PI.of PI.any fun σ H Q h' => ?_
  obtain ⟨ι, st, σD, S, hs, g⟩ := h'
  have key : ∀ d st1, r σD st = .ok d st1 → ∃ t, PI X tg e t ∧ t σ H Q := fun d st1 q => by
    cases d with
    | tup xs =>
      refine ⟨_, pi_tup h, ι, st, σD, S, hs, RG.step (rel' := relD X.K) g fun d' st1' ι1 H1 v1 q' e1 S1 r1 g1 => ?_⟩
      rw [q] at q'
      cases q'
      cases r1 with
      | tup hv rs => exact ⟨_, rfl, ⟨_, hv⟩, g1 ι1 H1 _ Ext.refl S1 (wk_tup hv rs)⟩
    | loc l =>
      refine ⟨_, pi_list h, ι, st, σD, S, hs, RG.step (rel' := relD X.K) g fun d' st1' ι1 H1 v1 q' e1 S1 r1 g1 => ?_⟩
      rw [q] at q'
      cases q'
      cases r1 with
      | loc _ hl =>
        cases q0 : lsOf st1 l with
        | none => simp only [iSeq, q0] at g1; exact g1.elim
        | some ys =>
          simp only [iSeq, q0] at g1
          obtain ⟨_, vs, hv, rs⟩ := S1.ls q0
          exact ⟨_, rfl, ⟨vs, SqL.of hv⟩, g1 ι1 H1 _ Ext.refl S1 (wk_list S1 q0)⟩
    | scr ns =>
      refine ⟨_, pi_list h, ι, st, σD, S, hs, RG.step (rel' := relD X.K) g fun d' st1' ι1 H1 v1 q' e1 S1 r1 g1 => ?_⟩
      rw [q] at q'
      cases q'
      cases r1 with
      | scr hz => exact ⟨_, rfl, ⟨_, hz.sq⟩, g1 ι1 H1 _ Ext.refl S1 (wk_scr hz)⟩
    | str z =>
      refine ⟨_, pi_str h, ι, st, σD, S, hs, RG.step (rel' := relD X.K) g fun d' st1' ι1 H1 v1 q' e1 S1 r1 g1 => ?_⟩
      rw [q] at q'
      cases q'
      cases r1
      exact ⟨_, rfl, g1 ι1 H1 _ Ext.refl S1 wk_str⟩
    | _ =>
      unfold iOf at g
      rw [q] at g
      exact (show False from g).elim
  cases q : r σD st with
  | ok d st1 => exact key d st1 q
  | exc x st1 =>
    refine ⟨_, pi_tup h, ι, st, σD, S, hs, ?_⟩
    unfold iOf at g
    rw [q] at g ⊢
    exact g
  | no =>
    unfold iOf at g
    rw [q] at g
    exact (show False from g).elim
end

/-! ### range -/
def iRg1 (r : MA) : MIE := fun σ s => (r σ s).bind fun ds s1 => match ds with
  | [.int j] => if -(2 ^ 62) ≤ j ∧ j < 2 ^ 62 then .ok ⟨j.toNat, fun i s => some (.int (0 + (i : Nat)), s), fun _ => true⟩ s1 else .no
  | _ => .no
def iRg2 (r : MA) : MIE := fun σ s => (r σ s).bind fun ds s1 => match ds with
  | [.int i, .int j] => if -(2 ^ 62) ≤ i ∧ i < 2 ^ 62 ∧ -(2 ^ 62) ≤ j ∧ j < 2 ^ 62 then .ok ⟨(j - i).toNat, fun k s => some (.int (i + (k : Nat)), s), fun _ => true⟩ s1 else .no
  | _ => .no
theorem wk_rng {K : PySem.W.Frag} {ι : Nat → Addr} {n : Nat} {H : Hp} {lo : Int} {m : Nat} : WkR K ι n H ⟨m, fun k s => some (.int (lo + (k : Nat)), s), fun _ => true⟩ (Itr lo m) := by
  intro ι2 st2 H2 e S
  refine ⟨fun i d st3 hi q => ⟨hi, fun v H3 y => ?_⟩, fun _ => Nat.le_refl _⟩
  obtain ⟨rfl, rfl⟩ := y
  cases q
  exact ⟨ι2, Ext.refl, S, .int _⟩
section
variable {X : Cx} {W : WX} {tg a b : Expr} {r : MA} {p pos : Pos}
theorem rd_int {K : PySem.W.Frag} {ι : Nat → Addr} {n : Nat} {H : Hp} {i : Int} {v : V} (h : RD K ι n H (.int i) v) : v = .int i := by cases h; rfl
theorem rds1 {K : PySem.W.Frag} {ι : Nat → Addr} {n : Nat} {H : Hp} {x : D} {vs : List V} (h : RDs K ι n H [x] vs) : ∃ v, vs = [v] ∧ RD K ι n H x v := by
  cases h with
  | cons r t => cases t; exact ⟨_, rfl, r⟩
theorem rds2 {K : PySem.W.Frag} {ι : Nat → Addr} {n : Nat} {H : Hp} {x y : D} {vs : List V} (h : RDs K ι n H [x, y] vs) : ∃ v w, vs = [v, w] ∧ RD K ι n H x v ∧ RD K ι n H y w := by
  cases h with
  | cons r t =>
    obtain ⟨w, rfl, q⟩ := rds1 t
    exact ⟨_, _, rfl, r, q⟩
theorem si_rng1 (hm : X.mg "range" = none) (ha : SA X W [a] r) (hg : Gl X "range" := by rfl) (hs : starEach [a] X.env = [(false, eval a X.env)] := by rfl) : SI X W tg (.Call (.Name "range" p) [a] [] pos) (iRg1 r) := by
  refine PI.of (pi_range1 hg hm ha hs) fun σ H Q h => ?_
  obtain ⟨ι, st, σD, S, hs, g⟩ := h
  refine ⟨ι, st, σD, S, hs, RG.step (rel' := relDs X.K) g fun ds st1 ι1 H1 vs _ e1 S1 r1 g1 => ?_⟩
  split at g1
  · rename_i j _
    split at g1
    · rename_i hj
      obtain ⟨v, rfl, q⟩ := rds1 r1
      cases rd_int q
      exact ⟨j, rfl, hj.1, hj.2, g1 ι1 H1 _ Ext.refl S1 wk_rng⟩
    · exact (show False from g1).elim
  · exact (show False from g1).elim
theorem si_rng2 (hm : X.mg "range" = none) (ha : SA X W [a, b] r) (hg : Gl X "range" := by rfl) (hs : starEach [a, b] X.env = [(false, eval a X.env), (false, eval b X.env)] := by rfl) (hs2 : starEach [b] X.env = [(false, eval b X.env)] := by rfl) : SI X W tg (.Call (.Name "range" p) [a, b] [] pos) (iRg2 r) := by
  refine PI.of (pi_range2 hg hm ha hs hs2) fun σ H Q h => ?_
  obtain ⟨ι, st, σD, S, hs, g⟩ := h
  refine ⟨ι, st, σD, S, hs, RG.step (rel' := relDs X.K) g fun ds st1 ι1 H1 vs _ e1 S1 r1 g1 => ?_⟩
  split at g1
  · rename_i i j _
    split at g1
    · rename_i hj
      obtain ⟨v, w, rfl, q, q'⟩ := rds2 r1
      cases rd_int q
      cases rd_int q'
      exact ⟨i, j, rfl, hj, g1 ι1 H1 _ Ext.refl S1 wk_rng⟩
    · exact (show False from g1).elim
  · exact (show False from g1).elim
end

/-! ### list comprehensions -/
abbrev W0 : WX := fun _ _ _ _ => False
/-- the slots of the block's own names forgotten -/
def wipeD (σ : SlD) : List Nat → SlD
  | [] => σ
  | v :: vs => (wipeD σ vs).set v none
theorem wipeD_length (σ : SlD) : ∀ vs : List Nat, (wipeD σ vs).length = σ.length
  | [] => rfl
  | v :: vs => by unfold wipeD; rw [List.length_set, wipeD_length σ vs]
theorem FrR.wipe {K : PySem.W.Frag} {ι : Nat → Addr} {n : Nat} {H : Hp} {σD : SlD} {σ : L2.St} (h : FrR K ι n H σD σ) : ∀ vs : List Nat, FrR K ι n H (wipeD σD vs) (L2.wipe σ vs)
  | [] => h
  | v :: vs => by
    have ih := FrR.wipe h vs
    refine ⟨by rw [wipeD_length, L2.wipe_length]; exact h.1, fun i d q => ?_⟩
    unfold wipeD at q
    unfold L2.wipe
    by_cases hi : v = i
    · subst hi
      by_cases hv : v < (wipeD σD vs).length
      · rw [List.getElem?_set_self hv] at q; cases q
      · rw [List.getElem?_eq_none (by simpa using hv)] at q; cases q
    · rw [List.getElem?_set_ne hi] at q
      obtain ⟨w, a, b⟩ := ih.2 i d q
      exact ⟨w, by rw [List.getElem?_set_ne hi]; exact a, b⟩
theorem wipe_set {σ : L2.St} {i : Nat} {x : Option V} : ∀ {vs : List Nat}, i ∈ vs → L2.wipe (σ.set i x) vs = L2.wipe σ vs
  | v :: vs, h => by
    unfold L2.wipe
    by_cases hm : i ∈ vs
    · rw [wipe_set hm]
    · have hv : i = v := (List.mem_cons.mp h).resolve_right hm
      subst hv
      have : ∀ {us : List Nat}, i ∉ us → L2.wipe (σ.set i x) us = (L2.wipe σ us).set i x := by
        intro us hu
        induction us with
        | nil => rfl
        | cons u us ih =>
          simp only [List.mem_cons, not_or] at hu
          unfold L2.wipe
          rw [ih hu.2, List.set_comm _ _ hu.1]
      rw [this hm, List.set_set]
theorem wipe_wipe {σ : L2.St} {vs : List Nat} : L2.wipe (L2.wipe σ vs) vs = L2.wipe σ vs := by
  apply List.ext_getElem?
  intro i
  have key : ∀ (us : List Nat) (τ : L2.St) (j : Nat), (L2.wipe τ us)[j]? = if j ∈ us ∧ j < τ.length then some none else τ[j]? := by
    intro us
    induction us with
    | nil => intro τ j; simp [L2.wipe]
    | cons u us ih =>
      intro τ j
      unfold L2.wipe
      by_cases hj : u = j
      · subst hj
        by_cases hl : u < τ.length
        · rw [List.getElem?_set_self (by rw [L2.wipe_length]; exact hl), if_pos ⟨List.mem_cons_self, hl⟩]
        · rw [List.getElem?_eq_none (by rw [List.length_set, L2.wipe_length]; omega), if_neg (fun z => hl z.2), List.getElem?_eq_none (by omega)]
      · rw [List.getElem?_set_ne hj, ih]
        have : (j ∈ u :: us) ↔ j ∈ us := by
          simp only [List.mem_cons]
          exact ⟨fun z => z.resolve_left (fun q => hj q.symm), .inr⟩
        simp only [this]
  rw [key vs (L2.wipe σ vs) i, L2.wipe_length]
  split
  · rename_i h
    rw [key vs σ i, if_pos h]
  · rfl
theorem wipe_setV {vs : List Nat} : ∀ {ps : List (Nat × V)} {σ : L2.St}, (∀ p ∈ ps, p.1 ∈ vs) → L2.wipe (setV σ ps) vs = L2.wipe σ vs
  | [], _, _ => rfl
  | p :: ps, σ, h => by
    unfold setV
    rw [wipe_setV fun q hq => h q (List.mem_cons_of_mem _ hq), wipe_set (h p List.mem_cons_self)]
/-- a target that stores into these slots alone -/
def GIn (g : MG) (vs : List Nat) : Prop := ∀ d σ s as s', g d σ s = some (as, s') → ∀ p ∈ as, p.1 ∈ vs
def GsIn (g : MGs) (vs : List Nat) : Prop := ∀ d σ s as s', g d σ s = some (as, s') → ∀ p ∈ as, p.1 ∈ vs
theorem gin_nm {i : Nat} {vs : List Nat} (h : i ∈ vs := by decide) : GIn (gNm i) vs := fun d σ s as s' q p hp => by
  cases q
  rcases List.mem_cons.mp hp with e | e
  · subst e; exact h
  · cases e
theorem gin_nil {vs : List Nat} : GsIn gsNil vs := fun d σ s as s' q p hp => by
  cases d with
  | nil => cases q; cases hp
  | cons _ _ => cases q
theorem gin_cons {g : MG} {r : MGs} {vs : List Nat} (h1 : GIn g vs) (h2 : GsIn r vs) : GsIn (gsCons g r) vs := fun d σ s as s' q p hp => by
  cases d with
  | nil => cases q
  | cons d ds =>
    simp only [gsCons] at q
    cases q1 : g d σ s with
    | none => rw [q1] at q; cases q
    | some p1 =>
      obtain ⟨as1, s1⟩ := p1
      rw [q1] at q
      simp only at q
      cases q2 : r ds (setD σ as1) s1 with
      | none => rw [q2] at q; cases q
      | some p2 =>
        obtain ⟨bs, s2⟩ := p2
        rw [q2] at q
        cases q
        rcases List.mem_append.mp hp with hp | hp
        · exact h1 _ _ _ _ _ q1 p hp
        · exact h2 _ _ _ _ _ q2 p hp
theorem gin_tp {r : MGs} {n : Nat} {vs : List Nat} (h : GsIn r vs) : GIn (gTp (gLen n r)) vs := fun d σ s as s' q p hp => by
  cases d with
  | tup xs =>
    simp only [gTp, gLen] at q
    split at q
    · exact h _ _ _ _ _ q p hp
    · cases q
  | _ => cases q
def tYesM : MT := fun _ s => .ok true s
def lcL (J : MI) (g : MG) (t : MT) (e : ME) (σ0 : SlD) (l : Nat) : Nat → Nat → Store → R D
  | 0, _, s => if J.fin s = true then .ok (.loc l) s else .no
  | k + 1, i, s => match J.item i s with
    | none => .no
    | some (d, s1) => match g d σ0 s1 with
      | none => .no
      | some (as, s2) => match t (setD σ0 as) s2 with
        | .ok true s3 => match e (setD σ0 as) s3 with
          | .ok y s4 => match s4[l]? with
            | some (.lst acc) => if acc.length < 16777216 then lcL J g t e σ0 l k (i + 1) (s4.set l (.lst (acc ++ [y]))) else .no
            | _ => .no
          | _ => .no
        | .ok false s3 => lcL J g t e σ0 l k (i + 1) s3
        | _ => .no
def eLc (r : MIE) (g : MG) (t : MT) (e : ME) (vs : List Nat) : ME := fun σ s => (r σ s).bind fun J s1 => lcL J g t e (wipeD σ vs) s1.length J.n 0 (s1 ++ [.lst []])
abbrev STs (X : Cx) (W : WX) (ifs : List Expr) (r : MT) : Prop := PTs X ifs (ttv X W r)
theorem PTs.of {X : Cx} {e : List Expr} {t t' : TT} (h : PTs X e t) (i : ∀ σ H Q, t' σ H Q → t σ H Q) : PTs X e t' := ⟨fun pins s σ H Q I q => h.run pins s σ H Q I (i σ H Q q)⟩
theorem sts_nil {X : Cx} {W : WX} : STs X W [] tYesM := PTs.of pts_nil fun σ H Q ⟨ι, st, σD, S, hs, g⟩ => g ι H true Ext.refl S rfl
theorem sts_one {X : Cx} {W : WX} {c : Expr} {t : MT} (h : ST X W c t) : STs X W [c] t := pts_one h
section
variable {X : Cx} {W : WX} {pos : Pos} {elt tg iter : Expr} {ifs : List Expr} {scope : Scope} {own : List (Str × Nat)} {r : MIE} {g : MG} {t : MT} {e : ME}
theorem lc_to {σ : L2.St} {H : Hp} {Q : VK} {vs : List Nat} (gi : GIn g vs) (h : tev X W (eLc r g t e vs) σ H Q) : tLc (tiv X W r) (tgv X W0 g) (ttv X W0 t) (tev X W0 e) vs σ H Q := by
  obtain ⟨ι, st, σD, S, hs, k⟩ := h
  refine ⟨ι, st, σD, S, hs, RG.step (rel' := relI X.K) k fun J st1 ι1 H1 Jh _ e1 S1 w1 k1 => ?_⟩
  intro Da hD
  obtain ⟨ι2, S2, e2, r2⟩ := S1.newL hD RDs.nil
  have hs1 := (hs.ext e1).ext e2
  have k2 := RG.mono e2 k1
  have w2 := w1.ext e2
  have hl2 : ι2 st1.length = Da := by
    generalize hv : V.ref Da = v at r2
    cases r2 with
    | loc _ _ => cases hv; rfl
  have lt2 : st1.length < (st1 ++ [SO.lst []]).length := by simp
  refine ⟨fun i m H => ∃ ι st, Ext X.K ι2 (st1 ++ [SO.lst []]).length (upd H1 Da (.lst [])) ι st.length H ∧ Sim X.K ι st H ∧ i + m = J.n ∧ RG X W ι st.length H σ (relD X.K) Q (lcL J g t e (wipeD σD vs) st1.length m i st),
    ⟨J.n, ι2, _, Ext.refl, S2, Nat.zero_add _, k2⟩, ?_⟩
  rintro i m H ⟨ι, st, ex, S, him, k⟩
  obtain ⟨wi, wf⟩ := w2 ι st H ex S
  cases m with
  | zero =>
    simp only [lcL] at k
    split at k
    · rename_i hf
      have : i = J.n := by omega
      subst this
      refine .inl ⟨wf hf, ?_⟩
      refine k ι H _ Ext.refl S ?_
      have z : RD X.K ι st.length H (.loc st1.length) (.ref (ι st1.length)) := .loc _ (Nat.lt_of_lt_of_le lt2 ex.le)
      rw [ex.ag _ lt2, hl2] at z
      exact z
    · exact (show False from k).elim
  | succ m =>
    simp only [lcL] at k
    cases q : J.item i st with
    | none => rw [q] at k; exact (show False from k).elim
    | some p =>
      obtain ⟨d, s1⟩ := p
      rw [q] at k
      simp only at k
      obtain ⟨go, yl⟩ := wi i d s1 (by omega) q
      refine .inr ⟨go, fun H' => ∃ ι st, Ext X.K ι2 (st1 ++ [SO.lst []]).length (upd H1 Da (.lst [])) ι st.length H' ∧ Sim X.K ι st H' ∧ i + 1 + m = J.n ∧ RG X W ι st.length H' σ (relD X.K) Q (lcL J g t e (wipeD σD vs) st1.length m (i + 1) st),
        fun H' w => ⟨m, Nat.lt_succ_self m, w⟩, fun x H' y => ?_⟩
      obtain ⟨ι3, e3, S3, r3⟩ := yl x H' y
      have f3 : FrR X.K ι3 s1.length H' (wipeD σD vs) (L2.wipe σ vs) := (((hs1.ext ex).ext e3).wipe vs)
      cases q2 : g d (wipeD σD vs) s1 with
      | none => rw [q2] at k; exact (show False from k).elim
      | some p2 =>
        obtain ⟨as, s2⟩ := p2
        rw [q2] at k
        simp only at k
        refine ⟨ι3, s1, wipeD σD vs, d, as, s2, S3, f3, r3, q2, fun ι4 H4 ps e4 S4 pr => ?_⟩
        refine ⟨?_, ?_⟩
        · have hin : ∀ p ∈ ps, p.1 ∈ vs := fun p hp => by
            obtain ⟨d', hd'⟩ := pr.mem p hp
            exact gi _ _ _ _ _ q2 _ hd'
          rw [wipe_setV hin, wipe_wipe]
        · have f4 := (f3.ext e4).sets pr
          have e04 := (ex.trans e3).trans e4
          have k := RG.mono (e3.trans e4) k
          refine ⟨ι4, s2, _, S4, f4, ?_⟩
          cases q3 : t (setD (wipeD σD vs) as) s2 with
          | no => rw [q3] at k; exact k
          | exc x s3 => rw [q3] at k; exact (show False from k).elim
          | ok b s3 =>
            rw [q3] at k
            refine fun ι5 H5 b' e5 S5 eb => ?_
            cases eb
            have k := RG.mono e5 k
            have e05 := e04.trans e5
            cases b with
            | false => exact ⟨ι5, s3, e05, S5, by omega, k⟩
            | true =>
              rw [if_pos rfl]
              refine ⟨ι5, s3, _, S5, f4.ext e5, ?_⟩
              simp only at k
              cases q4 : e (setD (wipeD σD vs) as) s3 with
              | no => rw [q4] at k; exact k
              | exc x s4 => rw [q4] at k; exact (show False from k).elim
              | ok y s4 =>
                rw [q4] at k
                refine fun ι6 H6 v6 e6 S6 r6 => ?_
                have e06 := e05.trans e6
                have k := RG.mono e6 k
                simp only at k
                split at k
                · rename_i acc hacc
                  split at k
                  · rename_i hz
                    obtain ⟨us, hu, ru⟩ := S6.lst hacc
                    have hla : ι6 st1.length = Da := (e06.ag _ lt2).trans hl2
                    rw [hla] at hu
                    refine ⟨us, hu, by rw [← ru.length]; exact Nat.lt_of_lt_of_le hz (by rw [show sizeLine = 16777216 from sizeLine_eq]; exact Nat.le_refl _), ?_⟩
                    obtain ⟨S7, e7⟩ := S6.setL hacc (ru.append (.one r6))
                    rw [hla] at S7 e7
                    exact ⟨ι6, _, e06.trans e7, S7, by omega, RG.mono e7 k⟩
                  · exact (show False from k).elim
                · exact (show False from k).elim
theorem se_lc (hc : X.calm = true) (hN : X.N.Nodup) (hi : SI X W tg iter r) (ok : BlkOk X.N X.env.scope scope own) (gi : GIn g (own.map (·.2)))
    (hg : ∀ (s : Shared) (H : Hp) (C : Addr) (cl : List (Str × Addr)) (fp : List Addr), SG (X.blk s H scope (compEnvC scope cl C X.env) fp) W0 tg g) (ht : ∀ (s : Shared) (H : Hp) (C : Addr) (cl : List (Str × Addr)) (fp : List Addr), STs (X.blk s H scope (compEnvC scope cl C X.env) fp) W0 ifs t)
    (he : ∀ (s : Shared) (H : Hp) (C : Addr) (cl : List (Str × Addr)) (fp : List Addr), SE (X.blk s H scope (compEnvC scope cl C X.env) fp) W0 elt e) (hs : ∀ x, foldedSetIterable iter X.env x = pure x := by intro _; rfl) :
    SE X W (.ListComp elt [⟨tg, iter, ifs, 0⟩] scope pos) (eLc r g t e (own.map (·.2))) :=
  PE.of (pe_lc hc hN hi ok hg ht he hs) fun _ _ _ h => lc_to gi h
end
end Mi
/-! M5: defs and their calls. -/
namespace Mi
open PySem PySem.Spec PyProof.Rows L2

abbrev FD := List D → Store → R D
def spM (K : PySem.W.Frag) (mg : Str → Option Value) (n : Nat) (m : FD) : Sp := fun vs H Q E => vs.length = n ∧ ∃ ι st ds, Sim K ι st H ∧ RDs K ι st.length H ds vs ∧ match m ds st with
  | .ok d st' => ∀ ι' H' v, Ext K ι st.length H ι' st'.length H' → Sim K ι' st' H' → RD K ι' st'.length H' d v → Q v H'
  | .exc x st' => ∀ ι' H' cls dx, Ext K ι st.length H ι' st'.length H' → Sim K ι' st' H' → RX K mg ι' st'.length H' x cls dx → E cls dx H'
  | .no => False
/-- a def's mirror, from its body's: nl names that are no parameters -/
def finM (nl : Nat) (b : MS) : FD := fun ds s => match b (ds.map some ++ List.replicate nl none) s with
  | .nx _ s1 => .ok .non s1
  | .rt d s1 => .ok d s1
  | .exc x _ s1 => .exc x s1
  | _ => .no
theorem fr_start {K : PySem.W.Frag} {ι : Nat → Addr} {n : Nat} {H : Hp} {ds : List D} {vs : List V} (N : List Str) {nl : Nat} (r : RDs K ι n H ds vs) (h : N.length - vs.length = nl) : FrR K ι n H (ds.map some ++ List.replicate nl none) (L2.start N vs) := by
  unfold L2.start
  rw [h]
  refine ⟨by simp [r.length], fun i d q => ?_⟩
  by_cases hi : i < ds.length
  · rw [List.getElem?_append_left (by simpa using hi), List.getElem?_map] at q
    cases q0 : ds[i]? with
    | none => rw [q0] at q; cases q
    | some d' =>
      rw [q0] at q
      cases q
      obtain ⟨v, hv, rv⟩ := r.get q0
      refine ⟨v, ?_, rv⟩
      rw [List.getElem?_append_left (by simp; rw [← r.length]; exact hi), List.getElem?_map, hv]
      rfl
  · rw [List.getElem?_append_right (by simpa using hi)] at q
    have := List.mem_of_getElem? q
    have := List.eq_of_mem_replicate this
    cases this
/-- a def keeps its mirror's promise at level k, wherever no display of an object is under way -/
structure FnG (P : Program) (w : World) (K : PySem.W.Frag) (mg : Str → Option Value) (base : Heap) (k : Nat) (f : Addr) (fd : FuncData) (ps : List Str) (m : FD) : Prop where
  run : ∀ (Ar : Around) (fs : List Env) (s0 : Shared) (Hs : Hp) (ag : Args) (xs : List Value) (ws : List V) (R1 : VK) (R2 : XK), Ar.guards = some [] → Room k Ar →
    Env0 P w K mg base Ar fs s0 Hs → BindsTo s0 fd ag (ps.zip xs) → Vals ws xs → spM K mg ps.length m ws Hs R1 R2 →
      codeAny (model P w) Ar (.call (.ref f) ag) (CR (L2.CX P w) fs P w Hs s0 R1 R2) s0
theorem FnG.up {P : Program} {w : World} {K : PySem.W.Frag} {mg : Str → Option Value} {base : Heap} {i k : Nat} {f : Addr} {fd : FuncData} {ps : List Str} {m : FD} (F : FnG P w K mg base i f fd ps m) (h : i ≤ k) : FnG P w K mg base k f fd ps m :=
  ⟨fun Ar fs s0 Hs ag xs ws R1 R2 g rm => F.run Ar fs s0 Hs ag xs ws R1 R2 g (rm.mono h)⟩
theorem FnG.imp {P : Program} {w : World} {K : PySem.W.Frag} {mg : Str → Option Value} {base : Heap} {k : Nat} {f : Addr} {fd : FuncData} {ps : List Str} {m m' : FD} (F : FnG P w K mg base k f fd ps m) (h : m = m') : FnG P w K mg base k f fd ps m' := h ▸ F
section
variable {P : Program} {w : World} {K : PySem.W.Frag} {mg : Str → Option Value} {base : Heap}
/-- a def by its body's mirror -/
theorem fn_g {x qual : Str} {sd : Stmt} {f : Addr} {fd : FuncData} {N ps : List Str} {k : Nat} {nl : Nat} {b : MS} (F : Fun K x qual sd f fd) (S : FnScope N ps (defScope sd)) (hl : N.length - ps.length = nl)
    (hbody : ∀ (cdv : Value) (Ar : Around) (fs : List Env) (s0 : Shared) (Hs : Hp) (R2 : XK), Ar.guards = some [] → Room k (Ar.deeper (envOfC qual (defScope sd) s0.heap.objs.size f cdv)) →
      SSs (cxOf (L2.CX P w) P w K mg base N qual (defScope sd) f cdv Ar fs s0 Hs R2) (fun cls d _ H => R2 cls d H) (defBody sd) b) :
    FnG P w K mg base (k + 1) f fd ps (finM nl b) := by
  obtain ⟨oc, od, kV, doc, pm, an, cdv, ct, osl, rfl, look, cd⟩ := F.ex
  refine ⟨fun Ar fs s0 Hs ag xs ws R1 R2 hg rm e0 bi rv sp => ?_⟩
  have wl : ws.length = ps.length := sp.1
  have KIn : K.In s0.heap := e0.mod.kin.keeps fun c o z => (e0.bs c o z).1
  have nolim := e0.mod.nolimit.keeps fun c o z => (e0.bs c o z).1
  have kinds : ∀ z ∈ ps.zip xs, (defScope sd).names.lookup z.1 = some .local ∨
      ((defScope sd).names.lookup z.1 = some .cell ∧ ((cellsFrom (s0.heap.objs.size + 1) (defScope sd).names []).lookup z.1).isSome = true) := by
    rintro ⟨nm, vl⟩ hz
    cases S.par nm (List.of_mem_zip hz).1 with
    | inl z => exact .inl z
    | inr z => exact .inr ⟨z, PySem.W.cellsFrom_some _ _ _ (.inl z)⟩
  apply codeAny_call_function rm.depth (KIn _ _ look) rfl S.co S.gen rfl (PySem.W.codeRec_of KIn cd)
  apply bi
  apply wpAny_newFunctionEnv_cells S.kind kinds
  intro env he s1 entered
  subst he
  refine ⟨nolim.keeps entered.toInCall.keep, codeAny_func ?_⟩
  have body := hbody cdv Ar fs s0 Hs R2 hg (rm.deeper _)
  have start := inv_start (CX := L2.CX P w) (cd := cdv) (E := R2) S rm.hd e0 wl rv entered
  obtain ⟨_, ι, st', ds, Sm, r, g⟩ := sp
  subst hl
  have post := body.run [] s1 (L2.start N ws) Hs { nx := fun _ H' => R1 .non H', rt := R1 } start ⟨ι, st', _, Sm, fr_start N r (by rw [wl]), by
    unfold finM at g
    generalize q : b (ds.map some ++ List.replicate (N.length - ps.length) none) st' = o at g ⊢
    cases o with
    | nx σ s1 => exact fun ι' H' σ' e S' f => g ι' H' .non e S' .non
    | rt d s1 => exact g
    | exc x σ s1 => exact fun ι' H' σ' cls dx e S' f rx => g ι' H' cls dx e S' rx
    | bk σ s1 => exact g.elim
    | ct σ s1 => exact g.elim
    | no => exact g.elim⟩
  refine wpAny_mono post (fun fl s' done => ?_) fun e s' z => z
  cases fl with
  | brk => obtain ⟨_, _, _, z⟩ := done; exact z.elim
  | cont => obtain ⟨_, _, _, z⟩ := done; exact z.elim
  | next =>
    obtain ⟨_, H', J, z⟩ := done
    exact ⟨.non, H', J.os, J.bare, J.base, J.hok, rfl, z⟩
  | ret u =>
    obtain ⟨v, _, H', J, rv', z⟩ := done
    exact ⟨v, H', J.os, J.bare, J.base, J.hok, rv', z⟩
end
/-- the def of this name keeps its mirror's promise (level k, parameters ps) -/
structure FnAt (P : Program) (w : World) (K : PySem.W.Frag) (mg : Str → Option Value) (base : Heap) (x : Str) (f : Addr) (fd : FuncData) (ps : List Str) (k : Nat) (m : FD) : Prop where
  at_ : mg x = some (.ref f)
  kp : PySem.W.keepIn K (.ref f) = true
  fn : FnG P w K mg base k f fd ps m
/-- values picked by their places -/
def pick {α : Type} (p : List Nat) (xs : List α) : List α := p.filterMap fun i => xs[i]?
theorem RDs.get' {K : PySem.W.Frag} {ι : Nat → Addr} {n : Nat} {H : Hp} {xs : List D} {vs : List V} (r : RDs K ι n H xs vs) (i : Nat) : (xs[i]? = none ∧ vs[i]? = none) ∨ ∃ x v, xs[i]? = some x ∧ vs[i]? = some v ∧ RD K ι n H x v := by
  cases q : xs[i]? with
  | none =>
    refine .inl ⟨rfl, ?_⟩
    rw [List.getElem?_eq_none_iff] at q ⊢
    rw [← r.length]; exact q
  | some x =>
    obtain ⟨v, hv, rv⟩ := r.get q
    exact .inr ⟨x, v, rfl, hv, rv⟩
theorem RDs.pick {K : PySem.W.Frag} {ι : Nat → Addr} {n : Nat} {H : Hp} {xs : List D} {vs : List V} (r : RDs K ι n H xs vs) : ∀ p : List Nat, RDs K ι n H (pick p xs) (Mi.pick p vs)
  | [] => .nil
  | i :: p => by
    unfold Mi.pick
    rcases r.get' i with ⟨h1, h2⟩ | ⟨x, v, h1, h2, rv⟩
    · rw [List.filterMap_cons_none h1, List.filterMap_cons_none h2]
      exact RDs.pick r p
    · rw [List.filterMap_cons_some h1, List.filterMap_cons_some h2]
      exact .cons rv (RDs.pick r p)
theorem vals_pick {xs : List V} {us : List Value} (r : Vals xs us) : ∀ p : List Nat, Vals (pick p xs) (pick p us)
  | [] => .nil
  | i :: p => by
    unfold Mi.pick
    cases h1 : xs[i]? with
    | none =>
      rw [List.filterMap_cons_none h1, List.filterMap_cons_none (r.none_of h1)]
      exact vals_pick r p
    | some x =>
      obtain ⟨u, h2, ru⟩ := r.get h1
      rw [List.filterMap_cons_some h1, List.filterMap_cons_some h2]
      exact .cons ru (vals_pick r p)
def eCall (n : Nat) (m : FD) (ra : MA) : ME := fun σ s => (ra σ s).bind fun ds s1 => if ds.length = n then m ds s1 else .no
def eCallK (n k : Nat) (p : List Nat) (m : FD) (ra rk : MA) : ME := fun σ s => (ra σ s).bind fun ds s1 => (rk σ s1).bind fun es s2 => if ds.length = n ∧ es.length = k then m (pick p (ds ++ es)) s2 else .no
section
variable {X : Cx} {W : WX} {k : Nat} {f : Addr} {fd : FuncData} {ps : List Str} {m : FD} {x : Str} {pos p : Pos} {e : Expr} {es : List Expr} {ra rk : MA}
theorem sp_of {σ : L2.St} {ι : Nat → Addr} {st : Store} {H : Hp} {Q : VK} {n : Nat} {ds : List D} {vs : List V} (S : Sim X.K ι st H) (r : RDs X.K ι st.length H ds vs) (hl : ds.length = n) (g : RG X W ι st.length H σ (relD X.K) Q (m ds st)) :
    spM X.K X.mg n m vs H Q (WE W σ) := by
  refine ⟨r.length.symm.trans hl, ι, st, ds, S, r, ?_⟩
  cases q : m ds st with
  | ok d s1 => rw [q] at g; exact g
  | exc x s1 => rw [q] at g; exact g
  | no => rw [q] at g; exact g
/-- the callee runs on what stands in its parameters' places -/
theorem run_p {pins : List (Addr × Obj)} {σ : L2.St} {H : Hp} {s : Shared} {Q : VK} {us : List Value} {vs : List V} (F : FnAt X.prog X.w X.K X.mg X.base x f fd ps k m) (hg0 : X.A.guards = some []) (hr : Room k X.A) (tk : Takes X W)
    (hb : ∀ us : List Value, us.length = ps.length → bindArgs fd ⟨us, []⟩ = pure (ps.zip us)) (I : Inv X pins σ H s) (r : Vals vs us) (h : spM X.K X.mg ps.length m vs H Q (WE W σ)) : wpAny (model X.prog X.w) X.A (call (.ref f) us) (EP X pins σ Q) X.xe s := by
  refine wpAny_call (codeAny_mono (F.fn.run X.A X.stack s H ⟨us, []⟩ us vs Q (WE W σ) hg0 hr I.env0 (.of_eq (hb us (r.length.symm.trans h.1))) r h) fun res s' z => ?_)
  cases res with
  | error e => exact passAt tk σ pins H s e s' I z
  | ok fl => cases fl <;> first | exact I.after z | exact False.elim z
theorem se_call (F : FnAt X.prog X.w X.K X.mg X.base x f fd ps k m) (hg0 : X.A.guards = some []) (hr : Room k X.A) (hb : ∀ us : List Value, us.length = ps.length → bindArgs fd ⟨us, []⟩ = pure (ps.zip us)) (tk : Takes X W) (ha : SA X W (e :: es) ra) (hg : Gl X x := by rfl)
    (hdb : (x == ("__debug__" : Str)) = false := by decide) (he : starEach (e :: es) X.env = (false, eval e X.env) :: starEach es X.env := by rfl) (hpl : (backTo pos (starEach es X.env)).any (·.1) = false := by rfl) :
    SE X W (.Call (.Name x p) (e :: es) [] pos) (eCall ps.length m ra) := by
  refine ⟨fun pins s σ H Q I h => ?_⟩
  obtain ⟨ι, st, σD, S, hs, g⟩ := h
  apply wpAny_Call_Name_kw (ld_glob I hg F.at_ _ hdb)
  refine PySem.W.callWith_K (h₀ := X.base) I.ok.mod.kin F.kp (thn (ha.run pos pins s σ H (fun vs H1 => spM X.K X.mg ps.length m vs H1 Q (WE W σ)) I ?_) fun us s1 ⟨vs, H1, I1, r, z⟩ => ⟨I1.kIn, run_p F hg0 hr tk hb I1 r z⟩) he hpl
  refine ⟨ι, st, σD, S, hs, RG.step (rel' := relDs X.K) g fun ds st1 ι1 H1 vs _ e1 S1 r1 g1 => ?_⟩
  split at g1
  · rename_i hl
    exact sp_of S1 r1 hl g1
  · exact (show False from g1).elim
/-- the callee runs, its exceptions wished for at the caller's slots; keywords -/
theorem run_k {ks : List Str} {prm : List Nat} {n : Nat} {pins : List (Addr × Obj)} {σ : L2.St} {H : Hp} {s : Shared} {Q : VK} {us ws : List Value} {vs zs : List V} (F : FnAt X.prog X.w X.K X.mg X.base x f fd ps k m) (hg0 : X.A.guards = some []) (hr : Room k X.A) (tk : Takes X W)
    (hb : ∀ (us ws : List Value), us.length = n → ws.length = ks.length → bindArgs fd ⟨us, ks.zip ws⟩ = pure (ps.zip (pick prm (us ++ ws)))) (h1 : us.length = n) (h2 : ws.length = ks.length)
    (I : Inv X pins σ H s) (r : Vals vs us) (rz : Vals zs ws) (h : spM X.K X.mg ps.length m (pick prm (vs ++ zs)) H Q (WE W σ)) : wpAny (model X.prog X.w) X.A (call (.ref f) us (ks.zip ws)) (EP X pins σ Q) X.xe s := by
  have r2 := vals_pick (r.append rz) prm
  refine wpAny_call (codeAny_mono (F.fn.run X.A X.stack s H ⟨us, ks.zip ws⟩ (pick prm (us ++ ws)) (pick prm (vs ++ zs)) Q (WE W σ) hg0 hr I.env0 (.of_eq (hb us ws h1 h2)) r2 h) fun r s' hq => ?_)
  cases r with
  | error e => exact passAt tk σ pins H s e s' I hq
  | ok fl =>
    cases fl with
    | ret u => exact I.after hq
    | next => exact False.elim hq
    | brk => exact False.elim hq
    | cont => exact False.elim hq
abbrev SK (X : Cx) (W : WX) (kws : List Keyword) (r : MA) : Prop := PK X kws (tav X W r)
theorem PK.of {X : Cx} {e : List Keyword} {t t' : TA} (h : PK X e t) (i : ∀ σ H Q, t' σ H Q → t σ H Q) : PK X e t' := ⟨fun pos pins s σ H Q I q => h.run pos pins s σ H Q I (i σ H Q q)⟩
theorem sk_nil : SK X W [] aNil := PK.of pk_nil fun σ H Q ⟨ι, st, σD, S, hs, g⟩ => g ι H [] Ext.refl S .nil
theorem sk_cons {nm : Option Str} {kpos : Pos} {kws : List Keyword} {re : ME} (ha : SE X W e re) (hr : SK X W kws rk) : SK X W (⟨nm, e, kpos⟩ :: kws) (aCons re rk) := by
  refine PK.of (pk_cons ha hr) fun σ H Q h => ?_
  obtain ⟨ι, st, σD, S, hs, g⟩ := h
  refine ⟨ι, st, σD, S, hs, RG.step (rel' := relD X.K) g fun d st1 ι1 H1 v1 _ e1 S1 r1 g1 => ?_⟩
  refine ⟨ι1, st1, σD, S1, hs.ext e1, RG.step (rel' := relDs X.K) g1 fun ds st2 ι2 H2 vs _ e2 S2 r2 g2 => ?_⟩
  exact g2 ι2 H2 _ Ext.refl S2 (.cons (r1.ext e2) r2)
/-- f(e, .., k = v, ..): no defaults left -/
theorem se_callK {kws : List Keyword} {ks : List Str} (n : Nat) (prm : List Nat) (F : FnAt X.prog X.w X.K X.mg X.base x f fd ps k m) (hg0 : X.A.guards = some []) (hr : Room k X.A) (tk : Takes X W)
    (hb : ∀ (us ws : List Value), us.length = n → ws.length = ks.length → bindArgs fd ⟨us, ks.zip ws⟩ = pure (ps.zip (pick prm (us ++ ws)))) (hp : prm.length = ps.length ∧ ∀ i ∈ prm, i < n + ks.length)
    (ha : SA X W (e :: es) ra) (hkw : SK X W kws rk) (hg : Gl X x := by rfl) (hall : (backToKw pos (keywordEach kws X.env)).all (·.1.isSome) = true := by rfl) (hks : (backToKw pos (keywordEach kws X.env)).filterMap (·.1) = ks := by rfl)
    (hdb : (x == ("__debug__" : Str)) = false := by decide) (he : starEach (e :: es) X.env = (false, eval e X.env) :: starEach es X.env := by rfl)
    (hpl : ((backTo pos (starEach (e :: es) X.env)).any (·.1) || (backToKw pos (keywordEach kws X.env)).any (·.1.isNone)) = false := by rfl) :
    SE X W (.Call (.Name x p) (e :: es) kws pos) (eCallK n ks.length prm m ra rk) := by
  refine ⟨fun pins s σ H Q I h => ?_⟩
  obtain ⟨ι, st, σD, S, hs, g⟩ := h
  refine wpAny_Call_Name_kw (ld_glob I hg F.at_ ?_ hdb)
  refine PySem.W.callWith_KW (h₀ := X.base) I.ok.mod.kin F.kp hall (thn (ha.run pos pins s σ H (fun vs H1 => tav X W rk σ H1 fun zs H2 => vs.length = n ∧ zs.length = ks.length ∧ spM X.K X.mg ps.length m (pick prm (vs ++ zs)) H2 Q (WE W σ)) I ?_) fun us s1 ⟨vs, H1, I1, r, q⟩ => ?_) hpl he
  · refine ⟨ι, st, σD, S, hs, RG.step (rel' := relDs X.K) g fun ds st1 ι1 H1 vs _ e1 S1 r1 g1 => ?_⟩
    refine ⟨ι1, st1, σD, S1, hs.ext e1, RG.step (rel' := relDs X.K) g1 fun es st2 ι2 H2 zs _ e2 S2 r2 g2 => ?_⟩
    split at g2
    · rename_i hl
      refine ⟨r1.length.symm.trans hl.1, r2.length.symm.trans hl.2, sp_of S2 (((r1.ext e2).append r2).pick prm) ?_ g2⟩
      have key : ∀ (l : List Nat), (∀ i ∈ l, i < (ds ++ es).length) → (pick l (ds ++ es)).length = l.length := by
        intro l hl
        induction l with
        | nil => rfl
        | cons i l ih =>
          unfold pick
          rw [List.filterMap_cons_some (List.getElem?_eq_getElem (hl i List.mem_cons_self))]
          exact congrArg (· + 1) (ih fun j hj => hl j (List.mem_cons_of_mem _ hj))
      rw [key prm fun i hi => by rw [List.length_append, hl.1, hl.2]; exact hp.2 i hi]
      exact hp.1
    · exact (show False from g2).elim
  · refine thn (hkw.run pos pins s1 σ H1 _ I1 q) fun ws s2 ⟨zs, H2, I2, rz, l1, l2, q2⟩ => ⟨I2.kIn, ?_⟩
    rw [hks]
    exact run_k F hg0 hr tk hb (r.length.symm.trans l1) (rz.length.symm.trans l2) I2 r rz q2
/-- f(k = v, ..) -/
theorem se_callK0 {kws : List Keyword} {ks : List Str} (prm : List Nat) (F : FnAt X.prog X.w X.K X.mg X.base x f fd ps k m) (hg0 : X.A.guards = some []) (hr : Room k X.A) (tk : Takes X W)
    (hb : ∀ (us ws : List Value), us.length = 0 → ws.length = ks.length → bindArgs fd ⟨us, ks.zip ws⟩ = pure (ps.zip (pick prm (us ++ ws)))) (hp : prm.length = ps.length ∧ ∀ i ∈ prm, i < ks.length)
    (hkw : SK X W kws rk) (hg : Gl X x := by rfl) (hall : (backToKw pos (keywordEach kws X.env)).all (·.1.isSome) = true := by rfl) (hks : (backToKw pos (keywordEach kws X.env)).filterMap (·.1) = ks := by rfl)
    (hdb : (x == ("__debug__" : Str)) = false := by decide)
    (hpl : ((backTo pos (starEach [] X.env)).any (·.1) || (backToKw pos (keywordEach kws X.env)).any (·.1.isNone)) = false := by rfl) :
    SE X W (.Call (.Name x p) [] kws pos) (eCallK 0 ks.length prm m aNil rk) := by
  refine ⟨fun pins s σ H Q I h => ?_⟩
  obtain ⟨ι, st, σD, S, hs, g⟩ := h
  refine wpAny_Call_Name_kw (ld_glob I hg F.at_ ?_ hdb)
  refine PySem.W.callWith_KW0 (h₀ := X.base) I.ok.mod.kin F.kp hall (thn (hkw.run pos pins s σ H (fun zs H2 => zs.length = ks.length ∧ spM X.K X.mg ps.length m (pick prm zs) H2 Q (WE W σ)) I ?_) fun ws s2 ⟨zs, H2, I2, rz, l2, q2⟩ => ⟨I2.kIn, ?_⟩) hpl
  · refine ⟨ι, st, σD, S, hs, ?_⟩
    unfold eCallK aNil at g
    simp only [R.bind_ok] at g
    refine RG.step (rel' := relDs X.K) g fun es st2 ι2 H2 zs _ e2 S2 r2 g2 => ?_
    split at g2
    · rename_i hl
      refine ⟨r2.length.symm.trans hl.2, sp_of S2 (r2.pick prm) ?_ g2⟩
      have key : ∀ (l : List Nat), (∀ i ∈ l, i < es.length) → (pick l es).length = l.length := by
        intro l hl
        induction l with
        | nil => rfl
        | cons i l ih =>
          unfold pick
          rw [List.filterMap_cons_some (List.getElem?_eq_getElem (hl i List.mem_cons_self))]
          exact congrArg (· + 1) (ih fun j hj => hl j (List.mem_cons_of_mem _ hj))
      rw [key prm fun i hi => by rw [hl.2]; exact hp.2 i hi]
      exact hp.1
    · exact (show False from g2).elim
  · rw [hks]
    exact run_k F hg0 hr tk hb rfl (rz.length.symm.trans l2) I2 .nil rz q2
/-- f() -/
theorem se_call0 (F : FnAt X.prog X.w X.K X.mg X.base x f fd ps k m) (hg0 : X.A.guards = some []) (hr : Room k X.A) (hb : ∀ (us : List Value), us.length = 0 → bindArgs fd ⟨us, []⟩ = pure (ps.zip us)) (hp : ps = []) (tk : Takes X W) (hg : Gl X x := by rfl)
    (hdb : (x == ("__debug__" : Str)) = false := by decide) : SE X W (.Call (.Name x p) [] [] pos) (eCall ps.length m aNil) := by
  refine ⟨fun pins s σ H Q I h => ?_⟩
  obtain ⟨ι, st, σD, S, hs, g⟩ := h
  refine wpAny_Call_Name_kw (ld_glob I hg F.at_ ?_ hdb)
  refine PySem.W.callWith_K0 I.kIn F.kp ?_
  subst hp
  exact run_k (ks := []) (prm := []) (us := []) (ws := []) (vs := []) (zs := []) (n := 0) F hg0 hr tk (fun us ws h1 h2 => by
    cases us with
    | nil => cases ws with
      | nil => exact hb [] rfl
      | cons _ _ => cases h2
    | cons _ _ => cases h1) rfl rfl I .nil .nil (sp_of S .nil rfl g)
end
end Mi
/-! M6: a dict against what is none, by == and != (both orders). -/
namespace Mi
open PySem PySem.Spec PyProof.Rows L2
open PySem.SeqAt
open AutoSeq1 (wpAny_loadPart')
open MeetsSeq
section
variable {prog : Program} {w : World} {A : Around} {E : Value → Shared → Prop} {s : Shared}

theorem dict_eq_dec {d : Addr} {b : Value} {T : String} {Q : Value → Shared → Prop} (hd : s.TypeIs (.ref d) "dict") (hb : s.TypeIs b T) (hs : isSubtype (.type T) (.type "dict") = pure false) (hq : Q .notImplemented s) :
    wpAny (model prog w) A (call (.builtin "dict.__eq__") [.ref d, b]) Q E s := by
  refine wpAny_call_entry PySem.F.slot_dict_eq hd PySem.F.entry_dict_eq ?_ (PySem.F.args_dict_eq_2 _ _)
  show wpAny _ _ (Builtin.Dict.dictSlotArgs "__eq__" ⟨[.ref d, b], []⟩ >>= _) _ _ s
  refine wpAny_bind ?_
  unfold Builtin.Dict.dictSlotArgs
  refine wpAny_bind (wpAny_notOrdered_dict hd ?_)
  show wpAny _ _ (pure (Value.ref d, b)) _ _ s
  refine wpAny_pure ?_
  refine wpAny_bind (wpAny_isInstance (T := T) hb hs ?_)
  simp only [Bool.not_false, if_true]

  exact wpAny_bind (wpAny_rule (wpAny_pure ⟨_, rfl, hq⟩))
theorem list_eq_dict (l b : Addr) (items : Array Value) (n : Nat) (dd : Option Addr) (sl : Array (Option Value)) (ob : Obj) (hc : ob.cls = .type "dict" ∧ ∃ es ep, ob.data = .dict es ep) :
    Meets (Builtin.«list.__eq__» ⟨[.ref l, .ref b], []⟩) (fun _ R s => s.heap.get? l = some { cls := .type "list", dict := dd, data := .seq items n, slots := sl } ∧ s.heap.get? b = some ob ∧ R (.ok (.ret .notImplemented)) s) :=
  .of_wp fun prog w A R s h => by obtain ⟨hp, g, d, tk, os⟩ := s; obtain ⟨hl, hb, h⟩ := h; obtain ⟨c2, d2, dt2, s2⟩ := ob; obtain ⟨hc, es, ep, hdt⟩ := hc; simp only at hc hdt; subst hc hdt; have f1 := F.sub_dict_list; wp_walk using wpAny_loadPart' hl, wpAny_loadPart' hb; exact ⟨_, rfl, h⟩
theorem tuple_eq_dict (l b : Addr) (items : Array Value) (n : Nat) (dd : Option Addr) (sl : Array (Option Value)) (ob : Obj) (hc : ob.cls = .type "dict" ∧ ∃ es ep, ob.data = .dict es ep) :
    Meets (Builtin.«tuple.__eq__» ⟨[.ref l, .ref b], []⟩) (fun _ R s => s.heap.get? l = some { cls := .type "tuple", dict := dd, data := .seq items n, slots := sl } ∧ s.heap.get? b = some ob ∧ R (.ok (.ret .notImplemented)) s) :=
  .of_wp fun prog w A R s h => by obtain ⟨hp, g, d, tk, os⟩ := s; obtain ⟨hl, hb, h⟩ := h; obtain ⟨c2, d2, dt2, s2⟩ := ob; obtain ⟨hc, es, ep, hdt⟩ := hc; simp only at hc hdt; subst hc hdt; have f1 := F.sub_dict_tuple; wp_walk using wpAny_loadPart' hl, wpAny_loadPart' hb; exact ⟨_, rfl, h⟩
theorem bool_eq_dict (b : Bool) (l : Addr) (ob : Obj) (hc : ob.cls = .type "dict" ∧ ∃ es ep, ob.data = .dict es ep) :
    Meets (Builtin.«int.__eq__» ⟨[.bool b, .ref l], []⟩) (fun _ R s => s.heap.get? l = some ob ∧ R (.ok (.ret .notImplemented)) s) :=
  .of_wp fun prog w A R s h => by obtain ⟨hp, g, d, tk, os⟩ := s; obtain ⟨hl, h⟩ := h; obtain ⟨c2, d2, dt2, s2⟩ := ob; obtain ⟨hc, es, ep, hdt⟩ := hc; simp only at hc hdt; subst hc hdt; have f1 := F.sub_dict_int; wp_walk using wpAny_loadPart' hl, wpAny_load hl; exact ⟨_, rfl, h⟩
theorem int_eq_dict (b : Int) (u : Tok) (l : Addr) (ob : Obj) (hc : ob.cls = .type "dict" ∧ ∃ es ep, ob.data = .dict es ep) :
    Meets (Builtin.«int.__eq__» ⟨[.int b u, .ref l], []⟩) (fun _ R s => s.heap.get? l = some ob ∧ R (.ok (.ret .notImplemented)) s) :=
  .of_wp fun prog w A R s h => by obtain ⟨hp, g, d, tk, os⟩ := s; obtain ⟨hl, h⟩ := h; obtain ⟨c2, d2, dt2, s2⟩ := ob; obtain ⟨hc, es, ep, hdt⟩ := hc; simp only at hc hdt; subst hc hdt; have f1 := F.sub_dict_int; wp_walk using wpAny_loadPart' hl, wpAny_load hl; exact ⟨_, rfl, h⟩
theorem str_eq_dict (b : Str) (u : Tok) (l : Addr) (ob : Obj) (hc : ob.cls = .type "dict" ∧ ∃ es ep, ob.data = .dict es ep) :
    Meets (Builtin.«str.__eq__» ⟨[.str b u, .ref l], []⟩) (fun _ R s => s.heap.get? l = some ob ∧ R (.ok (.ret .notImplemented)) s) :=
  .of_wp fun prog w A R s h => by obtain ⟨hp, g, d, tk, os⟩ := s; obtain ⟨hl, h⟩ := h; obtain ⟨c2, d2, dt2, s2⟩ := ob; obtain ⟨hc, es, ep, hdt⟩ := hc; simp only at hc hdt; subst hc hdt; have f1 := F.sub_dict_str; wp_walk using wpAny_loadPart' hl, wpAny_load hl; exact ⟨_, rfl, h⟩
theorem none_eq_dict (l : Addr) : Gives (Builtin.«NoneType.__eq__» ⟨[.none, .ref l], []⟩) (.val (Value.notImplemented)) :=
  .of_wp fun M A E s Q h => by obtain ⟨hp, g, d, tk, os⟩ := s; wp_walk; exact ⟨_, rfl, h⟩

theorem dict_ne_dec {d : Addr} {b : Value} {T : String} {Q : Value → Shared → Prop} (hd : s.TypeIs (.ref d) "dict") (hb : s.TypeIs b T) (hs : isSubtype (.type T) (.type "dict") = pure false) (hq : Q .notImplemented s) :
    wpAny (model prog w) A (call (.builtin "dict.__ne__") [.ref d, b]) Q E s := by
  refine wpAny_call_entry PySem.F.slot_dict_ne hd PySem.F.entry_dict_ne ?_ (PySem.F.args_dict_ne_2 _ _)
  show wpAny _ _ (Builtin.Dict.dictSlotArgs "__ne__" ⟨[.ref d, b], []⟩ >>= _) _ _ s
  refine wpAny_bind ?_
  unfold Builtin.Dict.dictSlotArgs
  refine wpAny_bind (wpAny_notOrdered_dict hd ?_)
  show wpAny _ _ (pure (Value.ref d, b)) _ _ s
  refine wpAny_pure ?_
  refine wpAny_bind (wpAny_isInstance (T := T) hb hs ?_)
  simp only [Bool.not_false, if_true]

  exact wpAny_bind (wpAny_rule (wpAny_pure ⟨_, rfl, hq⟩))
theorem list_ne_dict (l b : Addr) (items : Array Value) (n : Nat) (dd : Option Addr) (sl : Array (Option Value)) (ob : Obj) (hc : ob.cls = .type "dict" ∧ ∃ es ep, ob.data = .dict es ep) :
    Meets (Builtin.«list.__ne__» ⟨[.ref l, .ref b], []⟩) (fun _ R s => s.heap.get? l = some { cls := .type "list", dict := dd, data := .seq items n, slots := sl } ∧ s.heap.get? b = some ob ∧ R (.ok (.ret .notImplemented)) s) :=
  .of_wp fun prog w A R s h => by obtain ⟨hp, g, d, tk, os⟩ := s; obtain ⟨hl, hb, h⟩ := h; obtain ⟨c2, d2, dt2, s2⟩ := ob; obtain ⟨hc, es, ep, hdt⟩ := hc; simp only at hc hdt; subst hc hdt; have f1 := F.sub_dict_list; wp_walk using wpAny_loadPart' hl, wpAny_loadPart' hb; exact ⟨_, rfl, h⟩
theorem tuple_ne_dict (l b : Addr) (items : Array Value) (n : Nat) (dd : Option Addr) (sl : Array (Option Value)) (ob : Obj) (hc : ob.cls = .type "dict" ∧ ∃ es ep, ob.data = .dict es ep) :
    Meets (Builtin.«tuple.__ne__» ⟨[.ref l, .ref b], []⟩) (fun _ R s => s.heap.get? l = some { cls := .type "tuple", dict := dd, data := .seq items n, slots := sl } ∧ s.heap.get? b = some ob ∧ R (.ok (.ret .notImplemented)) s) :=
  .of_wp fun prog w A R s h => by obtain ⟨hp, g, d, tk, os⟩ := s; obtain ⟨hl, hb, h⟩ := h; obtain ⟨c2, d2, dt2, s2⟩ := ob; obtain ⟨hc, es, ep, hdt⟩ := hc; simp only at hc hdt; subst hc hdt; have f1 := F.sub_dict_tuple; wp_walk using wpAny_loadPart' hl, wpAny_loadPart' hb; exact ⟨_, rfl, h⟩
theorem bool_ne_dict (b : Bool) (l : Addr) (ob : Obj) (hc : ob.cls = .type "dict" ∧ ∃ es ep, ob.data = .dict es ep) :
    Meets (Builtin.«int.__ne__» ⟨[.bool b, .ref l], []⟩) (fun _ R s => s.heap.get? l = some ob ∧ R (.ok (.ret .notImplemented)) s) :=
  .of_wp fun prog w A R s h => by obtain ⟨hp, g, d, tk, os⟩ := s; obtain ⟨hl, h⟩ := h; obtain ⟨c2, d2, dt2, s2⟩ := ob; obtain ⟨hc, es, ep, hdt⟩ := hc; simp only at hc hdt; subst hc hdt; have f1 := F.sub_dict_int; wp_walk using wpAny_loadPart' hl, wpAny_load hl; exact ⟨_, rfl, h⟩
theorem int_ne_dict (b : Int) (u : Tok) (l : Addr) (ob : Obj) (hc : ob.cls = .type "dict" ∧ ∃ es ep, ob.data = .dict es ep) :
    Meets (Builtin.«int.__ne__» ⟨[.int b u, .ref l], []⟩) (fun _ R s => s.heap.get? l = some ob ∧ R (.ok (.ret .notImplemented)) s) :=
  .of_wp fun prog w A R s h => by obtain ⟨hp, g, d, tk, os⟩ := s; obtain ⟨hl, h⟩ := h; obtain ⟨c2, d2, dt2, s2⟩ := ob; obtain ⟨hc, es, ep, hdt⟩ := hc; simp only at hc hdt; subst hc hdt; have f1 := F.sub_dict_int; wp_walk using wpAny_loadPart' hl, wpAny_load hl; exact ⟨_, rfl, h⟩
theorem str_ne_dict (b : Str) (u : Tok) (l : Addr) (ob : Obj) (hc : ob.cls = .type "dict" ∧ ∃ es ep, ob.data = .dict es ep) :
    Meets (Builtin.«str.__ne__» ⟨[.str b u, .ref l], []⟩) (fun _ R s => s.heap.get? l = some ob ∧ R (.ok (.ret .notImplemented)) s) :=
  .of_wp fun prog w A R s h => by obtain ⟨hp, g, d, tk, os⟩ := s; obtain ⟨hl, h⟩ := h; obtain ⟨c2, d2, dt2, s2⟩ := ob; obtain ⟨hc, es, ep, hdt⟩ := hc; simp only at hc hdt; subst hc hdt; have f1 := F.sub_dict_str; wp_walk using wpAny_loadPart' hl, wpAny_load hl; exact ⟨_, rfl, h⟩
theorem none_ne_dict (l : Addr) : Gives (Builtin.«NoneType.__ne__» ⟨[.none, .ref l], []⟩) (.val (Value.notImplemented)) :=
  .of_wp fun M A E s Q h => by obtain ⟨hp, g, d, tk, os⟩ := s; wp_walk; exact ⟨_, rfl, h⟩
end
section
variable {A : Around} {s : Shared} {d : Addr} {od : Obj}

theorem rcat_dict_none (hd : s.heap.get? d = some od) (hdc : od.cls = .type "dict" ∧ ∃ es ep, od.data = .dict es ep) (hu : A.units < cLine) : RcAt A s (.ref d) .none false := fun prog w E Q h =>
  rc_eq_decline_or (k := false) ⟨od, hd, hdc.1⟩ rfl (by decide) F.sub_NoneType_dict F.slot_dict_eq F.slot_NoneType_eq_refl
    (fun _ hq => dict_eq_dec ⟨od, hd, hdc.1⟩ (T := "NoneType") rfl F.sub_NoneType_dict hq)
    (fun _ hq => call_gives F.slot_NoneType_eq_refl rfl F.entry_NoneType_eq (F.args_NoneType_eq_2 _ _) (none_eq_dict d) hq)
    (fun _ hq => wpAny_of_eq (rfl : isSame (.ref d) .none = pure false) hq) (.inr hu) h
theorem rcat_none_dict (hd : s.heap.get? d = some od) (hdc : od.cls = .type "dict" ∧ ∃ es ep, od.data = .dict es ep) (hu : A.units < cLine) : RcAt A s .none (.ref d) false := fun prog w E Q h =>
  rc_eq_decline_or (k := false) rfl ⟨od, hd, hdc.1⟩ (by decide) F.sub_dict_NoneType F.slot_NoneType_eq F.slot_dict_eq_refl
    (fun _ hq => call_gives F.slot_NoneType_eq rfl F.entry_NoneType_eq (F.args_NoneType_eq_2 _ _) (none_eq_dict d) hq)
    (fun _ hq => dict_eq_dec ⟨od, hd, hdc.1⟩ (T := "NoneType") rfl F.sub_NoneType_dict hq)
    (fun _ hq => wpAny_of_eq (rfl : isSame .none (.ref d) = pure false) hq) (.inr hu) h

theorem rcat_dict_bool (b : Bool) (hd : s.heap.get? d = some od) (hdc : od.cls = .type "dict" ∧ ∃ es ep, od.data = .dict es ep) (hu : A.units < cLine) : RcAt A s (.ref d) (.bool b) false := fun prog w E Q h =>
  rc_eq_decline_or (k := false) ⟨od, hd, hdc.1⟩ rfl (by decide) F.sub_bool_dict F.slot_dict_eq F.slot_bool_eq_refl
    (fun _ hq => dict_eq_dec ⟨od, hd, hdc.1⟩ (T := "bool") rfl F.sub_bool_dict hq)
    (fun _ hq => call_meets F.slot_bool_eq_refl rfl F.entry_int_eq (F.args_int_eq_2 _ _) (bool_eq_dict b d _ hdc) ⟨hd, hq⟩)
    (fun _ hq => wpAny_of_eq (rfl : isSame (.ref d) (.bool b) = pure false) hq) (.inr hu) h
theorem rcat_bool_dict (b : Bool) (hd : s.heap.get? d = some od) (hdc : od.cls = .type "dict" ∧ ∃ es ep, od.data = .dict es ep) (hu : A.units < cLine) : RcAt A s (.bool b) (.ref d) false := fun prog w E Q h =>
  rc_eq_decline_or (k := false) rfl ⟨od, hd, hdc.1⟩ (by decide) F.sub_dict_bool F.slot_bool_eq F.slot_dict_eq_refl
    (fun _ hq => call_meets F.slot_bool_eq rfl F.entry_int_eq (F.args_int_eq_2 _ _) (bool_eq_dict b d _ hdc) ⟨hd, hq⟩)
    (fun _ hq => dict_eq_dec ⟨od, hd, hdc.1⟩ (T := "bool") rfl F.sub_bool_dict hq)
    (fun _ hq => wpAny_of_eq (rfl : isSame (.bool b) (.ref d) = pure false) hq) (.inr hu) h

theorem rcat_dict_int (b : Int) (u : Tok) (hd : s.heap.get? d = some od) (hdc : od.cls = .type "dict" ∧ ∃ es ep, od.data = .dict es ep) (hu : A.units < cLine) : RcAt A s (.ref d) (.int b u) false := fun prog w E Q h =>
  rc_eq_decline_or (k := false) ⟨od, hd, hdc.1⟩ (typeIs_int s b u) (by decide) F.sub_int_dict F.slot_dict_eq F.slot_int_eq_refl
    (fun _ hq => dict_eq_dec ⟨od, hd, hdc.1⟩ (T := "int") (typeIs_int s b u) F.sub_int_dict hq)
    (fun _ hq => call_meets F.slot_int_eq_refl (typeIs_int s b u) F.entry_int_eq (F.args_int_eq_2 _ _) (int_eq_dict b u d _ hdc) ⟨hd, hq⟩)
    (fun _ hq => wpAny_of_eq (rfl : isSame (.ref d) (.int b u) = pure false) hq) (.inr hu) h
theorem rcat_int_dict (b : Int) (u : Tok) (hd : s.heap.get? d = some od) (hdc : od.cls = .type "dict" ∧ ∃ es ep, od.data = .dict es ep) (hu : A.units < cLine) : RcAt A s (.int b u) (.ref d) false := fun prog w E Q h =>
  rc_eq_decline_or (k := false) (typeIs_int s b u) ⟨od, hd, hdc.1⟩ (by decide) F.sub_dict_int F.slot_int_eq F.slot_dict_eq_refl
    (fun _ hq => call_meets F.slot_int_eq (typeIs_int s b u) F.entry_int_eq (F.args_int_eq_2 _ _) (int_eq_dict b u d _ hdc) ⟨hd, hq⟩)
    (fun _ hq => dict_eq_dec ⟨od, hd, hdc.1⟩ (T := "int") (typeIs_int s b u) F.sub_int_dict hq)
    (fun _ hq => wpAny_of_eq (rfl : isSame (.int b u) (.ref d) = pure false) hq) (.inr hu) h

theorem rcat_dict_str (b : Str) (u : Tok) (hd : s.heap.get? d = some od) (hdc : od.cls = .type "dict" ∧ ∃ es ep, od.data = .dict es ep) (hu : A.units < cLine) : RcAt A s (.ref d) (.str b u) false := fun prog w E Q h =>
  rc_eq_decline_or (k := false) ⟨od, hd, hdc.1⟩ (typeIs_str s b u) (by decide) F.sub_str_dict F.slot_dict_eq F.slot_str_eq_refl
    (fun _ hq => dict_eq_dec ⟨od, hd, hdc.1⟩ (T := "str") (typeIs_str s b u) F.sub_str_dict hq)
    (fun _ hq => call_meets F.slot_str_eq_refl (typeIs_str s b u) F.entry_str_eq (F.args_str_eq_2 _ _) (str_eq_dict b u d _ hdc) ⟨hd, hq⟩)
    (fun _ hq => wpAny_of_eq (rfl : isSame (.ref d) (.str b u) = pure false) hq) (.inr hu) h
theorem rcat_str_dict (b : Str) (u : Tok) (hd : s.heap.get? d = some od) (hdc : od.cls = .type "dict" ∧ ∃ es ep, od.data = .dict es ep) (hu : A.units < cLine) : RcAt A s (.str b u) (.ref d) false := fun prog w E Q h =>
  rc_eq_decline_or (k := false) (typeIs_str s b u) ⟨od, hd, hdc.1⟩ (by decide) F.sub_dict_str F.slot_str_eq F.slot_dict_eq_refl
    (fun _ hq => call_meets F.slot_str_eq (typeIs_str s b u) F.entry_str_eq (F.args_str_eq_2 _ _) (str_eq_dict b u d _ hdc) ⟨hd, hq⟩)
    (fun _ hq => dict_eq_dec ⟨od, hd, hdc.1⟩ (T := "str") (typeIs_str s b u) F.sub_str_dict hq)
    (fun _ hq => wpAny_of_eq (rfl : isSame (.str b u) (.ref d) = pure false) hq) (.inr hu) h

theorem rcat_dict_list {l : Addr} {items : Array Value} (hl : s.heap.IsList l items) (hd : s.heap.get? d = some od) (hdc : od.cls = .type "dict" ∧ ∃ es ep, od.data = .dict es ep) (hu : A.units < cLine) : RcAt A s (.ref d) (.ref l) false := fun prog w E Q h => by
  obtain ⟨⟨cls, dd, data, sl⟩, ho, hc, n, hdt⟩ := id hl
  simp only at hc hdt
  subst hc hdt
  have hne : d ≠ l := fun e => by rw [e, ho] at hd; cases hd; simp at hdc
  exact rc_eq_decline_or (k := false) ⟨od, hd, hdc.1⟩ ⟨_, ho, rfl⟩ (by decide) F.sub_list_dict F.slot_dict_eq F.slot_list_eq_refl
    (fun _ hq => dict_eq_dec ⟨od, hd, hdc.1⟩ (T := "list") ⟨_, ho, rfl⟩ F.sub_list_dict hq)
    (fun _ hq => call_meets F.slot_list_eq_refl ⟨_, ho, rfl⟩ F.entry_list_eq (F.args_list_eq_2 _ _) (list_eq_dict l d items n dd sl od hdc) ⟨ho, hd, hq⟩)
    (fun _ hq => wpAny_isSame_ref_other hne hd ho (by rw [hdc.1]; simp) hq) (.inr hu) h
theorem rcat_list_dict {l : Addr} {items : Array Value} (hl : s.heap.IsList l items) (hd : s.heap.get? d = some od) (hdc : od.cls = .type "dict" ∧ ∃ es ep, od.data = .dict es ep) (hu : A.units < cLine) : RcAt A s (.ref l) (.ref d) false := fun prog w E Q h => by
  obtain ⟨⟨cls, dd, data, sl⟩, ho, hc, n, hdt⟩ := id hl
  simp only at hc hdt
  subst hc hdt
  have hne : l ≠ d := fun e => by rw [← e, ho] at hd; cases hd; simp at hdc
  exact rc_eq_decline_or (k := false) ⟨_, ho, rfl⟩ ⟨od, hd, hdc.1⟩ (by decide) F.sub_dict_list F.slot_list_eq F.slot_dict_eq_refl
    (fun _ hq => call_meets F.slot_list_eq ⟨_, ho, rfl⟩ F.entry_list_eq (F.args_list_eq_2 _ _) (list_eq_dict l d items n dd sl od hdc) ⟨ho, hd, hq⟩)
    (fun _ hq => dict_eq_dec ⟨od, hd, hdc.1⟩ (T := "list") ⟨_, ho, rfl⟩ F.sub_list_dict hq)
    (fun _ hq => wpAny_isSame_ref_other' hne ho hd (by rw [hdc.1]; simp) hq) (.inr hu) h

theorem rcat_dict_tuple {l : Addr} {items : Array Value} (hl : s.heap.IsTuple l items) (hd : s.heap.get? d = some od) (hdc : od.cls = .type "dict" ∧ ∃ es ep, od.data = .dict es ep) (hu : A.units < cLine) : RcAt A s (.ref d) (.ref l) false := fun prog w E Q h => by
  obtain ⟨⟨cls, dd, data, sl⟩, ho, hc, n, hdt⟩ := id hl
  simp only at hc hdt
  subst hc hdt
  have hne : d ≠ l := fun e => by rw [e, ho] at hd; cases hd; simp at hdc
  exact rc_eq_decline_or (k := false) ⟨od, hd, hdc.1⟩ ⟨_, ho, rfl⟩ (by decide) F.sub_tuple_dict F.slot_dict_eq F.slot_tuple_eq_refl
    (fun _ hq => dict_eq_dec ⟨od, hd, hdc.1⟩ (T := "tuple") ⟨_, ho, rfl⟩ F.sub_tuple_dict hq)
    (fun _ hq => call_meets F.slot_tuple_eq_refl ⟨_, ho, rfl⟩ F.entry_tuple_eq (F.args_tuple_eq_2 _ _) (tuple_eq_dict l d items n dd sl od hdc) ⟨ho, hd, hq⟩)
    (fun _ hq => wpAny_isSame_ref_other hne hd ho (by rw [hdc.1]; simp) hq) (.inr hu) h
theorem rcat_tuple_dict {l : Addr} {items : Array Value} (hl : s.heap.IsTuple l items) (hd : s.heap.get? d = some od) (hdc : od.cls = .type "dict" ∧ ∃ es ep, od.data = .dict es ep) (hu : A.units < cLine) : RcAt A s (.ref l) (.ref d) false := fun prog w E Q h => by
  obtain ⟨⟨cls, dd, data, sl⟩, ho, hc, n, hdt⟩ := id hl
  simp only at hc hdt
  subst hc hdt
  have hne : l ≠ d := fun e => by rw [← e, ho] at hd; cases hd; simp at hdc
  exact rc_eq_decline_or (k := false) ⟨_, ho, rfl⟩ ⟨od, hd, hdc.1⟩ (by decide) F.sub_dict_tuple F.slot_tuple_eq F.slot_dict_eq_refl
    (fun _ hq => call_meets F.slot_tuple_eq ⟨_, ho, rfl⟩ F.entry_tuple_eq (F.args_tuple_eq_2 _ _) (tuple_eq_dict l d items n dd sl od hdc) ⟨ho, hd, hq⟩)
    (fun _ hq => dict_eq_dec ⟨od, hd, hdc.1⟩ (T := "tuple") ⟨_, ho, rfl⟩ F.sub_tuple_dict hq)
    (fun _ hq => wpAny_isSame_ref_other' hne ho hd (by rw [hdc.1]; simp) hq) (.inr hu) h

theorem rcneat_dict_none (hd : s.heap.get? d = some od) (hdc : od.cls = .type "dict" ∧ ∃ es ep, od.data = .dict es ep) (hu : A.units < cLine) : RcNeAt A s (.ref d) .none true := fun prog w E Q h =>
  rc_ne_decline_or (k := false) ⟨od, hd, hdc.1⟩ rfl (by decide) F.sub_NoneType_dict F.slot_dict_ne F.slot_NoneType_ne_refl
    (fun _ hq => dict_ne_dec ⟨od, hd, hdc.1⟩ (T := "NoneType") rfl F.sub_NoneType_dict hq)
    (fun _ hq => call_gives F.slot_NoneType_ne_refl rfl F.entry_NoneType_ne (F.args_NoneType_ne_2 _ _) (none_ne_dict d) hq)
    (fun _ hq => wpAny_of_eq (rfl : isSame (.ref d) .none = pure false) hq) (.inr hu) h
theorem rcneat_none_dict (hd : s.heap.get? d = some od) (hdc : od.cls = .type "dict" ∧ ∃ es ep, od.data = .dict es ep) (hu : A.units < cLine) : RcNeAt A s .none (.ref d) true := fun prog w E Q h =>
  rc_ne_decline_or (k := false) rfl ⟨od, hd, hdc.1⟩ (by decide) F.sub_dict_NoneType F.slot_NoneType_ne F.slot_dict_ne_refl
    (fun _ hq => call_gives F.slot_NoneType_ne rfl F.entry_NoneType_ne (F.args_NoneType_ne_2 _ _) (none_ne_dict d) hq)
    (fun _ hq => dict_ne_dec ⟨od, hd, hdc.1⟩ (T := "NoneType") rfl F.sub_NoneType_dict hq)
    (fun _ hq => wpAny_of_eq (rfl : isSame .none (.ref d) = pure false) hq) (.inr hu) h

theorem rcneat_dict_bool (b : Bool) (hd : s.heap.get? d = some od) (hdc : od.cls = .type "dict" ∧ ∃ es ep, od.data = .dict es ep) (hu : A.units < cLine) : RcNeAt A s (.ref d) (.bool b) true := fun prog w E Q h =>
  rc_ne_decline_or (k := false) ⟨od, hd, hdc.1⟩ rfl (by decide) F.sub_bool_dict F.slot_dict_ne F.slot_bool_ne_refl
    (fun _ hq => dict_ne_dec ⟨od, hd, hdc.1⟩ (T := "bool") rfl F.sub_bool_dict hq)
    (fun _ hq => call_meets F.slot_bool_ne_refl rfl F.entry_int_ne (F.args_int_ne_2 _ _) (bool_ne_dict b d _ hdc) ⟨hd, hq⟩)
    (fun _ hq => wpAny_of_eq (rfl : isSame (.ref d) (.bool b) = pure false) hq) (.inr hu) h
theorem rcneat_bool_dict (b : Bool) (hd : s.heap.get? d = some od) (hdc : od.cls = .type "dict" ∧ ∃ es ep, od.data = .dict es ep) (hu : A.units < cLine) : RcNeAt A s (.bool b) (.ref d) true := fun prog w E Q h =>
  rc_ne_decline_or (k := false) rfl ⟨od, hd, hdc.1⟩ (by decide) F.sub_dict_bool F.slot_bool_ne F.slot_dict_ne_refl
    (fun _ hq => call_meets F.slot_bool_ne rfl F.entry_int_ne (F.args_int_ne_2 _ _) (bool_ne_dict b d _ hdc) ⟨hd, hq⟩)
    (fun _ hq => dict_ne_dec ⟨od, hd, hdc.1⟩ (T := "bool") rfl F.sub_bool_dict hq)
    (fun _ hq => wpAny_of_eq (rfl : isSame (.bool b) (.ref d) = pure false) hq) (.inr hu) h

theorem rcneat_dict_int (b : Int) (u : Tok) (hd : s.heap.get? d = some od) (hdc : od.cls = .type "dict" ∧ ∃ es ep, od.data = .dict es ep) (hu : A.units < cLine) : RcNeAt A s (.ref d) (.int b u) true := fun prog w E Q h =>
  rc_ne_decline_or (k := false) ⟨od, hd, hdc.1⟩ (typeIs_int s b u) (by decide) F.sub_int_dict F.slot_dict_ne F.slot_int_ne_refl
    (fun _ hq => dict_ne_dec ⟨od, hd, hdc.1⟩ (T := "int") (typeIs_int s b u) F.sub_int_dict hq)
    (fun _ hq => call_meets F.slot_int_ne_refl (typeIs_int s b u) F.entry_int_ne (F.args_int_ne_2 _ _) (int_ne_dict b u d _ hdc) ⟨hd, hq⟩)
    (fun _ hq => wpAny_of_eq (rfl : isSame (.ref d) (.int b u) = pure false) hq) (.inr hu) h
theorem rcneat_int_dict (b : Int) (u : Tok) (hd : s.heap.get? d = some od) (hdc : od.cls = .type "dict" ∧ ∃ es ep, od.data = .dict es ep) (hu : A.units < cLine) : RcNeAt A s (.int b u) (.ref d) true := fun prog w E Q h =>
  rc_ne_decline_or (k := false) (typeIs_int s b u) ⟨od, hd, hdc.1⟩ (by decide) F.sub_dict_int F.slot_int_ne F.slot_dict_ne_refl
    (fun _ hq => call_meets F.slot_int_ne (typeIs_int s b u) F.entry_int_ne (F.args_int_ne_2 _ _) (int_ne_dict b u d _ hdc) ⟨hd, hq⟩)
    (fun _ hq => dict_ne_dec ⟨od, hd, hdc.1⟩ (T := "int") (typeIs_int s b u) F.sub_int_dict hq)
    (fun _ hq => wpAny_of_eq (rfl : isSame (.int b u) (.ref d) = pure false) hq) (.inr hu) h

theorem rcneat_dict_str (b : Str) (u : Tok) (hd : s.heap.get? d = some od) (hdc : od.cls = .type "dict" ∧ ∃ es ep, od.data = .dict es ep) (hu : A.units < cLine) : RcNeAt A s (.ref d) (.str b u) true := fun prog w E Q h =>
  rc_ne_decline_or (k := false) ⟨od, hd, hdc.1⟩ (typeIs_str s b u) (by decide) F.sub_str_dict F.slot_dict_ne F.slot_str_ne_refl
    (fun _ hq => dict_ne_dec ⟨od, hd, hdc.1⟩ (T := "str") (typeIs_str s b u) F.sub_str_dict hq)
    (fun _ hq => call_meets F.slot_str_ne_refl (typeIs_str s b u) F.entry_str_ne (F.args_str_ne_2 _ _) (str_ne_dict b u d _ hdc) ⟨hd, hq⟩)
    (fun _ hq => wpAny_of_eq (rfl : isSame (.ref d) (.str b u) = pure false) hq) (.inr hu) h
theorem rcneat_str_dict (b : Str) (u : Tok) (hd : s.heap.get? d = some od) (hdc : od.cls = .type "dict" ∧ ∃ es ep, od.data = .dict es ep) (hu : A.units < cLine) : RcNeAt A s (.str b u) (.ref d) true := fun prog w E Q h =>
  rc_ne_decline_or (k := false) (typeIs_str s b u) ⟨od, hd, hdc.1⟩ (by decide) F.sub_dict_str F.slot_str_ne F.slot_dict_ne_refl
    (fun _ hq => call_meets F.slot_str_ne (typeIs_str s b u) F.entry_str_ne (F.args_str_ne_2 _ _) (str_ne_dict b u d _ hdc) ⟨hd, hq⟩)
    (fun _ hq => dict_ne_dec ⟨od, hd, hdc.1⟩ (T := "str") (typeIs_str s b u) F.sub_str_dict hq)
    (fun _ hq => wpAny_of_eq (rfl : isSame (.str b u) (.ref d) = pure false) hq) (.inr hu) h

theorem rcneat_dict_list {l : Addr} {items : Array Value} (hl : s.heap.IsList l items) (hd : s.heap.get? d = some od) (hdc : od.cls = .type "dict" ∧ ∃ es ep, od.data = .dict es ep) (hu : A.units < cLine) : RcNeAt A s (.ref d) (.ref l) true := fun prog w E Q h => by
  obtain ⟨⟨cls, dd, data, sl⟩, ho, hc, n, hdt⟩ := id hl
  simp only at hc hdt
  subst hc hdt
  have hne : d ≠ l := fun e => by rw [e, ho] at hd; cases hd; simp at hdc
  exact rc_ne_decline_or (k := false) ⟨od, hd, hdc.1⟩ ⟨_, ho, rfl⟩ (by decide) F.sub_list_dict F.slot_dict_ne F.slot_list_ne_refl
    (fun _ hq => dict_ne_dec ⟨od, hd, hdc.1⟩ (T := "list") ⟨_, ho, rfl⟩ F.sub_list_dict hq)
    (fun _ hq => call_meets F.slot_list_ne_refl ⟨_, ho, rfl⟩ F.entry_list_ne (F.args_list_ne_2 _ _) (list_ne_dict l d items n dd sl od hdc) ⟨ho, hd, hq⟩)
    (fun _ hq => wpAny_isSame_ref_other hne hd ho (by rw [hdc.1]; simp) hq) (.inr hu) h
theorem rcneat_list_dict {l : Addr} {items : Array Value} (hl : s.heap.IsList l items) (hd : s.heap.get? d = some od) (hdc : od.cls = .type "dict" ∧ ∃ es ep, od.data = .dict es ep) (hu : A.units < cLine) : RcNeAt A s (.ref l) (.ref d) true := fun prog w E Q h => by
  obtain ⟨⟨cls, dd, data, sl⟩, ho, hc, n, hdt⟩ := id hl
  simp only at hc hdt
  subst hc hdt
  have hne : l ≠ d := fun e => by rw [← e, ho] at hd; cases hd; simp at hdc
  exact rc_ne_decline_or (k := false) ⟨_, ho, rfl⟩ ⟨od, hd, hdc.1⟩ (by decide) F.sub_dict_list F.slot_list_ne F.slot_dict_ne_refl
    (fun _ hq => call_meets F.slot_list_ne ⟨_, ho, rfl⟩ F.entry_list_ne (F.args_list_ne_2 _ _) (list_ne_dict l d items n dd sl od hdc) ⟨ho, hd, hq⟩)
    (fun _ hq => dict_ne_dec ⟨od, hd, hdc.1⟩ (T := "list") ⟨_, ho, rfl⟩ F.sub_list_dict hq)
    (fun _ hq => wpAny_isSame_ref_other' hne ho hd (by rw [hdc.1]; simp) hq) (.inr hu) h

theorem rcneat_dict_tuple {l : Addr} {items : Array Value} (hl : s.heap.IsTuple l items) (hd : s.heap.get? d = some od) (hdc : od.cls = .type "dict" ∧ ∃ es ep, od.data = .dict es ep) (hu : A.units < cLine) : RcNeAt A s (.ref d) (.ref l) true := fun prog w E Q h => by
  obtain ⟨⟨cls, dd, data, sl⟩, ho, hc, n, hdt⟩ := id hl
  simp only at hc hdt
  subst hc hdt
  have hne : d ≠ l := fun e => by rw [e, ho] at hd; cases hd; simp at hdc
  exact rc_ne_decline_or (k := false) ⟨od, hd, hdc.1⟩ ⟨_, ho, rfl⟩ (by decide) F.sub_tuple_dict F.slot_dict_ne F.slot_tuple_ne_refl
    (fun _ hq => dict_ne_dec ⟨od, hd, hdc.1⟩ (T := "tuple") ⟨_, ho, rfl⟩ F.sub_tuple_dict hq)
    (fun _ hq => call_meets F.slot_tuple_ne_refl ⟨_, ho, rfl⟩ F.entry_tuple_ne (F.args_tuple_ne_2 _ _) (tuple_ne_dict l d items n dd sl od hdc) ⟨ho, hd, hq⟩)
    (fun _ hq => wpAny_isSame_ref_other hne hd ho (by rw [hdc.1]; simp) hq) (.inr hu) h
theorem rcneat_tuple_dict {l : Addr} {items : Array Value} (hl : s.heap.IsTuple l items) (hd : s.heap.get? d = some od) (hdc : od.cls = .type "dict" ∧ ∃ es ep, od.data = .dict es ep) (hu : A.units < cLine) : RcNeAt A s (.ref l) (.ref d) true := fun prog w E Q h => by
  obtain ⟨⟨cls, dd, data, sl⟩, ho, hc, n, hdt⟩ := id hl
  simp only at hc hdt
  subst hc hdt
  have hne : l ≠ d := fun e => by rw [← e, ho] at hd; cases hd; simp at hdc
  exact rc_ne_decline_or (k := false) ⟨_, ho, rfl⟩ ⟨od, hd, hdc.1⟩ (by decide) F.sub_dict_tuple F.slot_tuple_ne F.slot_dict_ne_refl
    (fun _ hq => call_meets F.slot_tuple_ne ⟨_, ho, rfl⟩ F.entry_tuple_ne (F.args_tuple_ne_2 _ _) (tuple_ne_dict l d items n dd sl od hdc) ⟨ho, hd, hq⟩)
    (fun _ hq => dict_ne_dec ⟨od, hd, hdc.1⟩ (T := "tuple") ⟨_, ho, rfl⟩ F.sub_tuple_dict hq)
    (fun _ hq => wpAny_isSame_ref_other' hne ho hd (by rw [hdc.1]; simp) hq) (.inr hu) h
end
end Mi
/-! M7: == and != of data at any depth. -/
namespace Mi
open PySem PySem.Spec PyProof.Rows L2
open PySem.SeqAt

section
variable {X : Cx} {pins : List (Addr × Obj)} {σ : L2.St} {H : Hp} {s : Shared} {ι : Nat → Addr} {st : Store}
/-- an object of the module is not tracked -/
theorem kfree (I : Inv X pins σ H s) {a : Addr} {o : Obj} (h : X.K.lookup a = some o) : H a = none := (I.bs a o (I.ok.mod.kin a o h)).2
theorem sim_at (S : Sim X.K ι st H) {i : Nat} (h : i < st.length) : ∃ u, H (ι i) = some u ∧ (∀ xs, u ≠ .tup xs) ∧ (∀ ob v, u ≠ .frz ob v) := (S.ok i st[i] (List.getElem?_eq_getElem h)).mut
theorem not_tup_loc (I : Inv X pins σ H s) (S : Sim X.K ι st H) {i : Nat} (h : i < st.length) {vs : List V} (t : SqT X.K H (ι i) vs) : False := by
  obtain ⟨u, hu, n1, n2⟩ := sim_at S h
  rcases t with (t | ⟨o, t⟩) | ⟨o, its, n, t, _⟩
  · rw [hu] at t; cases t; exact n1 _ rfl
  · rw [hu] at t; cases t; exact n2 _ _ rfl
  · rw [kfree I t] at hu; cases hu
theorem not_scr_loc (I : Inv X pins σ H s) (S : Sim X.K ι st H) {i : Nat} (h : i < st.length) {vs : List V} (t : FzL X.K H (ι i) vs) : False := by
  obtain ⟨u, hu, n1, n2⟩ := sim_at S h
  rcases t with ⟨o, t⟩ | ⟨o, its, n, t, _⟩
  · rw [hu] at t; cases t; exact n2 _ _ rfl
  · rw [kfree I t] at hu; cases hu
theorem not_tup_scr (I : Inv X pins σ H s) {a : Addr} {vs ws : List V} (t : SqT X.K H a vs) (z : FzL X.K H a ws) : False := by
  obtain ⟨its, _, ⟨o, ho, hc, _⟩, _⟩ := I.tuple t
  obtain ⟨its2, _, p, _⟩ := I.list z.sq
  obtain ⟨o2, ho2, hc2, _⟩ := p.isList
  rw [ho] at ho2
  cases ho2
  rw [hc] at hc2
  exact absurd hc2 (by simp)
theorem not_fn_tup (I : Inv X pins σ H s) {a : Addr} {x : Str} {vs : List V} (f : FnV X.K x a) (t : SqT X.K H a vs) : False := by
  obtain ⟨o, fd, h1, h2, h3, h4⟩ := f
  rcases t with (t | ⟨o, t⟩) | ⟨o2, its, n, t, hc, _⟩
  · rw [kfree I h1] at t; cases t
  · rw [kfree I h1] at t; cases t
  · rw [h1] at t; cases t; rw [h2] at hc; exact absurd hc (by simp)
theorem not_fn_scr (I : Inv X pins σ H s) {a : Addr} {x : Str} {vs : List V} (f : FnV X.K x a) (t : FzL X.K H a vs) : False := by
  obtain ⟨o, fd, h1, h2, h3, h4⟩ := f
  rcases t with ⟨o, t⟩ | ⟨o2, its, n, t, hc, _⟩
  · rw [kfree I h1] at t; cases t
  · rw [h1] at t; cases t; rw [h2] at hc; exact absurd hc (by simp)
theorem not_fn_loc (I : Inv X pins σ H s) (S : Sim X.K ι st H) {i : Nat} (h : i < st.length) {x : Str} (f : FnV X.K x (ι i)) : False := by
  obtain ⟨u, hu, n1, n2⟩ := sim_at S h
  obtain ⟨o, fd, h1, h2, h3, h4⟩ := f
  rw [kfree I h1] at hu; cases hu
theorem fn_inj {K : PySem.W.Frag} {a : Addr} {x y : Str} (f : FnV K x a) (g : FnV K y a) : x = y := by
  obtain ⟨o, fd, h1, h2, h3, h4⟩ := f
  obtain ⟨o', fd', g1, g2, g3, g4⟩ := g
  rw [h1] at g1; cases g1; rw [h3] at g3; cases g3; rw [← h4, g4]
theorem ints_inj : ∀ {ns ms : List Int}, ns.map V.int = ms.map V.int → ns = ms
  | [], [], _ => rfl
  | [], _ :: _, h => by cases h
  | _ :: _, [], h => by cases h
  | a :: ns, b :: ms, h => by
    simp only [List.map_cons, List.cons.injEq, V.int.injEq] at h
    rw [h.1, ints_inj h.2]
mutual
theorem RD.inj (I : Inv X pins σ H s) (S : Sim X.K ι st H) : ∀ {d d' : D} {v : V}, RD X.K ι st.length H d v → RD X.K ι st.length H d' v → d = d'
  | _, d', _, .non, r => by cases r; rfl
  | _, d', _, .bl b, r => by cases r; rfl
  | _, d', _, .int i, r => by cases r; rfl
  | _, d', _, .str x, r => by cases r; rfl
  | _, d', _, .ty x, r => by cases r; rfl
  | _, d', _, .tup (xs := xs) (vs := vs) (a := a) h rs, r => by
    generalize e : V.ref a = v at r
    cases r with
    | tup h' rs' =>
      cases e
      have := I.tuple_inj h h'
      subst this
      rw [RDs.inj I S rs rs']
    | loc i hi => cases e; exact (not_tup_loc I S hi h).elim
    | scr z => cases e; exact (not_tup_scr I h z).elim
    | fn f => cases e; exact (not_fn_tup I f h).elim
    | _ => cases e
  | _, d', _, .loc i hi, r => by
    generalize e : V.ref (ι i) = v at r
    cases r with
    | tup h' rs' => injection e with e; rw [← e] at h'; exact (not_tup_loc I S hi h').elim
    | loc j hj =>
      injection e with e
      rw [S.inj i j _ _ (List.getElem?_eq_getElem hi) (List.getElem?_eq_getElem hj) e]
    | scr z => injection e with e; rw [← e] at z; exact (not_scr_loc I S hi z).elim
    | fn f => injection e with e; rw [← e] at f; exact (not_fn_loc I S hi f).elim
    | _ => cases e
  | _, d', _, .scr (ns := ns) (a := a) z, r => by
    generalize e : V.ref a = v at r
    cases r with
    | tup h' rs' => cases e; exact (not_tup_scr I h' z).elim
    | loc j hj => cases e; exact (not_scr_loc I S hj z).elim
    | scr z' => cases e; rw [ints_inj (I.list_inj z.sq z'.sq)]
    | fn f => cases e; exact (not_fn_scr I f z).elim
    | _ => cases e
  | _, d', _, .fn (x := x) (a := a) f, r => by
    generalize e : V.ref a = v at r
    cases r with
    | tup h' rs' => cases e; exact (not_fn_tup I f h').elim
    | loc j hj => cases e; exact (not_fn_loc I S hj f).elim
    | scr z' => cases e; exact (not_fn_scr I f z').elim
    | fn g => cases e; rw [fn_inj f g]
    | _ => cases e
theorem RDs.inj (I : Inv X pins σ H s) (S : Sim X.K ι st H) : ∀ {ds ds' : List D} {vs : List V}, RDs X.K ι st.length H ds vs → RDs X.K ι st.length H ds' vs → ds = ds'
  | _, _, _, .nil, r => by cases r; rfl
  | _, _, _, .cons h t, r => by
    cases r with
    | cons h' t' => rw [RD.inj I S h h', RDs.inj I S t t']
end
end

/-! ### the mirror of == -/
inductive Kd where
  | sc (p : PyData) | tp (xs : List D) | ls (i : Nat) (xs : List D) | dc (i : Nat) | x
def kdOf (st : Store) : D → Kd
  | .non => .sc .none
  | .bl b => .sc (.bool b)
  | .int i => .sc (.int i)
  | .str x => .sc (.str x)
  | .tup xs => .tp xs
  | .loc i => match st[i]? with
    | some (.lst xs) => .ls i xs
    | some (.dK _) => .dc i
    | _ => .x
  | _ => .x
def deqs (f : D → D → Option Bool) : List D → List D → Option Bool
  | x :: xs, y :: ys => match f x y, deqs f xs ys with
    | some a, some b => some (a && b)
    | _, _ => none
  | _, _ => some true
def deq (st : Store) : Nat → D → D → Option Bool
  | 0 => fun _ _ => none
  | n + 1 => fun a b => match kdOf st a, kdOf st b with
    | .sc p, .sc q => some (PyData.eqv p q)
    | .tp xs, .tp ys => (deqs (deq st n) xs ys).map fun r => r && xs.length == ys.length
    | .ls i xs, .ls j ys => if i = j then some true else if xs.length = ys.length then deqs (deq st n) xs ys else some false
    | .dc i, .dc j => if i = j then some true else none
    | .x, _ => none
    | _, .x => none
    | _, _ => some false
/-- at the top: the same list is gone through, too; two dicts are not -/
def teq (st : Store) (n : Nat) (a b : D) : Option Bool := match kdOf st a, kdOf st b with
  | .sc p, .sc q => some (PyData.eqv p q)
  | .tp xs, .tp ys => (deqs (deq st n) xs ys).map fun r => r && xs.length == ys.length
  | .ls _ xs, .ls _ ys => if xs.length = ys.length then deqs (deq st n) xs ys else some false
  | .dc _, .dc _ => none
  | .x, _ => none
  | _, .x => none
  | _, _ => some false
section
variable {X : Cx} {pins : List (Addr × Obj)} {σ : L2.St} {H : Hp} {s : Shared} {ι : Nat → Addr} {st : Store} {A : Around}
/-- what a value is, by its kind -/
inductive KV' (s : Shared) : Kd → Value → Prop
  | non : KV' s (.sc .none) .none
  | bl (b : Bool) : KV' s (.sc (.bool b)) (.bool b)
  | int (i : Int) (t : Tok) : KV' s (.sc (.int i)) (.int i t)
  | str (x : Str) (t : Tok) : KV' s (.sc (.str x)) (.str x t)
  | tp {xs : List D} {a : Addr} {its : List Value} : xs.length = its.length → s.heap.IsTuple a its.toArray → KV' s (.tp xs) (.ref a)
  | ls {i : Nat} {xs : List D} {a : Addr} {its : List Value} : xs.length = its.length → s.heap.IsList a its.toArray → KV' s (.ls i xs) (.ref a)
  | dc {i : Nat} {a : Addr} {o : Obj} : s.heap.get? a = some o → (o.cls = .type "dict" ∧ ∃ es ep, o.data = .dict es ep) → KV' s (.dc i) (.ref a)
theorem kv_of (I : Inv X pins σ H s) (S : Sim X.K ι st H) {d : D} {v : V} {x : Value} (r : RD X.K ι st.length H d v) (rx : RelV v x) (hk : kdOf st d ≠ .x) : KV' s (kdOf st d) x := by
  cases r with
  | non => cases rx; exact .non
  | bl b => cases rx; exact .bl b
  | int i => obtain ⟨t, rfl⟩ := rx; exact .int i t
  | str z => obtain ⟨t, rfl⟩ := rx; exact .str z t
  | ty n => exact (hk rfl).elim
  | scr z => exact (hk rfl).elim
  | fn z => exact (hk rfl).elim
  | tup h rs =>
    cases rx
    obtain ⟨its, rv, p, _⟩ := I.tuple h
    exact .tp (rs.length.trans rv.length) p
  | loc i hi =>
    cases rx
    simp only [kdOf] at hk ⊢
    split
    · rename_i xs e
      obtain ⟨vs, q, rs⟩ := S.lst e
      obtain ⟨its, rv, p, _⟩ := I.list (SqL.of q)
      exact .ls (rs.length.trans rv.length) p.isList
    · rename_i kvs e
      obtain ⟨kws, q, _⟩ := S.ok i _ e
      obtain ⟨_, _, vs, _, o, es, ep, h1, h2, h3, _⟩ := (show ObjOk X.prog X.w H s.heap (ι i) (.dK kws) from I.hok _ _ q)
      exact .dc h1 ⟨h2.1, es, ep, h3⟩
    · rename_i n1 n2
      exfalso
      apply hk
      split
      · exact absurd (by assumption) (n1 _)
      · exact absurd (by assumption) (n2 _)
      · rfl

theorem eq_of_rc {x y : Value} {b : Bool} (hx : (∃ a, x = .ref a) ∨ ∃ a, y = .ref a) (hne : x ≠ y) (h : RcAt A s x y b) : EqAt A s x y b := fun prog w E Q hq => by
  unfold eqBool
  refine wpAny_holding ?_
  refine wpAny_ite_split (fun hab => absurd (eq_of_beq hab) hne) (fun _ => ?_)
  rcases hx with ⟨a, rfl⟩ | ⟨a, rfl⟩
  · exact wpAny_bind (h prog w E _ (wpAny_truthy_bool hq))
  · cases x <;> exact wpAny_bind (h prog w E _ (wpAny_truthy_bool hq))
theorem rc_sc : ∀ {p q : PyData} {x y : Value}, KV' s (.sc p) x → KV' s (.sc q) y → RcAt A s x y (PyData.eqv p q)
  | _, _, _, _, .non, .non => by simp only [PyData.eqv, Bool.not_true, Bool.not_false]; exact RcAt.none_none
  | _, _, _, _, .non, .bl b => by simp only [PyData.eqv, Bool.not_true, Bool.not_false]; exact RcAt.none_bool  b
  | _, _, _, _, .non, .int b u => by simp only [PyData.eqv, Bool.not_true, Bool.not_false]; exact RcAt.none_int  b u
  | _, _, _, _, .non, .str b u => by simp only [PyData.eqv, Bool.not_true, Bool.not_false]; exact RcAt.none_str  b u
  | _, _, _, _, .bl a, .non => by simp only [PyData.eqv, Bool.not_true, Bool.not_false]; exact RcAt.bool_none a
  | _, _, _, _, .bl a, .bl b => by simp only [PyData.eqv, Bool.not_true, Bool.not_false]; exact RcAt.bool_bool a b
  | _, _, _, _, .bl a, .int b u => by simp only [PyData.eqv, Bool.not_true, Bool.not_false]; exact RcAt.bool_int a b u
  | _, _, _, _, .bl a, .str b u => by simp only [PyData.eqv, Bool.not_true, Bool.not_false]; exact RcAt.bool_str a b u
  | _, _, _, _, .int a t, .non => by simp only [PyData.eqv, Bool.not_true, Bool.not_false]; exact RcAt.int_none a t
  | _, _, _, _, .int a t, .bl b => by simp only [PyData.eqv, Bool.not_true, Bool.not_false]; exact RcAt.int_bool a t b
  | _, _, _, _, .int a t, .int b u => by simp only [PyData.eqv, Bool.not_true, Bool.not_false]; exact RcAt.int_int a t b u
  | _, _, _, _, .int a t, .str b u => by simp only [PyData.eqv, Bool.not_true, Bool.not_false]; exact RcAt.int_str a t b u
  | _, _, _, _, .str a t, .non => by simp only [PyData.eqv, Bool.not_true, Bool.not_false]; exact RcAt.str_none a t
  | _, _, _, _, .str a t, .bl b => by simp only [PyData.eqv, Bool.not_true, Bool.not_false]; exact RcAt.str_bool a t b
  | _, _, _, _, .str a t, .int b u => by simp only [PyData.eqv, Bool.not_true, Bool.not_false]; exact RcAt.str_int a t b u
  | _, _, _, _, .str a t, .str b u => by simp only [PyData.eqv, Bool.not_true, Bool.not_false]; exact RcAt.str_str a t b u
theorem rn_sc : ∀ {p q : PyData} {x y : Value}, KV' s (.sc p) x → KV' s (.sc q) y → RcNeAt A s x y (!PyData.eqv p q)
  | _, _, _, _, .non, .non => by simp only [PyData.eqv, Bool.not_true, Bool.not_false]; exact RcNeAt.none_none
  | _, _, _, _, .non, .bl b => by simp only [PyData.eqv, Bool.not_true, Bool.not_false]; exact RcNeAt.none_bool  b
  | _, _, _, _, .non, .int b u => by simp only [PyData.eqv, Bool.not_true, Bool.not_false]; exact RcNeAt.none_int  b u
  | _, _, _, _, .non, .str b u => by simp only [PyData.eqv, Bool.not_true, Bool.not_false]; exact RcNeAt.none_str  b u
  | _, _, _, _, .bl a, .non => by simp only [PyData.eqv, Bool.not_true, Bool.not_false]; exact RcNeAt.bool_none a
  | _, _, _, _, .bl a, .bl b => by simp only [PyData.eqv, Bool.not_true, Bool.not_false]; exact RcNeAt.bool_bool a b
  | _, _, _, _, .bl a, .int b u => by simp only [PyData.eqv, Bool.not_true, Bool.not_false]; exact RcNeAt.bool_int a b u
  | _, _, _, _, .bl a, .str b u => by simp only [PyData.eqv, Bool.not_true, Bool.not_false]; exact RcNeAt.bool_str a b u
  | _, _, _, _, .int a t, .non => by simp only [PyData.eqv, Bool.not_true, Bool.not_false]; exact RcNeAt.int_none a t
  | _, _, _, _, .int a t, .bl b => by simp only [PyData.eqv, Bool.not_true, Bool.not_false]; exact RcNeAt.int_bool a t b
  | _, _, _, _, .int a t, .int b u => by simp only [PyData.eqv, Bool.not_true, Bool.not_false]; exact RcNeAt.int_int a t b u
  | _, _, _, _, .int a t, .str b u => by simp only [PyData.eqv, Bool.not_true, Bool.not_false]; exact RcNeAt.int_str a t b u
  | _, _, _, _, .str a t, .non => by simp only [PyData.eqv, Bool.not_true, Bool.not_false]; exact RcNeAt.str_none a t
  | _, _, _, _, .str a t, .bl b => by simp only [PyData.eqv, Bool.not_true, Bool.not_false]; exact RcNeAt.str_bool a t b
  | _, _, _, _, .str a t, .int b u => by simp only [PyData.eqv, Bool.not_true, Bool.not_false]; exact RcNeAt.str_int a t b u
  | _, _, _, _, .str a t, .str b u => by simp only [PyData.eqv, Bool.not_true, Bool.not_false]; exact RcNeAt.str_str a t b u
theorem eq_sc : ∀ {p q : PyData} {x y : Value}, KV' s (.sc p) x → KV' s (.sc q) y → EqAt A s x y (PyData.eqv p q)
  | _, _, _, _, .non, .non => by simp only [PyData.eqv, Bool.not_true, Bool.not_false]; exact EqAt.same _
  | _, _, _, _, .non, .bl b => by simp only [PyData.eqv, Bool.not_true, Bool.not_false]; exact EqAt.none_bool  b
  | _, _, _, _, .non, .int b u => by simp only [PyData.eqv, Bool.not_true, Bool.not_false]; exact EqAt.none_int  b u
  | _, _, _, _, .non, .str b u => by simp only [PyData.eqv, Bool.not_true, Bool.not_false]; exact EqAt.none_str  b u
  | _, _, _, _, .bl a, .non => by simp only [PyData.eqv, Bool.not_true, Bool.not_false]; exact EqAt.bool_none a
  | _, _, _, _, .bl a, .bl b => by simp only [PyData.eqv, Bool.not_true, Bool.not_false]; exact EqAt.bool_bool a b
  | _, _, _, _, .bl a, .int b u => by simp only [PyData.eqv, Bool.not_true, Bool.not_false]; exact EqAt.bool_int a b u
  | _, _, _, _, .bl a, .str b u => by simp only [PyData.eqv, Bool.not_true, Bool.not_false]; exact EqAt.bool_str a b u
  | _, _, _, _, .int a t, .non => by simp only [PyData.eqv, Bool.not_true, Bool.not_false]; exact EqAt.int_none a t
  | _, _, _, _, .int a t, .bl b => by simp only [PyData.eqv, Bool.not_true, Bool.not_false]; exact EqAt.int_bool a t b
  | _, _, _, _, .int a t, .int b u => by simp only [PyData.eqv, Bool.not_true, Bool.not_false]; exact EqAt.int_int a t b u
  | _, _, _, _, .int a t, .str b u => by simp only [PyData.eqv, Bool.not_true, Bool.not_false]; exact EqAt.int_str a t b u
  | _, _, _, _, .str a t, .non => by simp only [PyData.eqv, Bool.not_true, Bool.not_false]; exact EqAt.str_none a t
  | _, _, _, _, .str a t, .bl b => by simp only [PyData.eqv, Bool.not_true, Bool.not_false]; exact EqAt.str_bool a t b
  | _, _, _, _, .str a t, .int b u => by simp only [PyData.eqv, Bool.not_true, Bool.not_false]; exact EqAt.str_int a t b u
  | _, _, _, _, .str a t, .str b u => by simp only [PyData.eqv, Bool.not_true, Bool.not_false]; exact EqAt.str_str a t b u
/-- kinds that never are equal -/
def crossK : Kd → Kd → Bool
  | .sc _, .tp _ | .sc _, .ls _ _ | .sc _, .dc _ | .tp _, .sc _ | .ls _ _, .sc _ | .dc _, .sc _ => true
  | .tp _, .ls _ _ | .tp _, .dc _ | .ls _ _, .tp _ | .ls _ _, .dc _ | .dc _, .tp _ | .dc _, .ls _ _ => true
  | _, _ => false
theorem rc_cross (hu : A.units < cLine) {k1 k2 : Kd} {x y : Value} (h1 : KV' s k1 x) (h2 : KV' s k2 y) (hk : crossK k1 k2 = true) : RcAt A s x y false ∧ RcNeAt A s x y true ∧ x ≠ y ∧ ((∃ a, x = .ref a) ∨ ∃ a, y = .ref a) := by
  cases h1 with
  | non =>
    cases h2 with
    | tp _ h => exact ⟨RcAt.none_tuple  h hu, RcNeAt.none_tuple  h hu, (fun z => nomatch z), .inr ⟨_, rfl⟩⟩
    | ls _ h => exact ⟨RcAt.none_list  h hu, RcNeAt.none_list  h hu, (fun z => nomatch z), .inr ⟨_, rfl⟩⟩
    | dc hd hc => exact ⟨rcat_none_dict  hd hc hu, rcneat_none_dict  hd hc hu, (fun z => nomatch z), .inr ⟨_, rfl⟩⟩
    | _ => cases hk
  | bl a =>
    cases h2 with
    | tp _ h => exact ⟨RcAt.bool_tuple a h hu, RcNeAt.bool_tuple a h hu, (fun z => nomatch z), .inr ⟨_, rfl⟩⟩
    | ls _ h => exact ⟨RcAt.bool_list a h hu, RcNeAt.bool_list a h hu, (fun z => nomatch z), .inr ⟨_, rfl⟩⟩
    | dc hd hc => exact ⟨rcat_bool_dict a hd hc hu, rcneat_bool_dict a hd hc hu, (fun z => nomatch z), .inr ⟨_, rfl⟩⟩
    | _ => cases hk
  | int a t =>
    cases h2 with
    | tp _ h => exact ⟨RcAt.int_tuple a t h hu, RcNeAt.int_tuple a t h hu, (fun z => nomatch z), .inr ⟨_, rfl⟩⟩
    | ls _ h => exact ⟨RcAt.int_list a t h hu, RcNeAt.int_list a t h hu, (fun z => nomatch z), .inr ⟨_, rfl⟩⟩
    | dc hd hc => exact ⟨rcat_int_dict a t hd hc hu, rcneat_int_dict a t hd hc hu, (fun z => nomatch z), .inr ⟨_, rfl⟩⟩
    | _ => cases hk
  | str a t =>
    cases h2 with
    | tp _ h => exact ⟨RcAt.str_tuple a t h hu, RcNeAt.str_tuple a t h hu, (fun z => nomatch z), .inr ⟨_, rfl⟩⟩
    | ls _ h => exact ⟨RcAt.str_list a t h hu, RcNeAt.str_list a t h hu, (fun z => nomatch z), .inr ⟨_, rfl⟩⟩
    | dc hd hc => exact ⟨rcat_str_dict a t hd hc hu, rcneat_str_dict a t hd hc hu, (fun z => nomatch z), .inr ⟨_, rfl⟩⟩
    | _ => cases hk
  | tp _ h =>
    cases h2 with
    | non => exact ⟨RcAt.tuple_none  h hu, RcNeAt.tuple_none  h hu, (fun z => nomatch z), .inl ⟨_, rfl⟩⟩
    | bl a => exact ⟨RcAt.tuple_bool a h hu, RcNeAt.tuple_bool a h hu, (fun z => nomatch z), .inl ⟨_, rfl⟩⟩
    | int a t => exact ⟨RcAt.tuple_int a t h hu, RcNeAt.tuple_int a t h hu, (fun z => nomatch z), .inl ⟨_, rfl⟩⟩
    | str a t => exact ⟨RcAt.tuple_str a t h hu, RcNeAt.tuple_str a t h hu, (fun z => nomatch z), .inl ⟨_, rfl⟩⟩
    | ls _ t2 => exact ⟨RcAt.tuple_list h t2 hu, RcNeAt.tuple_list h t2 hu, (fun z => ne_of_list_tuple t2 h (by injection z with z; exact z.symm)), .inl ⟨_, rfl⟩⟩
    | dc hd hc =>
      exact ⟨rcat_tuple_dict h hd hc hu, rcneat_tuple_dict h hd hc hu, (fun z => by
        injection z with z; subst z
        obtain ⟨o, ho, hc2, _⟩ := h
        rw [hd] at ho; cases ho; rw [hc.1] at hc2; exact absurd hc2 (by simp)), .inl ⟨_, rfl⟩⟩
    | _ => cases hk
  | ls _ h =>
    cases h2 with
    | non => exact ⟨RcAt.list_none  h hu, RcNeAt.list_none  h hu, (fun z => nomatch z), .inl ⟨_, rfl⟩⟩
    | bl a => exact ⟨RcAt.list_bool a h hu, RcNeAt.list_bool a h hu, (fun z => nomatch z), .inl ⟨_, rfl⟩⟩
    | int a t => exact ⟨RcAt.list_int a t h hu, RcNeAt.list_int a t h hu, (fun z => nomatch z), .inl ⟨_, rfl⟩⟩
    | str a t => exact ⟨RcAt.list_str a t h hu, RcNeAt.list_str a t h hu, (fun z => nomatch z), .inl ⟨_, rfl⟩⟩
    | tp _ t2 => exact ⟨RcAt.list_tuple h t2 hu, RcNeAt.list_tuple h t2 hu, (fun z => ne_of_list_tuple h t2 (by injection z)), .inl ⟨_, rfl⟩⟩
    | dc hd hc =>
      exact ⟨rcat_list_dict h hd hc hu, rcneat_list_dict h hd hc hu, (fun z => by
        injection z with z; subst z
        obtain ⟨o, ho, hc2, _⟩ := h
        rw [hd] at ho; cases ho; rw [hc.1] at hc2; exact absurd hc2 (by simp)), .inl ⟨_, rfl⟩⟩
    | _ => cases hk
  | dc hd hc =>
    cases h2 with
    | non => exact ⟨rcat_dict_none  hd hc hu, rcneat_dict_none  hd hc hu, (fun z => nomatch z), .inl ⟨_, rfl⟩⟩
    | bl a => exact ⟨rcat_dict_bool a hd hc hu, rcneat_dict_bool a hd hc hu, (fun z => nomatch z), .inl ⟨_, rfl⟩⟩
    | int a t => exact ⟨rcat_dict_int a t hd hc hu, rcneat_dict_int a t hd hc hu, (fun z => nomatch z), .inl ⟨_, rfl⟩⟩
    | str a t => exact ⟨rcat_dict_str a t hd hc hu, rcneat_dict_str a t hd hc hu, (fun z => nomatch z), .inl ⟨_, rfl⟩⟩
    | tp _ h =>
      exact ⟨rcat_dict_tuple h hd hc hu, rcneat_dict_tuple h hd hc hu, (fun z => by
        injection z with z; subst z
        obtain ⟨o, ho, hc2, _⟩ := h
        rw [hd] at ho; cases ho; rw [hc.1] at hc2; exact absurd hc2 (by simp)), .inl ⟨_, rfl⟩⟩
    | ls _ h =>
      exact ⟨rcat_dict_list h hd hc hu, rcneat_dict_list h hd hc hu, (fun z => by
        injection z with z; subst z
        obtain ⟨o, ho, hc2, _⟩ := h
        rw [hd] at ho; cases ho; rw [hc.1] at hc2; exact absurd hc2 (by simp)), .inl ⟨_, rfl⟩⟩
    | _ => cases hk
/-! ### deep equality -/
theorem eqv_refl' : ∀ {p : PyData} {v : Value}, KV' s (.sc p) v → PyData.eqv p p = true
  | _, _, .non => by simp only [PyData.eqv]
  | _, _, .bl b => by simp only [PyData.eqv]; exact beq_self_eq_true b
  | _, _, .int i t => by simp only [PyData.eqv]; exact beq_self_eq_true i
  | _, _, .str z t => by simp only [PyData.eqv]; exact beq_self_eq_true z
theorem deqs_get (f : D → D → Option Bool) : ∀ {xs ys : List D} {r : Bool}, deqs f xs ys = some r → ∃ e : Nat → Bool, (∀ j x y, xs[j]? = some x → ys[j]? = some y → f x y = some (e j)) ∧ r = (List.range (min xs.length ys.length)).all e
  | [], ys, r, h => by
    have e : r = true := by cases ys <;> exact (Option.some.inj h).symm
    subst e
    exact ⟨fun _ => true, fun j x y q => by simp at q, by simp⟩
  | x :: xs, [], r, h => by
    have e : r = true := (Option.some.inj h).symm
    subst e
    exact ⟨fun _ => true, fun j x y _ q => by simp at q, by simp⟩
  | x :: xs, y :: ys, r, h => by
    simp only [deqs] at h
    cases q1 : f x y with
    | none => rw [q1] at h; cases h
    | some a =>
      cases q2 : deqs f xs ys with
      | none => rw [q1, q2] at h; cases h
      | some b =>
        rw [q1, q2] at h
        obtain ⟨e, h1, h2⟩ := deqs_get f q2
        refine ⟨fun j => match j with | 0 => a | j + 1 => e j, fun j x' y' hx hy => ?_, ?_⟩
        · cases j with
          | zero => simp at hx hy; subst hx hy; exact q1
          | succ j => exact h1 j x' y' (by simpa using hx) (by simpa using hy)
        · have : min (x :: xs).length (y :: ys).length = min xs.length ys.length + 1 := by simp only [List.length_cons]; omega
          have hr : (a && b) = r := Option.some.inj h
          rw [this, List.range_succ_eq_map, List.all_cons, List.all_map, ← hr, h2]
          rfl
theorem deqs_refl {f : D → D → Option Bool} : ∀ {xs : List D}, (∀ d r, f d d = some r → r = true) → ∀ {r}, deqs f xs xs = some r → r = true
  | [], _, r, h => (Option.some.inj h).symm
  | x :: xs, hf, r, h => by
    simp only [deqs] at h
    cases q1 : f x x with
    | none => rw [q1] at h; cases h
    | some a =>
      cases q2 : deqs f xs xs with
      | none => rw [q1, q2] at h; cases h
      | some b =>
        rw [q1, q2] at h
        have hr : (a && b) = r := Option.some.inj h
        rw [← hr, hf _ _ q1, deqs_refl hf q2]
        rfl
theorem eqv_sc_refl {d : D} {p : PyData} (h : kdOf st d = .sc p) : PyData.eqv p p = true := by
  cases d with
  | non => cases h; simp only [PyData.eqv]
  | bl b => cases h; simp only [PyData.eqv]; exact beq_self_eq_true b
  | int i => cases h; simp only [PyData.eqv]; exact beq_self_eq_true i
  | str z => cases h; simp only [PyData.eqv]; exact beq_self_eq_true z
  | loc i => simp only [kdOf] at h; split at h <;> cases h
  | _ => cases h
theorem deq_refl : ∀ (n : Nat) (d : D) (r : Bool), deq st n d d = some r → r = true
  | 0, _, _, h => by cases h
  | n + 1, d, r, h => by
    simp only [deq] at h
    cases q : kdOf st d with
    | sc p => simp only [q] at h; rw [← Option.some.inj h]; exact eqv_sc_refl q
    | tp xs =>
      simp only [q] at h
      cases q2 : deqs (deq st n) xs xs with
      | none => rw [q2] at h; cases h
      | some b =>
        rw [q2] at h
        have hr : (b && xs.length == xs.length) = r := Option.some.inj h
        rw [← hr, deqs_refl (deq_refl n) q2]
        simp
    | ls i xs => simp only [q, if_pos] at h; exact (Option.some.inj h).symm
    | dc i => simp only [q, if_pos] at h; exact (Option.some.inj h).symm
    | x => simp only [q] at h; cases h
end
end Mi
/-! M8: operators by values. -/
namespace Mi
open PySem PySem.Spec PyProof.Rows L2
open PySem.SeqAt
section
variable {X : Cx} {pins : List (Addr × Obj)} {σ : L2.St} {H : Hp} {s : Shared} {ι : Nat → Addr} {st : Store}
theorem vget {xs : List D} {vs : List V} {its : List Value} (rs : RDs X.K ι st.length H xs vs) (rv : Vals vs its) {j : Nat} (h : j < its.length) : ∃ d v, xs[j]? = some d ∧ RD X.K ι st.length H d v ∧ RelV v its[j] := by
  have hl : xs.length = its.length := rs.length.trans rv.length
  have hj : j < xs.length := by omega
  obtain ⟨v, hv, r⟩ := rs.get (List.getElem?_eq_getElem hj)
  obtain ⟨u, hu, ru⟩ := rv.get hv
  rw [List.getElem?_eq_getElem h] at hu
  cases hu
  exact ⟨_, v, List.getElem?_eq_getElem hj, r, ru⟩
/-- the items of two rows, by the mirror -/
theorem items_eq {A : Around} {f : D → D → Option Bool} (hf : ∀ {d d' r v v' x x'}, f d d' = some r → RD X.K ι st.length H d v → RD X.K ι st.length H d' v' → RelV v x → RelV v' x' → EqAt A s x x' r) {xs ys : List D} {vs ws : List V} {is js : List Value} {r : Bool}
    (q : deqs f xs ys = some r) (r1 : RDs X.K ι st.length H xs vs) (r2 : RDs X.K ι st.length H ys ws) (v1 : Vals vs is) (v2 : Vals ws js) :
    ∃ e : Nat → Bool, (∀ j (h1 : j < is.length) (h2 : j < js.length), EqAt A s is[j] js[j] (e j)) ∧ r = (List.range (min is.length js.length)).all e := by
  obtain ⟨e, h1, h2⟩ := deqs_get f q
  refine ⟨e, fun j hi hj => ?_, by rw [← r1.length.trans v1.length, ← r2.length.trans v2.length]; exact h2⟩
  obtain ⟨d, v, a1, a2, a3⟩ := vget r1 v1 hi
  obtain ⟨d', v', b1, b2, b3⟩ := vget r2 v2 hj
  exact hf (h1 j d d' a1 b1) a2 b2 a3 b3
theorem range_all_eq {n m : Nat} {e : Nat → Bool} (h : n = m) : (List.range (min n m)).all e = (List.range n).all e := by rw [h, Nat.min_self]
theorem loc_kind {i : Nat} (h : kdOf st (.loc i) ≠ .x) : (∃ xs, st[i]? = some (.lst xs) ∧ kdOf st (.loc i) = .ls i xs) ∨ ∃ kvs, st[i]? = some (.dK kvs) ∧ kdOf st (.loc i) = .dc i := by
  cases q : st[i]? with
  | none => simp only [kdOf, q] at h; exact (h rfl).elim
  | some o =>
    cases o with
    | lst xs => exact .inl ⟨xs, rfl, by simp only [kdOf, q]⟩
    | dK kvs => exact .inr ⟨kvs, rfl, by simp only [kdOf, q]⟩
    | dT kvs => simp only [kdOf, q] at h; exact (h rfl).elim
theorem deq_ok (I : Inv X pins σ H s) (S : Sim X.K ι st H) : ∀ (n : Nat) (A : Around), A.units + n < cLine → ∀ {d e : D} {r : Bool} {v u : V} {x y : Value}, deq st n d e = some r → RD X.K ι st.length H d v → RD X.K ι st.length H e u → RelV v x → RelV u y → EqAt A s x y r
  | 0, _, _, _, _, _, _, _, _, _, h, _, _, _, _ => by cases h
  | n + 1, A, hu, d, e, r, v, u, x, y, h, rd, re, rx, ry => by
    simp only [deq] at h
    have hu0 : A.units < cLine := by omega
    have ih := @deq_ok I S n A.in1 (by show A.units + 1 + n < cLine; omega)
    have x1 : kdOf st d ≠ .x := fun z => by rw [z] at h; cases h
    have x2 : kdOf st e ≠ .x := fun z => by rw [z] at h; cases hk : kdOf st d <;> rw [hk] at h <;> cases h
    have k1 := kv_of I S rd rx x1
    have k2 := kv_of I S re ry x2
    by_cases hc : crossK (kdOf st d) (kdOf st e) = true
    · obtain ⟨c1, _, c3, c4⟩ := rc_cross hu0 k1 k2 hc
      have : r = false := by
        cases a : kdOf st d <;> cases b : kdOf st e <;> rw [a, b] at h hc <;> first | cases hc; done | exact (Option.some.inj h).symm
      rw [this]
      exact eq_of_rc c4 c3 c1
    · cases rd with
      | tup ht rs =>
        cases rx
        cases re with
        | @tup ys b ws ht2 rs2 =>
          rename_i xs a vs
          cases ry
          simp only [kdOf] at h
          cases q : deqs (deq st n) xs ys with
          | none => rw [q] at h; cases h
          | some r0 =>
            rw [q] at h
            have h : (r0 && xs.length == ys.length) = r := Option.some.inj h
            by_cases hab : a = b
            · subst hab
              have e1 := I.tuple_inj ht ht2
              subst e1
              have e2 := RDs.inj I S rs rs2
              subst e2
              rw [← h, deqs_refl (deq_refl n) q]
              simp only [beq_self_eq_true, Bool.and_true]
              exact EqAt.same _
            · obtain ⟨is, v1, p1, _⟩ := I.tuple ht
              obtain ⟨js, v2, p2, _⟩ := I.tuple ht2
              obtain ⟨e, he, hr⟩ := items_eq (fun q a b c d => ih q a b c d) q rs rs2 v1 v2
              refine EqAt.of_refs hab ?_
              have := RcAt.tuples (A := A) (e := e) (show s.heap.IsTuple a is.toArray from p1) (show s.heap.IsTuple b js.toArray from p2) hu0 (fun j h1 h2 => by simpa using he j (by simpa using h1) (by simpa using h2))
              rw [← h, hr, rs.length.trans v1.length, rs2.length.trans v2.length]
              simpa using this
        | loc i hi => rcases loc_kind x2 with ⟨_, _, z⟩ | ⟨_, _, z⟩ <;> exact (hc (by rw [z]; rfl)).elim
        | scr z => exact (x2 rfl).elim
        | fn z => exact (x2 rfl).elim
        | ty n => exact (x2 rfl).elim
        | _ => exact (hc rfl).elim
      | loc i hi =>
        cases rx
        cases re with
        | loc j hj =>
          cases ry
          by_cases hij : i = j
          · subst hij
            have : r = true := by
              rcases loc_kind x1 with ⟨_, _, z⟩ | ⟨_, _, z⟩ <;> (rw [z] at h; simp only [if_pos] at h; exact (Option.some.inj h).symm)
            rw [this]
            exact EqAt.same _
          · have hne : ι i ≠ ι j := fun z => hij (S.inj i j _ _ (List.getElem?_eq_getElem hi) (List.getElem?_eq_getElem hj) z)
            cases qa : st[i]? with
            | none => simp only [kdOf, qa] at x1; exact (x1 rfl).elim
            | some oa =>
              cases qb : st[j]? with
              | none => simp only [kdOf, qb] at x2; exact (x2 rfl).elim
              | some ob =>
                cases oa with
                | lst xs =>
                  cases ob with
                  | lst ys =>
                    simp only [kdOf, qa, qb, if_neg hij] at h
                    obtain ⟨vs, a1, rs⟩ := S.lst qa
                    obtain ⟨ws, b1, rs2⟩ := S.lst qb
                    obtain ⟨is, v1, p1, _⟩ := I.list (SqL.of a1)
                    obtain ⟨js, v2, p2, _⟩ := I.list (SqL.of b1)
                    have l1 := rs.length.trans v1.length
                    have l2 := rs2.length.trans v2.length
                    refine EqAt.of_refs hne ?_
                    by_cases hl : xs.length = ys.length
                    · rw [if_pos hl] at h
                      obtain ⟨e, he, hr⟩ := items_eq (fun q a b c d => ih q a b c d) h rs rs2 v1 v2
                      have hsz : is.length = js.length := by omega
                      have := RcAt.lists (A := A) (e := e) p1.isList p2.isList (by simpa using hsz) hu0 (fun j h1 h2 => by simpa using he j (by simpa using h1) (by simpa using h2))
                      rw [hr, range_all_eq hsz]
                      simpa using this
                    · rw [if_neg hl] at h
                      cases h
                      refine RcAt.lists_lengths p1.isList p2.isList ?_ hu0
                      simp only [List.size_toArray, bne_iff_ne]
                      omega
                  | dK kvs => exact (hc (by simp only [kdOf, qa, qb]; rfl)).elim
                  | dT kvs => simp only [kdOf, qb] at x2; exact (x2 rfl).elim
                | dK kvs =>
                  cases ob with
                  | lst ys => exact (hc (by simp only [kdOf, qa, qb]; rfl)).elim
                  | dK kws => simp only [kdOf, qa, qb, if_neg hij] at h; cases h
                  | dT kvs => simp only [kdOf, qb] at x2; exact (x2 rfl).elim
                | dT kvs => simp only [kdOf, qa] at x1; exact (x1 rfl).elim
        | scr z => exact (x2 rfl).elim
        | fn z => exact (x2 rfl).elim
        | ty n => exact (x2 rfl).elim
        | _ => rcases loc_kind x1 with ⟨_, _, z⟩ | ⟨_, _, z⟩ <;> exact (hc (by rw [z]; rfl)).elim
      | scr z => exact (x1 rfl).elim
      | fn z => exact (x1 rfl).elim
      | ty n => exact (x1 rfl).elim
      | _ =>
        cases re with
        | tup ht rs => exact (hc rfl).elim
        | loc j hj => rcases loc_kind x2 with ⟨_, _, z⟩ | ⟨_, _, z⟩ <;> exact (hc (by rw [z]; rfl)).elim
        | scr z => exact (x2 rfl).elim
        | fn z => exact (x2 rfl).elim
        | ty n => exact (x2 rfl).elim
        | _ =>
          simp only [kdOf] at h k1 k2
          rw [← Option.some.inj h]
          exact eq_sc k1 k2
end
end Mi
/-! M9: the operators' mirrors and what they bear out. -/
namespace Mi
open PySem PySem.Spec PyProof.Rows L2
open PySem.SeqAt
section
variable {X : Cx} {pins : List (Addr × Obj)} {σ : L2.St} {H : Hp} {s : Shared} {ι : Nat → Addr} {st : Store}
theorem teq_ok (I : Inv X pins σ H s) (S : Sim X.K ι st H) (n : Nat) (A : Around) (hu : A.units + n + 1 < cLine) {d e : D} {r : Bool} {v u : V} {x y : Value} (h : teq st n d e = some r) (rd : RD X.K ι st.length H d v) (re : RD X.K ι st.length H e u) (rx : RelV v x) (ry : RelV u y) :
    RcAt A s x y r ∧ RcNeAt A s x y (!r) := by
  have hu0 : A.units < cLine := by omega
  have ih := @deq_ok X pins σ H s ι st I S n A.in1 (by show A.units + 1 + n < cLine; omega)
  unfold teq at h
  have x1 : kdOf st d ≠ .x := fun z => by rw [z] at h; cases h
  have x2 : kdOf st e ≠ .x := fun z => by rw [z] at h; cases hk : kdOf st d <;> rw [hk] at h <;> cases h
  have k1 := kv_of I S rd rx x1
  have k2 := kv_of I S re ry x2
  by_cases hc : crossK (kdOf st d) (kdOf st e) = true
  · obtain ⟨c1, c2, c3, c4⟩ := rc_cross hu0 k1 k2 hc
    have : r = false := by
      cases a : kdOf st d <;> cases b : kdOf st e <;> rw [a, b] at h hc <;> first | cases hc; done | exact (Option.some.inj h).symm
    rw [this]
    exact ⟨c1, c2⟩
  · cases rd with
    | @tup xs a vs ht rs =>
      cases rx
      cases re with
      | @tup ys b ws ht2 rs2 =>
        cases ry
        simp only [kdOf] at h
        cases q : deqs (deq st n) xs ys with
        | none => rw [q] at h; cases h
        | some r0 =>
          rw [q] at h
          have h : (r0 && xs.length == ys.length) = r := Option.some.inj h
          obtain ⟨is, v1, p1, _⟩ := I.tuple ht
          obtain ⟨js, v2, p2, _⟩ := I.tuple ht2
          obtain ⟨e, he, hr⟩ := items_eq (fun q a b c d => ih q a b c d) q rs rs2 v1 v2
          have t1 := RcAt.tuples (A := A) (e := e) (show s.heap.IsTuple a is.toArray from p1) (show s.heap.IsTuple b js.toArray from p2) hu0 (fun j h1 h2 => by simpa using he j (by simpa using h1) (by simpa using h2))
          have t2 := RcNeAt.tuples (A := A) (e := e) (show s.heap.IsTuple a is.toArray from p1) (show s.heap.IsTuple b js.toArray from p2) hu0 (fun j h1 h2 => by simpa using he j (by simpa using h1) (by simpa using h2))
          rw [← h, hr, rs.length.trans v1.length, rs2.length.trans v2.length]
          exact ⟨by simpa using t1, by simpa using t2⟩
      | loc i hi => rcases loc_kind x2 with ⟨_, _, z⟩ | ⟨_, _, z⟩ <;> exact (hc (by rw [z]; rfl)).elim
      | scr z => exact (x2 rfl).elim
      | fn z => exact (x2 rfl).elim
      | ty n => exact (x2 rfl).elim
      | _ => exact (hc rfl).elim
    | loc i hi =>
      cases rx
      cases re with
      | loc j hj =>
        cases ry
        rcases loc_kind x1 with ⟨xs, qa, z1⟩ | ⟨kvs, qa, z1⟩ <;> rcases loc_kind x2 with ⟨ys, qb, z2⟩ | ⟨kws, qb, z2⟩
        · rw [z1, z2] at h
          simp only at h
          obtain ⟨vs, a1, rs⟩ := S.lst qa
          obtain ⟨ws, b1, rs2⟩ := S.lst qb
          obtain ⟨is, v1, p1, _⟩ := I.list (SqL.of a1)
          obtain ⟨js, v2, p2, _⟩ := I.list (SqL.of b1)
          have l1 := rs.length.trans v1.length
          have l2 := rs2.length.trans v2.length
          by_cases hl : xs.length = ys.length
          · rw [if_pos hl] at h
            obtain ⟨e, he, hr⟩ := items_eq (fun q a b c d => ih q a b c d) h rs rs2 v1 v2
            have hsz : is.length = js.length := by omega
            have t1 := RcAt.lists (A := A) (e := e) p1.isList p2.isList (by simpa using hsz) hu0 (fun j h1 h2 => by simpa using he j (by simpa using h1) (by simpa using h2))
            have t2 := RcNeAt.lists (A := A) (e := e) p1.isList p2.isList (by simpa using hsz) hu0 (fun j h1 h2 => by simpa using he j (by simpa using h1) (by simpa using h2))
            rw [hr, range_all_eq hsz]
            exact ⟨by simpa using t1, by simpa using t2⟩
          · rw [if_neg hl] at h
            cases h
            have hb : (is.toArray.size != js.toArray.size) = true := by
              simp only [List.size_toArray, bne_iff_ne]
              omega
            exact ⟨RcAt.lists_lengths p1.isList p2.isList hb hu0, RcNeAt.lists_lengths p1.isList p2.isList hb hu0⟩
        · exact (hc (by rw [z1, z2]; rfl)).elim
        · exact (hc (by rw [z1, z2]; rfl)).elim
        · rw [z1, z2] at h; cases h
      | scr z => exact (x2 rfl).elim
      | fn z => exact (x2 rfl).elim
      | ty n => exact (x2 rfl).elim
      | _ => rcases loc_kind x1 with ⟨_, _, z⟩ | ⟨_, _, z⟩ <;> exact (hc (by rw [z]; rfl)).elim
    | scr z => exact (x1 rfl).elim
    | fn z => exact (x1 rfl).elim
    | ty n => exact (x1 rfl).elim
    | _ =>
      cases re with
      | tup ht rs => exact (hc rfl).elim
      | loc j hj => rcases loc_kind x2 with ⟨_, _, z⟩ | ⟨_, _, z⟩ <;> exact (hc (by rw [z]; rfl)).elim
      | scr z => exact (x2 rfl).elim
      | fn z => exact (x2 rfl).elim
      | ty n => exact (x2 rfl).elim
      | _ =>
        simp only [kdOf] at h k1 k2
        rw [← Option.some.inj h]
        exact ⟨rc_sc k1 k2, rn_sc k1 k2⟩
end

/-! ### == and != -/
/-- the built-in types that are asked for -/
def tyNames : List String := ["int", "str", "bool", "tuple", "list", "dict", "NoneType"]
def opEq : F2 := fun a b s => match a, b with
  | .ty x, .ty y => if x ∈ tyNames ∧ y ∈ tyNames then some (.bl (decide (x = y)), s) else none
  | _, _ => (teq s 60 a b).map fun r => (.bl r, s)
def opNe : F2 := fun a b s => (teq s 60 a b).map fun r => (.bl (!r), s)
section
variable {X : Cx} {k : Nat}
def rEqM (X : Cx) (neg : Bool) : R2 := fun x y H Q => ∃ ι st d e r, Sim X.K ι st H ∧ RD X.K ι st.length H d x ∧ RD X.K ι st.length H e y ∧ teq st 60 d e = some r ∧ Q (.bl (if neg then !r else r)) H
theorem op_eqM (hu : X.A.units + 64 < cLine) : OpR X (compareOp .Eq) (rEqM X false) := by
  intro pins s σ H x y v u Q I rx ry h
  obtain ⟨ι, st, d, e, r, S, rd, re, q, h⟩ := h
  exact (teq_ok I S 60 X.A (by omega) q rd re rx ry).1 X.prog X.w _ _ ⟨.bl r, H, I, rfl, h⟩
theorem op_neM (hu : X.A.units + 64 < cLine) : OpR X (compareOp .NotEq) (rEqM X true) := by
  intro pins s σ H x y v u Q I rx ry h
  obtain ⟨ι, st, d, e, r, S, rd, re, q, h⟩ := h
  exact (teq_ok I S 60 X.A (by omega) q rd re rx ry).2 X.prog X.w _ _ ⟨.bl (!r), H, I, rfl, h⟩
theorem ty_is {x : String} (h : x ∈ tyNames) (s : Shared) : s.TypeIs (.type x) "type" := by
  simp only [tyNames, List.mem_cons, List.not_mem_nil, or_false] at h
  rcases h with rfl | rfl | rfl | rfl | rfl | rfl | rfl <;> rfl
theorem op_eqTy : OpR X (compareOp .Eq) (fun x y H Q => ∃ a b, x = .ty a ∧ y = .ty b ∧ a ∈ tyNames ∧ b ∈ tyNames ∧ Q (.bl (decide (a = b))) H) := by
  intro pins s σ H x y v u Q I rx ry h
  obtain ⟨a, b, rfl, rfl, ha, hb, q⟩ := h
  cases (show v = Value.type a from rx)
  cases (show u = Value.type b from ry)
  by_cases e : a = b
  · subst e
    exact PySem.TypeEq.eq_type_same (ty_is ha) (fin_bl I q (by simp))
  · exact PySem.TypeEq.eq_type_other (ty_is ha) (ty_is hb) (by rw [ty_beq]; exact decide_eq_false e) (fin_bl I q (decide_eq_false e))
theorem v2_eq (hr : Room k X.A) : V2 X (compareOp .Eq) opEq := by
  intro ι st H dx dy d st' x y Q S rx ry q k
  have key : (teq st 60 dx dy).map (fun r => (D.bl r, st)) = some (d, st') → ∃ r : R2, OpR X (compareOp .Eq) r ∧ r x y H Q := fun q => by
    cases q1 : teq st 60 dx dy with
    | none => rw [q1] at q; cases q
    | some r =>
      rw [q1] at q
      cases q
      exact ⟨_, op_eqM hr.units, ι, st, dx, dy, r, S, rx, ry, q1, k ι H _ Ext.refl S (.bl r)⟩
  cases rx with
  | ty a =>
    cases ry with
    | ty b =>
      simp only [opEq] at q
      split at q
      · rename_i hh
        cases q
        exact ⟨_, op_eqTy, a, b, rfl, rfl, hh.1, hh.2, k ι H _ Ext.refl S (.bl _)⟩
      · cases q
    | _ => exact key q
  | _ => exact key q
theorem v2_ne (hr : Room k X.A) : V2 X (compareOp .NotEq) opNe := by
  intro ι st H dx dy d st' x y Q S rx ry q k
  cases q1 : teq st 60 dx dy with
  | none => simp only [opNe, q1] at q; cases q
  | some r =>
    simp only [opNe, q1] at q
    cases q
    exact ⟨_, op_neM hr.units, ι, st, dx, dy, r, S, rx, ry, q1, k ι H _ Ext.refl S (.bl _)⟩
end

/-! ### in, not in -/
def inD (f : D → Option Bool) : List D → Option Bool
  | [] => some false
  | y :: ys => match f y, inD f ys with
    | some a, some b => some (a || b)
    | _, _ => none
def inR (a b : D) (s : Store) : Option Bool := match b with
  | .tup ys => inD (fun y => deq s 60 y a) ys
  | .loc l => match lsOf s l with
    | some ys => inD (fun y => deq s 60 y a) ys
    | none => none
  | .str z => match a with
    | .str w => match w.cps.toList with
      | [c] => some (decide (c ∈ z.cps.toList))
      | _ => none
    | _ => none
  | _ => none
def opIn : F2 := fun a b s => (inR a b s).map fun r => (.bl r, s)
def opNotIn : F2 := fun a b s => (inR a b s).map fun r => (.bl (!r), s)
section
variable {X : Cx} {pins : List (Addr × Obj)} {σ : L2.St} {H : Hp} {s : Shared} {ι : Nat → Addr} {st : Store}
theorem relV_inj {v w : V} {u : Value} (h : L2.RelV v u) (h' : L2.RelV w u) : v = w := Option.some.inj (h.abs.symm.trans h'.abs)
open Classical in
theorem in_items (I : Inv X pins σ H s) (S : Sim X.K ι st H) {A : Around} (hu : A.units + 62 < cLine) {d : D} {v : V} {x : Value} (rd : RD X.K ι st.length H d v) (rx : L2.RelV v x) :
    ∀ (ys : List D) {vs : List V} {its : List Value} {r : Bool}, inD (fun y => deq st 60 y d) ys = some r → RDs X.K ι st.length H ys vs → Vals vs its →
      (∀ y, y ∈ its → EqAt A.in1 s y x (decide (∃ d0 v0, RD X.K ι st.length H d0 v0 ∧ L2.RelV v0 y ∧ deq st 60 d0 d = some true))) ∧ r = its.any fun y => decide (∃ d0 v0, RD X.K ι st.length H d0 v0 ∧ L2.RelV v0 y ∧ deq st 60 d0 d = some true)
  | [], _, _, r, h, rs, rv => by
    cases rs
    cases rv
    exact ⟨fun y hy => (by cases hy), by cases h; rfl⟩
  | y :: ys, _, _, r, h, rs, rv => by
    cases rs with
    | cons ry rys =>
      cases rv with
      | @cons _ w _ ws rw' rws =>
        simp only [inD] at h
        cases q1 : deq st 60 y d with
        | none => rw [q1] at h; cases h
        | some a =>
          cases q2 : inD (fun y => deq st 60 y d) ys with
          | none => rw [q1, q2] at h; cases h
          | some b =>
            rw [q1, q2] at h
            obtain ⟨h1, h2⟩ := in_items I S hu rd rx ys q2 rys rws
            have ea : decide (∃ d0 v0, RD X.K ι st.length H d0 v0 ∧ L2.RelV v0 w ∧ deq st 60 d0 d = some true) = a := by
              cases a with
              | true => exact decide_eq_true ⟨y, _, ry, rw', q1⟩
              | false =>
                refine decide_eq_false fun ⟨d0, v0, r0, rw0, q0⟩ => ?_
                have ev := relV_inj rw0 rw'
                subst ev
                have := RD.inj I S r0 ry
                subst this
                rw [q1] at q0; cases q0
            refine ⟨fun z hz => ?_, ?_⟩
            · rcases List.mem_cons.mp hz with e | hz
              · subst e
                rw [ea]
                exact deq_ok I S 60 A.in1 (by show A.units + 1 + 60 < cLine; omega) q1 ry rd rw' rx
              · exact h1 z hz
            · rw [List.any_cons, ea, ← h2]
              exact (Option.some.inj h).symm
end
section
variable {X : Cx} {k : Nat}
def rInM (X : Cx) (neg : Bool) : R2 := fun x y H Q => ∃ ι st d ys a vs r, Sim X.K ι st H ∧ RD X.K ι st.length H d x ∧ y = .ref a ∧ (SqL X.K H a vs ∨ SqT X.K H a vs) ∧ RDs X.K ι st.length H ys vs ∧ inD (fun y => deq st 60 y d) ys = some r ∧ Q (.bl (if neg then !r else r)) H
theorem op_inM (hu : X.A.units + 64 < cLine) : OpR X (compareOp .In) (rInM X false) := by
  intro pins s σ H x y v u Q I rx ry h
  obtain ⟨ι, st, d, ys, a, vs, r, S, rd, rfl, hs, rs, q, h⟩ := h
  cases ry
  rcases hs with hs | hs
  · obtain ⟨its, rv, p, _⟩ := I.list hs
    obtain ⟨h1, h2⟩ := in_items I S (A := X.A) (by omega) rd rx ys q rs rv
    exact SeqAt.in_listAt _ p.isList (fun y hy => h1 y (by simpa using hy)) ⟨.bl r, H, I, by rw [h2]; simp [L2.RelV], h⟩
  · obtain ⟨its, rv, p, _⟩ := I.tuple hs
    obtain ⟨h1, h2⟩ := in_items I S (A := X.A) (by omega) rd rx ys q rs rv
    exact SeqAt.in_tupleAt _ p (fun y hy => h1 y (by simpa using hy)) ⟨.bl r, H, I, by rw [h2]; simp [L2.RelV], h⟩
theorem op_notInM (hu : X.A.units + 64 < cLine) : OpR X (compareOp .NotIn) (rInM X true) := by
  intro pins s σ H x y v u Q I rx ry h
  obtain ⟨ι, st, d, ys, a, vs, r, S, rd, rfl, hs, rs, q, h⟩ := h
  cases ry
  rcases hs with hs | hs
  · obtain ⟨its, rv, p, _⟩ := I.list hs
    obtain ⟨h1, h2⟩ := in_items I S (A := X.A) (by omega) rd rx ys q rs rv
    exact SeqAt.notIn_listAt _ p.isList (fun y hy => h1 y (by simpa using hy)) ⟨.bl (!r), H, I, by rw [h2]; simp [L2.RelV], h⟩
  · obtain ⟨its, rv, p, _⟩ := I.tuple hs
    obtain ⟨h1, h2⟩ := in_items I S (A := X.A) (by omega) rd rx ys q rs rv
    exact SeqAt.notIn_tupleAt _ p (fun y hy => h1 y (by simpa using hy)) ⟨.bl (!r), H, I, by rw [h2]; simp [L2.RelV], h⟩
theorem str_one {w : Str} {c : Nat} (h : w.cps.toList = [c]) : w = ⟨#[c]⟩ := by
  obtain ⟨a⟩ := w
  have : a = #[c] := by
    apply Array.toList_inj.mp
    simpa using h
  rw [this]
theorem v2_inG (neg : Bool) {op : CmpOp} (h1 : OpR X (compareOp op) (rInM X neg)) (h2 : OpR X (compareOp op) (fun x y H Q => ∃ (c : Nat) (z : Str), x = .str ⟨#[c]⟩ ∧ y = .str z ∧ Q (.bl (if neg then !decide (c ∈ z.cps.toList) else decide (c ∈ z.cps.toList))) H)) :
    V2 X (compareOp op) (fun a b s => (inR a b s).map fun r => (.bl (if neg then !r else r), s)) := by
  intro ι st H dx dy d st' x y Q S rx ry q k
  cases q1 : inR dx dy st with
  | none => simp only [q1] at q; cases q
  | some r =>
    simp only [q1] at q
    cases q
    have kk := k ι H _ Ext.refl S (.bl _)
    cases ry with
    | tup ht rs => exact ⟨_, h1, ι, st, dx, _, _, _, r, S, rx, rfl, .inr ht, rs, q1, kk⟩
    | loc l hl =>
      simp only [inR] at q1
      cases q2 : lsOf st l with
      | none => rw [q2] at q1; cases q1
      | some ys =>
        rw [q2] at q1
        obtain ⟨_, vs, hs, rs⟩ := S.ls q2
        exact ⟨_, h1, ι, st, dx, _, _, _, r, S, rx, rfl, .inl (SqL.of hs), rs, q1, kk⟩
    | str z =>
      cases rx with
      | str w =>
        simp only [inR] at q1
        split at q1
        · rename_i c hc
          cases q1
          exact ⟨_, h2, c, z, by rw [str_one hc], rfl, kk⟩
        · cases q1
      | _ => cases q1
    | _ => cases q1
theorem v2_in (hr : Room k X.A) : V2 X (compareOp .In) opIn := v2_inG false (op_inM hr.units) op_in_sign
theorem v2_notIn (hr : Room k X.A) : V2 X (compareOp .NotIn) opNotIn := v2_inG true (op_notInM hr.units) op_notIn_sign
end

/-! ### is, is not -/
def isR (a b : D) : Option Bool := match b with
  | .non => match a with
    | .non => some true
    | _ => some false
  | .ty y => match a with
    | .ty x => some (decide (x = y))
    | _ => none
  | .bl y => match a with
    | .bl x => some (decide (x = y))
    | _ => none
  | _ => none
def opIs : F2 := fun a b s => (isR a b).map fun r => (.bl r, s)
def opIsNot : F2 := fun a b s => (isR a b).map fun r => (.bl (!r), s)
section
variable {X : Cx}
theorem v2_isG (neg : Bool) {op : CmpOp} (h1 : OpR X (compareOp op) (fun x y H Q => y = .non ∧ Q (.bl (if neg then !decide (x = .non) else decide (x = .non))) H))
    (h2 : OpR X (compareOp op) (fun x y H Q => ∃ a b, x = .ty a ∧ y = .ty b ∧ Q (.bl (if neg then !decide (a = b) else decide (a = b))) H))
    (h3 : OpR X (compareOp op) (fun x y H Q => ∃ a b, x = .bl a ∧ y = .bl b ∧ Q (.bl (if neg then !decide (a = b) else decide (a = b))) H)) :
    V2 X (compareOp op) (fun a b s => (isR a b).map fun r => (.bl (if neg then !r else r), s)) := by
  intro ι st H dx dy d st' x y Q S rx ry q k
  cases q1 : isR dx dy with
  | none => simp only [q1] at q; cases q
  | some r =>
    simp only [q1] at q
    cases q
    have kk := k ι H _ Ext.refl S (.bl _)
    cases ry with
    | non =>
      refine ⟨_, h1, rfl, ?_⟩
      have : decide (x = V.non) = r := by
        cases rx <;> simp only [isR] at q1 <;> cases q1 <;> rfl
      rw [this]
      exact kk
    | ty b =>
      cases rx with
      | ty a => cases q1; exact ⟨_, h2, a, b, rfl, rfl, kk⟩
      | _ => cases q1
    | bl b =>
      cases rx with
      | bl a => cases q1; exact ⟨_, h3, a, b, rfl, rfl, kk⟩
      | _ => cases q1
    | _ => cases q1
theorem v2_is : V2 X (compareOp .Is) opIs := v2_isG false op_isN op_isTyB op_is_bl
theorem v2_isNot : V2 X (compareOp .IsNot) opIsNot := v2_isG true op_notN op_notTyB op_isnot_bl
end

/-! ### order -/
def cmpI (p : Int → Int → Bool) (q : List Nat → List Nat → Bool) : F2 := fun a b s => match a, b with
  | .int i, .int j => some (.bl (p i j), s)
  | .str x, .str y => some (.bl (q x.cps.toList y.cps.toList), s)
  | _, _ => none
def opLt : F2 := cmpI (fun i j => decide (i < j)) fun x y => decide (x < y)
def opLe : F2 := cmpI (fun i j => decide (i ≤ j)) fun x y => !decide (y < x)
def opGt : F2 := cmpI (fun i j => decide (j < i)) fun x y => decide (y < x)
def opGe : F2 := cmpI (fun i j => decide (j ≤ i)) fun x y => !decide (x < y)
section
variable {X : Cx}
theorem v2_cmp {op : CmpOp} {p : Int → Int → Bool} {q : List Nat → List Nat → Bool} (h1 : OpR X (compareOp op) (rI0 fun i j => .bl (p i j))) (h2 : OpR X (compareOp op) (fun x y H Q => ∃ i j, x = .str i ∧ y = .str j ∧ Q (.bl (q i.cps.toList j.cps.toList)) H)) :
    V2 X (compareOp op) (cmpI p q) := by
  intro ι st H dx dy d st' x y Q S rx ry e k
  cases rx with
  | int i =>
    cases ry with
    | int j => cases e; exact ⟨_, h1, i, j, rfl, rfl, k ι H _ Ext.refl S (.bl _)⟩
    | _ => cases e
  | str i =>
    cases ry with
    | str j => cases e; exact ⟨_, h2, i, j, rfl, rfl, k ι H _ Ext.refl S (.bl _)⟩
    | _ => cases e
  | _ => cases e
theorem v2_lt : V2 X (compareOp .Lt) opLt := v2_cmp op_lt op_lt_str
theorem v2_le : V2 X (compareOp .LtE) opLe := v2_cmp op_le op_le_str
theorem v2_gt : V2 X (compareOp .Gt) opGt := v2_cmp op_gt op_gt_str
theorem v2_ge : V2 X (compareOp .GtE) opGe := v2_cmp op_ge op_ge_str
end

/-! ### arithmetic, rows joined and repeated -/
def opAdd : F2 := fun a b s => match a, b with
  | .int i, .int j => some (.int (i + j), s)
  | .str x, .str y => if x.length + y.length ≤ 16777216 then some (.str (x ++ y), s) else none
  | .tup xs, .tup ys => if xs.length + ys.length ≤ 16777216 then some (.tup (xs ++ ys), s) else none
  | .loc i, .loc j => match lsOf s i, lsOf s j with
    | some xs, some ys => if xs.length + ys.length ≤ 16777216 then some (.loc s.length, s ++ [.lst (xs ++ ys)]) else none
    | _, _ => none
  | _, _ => none
def opSub : F2 := fun a b s => match a, b with
  | .int i, .int j => some (.int (i - j), s)
  | _, _ => none
def opMul : F2 := fun a b s => match a, b with
  | .int i, .int j => if i.natAbs.log2 + j.natAbs.log2 < 1000000 then some (.int (i * j), s) else none
  | .loc i, .int k => match lsOf s i with
    | some xs => if -(2 ^ 63) ≤ k ∧ k < 2 ^ 63 ∧ xs.length * k.toNat ≤ 16777216 then some (.loc s.length, s ++ [.lst (List.replicate k.toNat xs).flatten]) else none
    | none => none
  | .tup xs, .int k => if xs ≠ [] ∧ 2 ≤ k ∧ k ≤ 1000 ∧ xs.length ≤ 1000 then some (.tup (List.replicate k.toNat xs).flatten, s) else none
  | _, _ => none
def opDiv : F2 := fun a b s => match a, b with
  | .int i, .int j => if 0 < j ∧ j.natAbs.log2 < 9000 then some (.int (i / j), s) else none
  | _, _ => none
def opMod : F2 := fun a b s => match a, b with
  | .int i, .int j => if 0 < j then some (.int (i % j), s) else none
  | _, _ => none
def opPow : F2 := fun a b s => match a, b with
  | .int i, .int j => if 0 ≤ j ∧ (i.natAbs.log2 + 1) * j.toNat ≤ 100000000 then some (.int (i ^ j.toNat), s) else none
  | _, _ => none
section
variable {X : Cx}
theorem RDs.rep {K : PySem.W.Frag} {ι : Nat → Addr} {n : Nat} {H : Hp} {xs : List D} {vs : List V} (r : RDs K ι n H xs vs) : ∀ k : Nat, RDs K ι n H (List.replicate k xs).flatten (List.replicate k vs).flatten
  | 0 => .nil
  | k + 1 => by
    rw [List.replicate_succ, List.replicate_succ, List.flatten_cons, List.flatten_cons]
    exact r.append (RDs.rep r k)
theorem RDs.nil_iff {K : PySem.W.Frag} {ι : Nat → Addr} {n : Nat} {H : Hp} {xs : List D} {vs : List V} (r : RDs K ι n H xs vs) : xs = [] ↔ vs = [] := by cases r <;> simp
theorem v2_addG {f : Value → Value → Sem Value} (h1 : OpR X f (rI0 fun i j => .int (i + j))) (h2 : OpR X f (fun x y H Q => ∃ i j, x = .str i ∧ y = .str j ∧ i.length + j.length ≤ sizeLine ∧ Q (.str (i ++ j)) H)) :
    ∀ (ι : Nat → Addr) (st : Store) (H : Hp) (dx dy d : D) (st' : Store) (x y : V) (Q : VK), (∃ i j, dx = .int i ∧ dy = .int j) ∨ (∃ i j, dx = .str i ∧ dy = .str j) → Sim X.K ι st H → RD X.K ι st.length H dx x → RD X.K ι st.length H dy y → opAdd dx dy st = some (d, st') →
    (∀ ι' H' v, Ext X.K ι st.length H ι' st'.length H' → Sim X.K ι' st' H' → RD X.K ι' st'.length H' d v → Q v H') → ∃ r : R2, OpR X f r ∧ r x y H Q := by
  intro ι st H dx dy d st' x y Q hk S rx ry e k
  rcases hk with ⟨i, j, rfl, rfl⟩ | ⟨i, j, rfl, rfl⟩
  · cases rx
    cases ry
    cases e
    exact ⟨_, h1, i, j, rfl, rfl, k ι H _ Ext.refl S (.int _)⟩
  · cases rx
    cases ry
    simp only [opAdd] at e
    split at e
    · rename_i hz
      cases e
      exact ⟨_, h2, i, j, rfl, rfl, zline hz, k ι H _ Ext.refl S (.str _)⟩
    · cases e
theorem v2_add : V2 X (binaryOp .Add) opAdd := by
  intro ι st H dx dy d st' x y Q S rx ry e k
  cases rx with
  | int i =>
    cases ry with
    | int j => exact v2_addG op_add op_add_str ι st H _ _ d st' _ _ Q (.inl ⟨i, j, rfl, rfl⟩) S (.int i) (.int j) e k
    | _ => cases e
  | str i =>
    cases ry with
    | str j => exact v2_addG op_add op_add_str ι st H _ _ d st' _ _ Q (.inr ⟨i, j, rfl, rfl⟩) S (.str i) (.str j) e k
    | _ => cases e
  | @tup xs a vs ha rs =>
    cases ry with
    | @tup ys b ws hb rs2 =>
      simp only [opAdd] at e
      split at e
      · rename_i hz
        cases e
        refine ⟨_, op_catA, a, b, vs, ws, rfl, rfl, ha, hb, zline (by rw [← rs.length, ← rs2.length]; exact hz), fun h => ?_, fun _ h => ?_, fun _ _ p hp => ?_⟩
        · have : xs = [] := rs.nil_iff.mpr h
          subst this
          exact k ι H _ Ext.refl S (.tup hb rs2)
        · have : ys = [] := rs2.nil_iff.mpr h
          subst this
          exact k ι H _ Ext.refl S (by rw [List.append_nil]; exact .tup ha rs)
        · obtain ⟨S2, e2, r2⟩ := S.tup hp (rs.append rs2)
          exact k ι _ _ e2 S2 r2
      · cases e
    | _ => cases e
  | loc i hi =>
    cases ry with
    | loc j hj =>
      simp only [opAdd] at e
      cases q1 : lsOf st i with
      | none => rw [q1] at e; cases e
      | some xs =>
        cases q2 : lsOf st j with
        | none => rw [q1, q2] at e; cases e
        | some ys =>
          rw [q1, q2] at e
          simp only at e
          split at e
          · rename_i hz
            cases e
            obtain ⟨_, vs, ha, rs⟩ := S.ls q1
            obtain ⟨_, ws, hb, rs2⟩ := S.ls q2
            refine ⟨_, op_cat, _, _, vs, ws, rfl, rfl, ha, hb, zline (by rw [← rs.length, ← rs2.length]; exact hz), fun p hp => ?_⟩
            obtain ⟨ι2, S2, e2, r2⟩ := S.newL hp (rs.append rs2)
            exact k ι2 _ _ e2 S2 r2
          · cases e
    | _ => cases e
  | _ => cases e
theorem v2_sub : V2 X (binaryOp .Sub) opSub := by
  intro ι st H dx dy d st' x y Q S rx ry e k
  cases rx with
  | int i =>
    cases ry with
    | int j => cases e; exact ⟨_, op_sub, i, j, rfl, rfl, k ι H _ Ext.refl S (.int _)⟩
    | _ => cases e
  | _ => cases e
theorem v2_mul : V2 X (binaryOp .Mult) opMul := by
  intro ι st H dx dy d st' x y Q S rx ry e k
  cases rx with
  | int i =>
    cases ry with
    | int j =>
      simp only [opMul] at e
      split at e
      · rename_i hz
        cases e
        exact ⟨_, op_mulW, i, j, rfl, rfl, hz, k ι H _ Ext.refl S (.int _)⟩
      · cases e
    | _ => cases e
  | loc i hi =>
    cases ry with
    | int j =>
      simp only [opMul] at e
      cases q1 : lsOf st i with
      | none => rw [q1] at e; cases e
      | some xs =>
        rw [q1] at e
        simp only at e
        split at e
        · rename_i hz
          cases e
          obtain ⟨_, vs, ha, rs⟩ := S.ls q1
          refine ⟨_, op_rep, _, j, vs, rfl, rfl, ha, hz.1, hz.2.1, zline (by rw [← rs.length]; exact hz.2.2), fun p hp => ?_⟩
          obtain ⟨ι2, S2, e2, r2⟩ := S.newL hp (rs.rep j.toNat)
          exact k ι2 _ _ e2 S2 r2
        · cases e
    | _ => cases e
  | @tup xs a vs ha rs =>
    cases ry with
    | int j =>
      simp only [opMul] at e
      split at e
      · rename_i hz
        cases e
        refine ⟨_, op_repT, a, j, vs, rfl, rfl, ha, fun h => hz.1 (rs.nil_iff.mpr h), hz.2.1, hz.2.2.1, by rw [← rs.length]; exact hz.2.2.2, fun p hp => ?_⟩
        obtain ⟨S2, e2, r2⟩ := S.tup hp (rs.rep j.toNat)
        exact k ι _ _ e2 S2 r2
      · cases e
    | _ => cases e
  | _ => cases e
theorem v2_div : V2 X (binaryOp .FloorDiv) opDiv := by
  intro ι st H dx dy d st' x y Q S rx ry e k
  cases rx with
  | int i =>
    cases ry with
    | int j =>
      simp only [opDiv] at e
      split at e
      · rename_i hz
        cases e
        exact ⟨_, op_fdivW, i, j, rfl, rfl, hz, k ι H _ Ext.refl S (.int _)⟩
      · cases e
    | _ => cases e
  | _ => cases e
theorem v2_mod : V2 X (binaryOp .Mod) opMod := by
  intro ι st H dx dy d st' x y Q S rx ry e k
  cases rx with
  | int i =>
    cases ry with
    | int j =>
      simp only [opMod] at e
      split at e
      · rename_i hz
        cases e
        exact ⟨_, op_mod, i, j, rfl, rfl, hz, k ι H _ Ext.refl S (.int _)⟩
      · cases e
    | _ => cases e
  | _ => cases e
theorem op_powX : OpR X (binaryOp .Pow) (rI (fun i j => 0 ≤ j ∧ (i.natAbs.log2 + 1) * j.toNat ≤ 100000000) fun i j => .int (i ^ j.toNat)) := opI fun i j _ _ _ _ _ hc q => by
  refine pow_int hc.1 ?_ q
  have h1 : Builtin.Int.intBits i ≤ i.natAbs.log2 + 1 := by
    unfold Builtin.Int.intBits
    split <;> omega
  have h2 : Builtin.Int.intBits i * j.toNat ≤ 100000000 := Nat.le_trans (Nat.mul_le_mul_right _ h1) hc.2
  have h3 : ((j.toNat : Nat) : Int) = j := by have := hc.1; omega
  have h4 : ((Builtin.Int.intBits i * j.toNat : Nat) : Int) ≤ ((100000000 : Nat) : Int) := Int.ofNat_le.mpr h2
  rw [Int.natCast_mul, h3] at h4
  exact Int.le_trans h4 (by decide)
theorem v2_pow : V2 X (binaryOp .Pow) opPow := by
  intro ι st H dx dy d st' x y Q S rx ry e k
  cases rx with
  | int i =>
    cases ry with
    | int j =>
      simp only [opPow] at e
      split at e
      · rename_i hz
        cases e
        exact ⟨_, op_powX, i, j, rfl, rfl, hz, k ι H _ Ext.refl S (.int _)⟩
      · cases e
    | _ => cases e
  | _ => cases e
/-- x += y of ints and of texts -/
def opIAdd : F2 := fun a b s => match a, b with
  | .int i, .int j => some (.int (i + j), s)
  | .str x, .str y => if x.length + y.length ≤ 16777216 then some (.str (x ++ y), s) else none
  | _, _ => none
theorem v2_iadd : V2 X (inplaceOp .Add) opIAdd := by
  intro ι st H dx dy d st' x y Q S rx ry e k
  cases rx with
  | int i =>
    cases ry with
    | int j => exact v2_addG iop_add iop_add_str ι st H _ _ d st' _ _ Q (.inl ⟨i, j, rfl, rfl⟩) S (.int i) (.int j) e k
    | _ => cases e
  | str i =>
    cases ry with
    | str j => exact v2_addG iop_add iop_add_str ι st H _ _ d st' _ _ Q (.inr ⟨i, j, rfl, rfl⟩) S (.str i) (.str j) e k
    | _ => cases e
  | _ => cases e
/-- -x -/
def unNeg : F1 := fun a s => match a with
  | .int i => some (.int (-i), s)
  | _ => none
theorem se_neg {W : WX} {pos : Pos} {a : Expr} {ra : ME} (ha : SE X W a ra) : SE X W (.UnaryOp .USub a pos) (eUn unNeg ra) := by
  refine PE.of (pe_un un_neg ha) fun σ H Q h => ?_
  obtain ⟨ι, st, σD, S, hs, g⟩ := h
  refine ⟨ι, st, σD, S, hs, RG.step (rel' := relD X.K) g fun x st1 ι1 H1 v1 _ e1 S1 r1 g1 => ?_⟩
  cases r1 with
  | int i => exact ⟨i, rfl, g1 ι1 H1 _ Ext.refl S1 (.int _)⟩
  | _ => exact (show False from g1).elim
end
end Mi
/-! M10: the built-ins' mirrors and what they bear out. -/
namespace Mi
open PySem PySem.Spec PyProof.Rows L2

section
variable {K : PySem.W.Frag} {ι : Nat → Addr} {n : Nat} {H : Hp}
theorem rds3 {x y z : D} {vs : List V} (h : RDs K ι n H [x, y, z] vs) : ∃ a b c, vs = [a, b, c] ∧ RD K ι n H x a ∧ RD K ι n H y b ∧ RD K ι n H z c := by
  cases h with
  | cons r t =>
    obtain ⟨a, b, rfl, q, q'⟩ := rds2 t
    exact ⟨_, _, _, rfl, r, q, q'⟩
end

/-! ### len, type, isinstance, numbers -/
def bLen : FL := fun ds s => match ds with
  | [.tup xs] => some (.int xs.length, s)
  | [.scr ns] => some (.int ns.length, s)
  | [.str z] => if z.length ≤ 16777216 then some (.int z.length, s) else none
  | [.loc l] => match s[l]? with
    | some (.lst xs) => some (.int xs.length, s)
    | some (.dK kvs) => some (.int kvs.length, s)
    | _ => none
  | _ => none
/-- a value's built-in type, by the mirror -/
def tyD (s : Store) : D → Option String
  | .non => some "NoneType"
  | .bl _ => some "bool"
  | .int _ => some "int"
  | .str _ => some "str"
  | .tup _ => some "tuple"
  | .scr _ => some "list"
  | .loc l => match s[l]? with
    | some (.lst _) => some "list"
    | some (.dK _) => some "dict"
    | _ => none
  | .ty _ => none
  | .fn _ => none
def bType : FL := fun ds s => match ds with
  | [d] => (tyD s d).map fun n => (.ty n, s)
  | _ => none
/-- isinstance of a built-in type and a built-in class -/
def isiB (a b : String) : Option Bool := if a ∈ tyNames ∧ b ∈ tyNames then some (decide (a = b) || (decide (a = "bool") && decide (b = "int"))) else none
def isiAny (a : String) : List D → Option Bool
  | [] => some false
  | .ty b :: r => match isiB a b, isiAny a r with
    | some x, some y => some (x || y)
    | _, _ => none
  | _ => none
def bIsi : FL := fun ds s => match ds with
  | [d, .ty b] => match tyD s d with
    | some a => (isiB a b).map fun r => (.bl r, s)
    | none => none
  | [d, .tup bs] => match tyD s d with
    | some a => (isiAny a bs).map fun r => (.bl r, s)
    | none => none
  | _ => none
def bAbs : FL := fun ds s => match ds with
  | [.int i] => some (.int (if i < 0 then -i else i), s)
  | _ => none
def bMax : FL := fun ds s => match ds with
  | [.int i, .int j] => some (.int (if j > i then j else i), s)
  | _ => none
def bMin : FL := fun ds s => match ds with
  | [.int i, .int j] => some (.int (if j < i then j else i), s)
  | _ => none
def bInt : FL := fun ds s => match ds with
  | [.int i] => some (.int i, s)
  | [.bl k] => some (.int (if k then 1 else 0), s)
  | _ => none
def bTuple : FL := fun ds s => match ds with
  | [.tup xs] => some (.tup xs, s)
  | [.loc l] => (lsOf s l).map fun xs => (.tup xs, s)
  | _ => none
def bList : FL := fun ds s => match ds with
  | [.tup xs] => some (.loc s.length, s ++ [.lst xs])
  | [.loc l] => (lsOf s l).map fun xs => (.loc s.length, s ++ [.lst xs])
  | [.scr ns] => some (.loc s.length, s ++ [.lst (ns.map D.int)])
  | _ => none
def intsOf : List D → Option (List Int)
  | [] => some []
  | .int i :: r => (intsOf r).map fun l => i :: l
  | _ => none
def boolsOf : List D → Option (List Bool)
  | [] => some []
  | .bl i :: r => (boolsOf r).map fun l => i :: l
  | _ => none
def onInts (f : List Int → D) : FL := fun ds s => match ds with
  | [.loc l] => match lsOf s l with
    | some xs => (intsOf xs).map fun ns => (f ns, s)
    | none => none
  | _ => none
def onBools (f : List Bool → D) : FL := fun ds s => match ds with
  | [.loc l] => match lsOf s l with
    | some xs => (boolsOf xs).map fun ns => (f ns, s)
    | none => none
  | _ => none
section
variable {X : Cx}
theorem vc_len : VC X (.builtin "len") bLen := by
  intro ι st H ds d st' vs Q S r e k
  unfold bLen at e
  split at e
  · cases e
    obtain ⟨v, rfl, q⟩ := rds1 r
    cases q with
    | tup hs rs => exact ⟨_, call_len, _, _, rfl, .inr ⟨_, hs, rs.length⟩, k ι H _ Ext.refl S (.int _)⟩
  · cases e
    obtain ⟨v, rfl, q⟩ := rds1 r
    cases q with
    | scr hs => exact ⟨_, call_len, _, _, rfl, .inl ⟨_, hs.sq, by rw [List.length_map]⟩, k ι H _ Ext.refl S (.int _)⟩
  · split at e
    · rename_i hz
      cases e
      obtain ⟨v, rfl, q⟩ := rds1 r
      cases q
      exact ⟨_, call_len, _, _, rfl, ⟨zline hz, rfl⟩, k ι H _ Ext.refl S (.int _)⟩
    · cases e
  · obtain ⟨v, rfl, q⟩ := rds1 r
    cases q
    split at e
    · rename_i xs h
      cases e
      obtain ⟨vs, q, rs⟩ := S.lst h
      exact ⟨_, call_len, _, _, rfl, .inl ⟨_, SqL.of q, rs.length⟩, k ι H _ Ext.refl S (.int _)⟩
    · rename_i kvs h
      cases e
      obtain ⟨kws, q, hk⟩ := S.ok _ _ h
      have hl : kvs.length = kws.length := by simpa using congrArg List.length hk.1
      exact ⟨_, call_lenD, _, kws, rfl, q, by rw [← hl]; exact k ι H _ Ext.refl S (.int _)⟩
    · cases e
  · cases e
theorem tyD_rel {ι : Nat → Addr} {st : Store} {H : Hp} {d : D} {v : V} {n : String} (S : Sim X.K ι st H) (r : RD X.K ι st.length H d v) (h : tyD st d = some n) : TyB X.K H v n ∧ TyX X.K H v (.type n) ∧ n ∈ tyNames := by
  cases r with
  | non => cases h; exact ⟨.non, .base .non, by decide⟩
  | bl b => cases h; exact ⟨.bl b, .base (.bl b), by decide⟩
  | int i => cases h; exact ⟨.int i, .base (.int i), by decide⟩
  | str z => cases h; exact ⟨.str z, .base (.str z), by decide⟩
  | ty z => cases h
  | fn z => cases h
  | tup hs rs =>
    cases h
    refine ⟨.tup hs, ?_, by decide⟩
    rcases hs with (h | ⟨o, h⟩) | ⟨o, its, n, h, hc, _⟩
    · exact .base (.tup h)
    · exact .fTuple h
    · exact .kTuple h hc
  | scr hs =>
    cases h
    refine ⟨.lst hs.sq, ?_, by decide⟩
    rcases hs with ⟨o, h⟩ | ⟨o, its, n, h, hc, _⟩
    · exact .base (.frz h)
    · exact .kList h hc
  | loc i hi =>
    simp only [tyD] at h
    split at h
    · rename_i xs e
      cases h
      obtain ⟨vs, q, rs⟩ := S.lst e
      exact ⟨.lst (SqL.of q), .base (.lst q), by decide⟩
    · rename_i kvs e
      cases h
      obtain ⟨kws, q, _⟩ := S.ok _ _ e
      exact ⟨.dK q, .base (.dK q), by decide⟩
    · cases h
theorem vc_type : VC X (.type "type") bType := by
  intro ι st H ds d st' vs Q S r e k
  unfold bType at e
  split at e
  · obtain ⟨v, rfl, q⟩ := rds1 r
    rename_i d0
    cases h : tyD st d0 with
    | none => rw [h] at e; cases e
    | some n =>
      rw [h] at e
      cases e
      exact ⟨_, call_type1, _, n, rfl, (tyD_rel S q h).1, k ι H _ Ext.refl S (.ty n)⟩
  · cases e
theorem kitB_all : ∀ a ∈ tyNames, ∀ b ∈ tyNames, kitB a b = some (decide (a = b) || (decide (a = "bool") && decide (b = "int"))) := by decide +kernel
theorem isiB_rel {a b : String} {r : Bool} (h : isiB a b = some r) : PySem.W.kitOne X.K (.type a) (.type b) = some r := by
  unfold isiB at h
  split at h
  · rename_i hh
    rw [← h]
    exact kit_ty (kitB_all a hh.1 b hh.2)
  · cases h
theorem isiAny_rel {a : String} {ι : Nat → Addr} {n : Nat} {H : Hp} : ∀ {bs : List D} {r : Bool} {vs : List V}, isiAny a bs = some r → RDs X.K ι n H bs vs → ∃ us : List Value, Paired ClsV vs us ∧ PySem.W.kitAny X.K (.type a) us = some r
  | [], r, _, h, rs => by
    cases rs
    cases h
    exact ⟨[], .nil, kitAny_nil⟩
  | .ty b :: bs, r, _, h, rs => by
    cases rs with
    | cons hv rs =>
      cases hv
      simp only [isiAny] at h
      cases q1 : isiB a b with
      | none => rw [q1] at h; cases h
      | some x =>
        cases q2 : isiAny a bs with
        | none => rw [q1, q2] at h; cases h
        | some y =>
          rw [q1, q2] at h
          have h : (x || y) = r := Option.some.inj h
          obtain ⟨us, p, e⟩ := isiAny_rel q2 rs
          refine ⟨_ :: us, .cons (.ty b) p, kitAny_cons (isiB_rel q1) (fun hx => ?_) fun hx => ?_⟩
          · subst hx; rw [← h]; exact e
          · subst hx; rw [← h]; rfl
  | .non :: _, _, _, h, _ | .bl _ :: _, _, _, h, _ | .int _ :: _, _, _, h, _ | .str _ :: _, _, _, h, _ | .tup _ :: _, _, _, h, _ | .loc _ :: _, _, _, h, _ | .scr _ :: _, _, _, h, _ | .fn _ :: _, _, _, h, _ => by cases h
theorem call_isiA : CallR X (.builtin "isinstance") (fun xs H Q => ∃ (x : V) (tp : Addr) (cs : List V) (t : Value) (us : List Value) (b : Bool), xs = [x, .ref tp] ∧ SqT X.K H tp cs ∧ Paired ClsV cs us ∧ TyX X.K H x t ∧ PySem.W.kitAny X.K t us = some b ∧ Q (.bl b) H) := by
  intro pins s σ H xs us Q I r h
  obtain ⟨x, tp, cs, t, ws, b, rfl, hT, k, ty, e, q⟩ := h
  obtain ⟨u1, u2, rfl, r1, r2⟩ := vals2 r
  cases (show u2 = Value.ref tp from r2)
  obtain ⟨P, Z, p, hx⟩ := kit_of I r1 ty
  obtain ⟨its, rv, ⟨o, h1, h2, n, h3⟩, _⟩ := I.tuple hT
  have e3 := ClsV.all k rv
  subst e3
  obtain ⟨oc, od, dt, sl⟩ := o
  simp only at h2 h3
  subst h2 h3
  exact PySem.W.kia_tup Z I.kIn p h1 e hx fun tk => ⟨.bl b, H, I.tok tk, rfl, q⟩
theorem vc_isi : VC X (.builtin "isinstance") bIsi := by
  intro ι st H ds d st' vs Q S r e k
  unfold bIsi at e
  split at e
  · rename_i d0 b
    obtain ⟨v, w, rfl, q, q'⟩ := rds2 r
    cases q'
    cases h : tyD st d0 with
    | none => rw [h] at e; cases e
    | some a =>
      rw [h] at e
      simp only at e
      cases h2 : isiB a b with
      | none => rw [h2] at e; cases e
      | some x =>
        rw [h2] at e
        cases e
        exact ⟨_, call_isi, v, .ty b, .type a, .type b, x, rfl, .ty b, (tyD_rel S q h).2.1, isiB_rel h2, k ι H _ Ext.refl S (.bl x)⟩
  · rename_i d0 bs
    obtain ⟨v, w, rfl, q, q'⟩ := rds2 r
    cases q' with
    | tup hs rs =>
      cases h : tyD st d0 with
      | none => rw [h] at e; cases e
      | some a =>
        rw [h] at e
        simp only at e
        cases h2 : isiAny a bs with
        | none => rw [h2] at e; cases e
        | some x =>
          rw [h2] at e
          cases e
          obtain ⟨us, p, ek⟩ := isiAny_rel h2 rs
          exact ⟨_, call_isiA, v, _, _, .type a, us, x, rfl, hs, p, (tyD_rel S q h).2.1, ek, k ι H _ Ext.refl S (.bl x)⟩
  · cases e
theorem vc_abs : VC X (.builtin "abs") bAbs := by
  intro ι st H ds d st' vs Q S r e k
  unfold bAbs at e
  split at e
  · cases e
    obtain ⟨v, rfl, q⟩ := rds1 r
    cases q
    exact ⟨_, call_abs, _, rfl, k ι H _ Ext.refl S (.int _)⟩
  · cases e
theorem vc_max (hc : X.calm = true) : VC X (.builtin "max") bMax := by
  intro ι st H ds d st' vs Q S r e k
  unfold bMax at e
  split at e
  · cases e
    obtain ⟨v, w, rfl, q, q'⟩ := rds2 r
    cases q
    cases q'
    exact ⟨_, call_max2 hc, _, _, rfl, k ι H _ Ext.refl S (.int _)⟩
  · cases e
theorem vc_min (hc : X.calm = true) : VC X (.builtin "min") bMin := by
  intro ι st H ds d st' vs Q S r e k
  unfold bMin at e
  split at e
  · cases e
    obtain ⟨v, w, rfl, q, q'⟩ := rds2 r
    cases q
    cases q'
    exact ⟨_, call_min2 hc, _, _, rfl, k ι H _ Ext.refl S (.int _)⟩
  · cases e
theorem vc_int : VC X (.type "int") bInt := by
  intro ι st H ds d st' vs Q S r e k
  unfold bInt at e
  split at e
  · cases e
    obtain ⟨v, rfl, q⟩ := rds1 r
    cases q
    exact ⟨_, call_int1, .inl ⟨_, rfl, k ι H _ Ext.refl S (.int _)⟩⟩
  · cases e
    obtain ⟨v, rfl, q⟩ := rds1 r
    cases q
    exact ⟨_, call_int1, .inr ⟨_, rfl, k ι H _ Ext.refl S (.int _)⟩⟩
  · cases e
theorem vc_tuple : VC X (.type "tuple") bTuple := by
  intro ι st H ds d st' vs Q S r e k
  unfold bTuple at e
  split at e
  · cases e
    obtain ⟨v, rfl, q⟩ := rds1 r
    cases q with
    | tup hs rs => exact ⟨_, call_tuple_of, _, _, rfl, .inr ⟨hs, k ι H _ Ext.refl S (.tup hs rs)⟩⟩
  · rename_i l
    obtain ⟨v, rfl, q⟩ := rds1 r
    cases q
    cases h : lsOf st l with
    | none => rw [h] at e; cases e
    | some xs =>
      rw [h] at e
      cases e
      obtain ⟨_, vs, hs, rs⟩ := S.ls h
      refine ⟨_, call_tuple_of, _, _, rfl, .inl ⟨SqL.of hs, fun p hp => ?_⟩⟩
      obtain ⟨S2, e2, r2⟩ := S.tup hp rs
      exact k ι _ _ e2 S2 r2
  · cases e
theorem vc_list : VC X (.type "list") bList := by
  intro ι st H ds d st' vs Q S r e k
  unfold bList at e
  split at e
  · cases e
    obtain ⟨v, rfl, q⟩ := rds1 r
    cases q with
    | tup hs rs =>
      refine ⟨_, call_list_of, _, _, rfl, .inr hs, fun p hp => ?_⟩
      obtain ⟨ι2, S2, e2, r2⟩ := S.newL hp rs
      exact k ι2 _ _ e2 S2 r2
  · rename_i l
    obtain ⟨v, rfl, q⟩ := rds1 r
    cases q
    cases h : lsOf st l with
    | none => rw [h] at e; cases e
    | some xs =>
      rw [h] at e
      cases e
      obtain ⟨_, vs, hs, rs⟩ := S.ls h
      refine ⟨_, call_list_of, _, _, rfl, .inl (SqL.of hs), fun p hp => ?_⟩
      obtain ⟨ι2, S2, e2, r2⟩ := S.newL hp rs
      exact k ι2 _ _ e2 S2 r2
  · rename_i ns
    cases e
    obtain ⟨v, rfl, q⟩ := rds1 r
    cases q with
    | scr hs =>
      refine ⟨_, call_list_of, _, _, rfl, .inl hs.sq, fun p hp => ?_⟩
      obtain ⟨ι2, S2, e2, r2⟩ := S.newL hp (rds_ints ns)
      exact k ι2 _ _ e2 S2 r2
  · cases e
theorem intsOf_rel {ι : Nat → Addr} {n : Nat} {H : Hp} : ∀ {xs : List D} {ns : List Int} {vs : List V}, intsOf xs = some ns → RDs X.K ι n H xs vs → vs = ns.map V.int
  | [], _, _, h, r => by cases h; cases r; rfl
  | .int i :: xs, _, _, h, r => by
    cases r with
    | cons hv rs =>
      cases hv
      simp only [intsOf] at h
      cases q : intsOf xs with
      | none => rw [q] at h; cases h
      | some l => rw [q] at h; cases h; rw [intsOf_rel q rs]; rfl
  | .non :: _, _, _, h, _ | .bl _ :: _, _, _, h, _ | .ty _ :: _, _, _, h, _ | .str _ :: _, _, _, h, _ | .tup _ :: _, _, _, h, _ | .loc _ :: _, _, _, h, _ | .scr _ :: _, _, _, h, _ | .fn _ :: _, _, _, h, _ => by cases h
theorem boolsOf_rel {ι : Nat → Addr} {n : Nat} {H : Hp} : ∀ {xs : List D} {ns : List Bool} {vs : List V}, boolsOf xs = some ns → RDs X.K ι n H xs vs → vs = ns.map V.bl
  | [], _, _, h, r => by cases h; cases r; rfl
  | .bl i :: xs, _, _, h, r => by
    cases r with
    | cons hv rs =>
      cases hv
      simp only [boolsOf] at h
      cases q : boolsOf xs with
      | none => rw [q] at h; cases h
      | some l => rw [q] at h; cases h; rw [boolsOf_rel q rs]; rfl
  | .non :: _, _, _, h, _ | .int _ :: _, _, _, h, _ | .ty _ :: _, _, _, h, _ | .str _ :: _, _, _, h, _ | .tup _ :: _, _, _, h, _ | .loc _ :: _, _, _, h, _ | .scr _ :: _, _, _, h, _ | .fn _ :: _, _, _, h, _ => by cases h
theorem vc_sum (hc : X.calm = true) : VC X (.builtin "sum") (onInts fun ns => .int ns.sum) := by
  intro ι st H ds d st' vs Q S r e k
  unfold onInts at e
  split at e
  · rename_i l
    obtain ⟨v, rfl, q⟩ := rds1 r
    cases q
    cases h : lsOf st l with
    | none => rw [h] at e; cases e
    | some xs =>
      rw [h] at e
      simp only at e
      cases h2 : intsOf xs with
      | none => rw [h2] at e; cases e
      | some ns =>
        rw [h2] at e
        cases e
        obtain ⟨_, vs, hs, rs⟩ := S.ls h
        rw [intsOf_rel h2 rs] at hs
        exact ⟨_, cr_sum hc, _, ns, rfl, SqL.of hs, k ι H _ Ext.refl S (.int _)⟩
  · cases e
theorem vc_all (hc : X.calm = true) : VC X (.builtin "all") (onBools fun ns => .bl (ns.all id)) := by
  intro ι st H ds d st' vs Q S r e k
  unfold onBools at e
  split at e
  · rename_i l
    obtain ⟨v, rfl, q⟩ := rds1 r
    cases q
    cases h : lsOf st l with
    | none => rw [h] at e; cases e
    | some xs =>
      rw [h] at e
      simp only at e
      cases h2 : boolsOf xs with
      | none => rw [h2] at e; cases e
      | some ns =>
        rw [h2] at e
        cases e
        obtain ⟨_, vs, hs, rs⟩ := S.ls h
        rw [boolsOf_rel h2 rs] at hs
        exact ⟨_, cr_all hc, _, ns, rfl, SqL.of hs, k ι H _ Ext.refl S (.bl _)⟩
  · cases e
theorem vc_any (hc : X.calm = true) : VC X (.builtin "any") (onBools fun ns => .bl (ns.any id)) := by
  intro ι st H ds d st' vs Q S r e k
  unfold onBools at e
  split at e
  · rename_i l
    obtain ⟨v, rfl, q⟩ := rds1 r
    cases q
    cases h : lsOf st l with
    | none => rw [h] at e; cases e
    | some xs =>
      rw [h] at e
      simp only at e
      cases h2 : boolsOf xs with
      | none => rw [h2] at e; cases e
      | some ns =>
        rw [h2] at e
        cases e
        obtain ⟨_, vs, hs, rs⟩ := S.ls h
        rw [boolsOf_rel h2 rs] at hs
        exact ⟨_, cr_any hc, _, ns, rfl, SqL.of hs, k ι H _ Ext.refl S (.bl _)⟩
  · cases e
end

/-! ### repr -/
/-- data as the library's PyData (a dict only empty) -/
def toPD (s : Store) : Nat → D → Option PyData
  | 0 => fun _ => none
  | n + 1 => fun d => match d with
    | .non => some .none
    | .bl b => some (.bool b)
    | .int i => some (.int i)
    | .str x => some (.str x)
    | .tup xs => (toPDs (toPD s n) xs).map .tuple
    | .loc l => match s[l]? with
      | some (.lst xs) => (toPDs (toPD s n) xs).map .list
      | some (.dK []) => some (.dict [])
      | _ => none
    | _ => none
where
  toPDs (f : D → Option PyData) : List D → Option (List PyData)
    | [] => some []
    | x :: xs => match f x, toPDs f xs with
      | some a, some b => some (a :: b)
      | _, _ => none
def bRepr : FL := fun ds s => match ds with
  | [d] => match toPD s 60 d with
    | some p => if p.showable = true ∧ p.depth ≤ 60 ∧ p.shown.length ≤ 16777216 then some (.str p.shown, s) else none
    | none => none
  | _ => none
section
variable {X : Cx} {pins : List (Addr × Obj)} {σ : L2.St} {H : Hp} {s : Shared} {ι : Nat → Addr} {st : Store}
theorem pds_reads {f : D → Option PyData} (hf : ∀ d p v u, f d = some p → RD X.K ι st.length H d v → L2.RelV v u → ∃ as, Reads s.heap u p as ∧ ∀ a ∈ as, (H a).isSome = true) :
    ∀ (xs : List D) {ps : List PyData} {vs : List V} {us : List Value}, toPD.toPDs f xs = some ps → RDs X.K ι st.length H xs vs → Vals vs us → ∃ as, ReadsAll s.heap us ps as ∧ ∀ a ∈ as, (H a).isSome = true
  | [], _, _, _, h, r, v => by
    cases h; cases r; cases v
    exact ⟨[], .nil, fun a ha => by cases ha⟩
  | x :: xs, _, _, _, h, r, v => by
    simp only [toPD.toPDs] at h
    cases q1 : f x with
    | none => rw [q1] at h; cases h
    | some a =>
      cases q2 : toPD.toPDs f xs with
      | none => rw [q1, q2] at h; cases h
      | some b =>
        rw [q1, q2] at h
        cases h
        cases r with
        | cons r1 r2 =>
          cases v with
          | cons v1 v2 =>
            obtain ⟨as, h1, h2⟩ := hf _ _ _ _ q1 r1 v1
            obtain ⟨bs, h3, h4⟩ := pds_reads hf xs q2 r2 v2
            exact ⟨as ++ bs, .cons h1 h3, fun c hc => (List.mem_append.mp hc).elim (h2 c) (h4 c)⟩
theorem pd_reads (I : Inv X pins σ H s) (S : Sim X.K ι st H) : ∀ (n : Nat) (d : D) (p : PyData) (v : V) (u : Value), toPD st n d = some p → RD X.K ι st.length H d v → L2.RelV v u → ∃ as, Reads s.heap u p as ∧ ∀ a ∈ as, (H a).isSome = true
  | 0, _, _, _, _, h, _, _ => by cases h
  | n + 1, d, p, v, u, h, r, rv => by
    cases r with
    | non => cases h; cases rv; exact ⟨[], .none, fun a ha => by cases ha⟩
    | bl b => cases h; cases rv; exact ⟨[], .bool b, fun a ha => by cases ha⟩
    | int i => cases h; obtain ⟨t, rfl⟩ := rv; exact ⟨[], .int i t, fun a ha => by cases ha⟩
    | str x => cases h; obtain ⟨t, rfl⟩ := rv; exact ⟨[], .str x t, fun a ha => by cases ha⟩
    | ty x => cases h
    | fn x => cases h
    | scr hs => cases h
    | @tup xs a vs hs rs =>
      cases rv
      simp only [toPD] at h
      cases q : toPD.toPDs (toPD st n) xs with
      | none => rw [q] at h; cases h
      | some ps =>
        rw [q] at h
        cases h
        obtain ⟨its, rv, ⟨o, ho, hc, m, hd⟩, _⟩ := I.tuple hs
        obtain ⟨as, h1, h2⟩ := pds_reads (fun d p v u => pd_reads I S n d p v u) xs q rs rv
        exact ⟨as, .tuple ho hc hd h1, h2⟩
    | loc l hl =>
      cases rv
      simp only [toPD] at h
      split at h
      · rename_i xs e
        cases q : toPD.toPDs (toPD st n) xs with
        | none => rw [q] at h; cases h
        | some ps =>
          rw [q] at h
          cases h
          obtain ⟨vs, a1, rs⟩ := S.lst e
          obtain ⟨its, rv, ⟨o, m, ho, hc, _, hd⟩, _⟩ := I.list (SqL.of a1)
          obtain ⟨as, h1, h2⟩ := pds_reads (fun d p v u => pd_reads I S n d p v u) xs q rs rv
          refine ⟨_ :: as, .list ho hc hd h1, fun c hc => ?_⟩
          rcases List.mem_cons.mp hc with e | hc
          · rw [e, a1]; rfl
          · exact h2 c hc
      · rename_i e
        cases h
        obtain ⟨kws, a1, hk⟩ := S.ok _ _ e
        have : kws = [] := by
          have := congrArg List.length hk.1
          simp at this
          exact List.eq_nil_of_length_eq_zero this.symm
        subst this
        obtain ⟨_, _, vs, hkv, o, es, ep, ho, hx, hd, hp⟩ := (show ObjOk X.prog X.w H s.heap (ι l) (.dK []) from I.hok _ _ a1)
        have : vs = [] := by cases hkv; rfl
        subst this
        have he : es.toList = [] := by
          obtain ⟨_, pr, _⟩ := hp
          generalize es.toList = L at pr ⊢
          cases pr
          rfl
        refine ⟨_, .dict (kvs := []) (as := []) (bs := []) ho hx.1 hd ?_ ?_, fun c hc => ?_⟩
        · rw [he]; exact .nil
        · rw [he]; exact .nil
        · have : c = ι l := by simpa using hc
          rw [this, a1]; rfl
      · cases h
end
end Mi
/-! M11: a law's end over FnG. -/
namespace Mi
open PySem PySem.Spec PyProof.Rows L2

theorem fz_of {K : PySem.W.Frag} {H : Hp} {a : Addr} {xs : List V} (only : Only H) (h : SqL K H a xs) : FzL K H a xs := by
  rcases h with (h | h) | h
  · rcases only a with z | ⟨o, ys, z⟩
    · rw [h] at z; cases z
    · rw [h] at z; cases z
  · exact .inl h
  · exact .inr h
/-- the mirror tells True of each script of at most n numbers -/
def Tells (n : Nat) (m : FD) : Prop := ∀ ns : List Int, ns.length ≤ n → ∃ st, m [.scr ns] [] = .ok (.bl true) st
theorem sp_law {K : PySem.W.Frag} {mg : Str → Option Value} {m : FD} {n : Nat} (t : Tells n m) {H : Hp} {a : Addr} {ns : List Int} (hn : ns.length ≤ n) (only : Only H) (h : SqL K H a (ns.map V.int)) :
    spM K mg 1 m [.ref a] H (fun v _ => v = .bl true) fun _ _ _ => False := by
  obtain ⟨st, e⟩ := t ns hn
  refine ⟨rfl, fun _ => 0, [], [.scr ns], ⟨fun i j o u hi => by simp at hi, fun i o hi => by simp at hi⟩, .one (.scr (fz_of only h)), ?_⟩
  rw [e]
  intro ι' H' v _ _ r
  cases r
  rfl
section
variable {P : Program} {w : World} {K : PySem.W.Frag} {mg mb : Str → Option Value} {k n : Nat} {fa a : Addr} {fd : FuncData} {x : Str} {m : FD} {s1 : Shared} {us : List Value} {ns : List Int}
/-- the call, at an abstract heap that knows the script at most -/
theorem call_at {H : Hp} (only : Only H) (sq : SqL K H a (ns.map V.int)) (hk : HOk P w H s1.heap) (low : ∀ b, H b ≠ none → b = a ∧ K.lookup a = none)
    (KX : K.In s1.heap) (g1 : s1.heap.Ns mainGlobals mg) (g2 : s1.heap.Ns builtinsNs mb) (g3 : ∀ z : Str, z ≠ "__name__" → mb z = bootBuiltins z) (g4 : s1.heap.NoLimit) (g5 : s1.gens = #[])
    (ha : ∀ o, s1.heap.get? a = some o → ∀ es ep, o.data ≠ .dict es ep) (hl : ns.length ≤ n) (hr : Room k callerA) (t : Tells n m)
    (F : ∀ base : Heap, K.In base → base.Ns mainGlobals mg → FnG P w K mg base k fa fd [x] m) (hb : ∀ (s : Shared) (u : Value), BindsTo s fd ⟨[u], []⟩ [(x, u)]) :
    codeAny (model P w) callerA (.call (.ref fa) ⟨[.ref a], []⟩) (fun r s' => r = .ok (.ret (.bool true)) ∧ OldK s1.heap s'.heap ∧ s'.os = s1.os ∧ AllBare s'.gens) s1 := by
  have free : ∀ {b : Addr} {o : Obj}, s1.heap.get? b = some o → (∀ es ep, b = a → o.data ≠ .dict es ep) → ∀ es ep, o.data = .dict es ep → H b = none := fun {b o} e nd es ep d => by
    cases q : H b with
    | none => rfl
    | some u => exact (nd es ep (low b (by rw [q]; simp)).1 d).elim
  have ns_ : ∀ {b : Addr} {f : Str → Option Value}, s1.heap.Ns b f → (hidT s1.heap H).Ns b f := by
    rintro b f ⟨o, es, ep, e, d, r⟩
    exact ⟨o, es, ep, hidT_get e (free e (fun es ep q => ha o (by rw [← q]; exact e) es ep) es ep d), d, r⟩
  have KB : K.In (hidT s1.heap H) := fun b o e => by
    refine hidT_get (KX b o e) ?_
    cases q : H b with
    | none => rfl
    | some u =>
      obtain ⟨rfl, z⟩ := low b (by rw [q]; simp)
      rw [z] at e; cases e
  obtain ⟨mc, l1, l2⟩ := g4
  have M : Mod K mg (hidT s1.heap H) := ⟨KB, ns_ g1, ⟨mb, ns_ g2, g3⟩, ⟨mc, ns_ l1, l2⟩⟩
  have en : Env0 P w K mg (hidT s1.heap H) callerA [] s1 H := ⟨rfl, M, fun b o e => of_hidT e, Nat.le_of_eq (hidT_size _ _), trivial, fun b z => absurd (show b ∈ ([] : List Addr) from z) (by simp), hk, .of_eq g5⟩
  refine codeAny_mono ((F _ KB (ns_ g1)).run callerA [] s1 H ⟨[.ref a], []⟩ [.ref a] [.ref a] (fun v _ => v = .bl true) (fun _ _ _ => False) rfl hr en (hb s1 (.ref a)) (.cons rfl .nil) (sp_law t hl only sq)) fun r s' h => ?_
  cases r with
  | error e =>
    obtain ⟨_, _, _, _, _, _, _, _, _, _, _, _, z⟩ := h
    exact z.elim
  | ok fl =>
    cases fl with
    | ret u =>
      obtain ⟨v, H', os, bare, un, hk', rv, q⟩ := h
      cases (show v = .bl true from q)
      cases (show u = Value.bool true from rv)
      refine ⟨rfl, OldK.of_keep fun b o e => ?_, os, bare⟩
      cases q : H b with
      | none => exact un.keep b o e q (fun z => absurd (show b ∈ ([] : List Addr) from z) (by simp)) (by simp)
      | some u =>
        rcases only b with z | ⟨ob, xs, z⟩
        · rw [q] at z; cases z
        · obtain ⟨e1, _⟩ := hk b _ z
          obtain ⟨e2, _⟩ := hk' b _ (un.frzs b ob _ z)
          rw [e] at e1; cases e1
          exact e2
    | next => exact False.elim h
    | brk => exact False.elim h
    | cont => exact False.elim h
theorem call_law (KX : K.In s1.heap) (g1 : s1.heap.Ns mainGlobals mg) (g2 : s1.heap.Ns builtinsNs mb) (g3 : ∀ z : Str, z ≠ "__name__" → mb z = bootBuiltins z) (g4 : s1.heap.NoLimit) (g5 : s1.gens = #[])
    (ha : s1.heap.get? a = some { cls := .type "list", data := .seq us.toArray }) (hi : IntsAre us ns) (hl : ns.length ≤ n) (hn : n ≤ sizeLine) (hr : Room k callerA) (t : Tells n m)
    (F : ∀ base : Heap, K.In base → base.Ns mainGlobals mg → FnG P w K mg base k fa fd [x] m) (hb : ∀ (s : Shared) (u : Value), BindsTo s fd ⟨[u], []⟩ [(x, u)]) :
    codeAny (model P w) callerA (.call (.ref fa) ⟨[.ref a], []⟩) (fun r s' => r = .ok (.ret (.bool true)) ∧ OldK s1.heap s'.heap ∧ s'.os = s1.os ∧ AllBare s'.gens) s1 := by
  have rv := vals_ints hi
  have nd : ∀ o, s1.heap.get? a = some o → ∀ es ep, o.data ≠ .dict es ep := fun o e es ep d => by rw [ha] at e; cases e; cases d
  cases hk : K.lookup a with
  | some o =>
    have e := KX a o hk
    rw [ha] at e; cases e
    exact call_at (H := fun _ => none) (fun _ => .inl rfl) (.inr ⟨_, us.toArray, _, hk, rfl, rfl, rfl, by rw [List.size_toArray, hi.length]; exact Nat.le_trans hl hn, by simpa using rv⟩) (fun b u z => nomatch z) (fun b z => absurd rfl z) KX g1 g2 g3 g4 g5 nd hl hr t F hb
  | none =>
    have hit : ∀ {b : Addr} {u : HO}, (if b = a then some (HO.frz { cls := .type "list", data := .seq us.toArray } (.lst (ns.map V.int))) else none) = some u → b = a ∧ u = .frz { cls := .type "list", data := .seq us.toArray } (.lst (ns.map V.int)) := fun {b u} z => by
      split at z
      · rename_i q; exact ⟨q, (Option.some.inj z).symm⟩
      · cases z
    refine call_at (H := fun b => if b = a then some (.frz { cls := .type "list", data := .seq us.toArray } (.lst (ns.map V.int))) else none) (fun b => ?_) (.inl (.inr ⟨_, if_pos rfl⟩)) (fun b u z => ?_) (fun b z => ?_) KX g1 g2 g3 g4 g5 nd hl hr t F hb
    · cases q : (if b = a then some (HO.frz { cls := .type "list", data := .seq us.toArray } (.lst (ns.map V.int))) else none) with
      | none => exact .inl q
      | some u => exact .inr ⟨_, _, q.trans (congrArg some (hit q).2)⟩
    · obtain ⟨rfl, rfl⟩ := hit z
      exact ⟨ha, by rw [List.length_map]; exact Nat.le_trans hl hn, us, _, rv, ha⟩
    · cases q : (if b = a then some (HO.frz { cls := .type "list", data := .seq us.toArray } (.lst (ns.map V.int))) else none) with
      | none => exact absurd q z
      | some u => exact ⟨(hit q).1, hk⟩
end
/-- the goal behind the head: F tells the written part, the function object, the mirror's promise -/
theorem walk_m {l : PySem.W.OpenLaw} {n k : Nat} {q : Program} {loose : List Str} {XP : (Str → Option Value) → Heap → Prop} {YP : World → Heap → Prop} {d : DefRec} {x : Str} {m : FD}
    (hn : l.most = some n) (hn2 : n ≤ sizeLine) (hdf : d.params.defaults = []) (hr : Room k callerA) (t : Tells n m)
    (F : ∀ (w : World) (mg : Str → Option Value) (fa : Addr) (h : Heap), YP w h → h.Ns mainGlobals mg → mg d.name = some (.ref fa) →
      ∃ (K : PySem.W.Frag) (fd : FuncData), K.In h ∧ (∀ (s : Shared) (u : Value), BindsTo s fd ⟨[u], []⟩ [(x, u)]) ∧ ∀ base : Heap, K.In base → base.Ns mainGlobals mg → FnG l.prog w K mg base k fa fd [x] m) :
    PySem.W.WalkO q loose XP YP l.row.toRowW d [] (fun f vs => PySem.call f vs) := by
  refine Att.attach_call hn hdf fun w s₀ s₁ mg mb fa o pm cd doc a vs ns G Y ho hd hcd hmg hobj hints hlen hg => ?_
  obtain ⟨K, fd, KX, hb, hF⟩ := F w mg fa _ Y G.T.g hmg
  exact call_law KX G.T.g G.T.b G.T.builtins G.T.nolimit hg hobj hints hlen hn2 hr t hF hb
end Mi
/-! M12: methods of lists and texts, x[i] = v, {}, repr. -/
namespace Mi
open PySem PySem.Spec PyProof.Rows L2
section
variable {X : Cx}
/-- a list of the store, by its place -/
def onL (s : Store) (x : D) (k : Nat → List D → Option (D × Store)) : Option (D × Store) := match x with
  | .loc l => match lsOf s l with
    | some xs => k l xs
    | none => none
  | _ => none
theorem lsOf_get {st : Store} {l : Nat} {xs : List D} (h : lsOf st l = some xs) : st[l]? = some (.lst xs) := by
  unfold lsOf at h
  split at h
  · rename_i ys e; cases h; exact e
  · cases h
theorem onL_ok {ι : Nat → Addr} {st : Store} {H : Hp} {x : D} {v : V} {k : Nat → List D → Option (D × Store)} {r : D × Store} (S : Sim X.K ι st H) (rx : RD X.K ι st.length H x v) (h : onL st x k = some r) :
    ∃ l xs vs, v = .ref (ι l) ∧ st[l]? = some (.lst xs) ∧ H (ι l) = some (.lst vs) ∧ RDs X.K ι st.length H xs vs ∧ k l xs = some r := by
  unfold onL at h
  split at h
  · rename_i l
    cases q : lsOf st l with
    | none => rw [q] at h; cases h
    | some xs =>
      rw [q] at h
      obtain ⟨_, vs, hs, rs⟩ := S.ls q
      cases rx
      exact ⟨l, xs, vs, rfl, lsOf_get q, hs, rs, h⟩
  · cases h
def mAppend : FM := fun x ds s => match ds with
  | [d] => onL s x fun l xs => if xs.length < 16777216 then some (.non, s.set l (.lst (xs ++ [d]))) else none
  | _ => none
def mExtend : FM := fun x ds s => match ds with
  | [.loc b] => onL s x fun l xs => match lsOf s b with
    | some zs => if xs.length + zs.length ≤ 16777216 then some (.non, s.set l (.lst (xs ++ zs))) else none
    | none => none
  | _ => none
def mPop : FM := fun x ds s => match ds with
  | [] => onL s x fun l xs => (xs[xs.length - 1]?).map fun y => (y, s.set l (.lst xs.dropLast))
  | [.int i] => onL s x fun l xs => if -(2 ^ 63) ≤ i ∧ i < 2 ^ 63 then (match seqIndex? i xs.length with
    | some k => (xs[k]?).map fun y => (y, s.set l (.lst (xs.eraseIdx k)))
    | none => none) else none
  | _ => none
def mStrip : FM := fun x ds s => match x, ds with
  | .str a, [.str b] => if a.length ≤ 16777216 then some (.str (Txt.stripChars a b), s) else none
  | .str a, [] => if a.length ≤ 16777216 then some (.str (Txt.strip a), s) else none
  | _, _ => none
theorem sl_eq : sizeLine = 16777216 := sizeLine_eq
theorem RDs.dropLast {K : PySem.W.Frag} {ι : Nat → Addr} {n : Nat} {H : Hp} {xs : List D} {vs : List V} (r : RDs K ι n H xs vs) : RDs K ι n H xs.dropLast vs.dropLast := by
  rw [List.dropLast_eq_take, List.dropLast_eq_take, ← r.length]; exact r.take _
theorem RDs.erase {K : PySem.W.Frag} {ι : Nat → Addr} {n : Nat} {H : Hp} {xs : List D} {vs : List V} (r : RDs K ι n H xs vs) (k : Nat) : RDs K ι n H (xs.eraseIdx k) (vs.eraseIdx k) := by
  rw [List.eraseIdx_eq_take_drop_succ, List.eraseIdx_eq_take_drop_succ]
  exact (r.take k).append (r.drop (k + 1))
theorem vm_append : VM X "list.append" mAppend := by
  intro ι st H x ds d st' v vs Q S rx rs e k
  unfold mAppend at e
  split at e
  · rename_i d0
    obtain ⟨l, xs, ws, rfl, hl, hH, rw', e2⟩ := onL_ok S rx e
    obtain ⟨u, rfl, ru⟩ := rds1 rs
    split at e2
    · rename_i hz
      cases e2
      obtain ⟨S2, x2⟩ := S.setL hl (rw'.append (.one ru))
      exact ⟨_, mt_append, _, _, _, rfl, rfl, hH, by rw [sl_eq, ← rw'.length]; exact hz, k ι _ _ x2 S2 .non⟩
    · cases e2
  · cases e
theorem vm_extend : VM X "list.extend" mExtend := by
  intro ι st H x ds d st' v vs Q S rx rs e k
  unfold mExtend at e
  split at e
  · rename_i b
    obtain ⟨l, xs, ws, rfl, hl, hH, rw', e2⟩ := onL_ok S rx e
    obtain ⟨u, rfl, ru⟩ := rds1 rs
    cases ru
    cases q : lsOf st b with
    | none => rw [q] at e2; cases e2
    | some zs =>
      rw [q] at e2
      obtain ⟨_, us, hb, rb⟩ := S.ls q
      simp only at e2
      split at e2
      · rename_i hz
        cases e2
        obtain ⟨S2, x2⟩ := S.setL hl (rw'.append rb)
        exact ⟨_, mt_extend, _, _, _, _, rfl, rfl, hH, hb, by rw [sl_eq, ← rw'.length, ← rb.length]; exact hz, k ι _ _ x2 S2 .non⟩
      · cases e2
  · cases e
theorem vm_pop : VM X "list.pop" mPop := by
  intro ι st H x ds d st' v vs Q S rx rs e k
  unfold mPop at e
  split at e
  · obtain ⟨l, xs, ws, rfl, hl, hH, rw', e2⟩ := onL_ok S rx e
    cases rs
    cases q : xs[xs.length - 1]? with
    | none => rw [q] at e2; cases e2
    | some y =>
      rw [q] at e2
      cases e2
      obtain ⟨u, hu, ru⟩ := rw'.get q
      obtain ⟨S2, x2⟩ := S.setL hl rw'.dropLast
      exact ⟨_, mt_pop, _, _, u, rfl, rfl, hH, by rw [← rw'.length]; exact hu, k ι _ _ x2 S2 (ru.ext x2)⟩
  · rename_i i
    obtain ⟨l, xs, ws, rfl, hl, hH, rw', e2⟩ := onL_ok S rx e
    obtain ⟨u, rfl, ru⟩ := rds1 rs
    cases ru
    split at e2
    · rename_i hi
      cases q1 : seqIndex? i xs.length with
      | none => rw [q1] at e2; cases e2
      | some j =>
        rw [q1] at e2
        simp only at e2
        cases q : xs[j]? with
        | none => rw [q] at e2; cases e2
        | some y =>
          rw [q] at e2
          cases e2
          obtain ⟨u, hu, ru⟩ := rw'.get q
          obtain ⟨S2, x2⟩ := S.setL hl (rw'.erase j)
          exact ⟨_, mt_popAt, _, _, i, j, u, rfl, rfl, hH, hi.1, hi.2, by rw [← rw'.length]; exact q1, hu, k ι _ _ x2 S2 (ru.ext x2)⟩
    · cases e2
  · cases e
theorem vm_strip : VM X "str.strip" mStrip := by
  intro ι st H x ds d st' v vs Q S rx rs e k
  unfold mStrip at e
  split at e
  · obtain ⟨u, rfl, ru⟩ := rds1 rs
    cases rx
    cases ru
    split at e
    · rename_i hz
      cases e
      exact ⟨_, mt_stripChars, _, _, rfl, rfl, by rw [sl_eq]; exact hz, k ι H _ Ext.refl S (.str _)⟩
    · cases e
  · cases rx
    cases rs
    split at e
    · rename_i hz
      cases e
      exact ⟨_, mt_strip, _, rfl, rfl, by rw [sl_eq]; exact hz, k ι H _ Ext.refl S (.str _)⟩
    · cases e
  · cases e
/-! ### x[i] = v, x a list -/
def setL3 : F3 := fun x i v s => match x, i with
  | .loc l, .int k => match lsOf s l with
    | some xs => (ixN xs.length k).map fun j => s.set l (.lst (xs.set j v))
    | none => none
  | _, _ => none
theorem v3_list : V3 X setL3 := by
  intro ι st H dx dy dz st' x y z Q S r1 r2 r3 e k
  unfold setL3 at e
  split at e
  · rename_i l i
    cases r1
    cases r2
    cases q : lsOf st l with
    | none => rw [q] at e; cases e
    | some xs =>
      rw [q] at e
      simp only at e
      obtain ⟨_, ws, hs, rs⟩ := S.ls q
      cases q2 : ixN xs.length i with
      | none => rw [q2] at e; cases e
      | some j =>
        rw [q2] at e
        cases e
        obtain ⟨S2, x2⟩ := S.setL (lsOf_get q) (RDs.set r3 j rs)
        exact ⟨_, set_list, _, _, _, j, rfl, rfl, hs, by rw [← rs.length]; exact q2, k ι _ x2 S2⟩
  · cases e
/-! ### {} -/
def eDict0 : ME := fun _ s => .ok (.loc s.length) (s ++ [.dK []])
theorem se_dict0 {W : WX} {pos : Pos} : SE X W (.Dict [] [] pos) eDict0 := by
  refine PE.of pe_dnewK fun σ H Q h => ?_
  obtain ⟨ι, st, σD, S, hs, g⟩ := h
  intro p hp
  obtain ⟨S2, e2⟩ := S.push (o := .dK []) (so := .dK []) hp fun ι' n' e => ⟨[], upd_same, rfl, .nil⟩
  have r : RD X.K (ins ι st.length p) (st ++ [SO.dK []]).length (upd H p (.dK [])) (.loc st.length) (.ref (ins ι st.length p st.length)) := .loc _ (by simp)
  rw [ins_same] at r
  exact g _ _ _ e2 S2 r
/-! ### repr of a row, a list -/
def isBox : D → Bool
  | .tup _ => true
  | .loc _ => true
  | _ => false
def bReprC : FL := fun ds s => match ds with
  | [d] => if isBox d = true then bRepr [d] s else none
  | _ => none
theorem vc_repr {o : Obj} (hg : X.A.guards = some []) (hu : X.A.units + 64 < cLine) (hk : X.K.lookup sysModules = some o) : VC X (.builtin "repr") bReprC := by
  intro ι st H ds d st' vs Q S r e k
  unfold bReprC at e
  split at e
  · rename_i d0
    obtain ⟨v, rfl, q⟩ := rds1 r
    split at e
    · rename_i hb
      unfold bRepr at e
      simp only at e
      cases h : toPD st 60 d0 with
      | none => rw [h] at e; cases e
      | some p =>
        rw [h] at e
        simp only at e
        split at e
        · rename_i hz
          cases e
          refine ⟨fun xs H' Q' => xs = [v] ∧ H' = H ∧ Q' (.str p.shown) H, ?_, rfl, rfl, k ι H _ Ext.refl S (.str _)⟩
          intro pins s σ H' xs us Q' I rx hq
          obtain ⟨rfl, rfl, hq⟩ := hq
          obtain ⟨u, rfl, ru⟩ := rx.one
          obtain ⟨as, R, tr⟩ := pd_reads I S 60 d0 p v u h q ru
          have ref : ∃ a, u = .ref a := by
            cases q with
            | tup _ _ => exact ⟨_, ru⟩
            | loc _ _ => exact ⟨_, ru⟩
            | _ => cases hb
          obtain ⟨a, rfl⟩ := ref
          refine PySem.repr_of_reads' R hz.1 (fun _ hm => ?_) hg (by have := hz.2.1; omega) (fun b o e => e) (fun h' u tk keep => ?_) (by rw [sl_eq]; exact hz.2.2)
          · have := tr _ hm
            rw [kfree I hk] at this
            cases this
          · exact ⟨.str p.shown, H', I.un (Un.kept keep) (I.hok.kept keep), ⟨u, rfl⟩, hq⟩
        · cases e
    · cases e
  · cases e
end
end Mi
/-! M13: facts of the head, defs of these. -/
namespace Mi
open PySem PySem.Spec PyProof.Rows L2

/-! ### what the head tells -/
abbrev AlM : Type := He.AlD × Bool
def asM (g : Addr → Option Obj) (n : Nat) : List Addr := sysModules :: He.asD g n
def obsM (n : Nat) (fa : List He.Fa) (fn : List He.DefD) (ex : PySem.W.Frag → Bool) (g : Addr → Option Obj) : AlM := (He.obsD fa fn (He.frG g (asM g n)), ex (He.frG g (asM g n)))
structure SaysM (fa : List He.Fa) (fn : List He.DefD) (ex : PySem.W.Frag → Bool) (K : PySem.W.Frag) : Prop where
  d : He.SaysD fa fn K
  x : ex K = true
def hookM (n : Nat) (fa : List He.Fa) (fn : List He.DefD) (ex : PySem.W.Frag → Bool) : PySem.W.Hook where
  α := AlM
  obs := fun s => obsM n fa fn ex s.heap.get?
  val := fun _ => (He.valD fn, true)
  says := fun _ h => ∃ K : PySem.W.Frag, K.In h ∧ SaysM fa fn ex K
  of := fun _ _ e => ⟨_, He.frG_in, congrArg (fun z : AlM => z.1) e, congrArg (fun z : AlM => z.2) e⟩
  keeps := fun _ _ _ ⟨K, i, c⟩ k => ⟨K, PySem.W.Frag.In.keeps i k, c⟩
theorem obsM_eq {n : Nat} {fa : List He.Fa} {fn : List He.DefD} {ex : PySem.W.Frag → Bool} {g : Addr → Option Obj} {s : Shared} (h : ∀ a, g a = s.heap.get? a) : obsM n fa fn ex g = (hookM n fa fn ex).obs s := by
  have e : g = s.heap.get? := funext h
  rw [e]; rfl
def sysB (K : PySem.W.Frag) : Bool := (K.lookup sysModules).isSome
theorem sysB_ok {K : PySem.W.Frag} (h : sysB K = true) : ∃ o, K.lookup sysModules = some o := Option.isSome_iff_exists.mp h

/-! ### names as data -/
section
variable {K : PySem.W.Frag} {h : Heap} {mg : Str → Option Value} {x : Str}
theorem gd_int (X : K.In h) (G : h.Ns mainGlobals mg) {i : Int} (c : (He.Fa.int x i).ok K = true) : GD K mg x (.int i) := by
  obtain ⟨t, e⟩ := He.int_ok X G c
  exact ⟨_, .int i, e, fun w q => by subst q; exact ⟨t, rfl⟩, fun _ _ _ => .int i⟩
theorem gd_str (X : K.In h) (G : h.Ns mainGlobals mg) {z : Str} (c : (He.Fa.str x z).ok K = true) : GD K mg x (.str z) := by
  obtain ⟨t, e⟩ := He.str_ok X G c
  exact ⟨_, .str z, e, fun w q => by subst q; exact ⟨t, rfl⟩, fun _ _ _ => .str z⟩
def dvD : He.Dv → Option D
  | .non => some .non
  | .bl b => some (.bl b)
  | .int i => some (.int i)
  | .str z => some (.str z)
  | .ty n => some (.ty n)
  | _ => none
def dvDs : List He.Dv → Option (List D)
  | [] => some []
  | v :: vs => match dvD v, dvDs vs with
    | some d, some ds => some (d :: ds)
    | _, _ => none
theorem dvD_ok {ι : Nat → Addr} {n : Nat} {H : Hp} : ∀ {v : He.Dv} {d : D}, dvD v = some d → RD K ι n H d (v.v K)
  | .non, _, e => by cases e; exact .non
  | .bl b, _, e => by cases e; exact .bl b
  | .int i, _, e => by cases e; exact .int i
  | .str z, _, e => by cases e; exact .str z
  | .ty z, _, e => by cases e; exact .ty z
theorem dvDs_ok {ι : Nat → Addr} {n : Nat} {H : Hp} : ∀ {vs : List He.Dv} {ds : List D}, dvDs vs = some ds → RDs K ι n H ds (vs.map (He.Dv.v K))
  | [], _, e => by cases e; exact .nil
  | v :: vs, _, e => by
    simp only [dvDs] at e
    cases q1 : dvD v with
    | none => rw [q1] at e; cases e
    | some d =>
      cases q2 : dvDs vs with
      | none => rw [q1, q2] at e; cases e
      | some ds =>
        rw [q1, q2] at e
        cases e
        exact .cons (dvD_ok q1) (dvDs_ok q2)
theorem gd_tup (X : K.In h) (G : h.Ns mainGlobals mg) {vs : List He.Dv} {ds : List D} (c : (He.Fa.glo x).ok K = true) (t : He.tupB K x vs = true) (e : dvDs vs = some ds) : GD K mg x (.tup ds) :=
  ⟨_, .ref (He.ga K x), He.glo_ok X G c, fun w q => by subst q; rfl, fun _ _ H => .tup (He.tupB_ok t H) (dvDs_ok e)⟩
end

/-! ### a def -/
section
variable {P : Program} {w : World} {K : PySem.W.Frag} {mg : Str → Option Value} {base : Heap}
/-- a def by its body's mirror, whatever its defaults -/
theorem fn_gD {x qual : Str} {params : Arguments} {body : List Stmt} {scope : Scope} {dvs : List V} {kws : List (Str × V)} {f : Addr} {fd : FuncData} {N ps : List Str} {k : Nat} {nl : Nat} {b : MS} (F : FunD K x qual params body scope dvs kws f fd) (S : FnScope N ps scope) (hl : N.length - ps.length = nl)
    (hbody : ∀ (cdv : Value) (Ar : Around) (fs : List Env) (s0 : Shared) (Hs : Hp) (R2 : XK), Ar.guards = some [] → Room k (Ar.deeper (envOfC qual scope s0.heap.objs.size f cdv)) →
      SSs (cxOf (L2.CX P w) P w K mg base N qual scope f cdv Ar fs s0 Hs R2) (fun cls d _ H => R2 cls d H) body b) :
    FnG P w K mg base (k + 1) f fd ps (finM nl b) := by
  obtain ⟨oc, od, dV, kV, doc, pm, an, cdv, ct, osl, rfl, look, cd, _, _⟩ := F.ex
  refine ⟨fun Ar fs s0 Hs ag xs ws R1 R2 hg rm e0 bi rv sp => ?_⟩
  have wl : ws.length = ps.length := sp.1
  have KIn : K.In s0.heap := e0.mod.kin.keeps fun c o z => (e0.bs c o z).1
  have nolim := e0.mod.nolimit.keeps fun c o z => (e0.bs c o z).1
  have kinds : ∀ z ∈ ps.zip xs, scope.names.lookup z.1 = some .local ∨ (scope.names.lookup z.1 = some .cell ∧ ((cellsFrom (s0.heap.objs.size + 1) scope.names []).lookup z.1).isSome = true) := by
    rintro ⟨nm, vl⟩ hz
    cases S.par nm (List.of_mem_zip hz).1 with
    | inl z => exact .inl z
    | inr z => exact .inr ⟨z, PySem.W.cellsFrom_some _ _ _ (.inl z)⟩
  apply codeAny_call_function rm.depth (KIn _ _ look) rfl S.co S.gen rfl (PySem.W.codeRec_of KIn cd)
  apply bi
  apply wpAny_newFunctionEnv_cells S.kind kinds
  intro env he s1 entered
  subst he
  refine ⟨nolim.keeps entered.toInCall.keep, codeAny_func ?_⟩
  have bd := hbody cdv Ar fs s0 Hs R2 hg (rm.deeper _)
  have start := inv_start (CX := L2.CX P w) (cd := cdv) (E := R2) S rm.hd e0 wl rv entered
  obtain ⟨_, ι, st', ds, Sm, r, g⟩ := sp
  subst hl
  have post := bd.run [] s1 (L2.start N ws) Hs { nx := fun _ H' => R1 .non H', rt := R1 } start ⟨ι, st', _, Sm, fr_start N r (by rw [wl]), by
    unfold finM at g
    generalize q : b (ds.map some ++ List.replicate (N.length - ps.length) none) st' = o at g ⊢
    cases o with
    | nx σ s1 => exact fun ι' H' σ' e S' f => g ι' H' .non e S' .non
    | rt d s1 => exact g
    | exc x σ s1 => exact fun ι' H' σ' cls dx e S' f rx => g ι' H' cls dx e S' rx
    | bk σ s1 => exact g.elim
    | ct σ s1 => exact g.elim
    | no => exact g.elim⟩
  refine wpAny_mono post (fun fl s' done => ?_) fun e s' z => z
  cases fl with
  | brk => obtain ⟨_, _, _, z⟩ := done; exact z.elim
  | cont => obtain ⟨_, _, _, z⟩ := done; exact z.elim
  | next =>
    obtain ⟨_, H', J, z⟩ := done
    exact ⟨.non, H', J.os, J.bare, J.base, J.hok, rfl, z⟩
  | ret u =>
    obtain ⟨v, _, H', J, rv', z⟩ := done
    exact ⟨v, H', J.os, J.bare, J.base, J.hok, rv', z⟩
/-- a mirror that tells nothing -/
def mNo : FD := fun _ _ => .no
theorem fn_no {f : Addr} {fd : FuncData} {ps : List Str} {k : Nat} : FnG P w K mg base k f fd ps mNo :=
  ⟨fun Ar fs s0 Hs ag xs ws R1 R2 hg rm e0 bi rv sp => by obtain ⟨_, ι, st, ds, _, _, g⟩ := sp; exact g.elim⟩
/-- what a def of the head is: its name, its object, what it is made of -/
structure DefIs (K : PySem.W.Frag) (mg : Str → Option Value) (d : He.DefD) (f : Addr) (fd : FuncData) : Prop where
  at_ : mg d.name = some (.ref f)
  fn : FunD K d.name d.qual d.params d.body d.scope (d.dvs K) (d.kws K) f fd
theorem defIs {h : Heap} {fa : List He.Fa} {fn : List He.DefD} (X : K.In h) (G : h.Ns mainGlobals mg) (c : He.SaysD fa fn K) (i j : Nat) {d : He.DefD} (h1 : fn[i]? = some d) (h2 : fa[j]? = some (.glo d.name)) (h3 : d.at_ = (d.name, none)) : ∃ f fd, DefIs K mg d f fd := by
  obtain ⟨fd, F⟩ := c.def_ i h1
  refine ⟨_, fd, ?_, F⟩
  have e := He.glo_ok X G (c.fact j h2)
  have : He.fAd K d.at_ = He.ga K d.name := by rw [h3]; rfl
  rw [this]
  exact e
/-- the def keeps a mirror's promise -/
def Keeps (P : Program) (w : World) (K : PySem.W.Frag) (mg : Str → Option Value) (base : Heap) (d : He.DefD) (ps : List Str) (k : Nat) (m : FD) : Prop := ∃ f fd, DefIs K mg d f fd ∧ FnG P w K mg base k f fd ps m
theorem Keeps.up {d : He.DefD} {ps : List Str} {i k : Nat} {m : FD} (a : Keeps P w K mg base d ps i m) (h : i ≤ k) : Keeps P w K mg base d ps k m := by
  obtain ⟨f, fd, a, b⟩ := a
  exact ⟨f, fd, a, b.up h⟩
theorem DefIs.at {d : He.DefD} {f : Addr} {fd : FuncData} {ps : List Str} {k : Nat} {m : FD} (a : DefIs K mg d f fd) (b : FnG P w K mg base k f fd ps m) {x : Str} (hx : x = d.name := by rfl) : FnAt P w K mg base x f fd ps k m := ⟨hx ▸ a.at_, a.fn.kp, b⟩
theorem DefIs.bind {d : He.DefD} {f : Addr} {fd : FuncData} (a : DefIs K mg d f fd) (n : Nat) (ps : List Str) (hd : d.dfl = [])
    (h : ∀ (kV doc pm : Value) (an : Option Addr) (cdv ct : Value) (us : List Value), us.length = n → bindArgs (PySem.W.fnOf d.name d.qual d.params d.body d.scope .none kV doc pm an cdv ct) ⟨us, []⟩ = pure (ps.zip us)) :
    ∀ us : List Value, us.length = n → bindArgs fd ⟨us, []⟩ = pure (ps.zip us) := by
  obtain ⟨oc, od, dV, kV, doc, pm, an, cdv, ct, osl, rfl, look, cd, hD, _⟩ := a.fn.ex
  have e0 : d.dvs K = [] := by unfold He.DefD.dvs; rw [hd]; rfl
  rcases hD with ⟨_, rfl⟩ | ⟨e, _⟩
  · exact fun us hl => h kV doc pm an cdv ct us hl
  · exact absurd e0 e
theorem DefIs.bindK {d : He.DefD} {f : Addr} {fd : FuncData} (a : DefIs K mg d f fd) (n : Nat) (ks ps : List Str) (prm : List Nat) (hd : d.dfl = [])
    (h : ∀ (kV doc pm : Value) (an : Option Addr) (cdv ct : Value) (us ws : List Value), us.length = n → ws.length = ks.length → bindArgs (PySem.W.fnOf d.name d.qual d.params d.body d.scope .none kV doc pm an cdv ct) ⟨us, ks.zip ws⟩ = pure (ps.zip (pick prm (us ++ ws)))) :
    ∀ us ws : List Value, us.length = n → ws.length = ks.length → bindArgs fd ⟨us, ks.zip ws⟩ = pure (ps.zip (pick prm (us ++ ws))) := by
  obtain ⟨oc, od, dV, kV, doc, pm, an, cdv, ct, osl, rfl, look, cd, hD, _⟩ := a.fn.ex
  have e0 : d.dvs K = [] := by unfold He.DefD.dvs; rw [hd]; rfl
  rcases hD with ⟨_, rfl⟩ | ⟨e, _⟩
  · exact fun us ws h1 h2 => h kV doc pm an cdv ct us ws h1 h2
  · exact absurd e0 e
end
end Mi
/-! M14: a, b = x, y with plain names. -/
namespace Mi
open PySem PySem.Spec PyProof.Rows L2
def sPar (i j : Nat) (ra : MA) : MS := fun σ s => (ra σ s).thenO σ fun ds s1 => match ds with
  | [a, b] => .nx ((σ.set i (some a)).set j (some b)) s1
  | _ => .no
def sPar3 (i j l : Nat) (ra : MA) : MS := fun σ s => (ra σ s).thenO σ fun ds s1 => match ds with
  | [a, b, c] => .nx (((σ.set i (some a)).set j (some b)).set l (some c)) s1
  | _ => .no
section
variable {X : Cx} {W : WX} {pos : Pos} {a b c : Expr} {ra : MA}
theorem ss_par (i j : Nat) {x y : Str} {px py pt : Pos} {kt k2 : Nat} {pt2 : Pos} (hc : X.calm = true) (hN : X.N.Nodup) (ha : SA X W [a, b] ra) (hi : X.N[i]? = some x := by rfl) (hj : X.N[j]? = some y := by rfl) (hij : i ≠ j := by decide)
    (hx : X.env.scope.names.lookup x = some .local := by rfl) (hy : X.env.scope.names.lookup y = some .local := by rfl) (hw : swappedStores [.Tuple [.Name x px, .Name y py] kt pt] (.Tuple [a, b] k2 pt2) X.env = pure (some [x, y]) := by rfl)
    (hs : swapsWithSole [.Tuple [.Name x px, .Name y py] kt pt] (.Tuple [a, b] k2 pt2) pos.line X.env = pure false := by rfl) : SS X W (.Assign [.Tuple [.Name x px, .Name y py] kt pt] (.Tuple [a, b] k2 pt2) pos) (sPar i j ra) := by
  refine PS.of (ps_par hc hN hi hj hij hx hy ha hw hs) fun E σ H h => ?_
  obtain ⟨ι, st, σD, S, hs, g⟩ := h
  refine ⟨ι, st, σD, S, hs, RG.stepO (rel := relDs X.K) hs g fun ds st1 ι1 H1 vs _ e1 S1 r1 g1 => ?_⟩
  split at g1
  · obtain ⟨u, v, rfl, r2, r3⟩ := rds2 r1
    exact ⟨u, v, rfl, g1 ι1 H1 _ Ext.refl S1 (((hs.ext e1).set i r2).set j r3)⟩
  · exact g1.elim
theorem ss_par3 (i j l : Nat) {x y z : Str} {px py pz pt : Pos} {kt k2 : Nat} {pt2 : Pos} (hc : X.calm = true) (hN : X.N.Nodup) (ha : SA X W [a, b, c] ra) (hi : X.N[i]? = some x := by rfl) (hj : X.N[j]? = some y := by rfl) (hl : X.N[l]? = some z := by rfl)
    (hij : i ≠ j := by decide) (hil : i ≠ l := by decide) (hjl : j ≠ l := by decide)
    (hx : X.env.scope.names.lookup x = some .local := by rfl) (hy : X.env.scope.names.lookup y = some .local := by rfl) (hz : X.env.scope.names.lookup z = some .local := by rfl)
    (hw : swappedStores [.Tuple [.Name x px, .Name y py, .Name z pz] kt pt] (.Tuple [a, b, c] k2 pt2) X.env = pure (some [x, y, z]) := by rfl)
    (hs : swapsWithSole [.Tuple [.Name x px, .Name y py, .Name z pz] kt pt] (.Tuple [a, b, c] k2 pt2) pos.line X.env = pure false := by rfl) : SS X W (.Assign [.Tuple [.Name x px, .Name y py, .Name z pz] kt pt] (.Tuple [a, b, c] k2 pt2) pos) (sPar3 i j l ra) := by
  refine PS.of (ps_par3 hc hN hi hj hl hij hil hjl hx hy hz ha hw hs) fun E σ H h => ?_
  obtain ⟨ι, st, σD, S, hs, g⟩ := h
  refine ⟨ι, st, σD, S, hs, RG.stepO (rel := relDs X.K) hs g fun ds st1 ι1 H1 vs _ e1 S1 r1 g1 => ?_⟩
  split at g1
  · obtain ⟨u, v, w, rfl, r2, r3, r4⟩ := rds3 r1
    exact ⟨u, v, w, rfl, g1 ι1 H1 _ Ext.refl S1 ((((hs.ext e1).set i r2).set j r3).set l r4)⟩
  · exact g1.elim
end
theorem vc_reprR {X : Cx} {k : Nat} {o : Obj} (hg : X.A.guards = some []) (hr : Room k X.A) (hk : X.K.lookup sysModules = some o) : VC X (.builtin "repr") bReprC := vc_repr hg (by have := hr.un; omega) hk
end Mi
namespace K12
open PySem PySem.Spec PyProof.Rows L2 Mi
/-! ### the text -/
def top (i : Nat) : Stmt := PySem.Challenge.pw_mighthave_k12_what_is_a_test.main.body.getD i (.Pass ⟨0, 0, 0, 0⟩)
def c_LETTERS : D := .str "abcdefghijklmnopqrstuvwxyz"
def c_MOST_DEEDS : D := .int 12
def c_MOST_LETTERS : D := .int 6
def c_MOST_PARTS : D := .int 4
def c_MOST_PLAIN : D := .int 12
def c_MOST_WITHIN : D := .int 4
def c_MOST_WORTH : D := .int 99
def c_WORTH_WORDS : D := .tup [(.str "is"), (.str "least"), (.str "most")]
abbrev s_is_row : Stmt := top 2
abbrev dd_is_row : He.DefD := ⟨("is_row", none), "is_row", "is_row", defArgs s_is_row, defBody s_is_row, defScope s_is_row, [], []⟩
abbrev s_is_name : Stmt := top 8
abbrev dd_is_name : He.DefD := ⟨("is_name", none), "is_name", "is_name", defArgs s_is_name, defBody s_is_name, defScope s_is_name, [], []⟩
abbrev s_is_whole : Stmt := top 1
abbrev dd_is_whole : He.DefD := ⟨("is_whole", none), "is_whole", "is_whole", defArgs s_is_whole, defBody s_is_whole, defScope s_is_whole, [], []⟩
abbrev s_is_plain_test : Stmt := top 16
abbrev dd_is_plain_test : He.DefD := ⟨("is_plain_test", none), "is_plain_test", "is_plain_test", defArgs s_is_plain_test, defBody s_is_plain_test, defScope s_is_plain_test, [], []⟩
abbrev s_parts_if_test : Stmt := top 15
abbrev dd_parts_if_test : He.DefD := ⟨("parts_if_test", none), "parts_if_test", "parts_if_test", defArgs s_parts_if_test, defBody s_parts_if_test, defScope s_parts_if_test, [], []⟩
abbrev s_is_test : Stmt := top 14
abbrev dd_is_test : He.DefD := ⟨("is_test", none), "is_test", "is_test", defArgs s_is_test, defBody s_is_test, defScope s_is_test, [], []⟩
abbrev s__law_written : Stmt := top 27
abbrev dd__law_written : He.DefD := ⟨("_law_written", none), "_law_written", "_law_written", defArgs s__law_written, defBody s__law_written, defScope s__law_written, [], []⟩
abbrev s__law_pot : Stmt := top 18
abbrev dd__law_pot : He.DefD := ⟨("_law_pot", none), "_law_pot", "_law_pot", defArgs s__law_pot, defBody s__law_pot, defScope s__law_pot, [], []⟩
abbrev s__law_take : Stmt := top 19
abbrev dd__law_take : He.DefD := ⟨("_law_take", none), "_law_take", "_law_take", defArgs s__law_take, defBody s__law_take, defScope s__law_take, [], []⟩
abbrev s__law_test : Stmt := top 20
abbrev dd__law_test : He.DefD := ⟨("_law_test", none), "_law_test", "_law_test", defArgs s__law_test, defBody s__law_test, defScope s__law_test, [], []⟩
abbrev s__law_odd : Stmt := top 21
abbrev dd__law_odd : He.DefD := ⟨("_law_odd", none), "_law_odd", "_law_odd", defArgs s__law_odd, defBody s__law_odd, defScope s__law_odd, [], []⟩
abbrev s__law_bent : Stmt := top 22
abbrev dd__law_bent : He.DefD := ⟨("_law_bent", none), "_law_bent", "_law_bent", defArgs s__law_bent, defBody s__law_bent, defScope s__law_bent, [], []⟩
abbrev s__law_is_name : Stmt := top 24
abbrev dd__law_is_name : He.DefD := ⟨("_law_is_name", none), "_law_is_name", "_law_is_name", defArgs s__law_is_name, defBody s__law_is_name, defScope s__law_is_name, [], []⟩
abbrev s__law_whole : Stmt := top 23
abbrev dd__law_whole : He.DefD := ⟨("_law_whole", none), "_law_whole", "_law_whole", defArgs s__law_whole, defBody s__law_whole, defScope s__law_whole, [], []⟩
abbrev s__law_leaves : Stmt := top 25
abbrev dd__law_leaves : He.DefD := ⟨("_law_leaves", none), "_law_leaves", "_law_leaves", defArgs s__law_leaves, defBody s__law_leaves, defScope s__law_leaves, [], []⟩
abbrev s__law_right : Stmt := top 26
abbrev dd__law_right : He.DefD := ⟨("_law_right", none), "_law_right", "_law_right", defArgs s__law_right, defBody s__law_right, defScope s__law_right, [], []⟩
abbrev s_law : Stmt := top 28
abbrev dd_law : He.DefD := ⟨("law", none), "law", "law", defArgs s_law, defBody s_law, defScope s_law, [], []⟩
/-! ### what the head tells -/
structure Facts (K : PySem.W.Frag) (mg : Str → Option Value) : Prop where
  g_LETTERS : GD K mg "LETTERS" c_LETTERS
  g_MOST_DEEDS : GD K mg "MOST_DEEDS" c_MOST_DEEDS
  g_MOST_LETTERS : GD K mg "MOST_LETTERS" c_MOST_LETTERS
  g_MOST_PARTS : GD K mg "MOST_PARTS" c_MOST_PARTS
  g_MOST_PLAIN : GD K mg "MOST_PLAIN" c_MOST_PLAIN
  g_MOST_WITHIN : GD K mg "MOST_WITHIN" c_MOST_WITHIN
  g_MOST_WORTH : GD K mg "MOST_WORTH" c_MOST_WORTH
  g_WORTH_WORDS : GD K mg "WORTH_WORDS" c_WORTH_WORDS
  d_is_row : ∃ f fd, DefIs K mg dd_is_row f fd
  d_is_name : ∃ f fd, DefIs K mg dd_is_name f fd
  d_is_whole : ∃ f fd, DefIs K mg dd_is_whole f fd
  d_is_plain_test : ∃ f fd, DefIs K mg dd_is_plain_test f fd
  d_parts_if_test : ∃ f fd, DefIs K mg dd_parts_if_test f fd
  d_is_test : ∃ f fd, DefIs K mg dd_is_test f fd
  d__law_written : ∃ f fd, DefIs K mg dd__law_written f fd
  d__law_pot : ∃ f fd, DefIs K mg dd__law_pot f fd
  d__law_take : ∃ f fd, DefIs K mg dd__law_take f fd
  d__law_test : ∃ f fd, DefIs K mg dd__law_test f fd
  d__law_odd : ∃ f fd, DefIs K mg dd__law_odd f fd
  d__law_bent : ∃ f fd, DefIs K mg dd__law_bent f fd
  d__law_is_name : ∃ f fd, DefIs K mg dd__law_is_name f fd
  d__law_whole : ∃ f fd, DefIs K mg dd__law_whole f fd
  d__law_leaves : ∃ f fd, DefIs K mg dd__law_leaves f fd
  d__law_right : ∃ f fd, DefIs K mg dd__law_right f fd
  d_law : ∃ f fd, DefIs K mg dd_law f fd
  n_abs : mg "abs" = none
  n_bool : mg "bool" = none
  n_int : mg "int" = none
  n_isinstance : mg "isinstance" = none
  n_len : mg "len" = none
  n_list : mg "list" = none
  n_max : mg "max" = none
  n_min : mg "min" = none
  n_range : mg "range" = none
  n_repr : mg "repr" = none
  n_str : mg "str" = none
  n_sum : mg "sum" = none
  n_tuple : mg "tuple" = none
  n_type : mg "type" = none
  sys : ∃ o, K.lookup sysModules = some o
def fa : List He.Fa := [.str "LETTERS" "abcdefghijklmnopqrstuvwxyz", .int "MOST_DEEDS" 12, .int "MOST_LETTERS" 6, .int "MOST_PARTS" 4, .int "MOST_PLAIN" 12, .int "MOST_WITHIN" 4, .int "MOST_WORTH" 99, .glo "WORTH_WORDS", .glo "is_row", .glo "is_name", .glo "is_whole", .glo "is_plain_test", .glo "parts_if_test", .glo "is_test", .glo "_law_written", .glo "_law_pot", .glo "_law_take", .glo "_law_test", .glo "_law_odd", .glo "_law_bent", .glo "_law_is_name", .glo "_law_whole", .glo "_law_leaves", .glo "_law_right", .glo "law", .free "abs", .free "bool", .free "int", .free "isinstance", .free "len", .free "list", .free "max", .free "min", .free "range", .free "repr", .free "str", .free "sum", .free "tuple", .free "type"]
def fn : List He.DefD := [dd_is_row, dd_is_name, dd_is_whole, dd_is_plain_test, dd_parts_if_test, dd_is_test, dd__law_written, dd__law_pot, dd__law_take, dd__law_test, dd__law_odd, dd__law_bent, dd__law_is_name, dd__law_whole, dd__law_leaves, dd__law_right, dd_law]
def exs (K : PySem.W.Frag) : List Bool := [sysB K, He.tupB K "WORTH_WORDS" [.str "is", .str "least", .str "most"]]
def ex (K : PySem.W.Frag) : Bool := (exs K).all id
theorem exAt {K : PySem.W.Frag} (h : ex K = true) (i : Nat) {b : Bool} (hi : (exs K)[i]? = some b := by rfl) : b = true := List.all_eq_true.mp h b (List.mem_of_getElem? hi)
theorem facts_of {K : PySem.W.Frag} {h : Heap} {mg : Str → Option Value} (X : K.In h) (G : h.Ns mainGlobals mg) (c : SaysM fa fn ex K) : Facts K mg where
  g_LETTERS := gd_str X G (c.d.fact 0 (f := .str "LETTERS" "abcdefghijklmnopqrstuvwxyz") rfl)
  g_MOST_DEEDS := gd_int X G (c.d.fact 1 (f := .int "MOST_DEEDS" 12) rfl)
  g_MOST_LETTERS := gd_int X G (c.d.fact 2 (f := .int "MOST_LETTERS" 6) rfl)
  g_MOST_PARTS := gd_int X G (c.d.fact 3 (f := .int "MOST_PARTS" 4) rfl)
  g_MOST_PLAIN := gd_int X G (c.d.fact 4 (f := .int "MOST_PLAIN" 12) rfl)
  g_MOST_WITHIN := gd_int X G (c.d.fact 5 (f := .int "MOST_WITHIN" 4) rfl)
  g_MOST_WORTH := gd_int X G (c.d.fact 6 (f := .int "MOST_WORTH" 99) rfl)
  g_WORTH_WORDS := gd_tup X G (vs := [.str "is", .str "least", .str "most"]) (c.d.fact 7 (f := .glo "WORTH_WORDS") rfl) (exAt c.x 1) rfl
  d_is_row := defIs X G c.d 0 8 (d := dd_is_row) rfl rfl rfl
  d_is_name := defIs X G c.d 1 9 (d := dd_is_name) rfl rfl rfl
  d_is_whole := defIs X G c.d 2 10 (d := dd_is_whole) rfl rfl rfl
  d_is_plain_test := defIs X G c.d 3 11 (d := dd_is_plain_test) rfl rfl rfl
  d_parts_if_test := defIs X G c.d 4 12 (d := dd_parts_if_test) rfl rfl rfl
  d_is_test := defIs X G c.d 5 13 (d := dd_is_test) rfl rfl rfl
  d__law_written := defIs X G c.d 6 14 (d := dd__law_written) rfl rfl rfl
  d__law_pot := defIs X G c.d 7 15 (d := dd__law_pot) rfl rfl rfl
  d__law_take := defIs X G c.d 8 16 (d := dd__law_take) rfl rfl rfl
  d__law_test := defIs X G c.d 9 17 (d := dd__law_test) rfl rfl rfl
  d__law_odd := defIs X G c.d 10 18 (d := dd__law_odd) rfl rfl rfl
  d__law_bent := defIs X G c.d 11 19 (d := dd__law_bent) rfl rfl rfl
  d__law_is_name := defIs X G c.d 12 20 (d := dd__law_is_name) rfl rfl rfl
  d__law_whole := defIs X G c.d 13 21 (d := dd__law_whole) rfl rfl rfl
  d__law_leaves := defIs X G c.d 14 22 (d := dd__law_leaves) rfl rfl rfl
  d__law_right := defIs X G c.d 15 23 (d := dd__law_right) rfl rfl rfl
  d_law := defIs X G c.d 16 24 (d := dd_law) rfl rfl rfl
  n_abs := He.free_ok X G (c.d.fact 25 (f := .free "abs") rfl)
  n_bool := He.free_ok X G (c.d.fact 26 (f := .free "bool") rfl)
  n_int := He.free_ok X G (c.d.fact 27 (f := .free "int") rfl)
  n_isinstance := He.free_ok X G (c.d.fact 28 (f := .free "isinstance") rfl)
  n_len := He.free_ok X G (c.d.fact 29 (f := .free "len") rfl)
  n_list := He.free_ok X G (c.d.fact 30 (f := .free "list") rfl)
  n_max := He.free_ok X G (c.d.fact 31 (f := .free "max") rfl)
  n_min := He.free_ok X G (c.d.fact 32 (f := .free "min") rfl)
  n_range := He.free_ok X G (c.d.fact 33 (f := .free "range") rfl)
  n_repr := He.free_ok X G (c.d.fact 34 (f := .free "repr") rfl)
  n_str := He.free_ok X G (c.d.fact 35 (f := .free "str") rfl)
  n_sum := He.free_ok X G (c.d.fact 36 (f := .free "sum") rfl)
  n_tuple := He.free_ok X G (c.d.fact 37 (f := .free "tuple") rfl)
  n_type := He.free_ok X G (c.d.fact 38 (f := .free "type") rfl)
  sys := sysB_ok (exAt c.x 0)
/-! ### mirrors, each with its promise -/
def fuel : Nat := 100000
section
variable {P : Program} {w : World} {K : PySem.W.Frag} {mg : Str → Option Value} {base : Heap}
theorem sc_is_row : FnScope ["thing", "low", "high"] ["thing", "low", "high"] (defScope s_is_row) := ⟨rfl, rfl, rfl, by decide +kernel, rfl, by decide +kernel, by decide +kernel⟩
def b_is_row : MS := (sRet ((eAnd (eOp opIs (eCB bType (aCons (eVar 0) aNil)) (eC (.ty "tuple"))) (eCh opLe opLe (eVar 1) (eCB bLen (aCons (eVar 0) aNil)) (eVar 2)))))
def m_is_row : FD := finM 0 b_is_row
theorem ok_is_row (E : Facts K mg) : Keeps P w K mg base dd_is_row ["thing", "low", "high"] 2 m_is_row := by
    obtain ⟨f, fd, DI⟩ := E.d_is_row
    refine ⟨f, fd, DI, fn_gD DI.fn sc_is_row rfl fun cdv Ar fs s0 Hs R2 hg hr => ?_⟩
    exact (sss_one (ss_ret ((se_and (se_cmp v2_is (se_callTy vc_type E.n_type rfl (sa_cons (se_var 0) sa_nil)) (se_ty E.n_tuple rfl)) (se_and1 (se_chain v2_le v2_le (se_var 1) (se_callB vc_len E.n_len rfl (sa_cons (se_var 0) sa_nil)) (se_var 2)))))))
theorem sc_is_name : FnScope ["thing"] ["thing"] (defScope s_is_name) := ⟨rfl, rfl, rfl, by decide +kernel, rfl, by decide +kernel, by decide +kernel⟩
def b_is_name : MS := (sRet ((eAnd (eOp opIs (eCB bType (aCons (eVar 0) aNil)) (eC (.ty "str"))) (eAnd (eCh opLe opLe (eC (.int 1)) (eCB bLen (aCons (eVar 0) aNil)) (eC c_MOST_LETTERS)) (eNot (eBM "str" mStrip (eVar 0) (aCons (eC c_LETTERS) aNil)))))))
def m_is_name : FD := finM 0 b_is_name
theorem ok_is_name (E : Facts K mg) : Keeps P w K mg base dd_is_name ["thing"] 2 m_is_name := by
    obtain ⟨f, fd, DI⟩ := E.d_is_name
    refine ⟨f, fd, DI, fn_gD DI.fn sc_is_name rfl fun cdv Ar fs s0 Hs R2 hg hr => ?_⟩
    exact (sss_one (ss_ret ((se_and (se_cmp v2_is (se_callTy vc_type E.n_type rfl (sa_cons (se_var 0) sa_nil)) (se_ty E.n_str rfl)) (se_and (se_chain v2_le v2_le (se_int) (se_callB vc_len E.n_len rfl (sa_cons (se_var 0) sa_nil)) (se_glob E.g_MOST_LETTERS)) (se_and1 (se_not (se_bm PySem.F.plainAttrs_str PySem.F.slot_str_strip PySem.F.type_str_strip vm_strip (se_var 0) (sa_cons (se_glob E.g_LETTERS) sa_nil)))))))))
theorem sc_is_whole : FnScope ["thing", "low", "high"] ["thing", "low", "high"] (defScope s_is_whole) := ⟨rfl, rfl, rfl, by decide +kernel, rfl, by decide +kernel, by decide +kernel⟩
def b_is_whole : MS := (sRet ((eAnd (eOp opIs (eCB bType (aCons (eVar 0) aNil)) (eC (.ty "int"))) (eCh opLe opLe (eVar 1) (eVar 0) (eVar 2)))))
def m_is_whole : FD := finM 0 b_is_whole
theorem ok_is_whole (E : Facts K mg) : Keeps P w K mg base dd_is_whole ["thing", "low", "high"] 2 m_is_whole := by
    obtain ⟨f, fd, DI⟩ := E.d_is_whole
    refine ⟨f, fd, DI, fn_gD DI.fn sc_is_whole rfl fun cdv Ar fs s0 Hs R2 hg hr => ?_⟩
    exact (sss_one (ss_ret ((se_and (se_cmp v2_is (se_callTy vc_type E.n_type rfl (sa_cons (se_var 0) sa_nil)) (se_ty E.n_int rfl)) (se_and1 (se_chain v2_le v2_le (se_var 1) (se_var 0) (se_var 2)))))))
theorem sc_is_plain_test : FnScope ["word", "rest", "name", "k"] ["word", "rest"] (defScope s_is_plain_test) := ⟨rfl, rfl, rfl, by decide +kernel, rfl, by decide +kernel, by decide +kernel⟩
def b_is_plain_test : MS := (sSeq (sIf (tB' (eOp opEq (eCB bLen (aCons (eVar 1) aNil)) (eC (.int 1)))) (sRet ((eAnd (eOp opEq (eVar 0) (eC (.str "done"))) (eCall 3 (m_is_whole) (aCons (eOp ixD (eVar 1) (eC (.int 0))) (aCons (eC (.int 0)) (aCons (eC c_MOST_DEEDS) aNil))))))) sNil) (sSeq (sAsg (eVar 1) (gTp (gLen 2 (gsCons (gNm 2) (gsCons (gNm 3) gsNil))))) (sRet ((eAnd (eOp opIn (eVar 0) (eC c_WORTH_WORDS)) (eAnd (eCall 1 (m_is_name) (aCons (eVar 2) aNil)) (eCall 3 (m_is_whole) (aCons (eVar 3) (aCons (eC (.int 0)) (aCons (eC c_MOST_WORTH) aNil))))))))))
def m_is_plain_test : FD := finM 2 b_is_plain_test
theorem ok_is_plain_test (E : Facts K mg) : Keeps P w K mg base dd_is_plain_test ["word", "rest"] 3 m_is_plain_test := by
    obtain ⟨f_is_whole, fd_is_whole, D_is_whole, G_is_whole⟩ := (ok_is_whole (P := P) (w := w) (base := base) E).up (k := 2) (by omega)
    obtain ⟨f_is_name, fd_is_name, D_is_name, G_is_name⟩ := (ok_is_name (P := P) (w := w) (base := base) E).up (k := 2) (by omega)
    obtain ⟨f, fd, DI⟩ := E.d_is_plain_test
    refine ⟨f, fd, DI, fn_gD DI.fn sc_is_plain_test rfl fun cdv Ar fs s0 Hs R2 hg hr => ?_⟩
    exact (sss_cons (ss_if (st_cmp (v2_eq hr) (se_callB vc_len E.n_len rfl (sa_cons (se_var 1) sa_nil)) (se_int)) (sss_one (ss_ret ((se_and (se_cmp (v2_eq hr) (se_var 0) (se_str)) (se_and1 (se_call (f := f_is_whole) (fd := fd_is_whole) (ps := ["thing", "low", "high"]) (D_is_whole.at G_is_whole (x := "is_whole")) hg hr (D_is_whole.bind 3 ["thing", "low", "high"] rfl fun _ _ _ _ _ _ us hl => match us, hl with | [_, _, _], _ => rfl) (takes_of rfl rfl rfl rfl) (sa_cons (se_ix (se_var 1) (se_int)) (sa_cons (se_int) (sa_cons (se_glob E.g_MOST_DEEDS) sa_nil))))))))) sss_nil)
      (sss_cons (ss_asg (se_var 1) (sg_tup rfl (sgs_cons (sg_nm 2 sc_is_plain_test.nd) (sgs_cons (sg_nm 3 sc_is_plain_test.nd) sgs_nil)) 2))
      (sss_one (ss_ret ((se_and (se_cmp (v2_in hr) (se_var 0) (se_glob E.g_WORTH_WORDS)) (se_and (se_call (f := f_is_name) (fd := fd_is_name) (ps := ["thing"]) (D_is_name.at G_is_name (x := "is_name")) hg hr (D_is_name.bind 1 ["thing"] rfl fun _ _ _ _ _ _ us hl => match us, hl with | [_], _ => rfl) (takes_of rfl rfl rfl rfl) (sa_cons (se_var 2) sa_nil)) (se_and1 (se_call (f := f_is_whole) (fd := fd_is_whole) (ps := ["thing", "low", "high"]) (D_is_whole.at G_is_whole (x := "is_whole")) hg hr (D_is_whole.bind 3 ["thing", "low", "high"] rfl fun _ _ _ _ _ _ us hl => match us, hl with | [_, _, _], _ => rfl) (takes_of rfl rfl rfl rfl) (sa_cons (se_var 3) (sa_cons (se_int) (sa_cons (se_glob E.g_MOST_WORTH) sa_nil))))))))))))
theorem sc_parts_if_test : FnScope ["thing", "word", "rest"] ["thing"] (defScope s_parts_if_test) := ⟨rfl, rfl, rfl, by decide +kernel, rfl, by decide +kernel, by decide +kernel⟩
def b_parts_if_test : MS := (sSeq (sIf (tNotM (tTru (eCall 3 (m_is_row) (aCons (eVar 0) (aCons (eC (.int 2)) (aCons (eC (.int 3)) aNil)))))) (sRet (eC .non)) sNil) (sSeq (sPar 1 2 (aCons (eOp ixD (eVar 0) (eC (.int 0))) (aCons (eSl (eVar 0) (pI (eC (.int 1))) pNo) aNil))) (sSeq (sIf ((tAndM (tB' (eOp opEq (eVar 1) (eC (.str "not")))) (tB' (eOp opEq (eCB bLen (aCons (eVar 2) aNil)) (eC (.int 1)))))) (sRet (eVar 2)) sNil) (sSeq (sIf ((tAndM ((tOrM (tB' (eOp opEq (eVar 1) (eC (.str "and")))) (tB' (eOp opEq (eVar 1) (eC (.str "or")))))) (tB' (eOp opEq (eCB bLen (aCons (eVar 2) aNil)) (eC (.int 1)))))) (sRet (eIf (tTru (eCall 3 (m_is_row) (aCons (eOp ixD (eVar 2) (eC (.int 0))) (aCons (eC (.int 2)) (aCons (eC c_MOST_PARTS) aNil))))) (eOp ixD (eVar 2) (eC (.int 0))) (eC .non))) sNil) (sRet (eIf (tTru (eCall 2 (m_is_plain_test) (aCons (eVar 1) (aCons (eVar 2) aNil)))) (eTup aNil) (eC .non)))))))
def m_parts_if_test : FD := finM 2 b_parts_if_test
theorem ok_parts_if_test (E : Facts K mg) : Keeps P w K mg base dd_parts_if_test ["thing"] 4 m_parts_if_test := by
    obtain ⟨f_is_row, fd_is_row, D_is_row, G_is_row⟩ := (ok_is_row (P := P) (w := w) (base := base) E).up (k := 3) (by omega)
    obtain ⟨f_is_plain_test, fd_is_plain_test, D_is_plain_test, G_is_plain_test⟩ := (ok_is_plain_test (P := P) (w := w) (base := base) E).up (k := 3) (by omega)
    obtain ⟨f, fd, DI⟩ := E.d_parts_if_test
    refine ⟨f, fd, DI, fn_gD DI.fn sc_parts_if_test rfl fun cdv Ar fs s0 Hs R2 hg hr => ?_⟩
    exact (sss_cons (ss_if (st_not (st_tru (se_call (f := f_is_row) (fd := fd_is_row) (ps := ["thing", "low", "high"]) (D_is_row.at G_is_row (x := "is_row")) hg hr (D_is_row.bind 3 ["thing", "low", "high"] rfl fun _ _ _ _ _ _ us hl => match us, hl with | [_, _, _], _ => rfl) (takes_of rfl rfl rfl rfl) (sa_cons (se_var 0) (sa_cons (se_int) (sa_cons (se_int) sa_nil)))))) (sss_one (ss_ret (se_non))) sss_nil)
      (sss_cons (ss_par 1 2 rfl sc_parts_if_test.nd (sa_cons (se_ix (se_var 0) (se_int)) (sa_cons (se_sl (se_var 0) (sp_i (se_int)) sp_no) sa_nil)))
      (sss_cons (ss_if (st_pw (sw_and (st_cmp (v2_eq hr) (se_var 1) (se_str)) (sw_and1 (st_cmp (v2_eq hr) (se_callB vc_len E.n_len rfl (sa_cons (se_var 2) sa_nil)) (se_int))))) (sss_one (ss_ret (se_var 2))) sss_nil)
      (sss_cons (ss_if (st_pw (sw_and (st_pw (sw_or (st_cmp (v2_eq hr) (se_var 1) (se_str)) (sw_or1 (st_cmp (v2_eq hr) (se_var 1) (se_str))))) (sw_and1 (st_cmp (v2_eq hr) (se_callB vc_len E.n_len rfl (sa_cons (se_var 2) sa_nil)) (se_int))))) (sss_one (ss_ret (se_if (st_tru (se_call (f := f_is_row) (fd := fd_is_row) (ps := ["thing", "low", "high"]) (D_is_row.at G_is_row (x := "is_row")) hg hr (D_is_row.bind 3 ["thing", "low", "high"] rfl fun _ _ _ _ _ _ us hl => match us, hl with | [_, _, _], _ => rfl) (takes_of rfl rfl rfl rfl) (sa_cons (se_ix (se_var 2) (se_int)) (sa_cons (se_int) (sa_cons (se_glob E.g_MOST_PARTS) sa_nil))))) (se_ix (se_var 2) (se_int)) (se_non)))) sss_nil)
      (sss_one (ss_ret (se_if (st_tru (se_call (f := f_is_plain_test) (fd := fd_is_plain_test) (ps := ["word", "rest"]) (D_is_plain_test.at G_is_plain_test (x := "is_plain_test")) hg hr (D_is_plain_test.bind 2 ["word", "rest"] rfl fun _ _ _ _ _ _ us hl => match us, hl with | [_, _], _ => rfl) (takes_of rfl rfl rfl rfl) (sa_cons (se_var 1) (sa_cons (se_var 2) sa_nil)))) (se_tup sa_nil) (se_non))))))))
theorem sc_is_test : FnScope ["thing", "waiting", "many", "test", "depth", "parts", "part"] ["thing"] (defScope s_is_test) := ⟨rfl, rfl, rfl, by decide +kernel, rfl, by decide +kernel, by decide +kernel⟩
def b_is_test : MS := (sSeq (sAsg (eLst (aCons (eTup (aCons (eVar 0) (aCons (eC (.int 1)) aNil))) aNil)) (gNm 1)) (sSeq (sAsg (eC (.int 0)) (gNm 2)) (sSeq (whL (tTru (eVar 1)) (sSeq (sAsg (eBM "list" mPop (eVar 1) aNil) (gTp (gLen 2 (gsCons (gNm 3) (gsCons (gNm 4) gsNil))))) (sSeq (sAsg (eCall 1 (m_parts_if_test) (aCons (eVar 3) aNil)) (gNm 5)) (sSeq (sIf ((tOrM (tB' (eOp opIs (eVar 5) (eC .non))) (tB' (eOp opGt (eVar 4) (eC c_MOST_WITHIN))))) (sRet (eC (.bl false))) sNil) (sSeq (sIf (tB' (eOp opEq (eVar 5) (eTup aNil))) (sSeq (sAug 2 opIAdd (eC (.int 1))) (sIf (tB' (eOp opGt (eVar 2) (eC c_MOST_PLAIN))) (sRet (eC (.bl false))) sNil)) sNil) (sExpr (eBM "list" mExtend (eVar 1) (aCons (eLc (iOf (eVar 5)) (gNm 6) tYesM (eTup (aCons (eVar 6) (aCons (eOp opAdd (eVar 4) (eC (.int 1))) aNil))) [6]) aNil))))))) fuel) (sRet (eC (.bl true))))))
def m_is_test : FD := finM 6 b_is_test
theorem ok_is_test (E : Facts K mg) : Keeps P w K mg base dd_is_test ["thing"] 5 m_is_test := by
    obtain ⟨f_parts_if_test, fd_parts_if_test, D_parts_if_test, G_parts_if_test⟩ := (ok_parts_if_test (P := P) (w := w) (base := base) E).up (k := 4) (by omega)
    obtain ⟨f, fd, DI⟩ := E.d_is_test
    refine ⟨f, fd, DI, fn_gD DI.fn sc_is_test rfl fun cdv Ar fs s0 Hs R2 hg hr => ?_⟩
    exact (sss_cons (ss_set 1 sc_is_test.nd (se_lst (sa_cons (se_tup (sa_cons (se_var 0) (sa_cons (se_int) sa_nil))) sa_nil)))
      (sss_cons (ss_set 2 sc_is_test.nd (se_int))
      (sss_cons (ss_while fuel (passes_of rfl) (st_tru (se_var 1)) (sss_cons (ss_asg (se_bm0 PySem.F.plainAttrs_list PySem.F.slot_list_pop PySem.F.type_list_pop vm_pop (se_var 1)) (sg_tup rfl (sgs_cons (sg_nm 3 sc_is_test.nd) (sgs_cons (sg_nm 4 sc_is_test.nd) sgs_nil)) 2))
      (sss_cons (ss_set 5 sc_is_test.nd (se_call (f := f_parts_if_test) (fd := fd_parts_if_test) (ps := ["thing"]) (D_parts_if_test.at G_parts_if_test (x := "parts_if_test")) hg hr (D_parts_if_test.bind 1 ["thing"] rfl fun _ _ _ _ _ _ us hl => match us, hl with | [_], _ => rfl) (takes_of rfl rfl rfl rfl) (sa_cons (se_var 3) sa_nil)))
      (sss_cons (ss_if (st_pw (sw_or (st_cmp v2_is (se_var 5) (se_non)) (sw_or1 (st_cmp v2_gt (se_var 4) (se_glob E.g_MOST_WITHIN))))) (sss_one (ss_ret (se_bl))) sss_nil)
      (sss_cons (ss_if (st_cmp (v2_eq hr) (se_var 5) (se_tup sa_nil)) (sss_cons (ss_aug 2 sc_is_test.nd v2_iadd (se_int))
      (sss_one (ss_if (st_cmp v2_gt (se_var 2) (se_glob E.g_MOST_PLAIN)) (sss_one (ss_ret (se_bl))) sss_nil))) sss_nil)
      (sss_one (ss_expr (se_bm PySem.F.plainAttrs_list PySem.F.slot_list_extend PySem.F.type_list_extend vm_extend (se_var 1) (sa_cons (se_lc rfl sc_is_test.nd (si_of (se_var 5)) (blkOk_by (own := [("part", 6)]) (by first | (show blkC ["thing", "waiting", "many", "test", "depth", "parts", "part"] (defScope s_is_test) _ _ = true; decide +kernel) | rfl)) gin_nm (fun _ _ _ _ _ => (sg_nm 6 sc_is_test.nd)) (fun _ _ _ _ _ => sts_nil) (fun _ _ _ _ _ => (se_tup (sa_cons (se_var 6) (sa_cons (se_op v2_add (se_var 4) (se_int)) sa_nil))))) sa_nil)))))))))
      (sss_one (ss_ret (se_bl))))))
theorem sc__law_written : FnScope ["one", "ten", "four", "good", "bad", "held"] [] (defScope s__law_written) := ⟨rfl, rfl, rfl, by decide +kernel, rfl, by decide +kernel, by decide +kernel⟩
def b__law_written : MS := (sSeq (sAsg (eTup (aCons (eTup (aCons (eC (.str "is")) (aCons (eC (.str "abcdef")) (aCons (eC (.int 99)) aNil)))) (aCons (eTup (aCons (eC (.str "done")) (aCons (eC (.int 12)) aNil))) aNil))) (gTp (gLen 2 (gsCons (gNm 0) (gsCons (gNm 1) gsNil))))) (sSeq (sAsg (eTup (aCons (eC (.str "and")) (aCons (eTup (aCons (eVar 0) (aCons (eVar 1) (aCons (eVar 0) (aCons (eVar 1) aNil))))) aNil))) (gNm 2)) (sSeq (sAsg (eLst (aCons (eVar 0) (aCons (eVar 1) (aCons (eTup (aCons (eC (.str "least")) (aCons (eC (.str "z")) (aCons (eC (.int 0)) aNil)))) (aCons (eTup (aCons (eC (.str "most")) (aCons (eC (.str "a")) (aCons (eC (.int 1)) aNil)))) (aCons (eTup (aCons (eC (.str "done")) (aCons (eC (.int 0)) aNil))) (aCons (eVar 2) (aCons (eTup (aCons (eC (.str "not")) (aCons (eTup (aCons (eC (.str "not")) (aCons (eTup (aCons (eC (.str "not")) (aCons (eVar 0) aNil))) aNil))) aNil))) aNil)))))))) (gNm 3)) (sSeq (sAsg (eOp opAdd (eVar 3) (eLst (aCons (eTup (aCons (eC (.str "or")) (aCons (eTup (aCons (eVar 2) (aCons (eVar 2) (aCons (eVar 2) aNil)))) aNil))) (aCons (eTup (aCons (eC (.str "or")) (aCons (eTup (aCons (eVar 0) (aCons (eVar 1) aNil))) aNil))) (aCons (eTup (aCons (eC (.str "not")) (aCons (eTup (aCons (eC (.str "not")) (aCons (eVar 2) aNil))) aNil))) aNil))))) (gNm 3)) (sSeq (sAsg (eLst (aCons (eTup (aCons (eC (.str "is")) (aCons (eC (.str "abcdefg")) (aCons (eC (.int 1)) aNil)))) (aCons (eTup (aCons (eC (.str "is")) (aCons (eC (.str "")) (aCons (eC (.int 1)) aNil)))) (aCons (eTup (aCons (eC (.str "is")) (aCons (eC (.str "aB")) (aCons (eC (.int 1)) aNil)))) (aCons (eTup (aCons (eC (.str "is")) (aCons (eC (.str "a1")) (aCons (eC (.int 1)) aNil)))) (aCons (eTup (aCons (eC (.str "is")) (aCons (eC (.str "a")) (aCons (eC (.int 100)) aNil)))) (aCons (eTup (aCons (eC (.str "is")) (aCons (eC (.str "a")) (aCons (eC (.bl true)) aNil)))) aNil))))))) (gNm 4)) (sSeq (sAsg (eOp opAdd (eVar 4) (eLst (aCons (eTup (aCons (eC (.str "done")) (aCons (eC (.int 13)) aNil))) (aCons (eTup (aCons (eC (.str "done")) (aCons (eUn unNeg (eC (.int 1))) aNil))) (aCons (eTup (aCons (eC (.str "done")) (aCons (eC (.bl true)) aNil))) (aCons (eTup (aCons (eC (.str "and")) (aCons (eTup (aCons (eVar 0) aNil)) aNil))) (aCons (eTup (aCons (eC (.str "and")) (aCons (eTup (aCons (eVar 0) (aCons (eVar 1) (aCons (eVar 0) (aCons (eVar 1) (aCons (eVar 0) aNil)))))) aNil))) aNil))))))) (gNm 4)) (sSeq (sAsg (eOp opAdd (eVar 4) (eLst (aCons (eTup (aCons (eC (.str "or")) (aCons (eTup (aCons (eVar 2) (aCons (eVar 2) (aCons (eVar 2) (aCons (eVar 0) aNil))))) aNil))) (aCons (eTup (aCons (eC (.str "not")) (aCons (eTup (aCons (eC (.str "not")) (aCons (eTup (aCons (eC (.str "not")) (aCons (eTup (aCons (eC (.str "not")) (aCons (eVar 0) aNil))) aNil))) aNil))) aNil))) aNil)))) (gNm 4)) (sSeq (sAsg (eOp opAdd (eVar 4) (eLst (aCons (eTup (aCons (eC (.str "not")) (aCons (eTup (aCons (eC (.str "not")) (aCons (eTup (aCons (eC (.str "not")) (aCons (eVar 2) aNil))) aNil))) aNil))) (aCons (eTup (aCons (eC (.str "xor")) (aCons (eTup (aCons (eVar 0) (aCons (eVar 1) aNil))) aNil))) (aCons (eTup (aCons (eC (.str "and")) (aCons (eLst (aCons (eVar 0) (aCons (eVar 1) aNil))) aNil))) (aCons (eTup (aCons (eC (.str "and")) (aCons (eVar 0) (aCons (eVar 1) aNil)))) aNil)))))) (gNm 4)) (sSeq (sAsg (eOp opAdd (eVar 4) (eLst (aCons (eTup (aCons (eC (.str "is")) (aCons (eC (.str "a")) aNil))) (aCons (eTup (aCons (eC (.str "not")) aNil)) (aCons (eTup (aCons (eC (.str "is")) (aCons (eTup (aCons (eC (.str "a")) aNil)) (aCons (eC (.int 1)) aNil)))) (aCons (eC (.str "done")) (aCons (eTup (aCons (eC (.str "done")) (aCons (eC (.int 1)) (aCons (eC (.int 1)) aNil)))) (aCons (eTup (aCons (eC (.str "not")) (aCons (eVar 0) (aCons (eVar 0) aNil)))) (aCons (eTup (aCons (eC (.str "is")) (aCons (eC (.str "a")) (aCons (eC (.int 1)) (aCons (eC (.int 1)) aNil))))) aNil))))))))) (gNm 4)) (sRet (eOp opEq (eLc (iOf (eOp opAdd (eVar 3) (eVar 4))) (gNm 5) tYesM (eCall 1 (m_is_test) (aCons (eVar 5) aNil)) [5]) (eOp opAdd (eOp opMul (eLst (aCons (eC (.bl true)) aNil)) (eCB bLen (aCons (eVar 3) aNil))) (eOp opMul (eLst (aCons (eC (.bl false)) aNil)) (eCB bLen (aCons (eVar 4) aNil)))))))))))))))
def m__law_written : FD := finM 6 b__law_written
theorem ok__law_written (E : Facts K mg) : Keeps P w K mg base dd__law_written [] 6 m__law_written := by
    obtain ⟨f_is_test, fd_is_test, D_is_test, G_is_test⟩ := (ok_is_test (P := P) (w := w) (base := base) E).up (k := 5) (by omega)
    obtain ⟨f, fd, DI⟩ := E.d__law_written
    refine ⟨f, fd, DI, fn_gD DI.fn sc__law_written rfl fun cdv Ar fs s0 Hs R2 hg hr => ?_⟩
    exact (sss_cons (ss_asg (se_tup (sa_cons (se_tup (sa_cons (se_str) (sa_cons (se_str) (sa_cons (se_int) sa_nil)))) (sa_cons (se_tup (sa_cons (se_str) (sa_cons (se_int) sa_nil))) sa_nil))) (sg_tup rfl (sgs_cons (sg_nm 0 sc__law_written.nd) (sgs_cons (sg_nm 1 sc__law_written.nd) sgs_nil)) 2))
      (sss_cons (ss_set 2 sc__law_written.nd (se_tup (sa_cons (se_str) (sa_cons (se_tup (sa_cons (se_var 0) (sa_cons (se_var 1) (sa_cons (se_var 0) (sa_cons (se_var 1) sa_nil))))) sa_nil))))
      (sss_cons (ss_set 3 sc__law_written.nd (se_lst (sa_cons (se_var 0) (sa_cons (se_var 1) (sa_cons (se_tup (sa_cons (se_str) (sa_cons (se_str) (sa_cons (se_int) sa_nil)))) (sa_cons (se_tup (sa_cons (se_str) (sa_cons (se_str) (sa_cons (se_int) sa_nil)))) (sa_cons (se_tup (sa_cons (se_str) (sa_cons (se_int) sa_nil))) (sa_cons (se_var 2) (sa_cons (se_tup (sa_cons (se_str) (sa_cons (se_tup (sa_cons (se_str) (sa_cons (se_tup (sa_cons (se_str) (sa_cons (se_var 0) sa_nil))) sa_nil))) sa_nil))) sa_nil)))))))))
      (sss_cons (ss_set 3 sc__law_written.nd (se_op v2_add (se_var 3) (se_lst (sa_cons (se_tup (sa_cons (se_str) (sa_cons (se_tup (sa_cons (se_var 2) (sa_cons (se_var 2) (sa_cons (se_var 2) sa_nil)))) sa_nil))) (sa_cons (se_tup (sa_cons (se_str) (sa_cons (se_tup (sa_cons (se_var 0) (sa_cons (se_var 1) sa_nil))) sa_nil))) (sa_cons (se_tup (sa_cons (se_str) (sa_cons (se_tup (sa_cons (se_str) (sa_cons (se_var 2) sa_nil))) sa_nil))) sa_nil))))))
      (sss_cons (ss_set 4 sc__law_written.nd (se_lst (sa_cons (se_tup (sa_cons (se_str) (sa_cons (se_str) (sa_cons (se_int) sa_nil)))) (sa_cons (se_tup (sa_cons (se_str) (sa_cons (se_str) (sa_cons (se_int) sa_nil)))) (sa_cons (se_tup (sa_cons (se_str) (sa_cons (se_str) (sa_cons (se_int) sa_nil)))) (sa_cons (se_tup (sa_cons (se_str) (sa_cons (se_str) (sa_cons (se_int) sa_nil)))) (sa_cons (se_tup (sa_cons (se_str) (sa_cons (se_str) (sa_cons (se_int) sa_nil)))) (sa_cons (se_tup (sa_cons (se_str) (sa_cons (se_str) (sa_cons (se_bl) sa_nil)))) sa_nil))))))))
      (sss_cons (ss_set 4 sc__law_written.nd (se_op v2_add (se_var 4) (se_lst (sa_cons (se_tup (sa_cons (se_str) (sa_cons (se_int) sa_nil))) (sa_cons (se_tup (sa_cons (se_str) (sa_cons (se_neg (se_int)) sa_nil))) (sa_cons (se_tup (sa_cons (se_str) (sa_cons (se_bl) sa_nil))) (sa_cons (se_tup (sa_cons (se_str) (sa_cons (se_tup (sa_cons (se_var 0) sa_nil)) sa_nil))) (sa_cons (se_tup (sa_cons (se_str) (sa_cons (se_tup (sa_cons (se_var 0) (sa_cons (se_var 1) (sa_cons (se_var 0) (sa_cons (se_var 1) (sa_cons (se_var 0) sa_nil)))))) sa_nil))) sa_nil))))))))
      (sss_cons (ss_set 4 sc__law_written.nd (se_op v2_add (se_var 4) (se_lst (sa_cons (se_tup (sa_cons (se_str) (sa_cons (se_tup (sa_cons (se_var 2) (sa_cons (se_var 2) (sa_cons (se_var 2) (sa_cons (se_var 0) sa_nil))))) sa_nil))) (sa_cons (se_tup (sa_cons (se_str) (sa_cons (se_tup (sa_cons (se_str) (sa_cons (se_tup (sa_cons (se_str) (sa_cons (se_tup (sa_cons (se_str) (sa_cons (se_var 0) sa_nil))) sa_nil))) sa_nil))) sa_nil))) sa_nil)))))
      (sss_cons (ss_set 4 sc__law_written.nd (se_op v2_add (se_var 4) (se_lst (sa_cons (se_tup (sa_cons (se_str) (sa_cons (se_tup (sa_cons (se_str) (sa_cons (se_tup (sa_cons (se_str) (sa_cons (se_var 2) sa_nil))) sa_nil))) sa_nil))) (sa_cons (se_tup (sa_cons (se_str) (sa_cons (se_tup (sa_cons (se_var 0) (sa_cons (se_var 1) sa_nil))) sa_nil))) (sa_cons (se_tup (sa_cons (se_str) (sa_cons (se_lst (sa_cons (se_var 0) (sa_cons (se_var 1) sa_nil))) sa_nil))) (sa_cons (se_tup (sa_cons (se_str) (sa_cons (se_var 0) (sa_cons (se_var 1) sa_nil)))) sa_nil)))))))
      (sss_cons (ss_set 4 sc__law_written.nd (se_op v2_add (se_var 4) (se_lst (sa_cons (se_tup (sa_cons (se_str) (sa_cons (se_str) sa_nil))) (sa_cons (se_tup (sa_cons (se_str) sa_nil)) (sa_cons (se_tup (sa_cons (se_str) (sa_cons (se_tup (sa_cons (se_str) sa_nil)) (sa_cons (se_int) sa_nil)))) (sa_cons (se_str) (sa_cons (se_tup (sa_cons (se_str) (sa_cons (se_int) (sa_cons (se_int) sa_nil)))) (sa_cons (se_tup (sa_cons (se_str) (sa_cons (se_var 0) (sa_cons (se_var 0) sa_nil)))) (sa_cons (se_tup (sa_cons (se_str) (sa_cons (se_str) (sa_cons (se_int) (sa_cons (se_int) sa_nil))))) sa_nil))))))))))
      (sss_one (ss_ret (se_cmp (v2_eq hr) (se_lc rfl sc__law_written.nd (si_of (se_op v2_add (se_var 3) (se_var 4))) (blkOk_by (own := [("held", 5)]) (by first | (show blkC ["one", "ten", "four", "good", "bad", "held"] (defScope s__law_written) _ _ = true; decide +kernel) | rfl)) gin_nm (fun _ _ _ _ _ => (sg_nm 5 sc__law_written.nd)) (fun _ _ _ _ _ => sts_nil) (fun _ _ _ _ _ => (se_call (f := f_is_test) (fd := fd_is_test) (ps := ["thing"]) (D_is_test.at G_is_test (x := "is_test")) hg hr (D_is_test.bind 1 ["thing"] rfl fun _ _ _ _ _ _ us hl => match us, hl with | [_], _ => rfl) takes0 (sa_cons (se_var 5) sa_nil)))) (se_op v2_add (se_op v2_mul (se_lst (sa_cons (se_bl) sa_nil)) (se_callB vc_len E.n_len rfl (sa_cons (se_var 3) sa_nil))) (se_op v2_mul (se_lst (sa_cons (se_bl) sa_nil)) (se_callB vc_len E.n_len rfl (sa_cons (se_var 4) sa_nil))))))))))))))))
theorem sc__law_pot : FnScope ["script", "k", "cell", "mixed"] ["script", "k"] (defScope s__law_pot) := ⟨rfl, rfl, rfl, by decide +kernel, rfl, by decide +kernel, by decide +kernel⟩
def b__law_pot : MS := (sSeq (sAsg (eC (.int 0)) (gNm 2)) (sSeq (sIf (tB' (eOp opLt (eVar 1) (eCB bLen (aCons (eVar 0) aNil)))) (sAsg (eOp opMod (eCB bAbs (aCons (eOp ixD (eVar 0) (eVar 1)) aNil)) (eOp opPow (eOp opPow (eC (.int 10)) (eC (.int 60))) (eC (.int 10)))) (gNm 2)) sNil) (sSeq (sAsg (eOp opMod (eOp opPow (eOp opAdd (eOp opAdd (eOp opMod (eVar 2) (eC (.int 2147483579))) (eOp opMul (eC (.int 5987)) (eVar 1))) (eC (.int 1))) (eC (.int 5))) (eC (.int 2305843009213693951))) (gNm 3)) (sRet (eLst (aCons (eOp opMul (eVar 2) (eCB bInt (aCons (eOp opGe (eVar 2) (eOp opPow (eC (.int 10)) (eC (.int 18)))) aNil))) (aCons (eVar 3) (aCons (eC (.int 0)) aNil))))))))
def m__law_pot : FD := finM 2 b__law_pot
theorem ok__law_pot (E : Facts K mg) : Keeps P w K mg base dd__law_pot ["script", "k"] 2 m__law_pot := by
    obtain ⟨f, fd, DI⟩ := E.d__law_pot
    refine ⟨f, fd, DI, fn_gD DI.fn sc__law_pot rfl fun cdv Ar fs s0 Hs R2 hg hr => ?_⟩
    exact (sss_cons (ss_set 2 sc__law_pot.nd (se_int))
      (sss_cons (ss_if (st_cmp v2_lt (se_var 1) (se_callB vc_len E.n_len rfl (sa_cons (se_var 0) sa_nil))) (sss_one (ss_set 2 sc__law_pot.nd (se_op v2_mod (se_callB vc_abs E.n_abs rfl (sa_cons (se_ix (se_var 0) (se_var 1)) sa_nil)) (se_op v2_pow (se_op v2_pow (se_int) (se_int)) (se_int))))) sss_nil)
      (sss_cons (ss_set 3 sc__law_pot.nd (se_op v2_mod (se_op v2_pow (se_op v2_add (se_op v2_add (se_op v2_mod (se_var 2) (se_int)) (se_op v2_mul (se_int) (se_var 1))) (se_int)) (se_int)) (se_int)))
      (sss_one (ss_ret (se_lst (sa_cons (se_op v2_mul (se_var 2) (se_callTy vc_int E.n_int rfl (sa_cons (se_cmp v2_ge (se_var 2) (se_op v2_pow (se_int) (se_int))) sa_nil))) (sa_cons (se_var 3) (sa_cons (se_int) sa_nil)))))))))
theorem sc__law_take : FnScope ["pot", "many", "one", "other", "found"] ["pot", "many"] (defScope s__law_take) := ⟨rfl, rfl, rfl, by decide +kernel, rfl, by decide +kernel, by decide +kernel⟩
def b__law_take : MS := (sSeq (sIf (tB' (eOp opGt (eOp ixD (eVar 0) (eC (.int 0))) (eC (.int 0)))) (sSeq (sAsg (eOp opMod (eOp ixD (eVar 0) (eC (.int 0))) (eVar 1)) (gNm 4)) (sSeq (sAsg (eOp opDiv (eOp ixD (eVar 0) (eC (.int 0))) (eVar 1)) (gSb setL3 (eVar 0) (eC (.int 0)))) (sRet (eVar 4)))) sNil) (sSeq (sAsg (eOp opAdd (eOp ixD (eVar 0) (eC (.int 2))) (eC (.int 1))) (gSb setL3 (eVar 0) (eC (.int 2)))) (sSeq (sAsg (eOp opMod (eOp opPow (eOp opAdd (eOp ixD (eVar 0) (eC (.int 1))) (eOp opMul (eC (.int 104677)) (eOp ixD (eVar 0) (eC (.int 2))))) (eC (.int 3))) (eC (.int 2305843009213693921))) (gNm 2)) (sSeq (sAsg (eOp opMod (eOp opPow (eOp opAdd (eOp opAdd (eVar 2) (eOp opMod (eOp ixD (eVar 0) (eC (.int 1))) (eC (.int 65519)))) (eOp opMul (eC (.int 41)) (eOp ixD (eVar 0) (eC (.int 2))))) (eC (.int 5))) (eC (.int 2305843009213693907))) (gNm 3)) (sRet (eOp opMod (eOp opDiv (eVar 3) (eC (.int 1024))) (eVar 1)))))))
def m__law_take : FD := finM 3 b__law_take
theorem ok__law_take (E : Facts K mg) : Keeps P w K mg base dd__law_take ["pot", "many"] 2 m__law_take := by
    obtain ⟨f, fd, DI⟩ := E.d__law_take
    refine ⟨f, fd, DI, fn_gD DI.fn sc__law_take rfl fun cdv Ar fs s0 Hs R2 hg hr => ?_⟩
    exact (sss_cons (ss_if (st_cmp v2_gt (se_ix (se_var 0) (se_int)) (se_int)) (sss_cons (ss_set 4 sc__law_take.nd (se_op v2_mod (se_ix (se_var 0) (se_int)) (se_var 1)))
      (sss_cons (ss_asg (se_op v2_div (se_ix (se_var 0) (se_int)) (se_var 1)) (sg_sub v3_list (se_var 0) (se_int)))
      (sss_one (ss_ret (se_var 4))))) sss_nil)
      (sss_cons (ss_asg (se_op v2_add (se_ix (se_var 0) (se_int)) (se_int)) (sg_sub v3_list (se_var 0) (se_int)))
      (sss_cons (ss_set 2 sc__law_take.nd (se_op v2_mod (se_op v2_pow (se_op v2_add (se_ix (se_var 0) (se_int)) (se_op v2_mul (se_int) (se_ix (se_var 0) (se_int)))) (se_int)) (se_int)))
      (sss_cons (ss_set 3 sc__law_take.nd (se_op v2_mod (se_op v2_pow (se_op v2_add (se_op v2_add (se_var 2) (se_op v2_mod (se_ix (se_var 0) (se_int)) (se_int))) (se_op v2_mul (se_int) (se_ix (se_var 0) (se_int)))) (se_int)) (se_int)))
      (sss_one (ss_ret (se_op v2_mod (se_op v2_div (se_var 3) (se_int)) (se_var 1))))))))
theorem sc__law_test : FnScope ["pot", "deep", "way", "some", "word", "turn"] ["pot", "deep"] (defScope s__law_test) := ⟨rfl, rfl, rfl, by decide +kernel, rfl, by decide +kernel, by decide +kernel⟩
def b__law_test (r__law_test : FD) : MS := (sSeq (sAsg (eCall 2 (m__law_take) (aCons (eVar 0) (aCons (eC (.int 9)) aNil))) (gNm 2)) (sSeq (sIf ((tOrM (tB' (eOp opLt (eVar 1) (eC (.int 2)))) (tB' (eOp opLt (eVar 2) (eC (.int 4)))))) (sSeq (sIf (tB' (eOp opEq (eCall 2 (m__law_take) (aCons (eVar 0) (aCons (eC (.int 3)) aNil))) (eC (.int 0)))) (sRet (eTup (aCons (eC (.str "done")) (aCons (eOp ixD (eLst (aCons (eC (.int 0)) (aCons (eC (.int 1)) (aCons (eC (.int 2)) (aCons (eC (.int 12)) (aCons (eCall 2 (m__law_take) (aCons (eVar 0) (aCons (eC (.int 6)) aNil))) aNil)))))) (eCall 2 (m__law_take) (aCons (eVar 0) (aCons (eC (.int 5)) aNil)))) aNil)))) sNil) (sSeq (sAsg (eOp ixD (eLst (aCons (eC (.str "is")) (aCons (eC (.str "least")) (aCons (eC (.str "most")) aNil)))) (eCall 2 (m__law_take) (aCons (eVar 0) (aCons (eC (.int 3)) aNil)))) (gNm 4)) (sRet (eTup (aCons (eVar 4) (aCons (eOp ixD (eLst (aCons (eC (.str "a")) (aCons (eC (.str "a")) (aCons (eC (.str "b")) (aCons (eC (.str "go")) (aCons (eC (.str "zz")) aNil)))))) (eCall 2 (m__law_take) (aCons (eVar 0) (aCons (eC (.int 5)) aNil)))) (aCons (eOp ixD (eLst (aCons (eC (.int 0)) (aCons (eC (.int 1)) (aCons (eC (.int 2)) (aCons (eC (.int 50)) (aCons (eC (.int 99)) aNil)))))) (eCall 2 (m__law_take) (aCons (eVar 0) (aCons (eC (.int 5)) aNil)))) aNil))))))) sNil) (sSeq (sIf (tB' (eOp opLt (eVar 2) (eC (.int 6)))) (sRet (eTup (aCons (eC (.str "not")) (aCons (eCall 2 (r__law_test) (aCons (eVar 0) (aCons (eOp opSub (eVar 1) (eC (.int 1))) aNil))) aNil)))) sNil) (sSeq (sAsg (eCB bTuple (aCons (eLc (iRg1 (aCons (eOp opAdd (eC (.int 2)) (eCall 2 (m__law_take) (aCons (eVar 0) (aCons (eC (.int 2)) aNil)))) aNil)) (gNm 5) tYesM (eCall 2 (r__law_test) (aCons (eVar 0) (aCons (eOp opSub (eVar 1) (eC (.int 1))) aNil))) [5]) aNil)) (gNm 3)) (sRet (eTup (aCons (eOp ixD (eLst (aCons (eC (.str "and")) (aCons (eC (.str "or")) aNil))) (eCall 2 (m__law_take) (aCons (eVar 0) (aCons (eC (.int 2)) aNil)))) (aCons (eVar 3) aNil))))))))
def m__law_test : Nat → FD
  | 0 => mNo
  | n + 1 => finM 4 (b__law_test (m__law_test n))
theorem ok__law_test (E : Facts K mg) : ∀ n, Keeps P w K mg base dd__law_test ["pot", "deep"] (2 + n) (m__law_test n)
  | 0 => by
    obtain ⟨f, fd, DI⟩ := E.d__law_test
    exact ⟨f, fd, DI, fn_no⟩
  | n + 1 => by
    obtain ⟨f__law_test, fd__law_test, D__law_test, G__law_test⟩ := ok__law_test E n
    obtain ⟨f__law_take, fd__law_take, D__law_take, G__law_take⟩ := (ok__law_take (P := P) (w := w) (base := base) E).up (k := 2 + n) (by omega)
    refine ⟨f__law_test, fd__law_test, D__law_test, fn_gD D__law_test.fn sc__law_test rfl fun cdv Ar fs s0 Hs R2 hg hr => ?_⟩
    exact (sss_cons (ss_set 2 sc__law_test.nd (se_call (f := f__law_take) (fd := fd__law_take) (ps := ["pot", "many"]) (D__law_take.at G__law_take (x := "_law_take")) hg hr (D__law_take.bind 2 ["pot", "many"] rfl fun _ _ _ _ _ _ us hl => match us, hl with | [_, _], _ => rfl) (takes_of rfl rfl rfl rfl) (sa_cons (se_var 0) (sa_cons (se_int) sa_nil))))
      (sss_cons (ss_if (st_pw (sw_or (st_cmp v2_lt (se_var 1) (se_int)) (sw_or1 (st_cmp v2_lt (se_var 2) (se_int))))) (sss_cons (ss_if (st_cmp (v2_eq hr) (se_call (f := f__law_take) (fd := fd__law_take) (ps := ["pot", "many"]) (D__law_take.at G__law_take (x := "_law_take")) hg hr (D__law_take.bind 2 ["pot", "many"] rfl fun _ _ _ _ _ _ us hl => match us, hl with | [_, _], _ => rfl) (takes_of rfl rfl rfl rfl) (sa_cons (se_var 0) (sa_cons (se_int) sa_nil))) (se_int)) (sss_one (ss_ret (se_tup (sa_cons (se_str) (sa_cons (se_ix (se_lst (sa_cons (se_int) (sa_cons (se_int) (sa_cons (se_int) (sa_cons (se_int) (sa_cons (se_call (f := f__law_take) (fd := fd__law_take) (ps := ["pot", "many"]) (D__law_take.at G__law_take (x := "_law_take")) hg hr (D__law_take.bind 2 ["pot", "many"] rfl fun _ _ _ _ _ _ us hl => match us, hl with | [_, _], _ => rfl) (takes_of rfl rfl rfl rfl) (sa_cons (se_var 0) (sa_cons (se_int) sa_nil))) sa_nil)))))) (se_call (f := f__law_take) (fd := fd__law_take) (ps := ["pot", "many"]) (D__law_take.at G__law_take (x := "_law_take")) hg hr (D__law_take.bind 2 ["pot", "many"] rfl fun _ _ _ _ _ _ us hl => match us, hl with | [_, _], _ => rfl) (takes_of rfl rfl rfl rfl) (sa_cons (se_var 0) (sa_cons (se_int) sa_nil)))) sa_nil))))) sss_nil)
      (sss_cons (ss_set 4 sc__law_test.nd (se_ix (se_lst (sa_cons (se_str) (sa_cons (se_str) (sa_cons (se_str) sa_nil)))) (se_call (f := f__law_take) (fd := fd__law_take) (ps := ["pot", "many"]) (D__law_take.at G__law_take (x := "_law_take")) hg hr (D__law_take.bind 2 ["pot", "many"] rfl fun _ _ _ _ _ _ us hl => match us, hl with | [_, _], _ => rfl) (takes_of rfl rfl rfl rfl) (sa_cons (se_var 0) (sa_cons (se_int) sa_nil)))))
      (sss_one (ss_ret (se_tup (sa_cons (se_var 4) (sa_cons (se_ix (se_lst (sa_cons (se_str) (sa_cons (se_str) (sa_cons (se_str) (sa_cons (se_str) (sa_cons (se_str) sa_nil)))))) (se_call (f := f__law_take) (fd := fd__law_take) (ps := ["pot", "many"]) (D__law_take.at G__law_take (x := "_law_take")) hg hr (D__law_take.bind 2 ["pot", "many"] rfl fun _ _ _ _ _ _ us hl => match us, hl with | [_, _], _ => rfl) (takes_of rfl rfl rfl rfl) (sa_cons (se_var 0) (sa_cons (se_int) sa_nil)))) (sa_cons (se_ix (se_lst (sa_cons (se_int) (sa_cons (se_int) (sa_cons (se_int) (sa_cons (se_int) (sa_cons (se_int) sa_nil)))))) (se_call (f := f__law_take) (fd := fd__law_take) (ps := ["pot", "many"]) (D__law_take.at G__law_take (x := "_law_take")) hg hr (D__law_take.bind 2 ["pot", "many"] rfl fun _ _ _ _ _ _ us hl => match us, hl with | [_, _], _ => rfl) (takes_of rfl rfl rfl rfl) (sa_cons (se_var 0) (sa_cons (se_int) sa_nil)))) sa_nil)))))))) sss_nil)
      (sss_cons (ss_if (st_cmp v2_lt (se_var 2) (se_int)) (sss_one (ss_ret (se_tup (sa_cons (se_str) (sa_cons (se_call (f := f__law_test) (fd := fd__law_test) (ps := ["pot", "deep"]) (D__law_test.at G__law_test (x := "_law_test")) hg hr (D__law_test.bind 2 ["pot", "deep"] rfl fun _ _ _ _ _ _ us hl => match us, hl with | [_, _], _ => rfl) (takes_of rfl rfl rfl rfl) (sa_cons (se_var 0) (sa_cons (se_op v2_sub (se_var 1) (se_int)) sa_nil))) sa_nil))))) sss_nil)
      (sss_cons (ss_set 3 sc__law_test.nd (se_callTy vc_tuple E.n_tuple rfl (sa_cons (se_lc rfl sc__law_test.nd (si_rng1 E.n_range (sa_cons (se_op v2_add (se_int) (se_call (f := f__law_take) (fd := fd__law_take) (ps := ["pot", "many"]) (D__law_take.at G__law_take (x := "_law_take")) hg hr (D__law_take.bind 2 ["pot", "many"] rfl fun _ _ _ _ _ _ us hl => match us, hl with | [_, _], _ => rfl) (takes_of rfl rfl rfl rfl) (sa_cons (se_var 0) (sa_cons (se_int) sa_nil)))) sa_nil)) (blkOk_by (own := [("turn", 5)]) (by first | (show blkC ["pot", "deep", "way", "some", "word", "turn"] (defScope s__law_test) _ _ = true; decide +kernel) | rfl)) gin_nm (fun _ _ _ _ _ => (sg_nm 5 sc__law_test.nd)) (fun _ _ _ _ _ => sts_nil) (fun _ _ _ _ _ => (se_call (f := f__law_test) (fd := fd__law_test) (ps := ["pot", "deep"]) (D__law_test.at G__law_test (x := "_law_test")) hg hr (D__law_test.bind 2 ["pot", "deep"] rfl fun _ _ _ _ _ _ us hl => match us, hl with | [_, _], _ => rfl) takes0 (sa_cons (se_var 0) (sa_cons (se_op v2_sub (se_var 1) (se_int)) sa_nil))))) sa_nil)))
      (sss_one (ss_ret (se_tup (sa_cons (se_ix (se_lst (sa_cons (se_str) (sa_cons (se_str) sa_nil))) (se_call (f := f__law_take) (fd := fd__law_take) (ps := ["pot", "many"]) (D__law_take.at G__law_take (x := "_law_take")) hg hr (D__law_take.bind 2 ["pot", "many"] rfl fun _ _ _ _ _ _ us hl => match us, hl with | [_, _], _ => rfl) (takes_of rfl rfl rfl rfl) (sa_cons (se_var 0) (sa_cons (se_int) sa_nil)))) (sa_cons (se_var 3) sa_nil)))))))))
theorem sc__law_odd : FnScope ["pot", "far", "some"] ["pot"] (defScope s__law_odd) := ⟨rfl, rfl, rfl, by decide +kernel, rfl, by decide +kernel, by decide +kernel⟩
def b__law_odd : MS := (sSeq (sAsg (eCall 2 (m__law_take) (aCons (eVar 0) (aCons (eOp opPow (eC (.int 10)) (eC (.int 39))) aNil))) (gNm 1)) (sSeq (sAsg (eLst (aCons (eC .non) (aCons (eC (.bl true)) (aCons (eC (.bl false)) (aCons (eUn unNeg (eC (.int 1))) (aCons (eC (.int 0)) (aCons (eC (.int 1)) (aCons (eC (.int 100)) (aCons (eVar 1) (aCons (eOp opSub (eC (.int 0)) (eVar 1)) (aCons (eC (.str "")) (aCons (eC (.str "a")) (aCons (eC (.str "is")) (aCons (eC (.str "done")) (aCons (eC (.str "all")) (aCons (eTup aNil) (aCons (eLst aNil) (aCons (eDict0) (aCons (eTup (aCons (eC (.int 0)) aNil)) (aCons (eTup (aCons (eTup aNil) aNil)) aNil)))))))))))))))))))) (gNm 2)) (sRet (eOp ixD (eOp opAdd (eVar 2) (eLst (aCons (eTup (aCons (eC (.str "end")) aNil)) aNil))) (eCall 2 (m__law_take) (aCons (eVar 0) (aCons (eC (.int 20)) aNil)))))))
def m__law_odd : FD := finM 2 b__law_odd
theorem ok__law_odd (E : Facts K mg) : Keeps P w K mg base dd__law_odd ["pot"] 3 m__law_odd := by
    obtain ⟨f__law_take, fd__law_take, D__law_take, G__law_take⟩ := (ok__law_take (P := P) (w := w) (base := base) E).up (k := 2) (by omega)
    obtain ⟨f, fd, DI⟩ := E.d__law_odd
    refine ⟨f, fd, DI, fn_gD DI.fn sc__law_odd rfl fun cdv Ar fs s0 Hs R2 hg hr => ?_⟩
    exact (sss_cons (ss_set 1 sc__law_odd.nd (se_call (f := f__law_take) (fd := fd__law_take) (ps := ["pot", "many"]) (D__law_take.at G__law_take (x := "_law_take")) hg hr (D__law_take.bind 2 ["pot", "many"] rfl fun _ _ _ _ _ _ us hl => match us, hl with | [_, _], _ => rfl) (takes_of rfl rfl rfl rfl) (sa_cons (se_var 0) (sa_cons (se_op v2_pow (se_int) (se_int)) sa_nil))))
      (sss_cons (ss_set 2 sc__law_odd.nd (se_lst (sa_cons (se_non) (sa_cons (se_bl) (sa_cons (se_bl) (sa_cons (se_neg (se_int)) (sa_cons (se_int) (sa_cons (se_int) (sa_cons (se_int) (sa_cons (se_var 1) (sa_cons (se_op v2_sub (se_int) (se_var 1)) (sa_cons (se_str) (sa_cons (se_str) (sa_cons (se_str) (sa_cons (se_str) (sa_cons (se_str) (sa_cons (se_tup sa_nil) (sa_cons (se_lst sa_nil) (sa_cons (se_dict0) (sa_cons (se_tup (sa_cons (se_int) sa_nil)) (sa_cons (se_tup (sa_cons (se_tup sa_nil) sa_nil)) sa_nil)))))))))))))))))))))
      (sss_one (ss_ret (se_ix (se_op v2_add (se_var 2) (se_lst (sa_cons (se_tup (sa_cons (se_str) sa_nil)) sa_nil))) (se_call (f := f__law_take) (fd := fd__law_take) (ps := ["pot", "many"]) (D__law_take.at G__law_take (x := "_law_take")) hg hr (D__law_take.bind 2 ["pot", "many"] rfl fun _ _ _ _ _ _ us hl => match us, hl with | [_, _], _ => rfl) (takes_of rfl rfl rfl rfl) (sa_cons (se_var 0) (sa_cons (se_int) sa_nil))))))))
theorem sc__law_bent : FnScope ["pot", "held", "deep", "at", "way", "some"] ["pot", "held", "deep"] (defScope s__law_bent) := ⟨rfl, rfl, rfl, by decide +kernel, rfl, by decide +kernel, by decide +kernel⟩
def b__law_bent (r__law_bent : FD) : MS := (sSeq (sIf ((tOrM (tNotM (tTru (eCB bIsi (aCons (eVar 1) (aCons (eC (.ty "tuple")) aNil))))) (tOrM (tB' (eOp opEq (eVar 1) (eTup aNil))) (tB' (eOp opEq (eVar 2) (eC (.int 0))))))) (sSeq (sIf ((tAndM (tTru (eCB bIsi (aCons (eVar 1) (aCons (eC (.ty "int")) aNil)))) (tAndM (tNotM (tTru (eCB bIsi (aCons (eVar 1) (aCons (eC (.ty "bool")) aNil))))) (tB' (eOp opGt (eCall 2 (m__law_take) (aCons (eVar 0) (aCons (eC (.int 3)) aNil))) (eC (.int 0))))))) (sRet (eOp opAdd (eVar 1) (eOp ixD (eLst (aCons (eC (.int 1)) (aCons (eUn unNeg (eC (.int 1))) (aCons (eC (.int 13)) (aCons (eC (.int 99)) aNil))))) (eCall 2 (m__law_take) (aCons (eVar 0) (aCons (eC (.int 4)) aNil)))))) sNil) (sRet (eCall 1 (m__law_odd) (aCons (eVar 0) aNil)))) sNil) (sSeq (sPar 3 4 (aCons (eCall 2 (m__law_take) (aCons (eVar 0) (aCons (eCB bLen (aCons (eVar 1) aNil)) aNil))) (aCons (eCall 2 (m__law_take) (aCons (eVar 0) (aCons (eC (.int 12)) aNil))) aNil))) (sSeq (sIf (tB' (eOp opLt (eVar 4) (eC (.int 8)))) (sRet (eOp opAdd (eOp opAdd (eSl (eVar 1) pNo (pI (eVar 3))) (eTup (aCons (eCall 3 (r__law_bent) (aCons (eVar 0) (aCons (eOp ixD (eVar 1) (eVar 3)) (aCons (eOp opSub (eVar 2) (eC (.int 1))) aNil)))) aNil))) (eSl (eVar 1) (pI (eOp opAdd (eVar 3) (eC (.int 1)))) pNo))) sNil) (sSeq (sAsg (eLst (aCons (eOp opAdd (eSl (eVar 1) pNo (pI (eVar 3))) (eSl (eVar 1) (pI (eOp opAdd (eVar 3) (eC (.int 1)))) pNo)) (aCons (eOp opAdd (eOp opAdd (eSl (eVar 1) pNo (pI (eVar 3))) (eSl (eVar 1) (pI (eVar 3)) (pI (eOp opAdd (eVar 3) (eC (.int 1)))))) (eSl (eVar 1) (pI (eVar 3)) pNo)) (aCons (eOp opAdd (eVar 1) (eTup (aCons (eCall 1 (m__law_odd) (aCons (eVar 0) aNil)) aNil))) aNil)))) (gNm 5)) (sRet (eOp ixD (eOp opAdd (eVar 5) (eLst (aCons (eCB bList (aCons (eVar 1) aNil)) aNil))) (eOp opSub (eVar 4) (eC (.int 8)))))))))
def m__law_bent : Nat → FD
  | 0 => mNo
  | n + 1 => finM 3 (b__law_bent (m__law_bent n))
theorem ok__law_bent (E : Facts K mg) : ∀ n, Keeps P w K mg base dd__law_bent ["pot", "held", "deep"] (3 + n) (m__law_bent n)
  | 0 => by
    obtain ⟨f, fd, DI⟩ := E.d__law_bent
    exact ⟨f, fd, DI, fn_no⟩
  | n + 1 => by
    obtain ⟨f__law_bent, fd__law_bent, D__law_bent, G__law_bent⟩ := ok__law_bent E n
    obtain ⟨f__law_take, fd__law_take, D__law_take, G__law_take⟩ := (ok__law_take (P := P) (w := w) (base := base) E).up (k := 3 + n) (by omega)
    obtain ⟨f__law_odd, fd__law_odd, D__law_odd, G__law_odd⟩ := (ok__law_odd (P := P) (w := w) (base := base) E).up (k := 3 + n) (by omega)
    refine ⟨f__law_bent, fd__law_bent, D__law_bent, fn_gD D__law_bent.fn sc__law_bent rfl fun cdv Ar fs s0 Hs R2 hg hr => ?_⟩
    exact (sss_cons (ss_if (st_pw (sw_or (st_not (st_tru (se_callB vc_isi E.n_isinstance rfl (sa_cons (se_var 1) (sa_cons (se_ty E.n_tuple rfl) sa_nil))))) (sw_or (st_cmp (v2_eq hr) (se_var 1) (se_tup sa_nil)) (sw_or1 (st_cmp (v2_eq hr) (se_var 2) (se_int)))))) (sss_cons (ss_if (st_pw (sw_and (st_tru (se_callB vc_isi E.n_isinstance rfl (sa_cons (se_var 1) (sa_cons (se_ty E.n_int rfl) sa_nil)))) (sw_and (st_not (st_tru (se_callB vc_isi E.n_isinstance rfl (sa_cons (se_var 1) (sa_cons (se_ty E.n_bool rfl) sa_nil))))) (sw_and1 (st_cmp v2_gt (se_call (f := f__law_take) (fd := fd__law_take) (ps := ["pot", "many"]) (D__law_take.at G__law_take (x := "_law_take")) hg hr (D__law_take.bind 2 ["pot", "many"] rfl fun _ _ _ _ _ _ us hl => match us, hl with | [_, _], _ => rfl) (takes_of rfl rfl rfl rfl) (sa_cons (se_var 0) (sa_cons (se_int) sa_nil))) (se_int)))))) (sss_one (ss_ret (se_op v2_add (se_var 1) (se_ix (se_lst (sa_cons (se_int) (sa_cons (se_neg (se_int)) (sa_cons (se_int) (sa_cons (se_int) sa_nil))))) (se_call (f := f__law_take) (fd := fd__law_take) (ps := ["pot", "many"]) (D__law_take.at G__law_take (x := "_law_take")) hg hr (D__law_take.bind 2 ["pot", "many"] rfl fun _ _ _ _ _ _ us hl => match us, hl with | [_, _], _ => rfl) (takes_of rfl rfl rfl rfl) (sa_cons (se_var 0) (sa_cons (se_int) sa_nil))))))) sss_nil)
      (sss_one (ss_ret (se_call (f := f__law_odd) (fd := fd__law_odd) (ps := ["pot"]) (D__law_odd.at G__law_odd (x := "_law_odd")) hg hr (D__law_odd.bind 1 ["pot"] rfl fun _ _ _ _ _ _ us hl => match us, hl with | [_], _ => rfl) (takes_of rfl rfl rfl rfl) (sa_cons (se_var 0) sa_nil))))) sss_nil)
      (sss_cons (ss_par 3 4 rfl sc__law_bent.nd (sa_cons (se_call (f := f__law_take) (fd := fd__law_take) (ps := ["pot", "many"]) (D__law_take.at G__law_take (x := "_law_take")) hg hr (D__law_take.bind 2 ["pot", "many"] rfl fun _ _ _ _ _ _ us hl => match us, hl with | [_, _], _ => rfl) (takes_of rfl rfl rfl rfl) (sa_cons (se_var 0) (sa_cons (se_callB vc_len E.n_len rfl (sa_cons (se_var 1) sa_nil)) sa_nil))) (sa_cons (se_call (f := f__law_take) (fd := fd__law_take) (ps := ["pot", "many"]) (D__law_take.at G__law_take (x := "_law_take")) hg hr (D__law_take.bind 2 ["pot", "many"] rfl fun _ _ _ _ _ _ us hl => match us, hl with | [_, _], _ => rfl) (takes_of rfl rfl rfl rfl) (sa_cons (se_var 0) (sa_cons (se_int) sa_nil))) sa_nil)))
      (sss_cons (ss_if (st_cmp v2_lt (se_var 4) (se_int)) (sss_one (ss_ret (se_op v2_add (se_op v2_add (se_sl (se_var 1) sp_no (sp_i (se_var 3))) (se_tup (sa_cons (se_call (f := f__law_bent) (fd := fd__law_bent) (ps := ["pot", "held", "deep"]) (D__law_bent.at G__law_bent (x := "_law_bent")) hg hr (D__law_bent.bind 3 ["pot", "held", "deep"] rfl fun _ _ _ _ _ _ us hl => match us, hl with | [_, _, _], _ => rfl) (takes_of rfl rfl rfl rfl) (sa_cons (se_var 0) (sa_cons (se_ix (se_var 1) (se_var 3)) (sa_cons (se_op v2_sub (se_var 2) (se_int)) sa_nil)))) sa_nil))) (se_sl (se_var 1) (sp_i (se_op v2_add (se_var 3) (se_int))) sp_no)))) sss_nil)
      (sss_cons (ss_set 5 sc__law_bent.nd (se_lst (sa_cons (se_op v2_add (se_sl (se_var 1) sp_no (sp_i (se_var 3))) (se_sl (se_var 1) (sp_i (se_op v2_add (se_var 3) (se_int))) sp_no)) (sa_cons (se_op v2_add (se_op v2_add (se_sl (se_var 1) sp_no (sp_i (se_var 3))) (se_sl (se_var 1) (sp_i (se_var 3)) (sp_i (se_op v2_add (se_var 3) (se_int))))) (se_sl (se_var 1) (sp_i (se_var 3)) sp_no)) (sa_cons (se_op v2_add (se_var 1) (se_tup (sa_cons (se_call (f := f__law_odd) (fd := fd__law_odd) (ps := ["pot"]) (D__law_odd.at G__law_odd (x := "_law_odd")) hg hr (D__law_odd.bind 1 ["pot"] rfl fun _ _ _ _ _ _ us hl => match us, hl with | [_], _ => rfl) (takes_of rfl rfl rfl rfl) (sa_cons (se_var 0) sa_nil)) sa_nil))) sa_nil)))))
      (sss_one (ss_ret (se_ix (se_op v2_add (se_var 5) (se_lst (sa_cons (se_callTy vc_list E.n_list rfl (sa_cons (se_var 1) sa_nil)) sa_nil))) (se_op v2_sub (se_var 4) (se_int)))))))))
theorem sc__law_is_name : FnScope ["held", "sign"] ["held"] (defScope s__law_is_name) := ⟨rfl, rfl, rfl, by decide +kernel, rfl, by decide +kernel, by decide +kernel⟩
def b__law_is_name : MS := (sSeq (sIf ((tOrM (tNotM (tTru (eCB bIsi (aCons (eVar 0) (aCons (eC (.ty "str")) aNil))))) (tNotM (tB' (eCh opLe opLe (eC (.int 1)) (eCB bLen (aCons (eVar 0) aNil)) (eC (.int 6))))))) (sRet (eC (.bl false))) sNil) (sRet (eOp opEq (eLc (iOf (eVar 0)) (gNm 1) (tB' (eOp opNotIn (eVar 1) (eC (.str "abcdefghijklmnopqrstuvwxyz")))) (eVar 1) [1]) (eLst aNil))))
def m__law_is_name : FD := finM 1 b__law_is_name
theorem ok__law_is_name (E : Facts K mg) : Keeps P w K mg base dd__law_is_name ["held"] 2 m__law_is_name := by
    obtain ⟨f, fd, DI⟩ := E.d__law_is_name
    refine ⟨f, fd, DI, fn_gD DI.fn sc__law_is_name rfl fun cdv Ar fs s0 Hs R2 hg hr => ?_⟩
    exact (sss_cons (ss_if (st_pw (sw_or (st_not (st_tru (se_callB vc_isi E.n_isinstance rfl (sa_cons (se_var 0) (sa_cons (se_ty E.n_str rfl) sa_nil))))) (sw_or1 (st_not (st_chain v2_le v2_le (se_int) (se_callB vc_len E.n_len rfl (sa_cons (se_var 0) sa_nil)) (se_int)))))) (sss_one (ss_ret (se_bl))) sss_nil)
      (sss_one (ss_ret (se_cmp (v2_eq hr) (se_lc rfl sc__law_is_name.nd (si_of (se_var 0)) (blkOk_by (own := [("sign", 1)]) (by first | (show blkC ["held", "sign"] (defScope s__law_is_name) _ _ = true; decide +kernel) | rfl)) gin_nm (fun _ _ _ _ _ => (sg_nm 1 sc__law_is_name.nd)) (fun _ _ _ _ _ => (sts_one (st_cmp (v2_notIn hr) (se_var 1) (se_str)))) (fun _ _ _ _ _ => (se_var 1))) (se_lst sa_nil)))))
theorem sc__law_whole : FnScope ["held", "low", "high"] ["held", "low", "high"] (defScope s__law_whole) := ⟨rfl, rfl, rfl, by decide +kernel, rfl, by decide +kernel, by decide +kernel⟩
def b__law_whole : MS := (sRet ((eAnd (eCB bIsi (aCons (eVar 0) (aCons (eC (.ty "int")) aNil))) (eAnd (eNot (eCB bIsi (aCons (eVar 0) (aCons (eC (.ty "bool")) aNil)))) (eCh opLe opLe (eVar 1) (eVar 0) (eVar 2))))))
def m__law_whole : FD := finM 0 b__law_whole
theorem ok__law_whole (E : Facts K mg) : Keeps P w K mg base dd__law_whole ["held", "low", "high"] 2 m__law_whole := by
    obtain ⟨f, fd, DI⟩ := E.d__law_whole
    refine ⟨f, fd, DI, fn_gD DI.fn sc__law_whole rfl fun cdv Ar fs s0 Hs R2 hg hr => ?_⟩
    exact (sss_one (ss_ret ((se_and (se_callB vc_isi E.n_isinstance rfl (sa_cons (se_var 0) (sa_cons (se_ty E.n_int rfl) sa_nil))) (se_and (se_not (se_callB vc_isi E.n_isinstance rfl (sa_cons (se_var 0) (sa_cons (se_ty E.n_bool rfl) sa_nil)))) (se_and1 (se_chain v2_le v2_le (se_var 1) (se_var 0) (se_var 2))))))))
theorem sc__law_leaves : FnScope ["held", "levels", "part"] ["held", "levels"] (defScope s__law_leaves) := ⟨rfl, rfl, rfl, by decide +kernel, rfl, by decide +kernel, by decide +kernel⟩
def b__law_leaves (r__law_leaves : FD) : MS := (sSeq (sIf ((tOrM (tNotM (tTru (eCB bIsi (aCons (eVar 0) (aCons (eC (.ty "tuple")) aNil))))) (tOrM (tB' (eOp opEq (eVar 0) (eTup aNil))) (tOrM (tNotM (tTru (eCB bIsi (aCons (eOp ixD (eVar 0) (eC (.int 0))) (aCons (eC (.ty "str")) aNil))))) (tB' (eOp opEq (eVar 1) (eC (.int 0)))))))) (sRet (eC (.int 1000))) sNil) (sSeq (sIf (tB' (eOp opIn (eOp ixD (eVar 0) (eC (.int 0))) (eTup (aCons (eC (.str "is")) (aCons (eC (.str "least")) (aCons (eC (.str "most")) aNil)))))) (sRet (eIf ((tAndM (tB' (eOp opEq (eCB bLen (aCons (eVar 0) aNil)) (eC (.int 3)))) (tAndM (tTru (eCall 1 (m__law_is_name) (aCons (eOp ixD (eVar 0) (eC (.int 1))) aNil))) (tTru (eCall 3 (m__law_whole) (aCons (eOp ixD (eVar 0) (eC (.int 2))) (aCons (eC (.int 0)) (aCons (eC (.int 99)) aNil)))))))) (eC (.int 1)) (eC (.int 1000)))) sNil) (sSeq (sIf (tB' (eOp opEq (eOp ixD (eVar 0) (eC (.int 0))) (eC (.str "done")))) (sRet (eIf ((tAndM (tB' (eOp opEq (eCB bLen (aCons (eVar 0) aNil)) (eC (.int 2)))) (tTru (eCall 3 (m__law_whole) (aCons (eOp ixD (eVar 0) (eC (.int 1))) (aCons (eC (.int 0)) (aCons (eC (.int 12)) aNil))))))) (eC (.int 1)) (eC (.int 1000)))) sNil) (sSeq (sIf (tB' (eOp opEq (eOp ixD (eVar 0) (eC (.int 0))) (eC (.str "not")))) (sRet (eIf (tB' (eOp opEq (eCB bLen (aCons (eVar 0) aNil)) (eC (.int 2)))) (eCall 2 (r__law_leaves) (aCons (eOp ixD (eVar 0) (eC (.int 1))) (aCons (eOp opSub (eVar 1) (eC (.int 1))) aNil))) (eC (.int 1000)))) sNil) (sSeq (sIf ((tOrM (tB' (eOp opNotIn (eOp ixD (eVar 0) (eC (.int 0))) (eTup (aCons (eC (.str "and")) (aCons (eC (.str "or")) aNil))))) (tOrM (tB' (eOp opNe (eCB bLen (aCons (eVar 0) aNil)) (eC (.int 2)))) (tNotM (tTru (eCB bIsi (aCons (eOp ixD (eVar 0) (eC (.int 1))) (aCons (eC (.ty "tuple")) aNil)))))))) (sRet (eC (.int 1000))) sNil) (sRet (eOp opAdd (eCB (onInts fun ns => .int ns.sum) (aCons (eLc (iOf (eOp ixD (eVar 0) (eC (.int 1)))) (gNm 2) tYesM (eCall 2 (r__law_leaves) (aCons (eVar 2) (aCons (eOp opSub (eVar 1) (eC (.int 1))) aNil))) [2]) aNil)) (eOp opMul (eC (.int 1000)) (eCB bInt (aCons (eNot (eCh opLe opLe (eC (.int 2)) (eCB bLen (aCons (eOp ixD (eVar 0) (eC (.int 1))) aNil)) (eC (.int 4)))) aNil))))))))))
def m__law_leaves : Nat → FD
  | 0 => mNo
  | n + 1 => finM 1 (b__law_leaves (m__law_leaves n))
theorem ok__law_leaves (E : Facts K mg) : ∀ n, Keeps P w K mg base dd__law_leaves ["held", "levels"] (2 + n) (m__law_leaves n)
  | 0 => by
    obtain ⟨f, fd, DI⟩ := E.d__law_leaves
    exact ⟨f, fd, DI, fn_no⟩
  | n + 1 => by
    obtain ⟨f__law_leaves, fd__law_leaves, D__law_leaves, G__law_leaves⟩ := ok__law_leaves E n
    obtain ⟨f__law_is_name, fd__law_is_name, D__law_is_name, G__law_is_name⟩ := (ok__law_is_name (P := P) (w := w) (base := base) E).up (k := 2 + n) (by omega)
    obtain ⟨f__law_whole, fd__law_whole, D__law_whole, G__law_whole⟩ := (ok__law_whole (P := P) (w := w) (base := base) E).up (k := 2 + n) (by omega)
    refine ⟨f__law_leaves, fd__law_leaves, D__law_leaves, fn_gD D__law_leaves.fn sc__law_leaves rfl fun cdv Ar fs s0 Hs R2 hg hr => ?_⟩
    exact (sss_cons (ss_if (st_pw (sw_or (st_not (st_tru (se_callB vc_isi E.n_isinstance rfl (sa_cons (se_var 0) (sa_cons (se_ty E.n_tuple rfl) sa_nil))))) (sw_or (st_cmp (v2_eq hr) (se_var 0) (se_tup sa_nil)) (sw_or (st_not (st_tru (se_callB vc_isi E.n_isinstance rfl (sa_cons (se_ix (se_var 0) (se_int)) (sa_cons (se_ty E.n_str rfl) sa_nil))))) (sw_or1 (st_cmp (v2_eq hr) (se_var 1) (se_int))))))) (sss_one (ss_ret (se_int))) sss_nil)
      (sss_cons (ss_if (st_cmp (v2_in hr) (se_ix (se_var 0) (se_int)) (se_tup (sa_cons (se_str) (sa_cons (se_str) (sa_cons (se_str) sa_nil))))) (sss_one (ss_ret (se_if (st_pw (sw_and (st_cmp (v2_eq hr) (se_callB vc_len E.n_len rfl (sa_cons (se_var 0) sa_nil)) (se_int)) (sw_and (st_tru (se_call (f := f__law_is_name) (fd := fd__law_is_name) (ps := ["held"]) (D__law_is_name.at G__law_is_name (x := "_law_is_name")) hg hr (D__law_is_name.bind 1 ["held"] rfl fun _ _ _ _ _ _ us hl => match us, hl with | [_], _ => rfl) (takes_of rfl rfl rfl rfl) (sa_cons (se_ix (se_var 0) (se_int)) sa_nil))) (sw_and1 (st_tru (se_call (f := f__law_whole) (fd := fd__law_whole) (ps := ["held", "low", "high"]) (D__law_whole.at G__law_whole (x := "_law_whole")) hg hr (D__law_whole.bind 3 ["held", "low", "high"] rfl fun _ _ _ _ _ _ us hl => match us, hl with | [_, _, _], _ => rfl) (takes_of rfl rfl rfl rfl) (sa_cons (se_ix (se_var 0) (se_int)) (sa_cons (se_int) (sa_cons (se_int) sa_nil))))))))) (se_int) (se_int)))) sss_nil)
      (sss_cons (ss_if (st_cmp (v2_eq hr) (se_ix (se_var 0) (se_int)) (se_str)) (sss_one (ss_ret (se_if (st_pw (sw_and (st_cmp (v2_eq hr) (se_callB vc_len E.n_len rfl (sa_cons (se_var 0) sa_nil)) (se_int)) (sw_and1 (st_tru (se_call (f := f__law_whole) (fd := fd__law_whole) (ps := ["held", "low", "high"]) (D__law_whole.at G__law_whole (x := "_law_whole")) hg hr (D__law_whole.bind 3 ["held", "low", "high"] rfl fun _ _ _ _ _ _ us hl => match us, hl with | [_, _, _], _ => rfl) (takes_of rfl rfl rfl rfl) (sa_cons (se_ix (se_var 0) (se_int)) (sa_cons (se_int) (sa_cons (se_int) sa_nil)))))))) (se_int) (se_int)))) sss_nil)
      (sss_cons (ss_if (st_cmp (v2_eq hr) (se_ix (se_var 0) (se_int)) (se_str)) (sss_one (ss_ret (se_if (st_cmp (v2_eq hr) (se_callB vc_len E.n_len rfl (sa_cons (se_var 0) sa_nil)) (se_int)) (se_call (f := f__law_leaves) (fd := fd__law_leaves) (ps := ["held", "levels"]) (D__law_leaves.at G__law_leaves (x := "_law_leaves")) hg hr (D__law_leaves.bind 2 ["held", "levels"] rfl fun _ _ _ _ _ _ us hl => match us, hl with | [_, _], _ => rfl) (takes_of rfl rfl rfl rfl) (sa_cons (se_ix (se_var 0) (se_int)) (sa_cons (se_op v2_sub (se_var 1) (se_int)) sa_nil))) (se_int)))) sss_nil)
      (sss_cons (ss_if (st_pw (sw_or (st_cmp (v2_notIn hr) (se_ix (se_var 0) (se_int)) (se_tup (sa_cons (se_str) (sa_cons (se_str) sa_nil)))) (sw_or (st_cmp (v2_ne hr) (se_callB vc_len E.n_len rfl (sa_cons (se_var 0) sa_nil)) (se_int)) (sw_or1 (st_not (st_tru (se_callB vc_isi E.n_isinstance rfl (sa_cons (se_ix (se_var 0) (se_int)) (sa_cons (se_ty E.n_tuple rfl) sa_nil))))))))) (sss_one (ss_ret (se_int))) sss_nil)
      (sss_one (ss_ret (se_op v2_add (se_callB (vc_sum rfl) E.n_sum rfl (sa_cons (se_lc rfl sc__law_leaves.nd (si_of (se_ix (se_var 0) (se_int))) (blkOk_by (own := [("part", 2)]) (by first | (show blkC ["held", "levels", "part"] (defScope s__law_leaves) _ _ = true; decide +kernel) | rfl)) gin_nm (fun _ _ _ _ _ => (sg_nm 2 sc__law_leaves.nd)) (fun _ _ _ _ _ => sts_nil) (fun _ _ _ _ _ => (se_call (f := f__law_leaves) (fd := fd__law_leaves) (ps := ["held", "levels"]) (D__law_leaves.at G__law_leaves (x := "_law_leaves")) hg hr (D__law_leaves.bind 2 ["held", "levels"] rfl fun _ _ _ _ _ _ us hl => match us, hl with | [_, _], _ => rfl) takes0 (sa_cons (se_var 2) (sa_cons (se_op v2_sub (se_var 1) (se_int)) sa_nil))))) sa_nil)) (se_op v2_mul (se_int) (se_callTy vc_int E.n_int rfl (sa_cons (se_not (se_chain v2_le v2_le (se_int) (se_callB vc_len E.n_len rfl (sa_cons (se_ix (se_var 0) (se_int)) sa_nil)) (se_int))) sa_nil)))))))))))
theorem sc__law_right : FnScope ["held"] ["held"] (defScope s__law_right) := ⟨rfl, rfl, rfl, by decide +kernel, rfl, by decide +kernel, by decide +kernel⟩
def b__law_right : MS := (sRet (eOp opEq (eCB bReprC (aCons (eLst (aCons (eCall 1 (m_is_test) (aCons (eVar 0) aNil)) (aCons (eCallK 0 1 [0] (m_is_test) aNil (aCons (eVar 0) aNil)) aNil))) aNil)) (eCB bReprC (aCons (eOp opMul (eLst (aCons (eOp opLe (eCall 2 (m__law_leaves 10) (aCons (eVar 0) (aCons (eC (.int 4)) aNil))) (eC (.int 12))) aNil)) (eC (.int 2))) aNil))))
def m__law_right : FD := finM 0 b__law_right
theorem ok__law_right (E : Facts K mg) : Keeps P w K mg base dd__law_right ["held"] 13 m__law_right := by
    obtain ⟨f_is_test, fd_is_test, D_is_test, G_is_test⟩ := (ok_is_test (P := P) (w := w) (base := base) E).up (k := 12) (by omega)
    obtain ⟨f__law_leaves, fd__law_leaves, D__law_leaves, G__law_leaves⟩ := (ok__law_leaves (P := P) (w := w) (base := base) E 10).up (k := 12) (by omega)
    obtain ⟨_, hsys⟩ := E.sys
    obtain ⟨f, fd, DI⟩ := E.d__law_right
    refine ⟨f, fd, DI, fn_gD DI.fn sc__law_right rfl fun cdv Ar fs s0 Hs R2 hg hr => ?_⟩
    exact (sss_one (ss_ret (se_cmp (v2_eq hr) (se_callB (vc_reprR hg hr hsys) E.n_repr rfl (sa_cons (se_lst (sa_cons (se_call (f := f_is_test) (fd := fd_is_test) (ps := ["thing"]) (D_is_test.at G_is_test (x := "is_test")) hg hr (D_is_test.bind 1 ["thing"] rfl fun _ _ _ _ _ _ us hl => match us, hl with | [_], _ => rfl) (takes_of rfl rfl rfl rfl) (sa_cons (se_var 0) sa_nil)) (sa_cons (se_callK0 (f := f_is_test) (fd := fd_is_test) (ps := ["thing"]) (ks := ["thing"]) [0] (D_is_test.at G_is_test (x := "is_test")) hg hr (takes_of rfl rfl rfl rfl) (D_is_test.bindK 0 ["thing"] ["thing"] [0] rfl fun _ _ _ _ _ _ us ws h1 h2 => match us, ws, h1, h2 with | [], [_], _, _ => rfl) (by decide) (sk_cons (se_var 0) sk_nil)) sa_nil))) sa_nil)) (se_callB (vc_reprR hg hr hsys) E.n_repr rfl (sa_cons (se_op v2_mul (se_lst (sa_cons (se_cmp v2_le (se_call (f := f__law_leaves) (fd := fd__law_leaves) (ps := ["held", "levels"]) (D__law_leaves.at G__law_leaves (x := "_law_leaves")) hg hr (D__law_leaves.bind 2 ["held", "levels"] rfl fun _ _ _ _ _ _ us hl => match us, hl with | [_, _], _ => rfl) (takes_of rfl rfl rfl rfl) (sa_cons (se_var 0) (sa_cons (se_int) sa_nil))) (se_int)) sa_nil)) (se_int)) sa_nil)))))
theorem sc_law : FnScope ["script", "k", "pot", "turn", "test", "things", "held", "bend"] ["script"] (defScope s_law) := ⟨rfl, rfl, rfl, by decide +kernel, rfl, by decide +kernel, by decide +kernel⟩
def b_law : MS := (sSeq (sFor (iRg1 (aCons (eCB bMax (aCons (eC (.int 1)) (aCons (eCB bMin (aCons (eC (.int 12)) (aCons (eCB bLen (aCons (eVar 0) aNil)) aNil))) aNil))) aNil)) (gNm 1) (sSeq (sAsg (eCall 2 (m__law_pot) (aCons (eVar 0) (aCons (eVar 1) aNil))) (gNm 2)) (sFor (iRg1 (aCons (eC (.int 4)) aNil)) (gNm 3) (sSeq (sAsg (eCall 2 (m__law_test 10) (aCons (eVar 2) (aCons (eOp opAdd (eC (.int 1)) (eCall 2 (m__law_take) (aCons (eVar 2) (aCons (eC (.int 4)) aNil)))) aNil))) (gNm 4)) (sSeq (sAsg (eLst (aCons (eVar 4) (aCons (eTup (aCons (eC (.str "not")) (aCons (eVar 4) aNil))) (aCons (eTup (aCons (eC (.str "and")) (aCons (eTup (aCons (eVar 4) (aCons (eVar 4) aNil))) aNil))) (aCons (eTup (aCons (eVar 4) aNil)) (aCons (eCB bList (aCons (eVar 4) aNil)) aNil)))))) (gNm 5)) (sFor (iOf (eOp opAdd (eVar 5) (eLc (iRg1 (aCons (eC (.int 12)) aNil)) (gNm 7) tYesM (eCall 3 (m__law_bent 10) (aCons (eVar 2) (aCons (eVar 4) (aCons (eOp opAdd (eC (.int 1)) (eCall 2 (m__law_take) (aCons (eVar 2) (aCons (eC (.int 5)) aNil)))) aNil)))) [7]))) (gNm 6) (sIf (tNotM (tTru (eCall 1 (m__law_right) (aCons (eVar 6) aNil)))) (sRet (eC (.bl false))) sNil))))))) (sRet (eCall 0 (m__law_written) aNil)))
def m_law : FD := finM 7 b_law
theorem ok_law (E : Facts K mg) : Keeps P w K mg base dd_law ["script"] 14 m_law := by
    obtain ⟨f__law_pot, fd__law_pot, D__law_pot, G__law_pot⟩ := (ok__law_pot (P := P) (w := w) (base := base) E).up (k := 13) (by omega)
    obtain ⟨f__law_test, fd__law_test, D__law_test, G__law_test⟩ := (ok__law_test (P := P) (w := w) (base := base) E 10).up (k := 13) (by omega)
    obtain ⟨f__law_take, fd__law_take, D__law_take, G__law_take⟩ := (ok__law_take (P := P) (w := w) (base := base) E).up (k := 13) (by omega)
    obtain ⟨f__law_bent, fd__law_bent, D__law_bent, G__law_bent⟩ := (ok__law_bent (P := P) (w := w) (base := base) E 10).up (k := 13) (by omega)
    obtain ⟨f__law_right, fd__law_right, D__law_right, G__law_right⟩ := (ok__law_right (P := P) (w := w) (base := base) E).up (k := 13) (by omega)
    obtain ⟨f__law_written, fd__law_written, D__law_written, G__law_written⟩ := (ok__law_written (P := P) (w := w) (base := base) E).up (k := 13) (by omega)
    obtain ⟨f, fd, DI⟩ := E.d_law
    refine ⟨f, fd, DI, fn_gD DI.fn sc_law rfl fun cdv Ar fs s0 Hs R2 hg hr => ?_⟩
    exact (sss_cons (ss_for (passes_of rfl) rfl (si_rng1 E.n_range (sa_cons (se_callB (vc_max rfl) E.n_max rfl (sa_cons (se_int) (sa_cons (se_callB (vc_min rfl) E.n_min rfl (sa_cons (se_int) (sa_cons (se_callB vc_len E.n_len rfl (sa_cons (se_var 0) sa_nil)) sa_nil))) sa_nil))) sa_nil)) (sg_nm 1 sc_law.nd) (sss_cons (ss_set 2 sc_law.nd (se_call (f := f__law_pot) (fd := fd__law_pot) (ps := ["script", "k"]) (D__law_pot.at G__law_pot (x := "_law_pot")) hg hr (D__law_pot.bind 2 ["script", "k"] rfl fun _ _ _ _ _ _ us hl => match us, hl with | [_, _], _ => rfl) (takes_of rfl rfl rfl rfl) (sa_cons (se_var 0) (sa_cons (se_var 1) sa_nil))))
      (sss_one (ss_for (passes_of rfl) rfl (si_rng1 E.n_range (sa_cons (se_int) sa_nil)) (sg_nm 3 sc_law.nd) (sss_cons (ss_set 4 sc_law.nd (se_call (f := f__law_test) (fd := fd__law_test) (ps := ["pot", "deep"]) (D__law_test.at G__law_test (x := "_law_test")) hg hr (D__law_test.bind 2 ["pot", "deep"] rfl fun _ _ _ _ _ _ us hl => match us, hl with | [_, _], _ => rfl) (takes_of rfl rfl rfl rfl) (sa_cons (se_var 2) (sa_cons (se_op v2_add (se_int) (se_call (f := f__law_take) (fd := fd__law_take) (ps := ["pot", "many"]) (D__law_take.at G__law_take (x := "_law_take")) hg hr (D__law_take.bind 2 ["pot", "many"] rfl fun _ _ _ _ _ _ us hl => match us, hl with | [_, _], _ => rfl) (takes_of rfl rfl rfl rfl) (sa_cons (se_var 2) (sa_cons (se_int) sa_nil)))) sa_nil))))
      (sss_cons (ss_set 5 sc_law.nd (se_lst (sa_cons (se_var 4) (sa_cons (se_tup (sa_cons (se_str) (sa_cons (se_var 4) sa_nil))) (sa_cons (se_tup (sa_cons (se_str) (sa_cons (se_tup (sa_cons (se_var 4) (sa_cons (se_var 4) sa_nil))) sa_nil))) (sa_cons (se_tup (sa_cons (se_var 4) sa_nil)) (sa_cons (se_callTy vc_list E.n_list rfl (sa_cons (se_var 4) sa_nil)) sa_nil)))))))
      (sss_one (ss_for (passes_of rfl) rfl (si_of (se_op v2_add (se_var 5) (se_lc rfl sc_law.nd (si_rng1 E.n_range (sa_cons (se_int) sa_nil)) (blkOk_by (own := [("bend", 7)]) (by first | (show blkC ["script", "k", "pot", "turn", "test", "things", "held", "bend"] (defScope s_law) _ _ = true; decide +kernel) | rfl)) gin_nm (fun _ _ _ _ _ => (sg_nm 7 sc_law.nd)) (fun _ _ _ _ _ => sts_nil) (fun _ _ _ _ _ => (se_call (f := f__law_bent) (fd := fd__law_bent) (ps := ["pot", "held", "deep"]) (D__law_bent.at G__law_bent (x := "_law_bent")) hg hr (D__law_bent.bind 3 ["pot", "held", "deep"] rfl fun _ _ _ _ _ _ us hl => match us, hl with | [_, _, _], _ => rfl) takes0 (sa_cons (se_var 2) (sa_cons (se_var 4) (sa_cons (se_op v2_add (se_int) (se_call (f := f__law_take) (fd := fd__law_take) (ps := ["pot", "many"]) (D__law_take.at G__law_take (x := "_law_take")) hg hr (D__law_take.bind 2 ["pot", "many"] rfl fun _ _ _ _ _ _ us hl => match us, hl with | [_, _], _ => rfl) takes0 (sa_cons (se_var 2) (sa_cons (se_int) sa_nil)))) sa_nil)))))))) (sg_nm 6 sc_law.nd) (sss_one (ss_if (st_not (st_tru (se_call (f := f__law_right) (fd := fd__law_right) (ps := ["held"]) (D__law_right.at G__law_right (x := "_law_right")) hg hr (D__law_right.bind 1 ["held"] rfl fun _ _ _ _ _ _ us hl => match us, hl with | [_], _ => rfl) (takes_of rfl rfl rfl rfl) (sa_cons (se_var 6) sa_nil)))) (sss_one (ss_ret (se_bl))) sss_nil))))))))))
      (sss_one (ss_ret (se_call0 (f := f__law_written) (fd := fd__law_written) (ps := []) (D__law_written.at G__law_written (x := "_law_written")) hg hr (D__law_written.bind 0 [] rfl fun _ _ _ _ _ _ us hl => match us, hl with | [], _ => rfl) rfl (takes_of rfl rfl rfl rfl)))))
end
end K12
namespace K12
open PySem PySem.Spec PyProof.Rows L2 Mi

/-- data that is_test looks at: every place is a list or a dict -/
inductive Wf (s : Store) : D → Prop
  | non : Wf s .non
  | bl (b : Bool) : Wf s (.bl b)
  | int (i : Int) : Wf s (.int i)
  | str (x : Str) : x.length ≤ 1000 → Wf s (.str x)
  | tup (xs : List D) : xs.length ≤ 1000 → (∀ x ∈ xs, Wf s x) → Wf s (.tup xs)
  | lst (i : Nat) (xs : List D) : s[i]? = some (.lst xs) → Wf s (.loc i)
  | dct (i : Nat) : s[i]? = some (.dK []) → Wf s (.loc i)
/-- what was there stays as it was -/
structure Px (s s' : Store) : Prop where
  le : s.length ≤ s'.length
  at_ : ∀ i, i < s.length → s'[i]? = s[i]?
theorem Px.refl (s : Store) : Px s s := ⟨Nat.le_refl _, fun _ _ => rfl⟩
theorem Px.trans {a b c : Store} (h : Px a b) (k : Px b c) : Px a c := ⟨Nat.le_trans h.le k.le, fun i hi => (k.at_ i (Nat.lt_of_lt_of_le hi h.le)).trans (h.at_ i hi)⟩
theorem Px.push (s : Store) (o : SO) : Px s (s ++ [o]) := ⟨by simp, fun i hi => by rw [List.getElem?_append_left hi]⟩
theorem Px.get {s s' : Store} (h : Px s s') {i : Nat} {o : SO} (e : s[i]? = some o) : s'[i]? = some o := by
  rw [h.at_ i (lt_of_get e)]; exact e
theorem Wf.px {s s' : Store} (h : Px s s') : ∀ {d : D}, Wf s d → Wf s' d
  | _, .non => .non
  | _, .bl b => .bl b
  | _, .int i => .int i
  | _, .str x hx => .str x hx
  | _, .tup xs hl hx => .tup xs hl fun x hm => Wf.px h (hx x hm)
  | _, .lst i xs e => .lst i xs (h.get e)
  | _, .dct i e => .dct i (h.get e)
def isW (lo hi : Int) : D → Bool
  | .int i => decide (lo ≤ i) && decide (i ≤ hi)
  | _ => false
def isRow (lo hi : Nat) : D → Bool
  | .tup xs => decide (lo ≤ xs.length) && decide (xs.length ≤ hi)
  | _ => false
theorem is_whole_ok {s : Store} {d : D} (h : Wf s d) (lo hi : Int) : m_is_whole [d, .int lo, .int hi] s = .ok (.bl (isW lo hi d)) s := by
  cases h <;> simp [m_is_whole, finM, b_is_whole, sRet, eAnd, eOp, eCB, eVar, aCons, aNil, eC, bType, tyD, R.of, R.bind, opEq, opIs, isR, tyNames, tru, eCh, opLe, cmpI, R.thenO, isW, *]
  rename_i i
  by_cases h1 : lo ≤ i <;> simp [h1]
theorem is_row_ok {s : Store} {d : D} (h : Wf s d) (lo hi : Nat) : m_is_row [d, .int lo, .int hi] s = .ok (.bl (isRow lo hi d)) s := by
  cases h <;> simp [m_is_row, finM, b_is_row, sRet, eAnd, eOp, eCB, eVar, aCons, aNil, eC, bType, tyD, R.of, R.bind, opEq, opIs, isR, tyNames, tru, eCh, opLe, cmpI, R.thenO, isRow, bLen, *]
  rename_i xs _ _
  by_cases h1 : lo ≤ xs.length <;> simp [h1]
end K12
namespace K12
open PySem PySem.Spec PyProof.Rows L2 Mi

/-! ### a comprehension, a for, by an invariant -/
theorem lc_inv {J : MI} {g : MG} {t : MT} {e : ME} {σ0 : SlD} {l n : Nat} (I : Nat → List D → Store → Prop) (hn : n ≤ 1000000) (fin : ∀ acc s, I n acc s → J.fin s = true)
    (step : ∀ i acc s, i < n → s[l]? = some (.lst acc) → I i acc s → ∃ d s1 as s2 b s3, J.item i s = some (d, s1) ∧ g d σ0 s1 = some (as, s2) ∧ t (setD σ0 as) s2 = .ok b s3 ∧
      ((b = false ∧ s3[l]? = some (.lst acc) ∧ I (i + 1) acc s3) ∨ (b = true ∧ ∃ y s4, e (setD σ0 as) s3 = .ok y s4 ∧ s4[l]? = some (.lst acc) ∧ I (i + 1) (acc ++ [y]) (s4.set l (.lst (acc ++ [y])))))) :
    ∀ k i acc s, i + k = n → acc.length ≤ i → s[l]? = some (.lst acc) → I i acc s → ∃ acc' s', lcL J g t e σ0 l k i s = .ok (.loc l) s' ∧ s'[l]? = some (.lst acc') ∧ I n acc' s'
  | 0, i, acc, s, hk, _, hs, hI => by
    have hi : i = n := by omega
    subst hi
    exact ⟨acc, s, by simp [lcL, fin acc s hI], hs, hI⟩
  | k + 1, i, acc, s, hk, ha, hs, hI => by
    obtain ⟨d, s1, as, s2, b, s3, h1, h2, h3, h4⟩ := step i acc s (by omega) hs hI
    rcases h4 with ⟨rfl, h5, h6⟩ | ⟨rfl, y, s4, h5, h6, h7⟩
    · obtain ⟨acc', s', r, q⟩ := lc_inv I hn fin step k (i + 1) acc s3 (by omega) (by omega) h5 h6
      exact ⟨acc', s', by simp only [lcL, h1, h2, h3]; exact r, q⟩
    · have hl : acc.length < 16777216 := by omega
      obtain ⟨acc', s', r, q⟩ := lc_inv I hn fin step k (i + 1) (acc ++ [y]) (s4.set l (.lst (acc ++ [y]))) (by omega) (by simp; omega) (by rw [List.getElem?_set_self (lt_of_get h6)]) h7
      exact ⟨acc', s', by simp only [lcL, h1, h2, h3, h5, h6, if_pos hl]; exact r, q⟩
theorem for_inv {J : MI} {g : MG} {b : MS} {n : Nat} (I : Nat → SlD → Store → Prop) (fin : ∀ σ s, I n σ s → J.fin s = true)
    (step : ∀ i σ s, i < n → I i σ s → ∃ d s1 as s2 σ3 s3, J.item i s = some (d, s1) ∧ g d σ s1 = some (as, s2) ∧ b (setD σ as) s2 = .nx σ3 s3 ∧ I (i + 1) σ3 s3) :
    ∀ k i σ s, i + k = n → I i σ s → ∃ σ' s', forL J g b k i σ s = .nx σ' s' ∧ I n σ' s'
  | 0, i, σ, s, hk, hI => by
    have hi : i = n := by omega
    subst hi
    exact ⟨σ, s, by simp [forL, fin σ s hI], hI⟩
  | k + 1, i, σ, s, hk, hI => by
    obtain ⟨d, s1, as, s2, σ3, s3, h1, h2, h3, h4⟩ := step i σ s (by omega) hI
    obtain ⟨σ', s', r, q⟩ := for_inv I fin step k (i + 1) σ3 s3 (by omega) h4
    exact ⟨σ', s', by simp only [forL, h1, h2, h3]; exact r, q⟩
theorem Px.set {s0 s : Store} {l : Nat} {o : SO} (h : Px s0 s) (hl : s0.length ≤ l) : Px s0 (s.set l o) :=
  ⟨by simpa using h.le, fun i hi => by rw [List.getElem?_set_ne (by omega)]; exact h.at_ i hi⟩

/-! ### texts -/
def abc : Str := "abcdefghijklmnopqrstuvwxyz"
def inAbc (x : Str) : Bool := x.cps.toList.all fun c => abc.cps.contains c
theorem strip_nil (x y : Str) : ((Txt.stripChars x y).length = 0) ↔ ∀ c ∈ x.cps.toList, y.cps.contains c = true := by
  unfold Txt.stripChars
  rw [stripBy_eq]
  obtain ⟨h1, h2, h3⟩ := lo_facts y.cps.contains x
  obtain ⟨h4, h5, h6, h7⟩ := hi_facts y.cps.contains x _ h1
  have hsz : x.length = x.cps.size := rfl
  have len : ∀ i j, i ≤ j → j ≤ x.length → (PySem.Builtin.Str.strSub x i j).length = j - i := fun i j hi hj => by
    show (x.cps.extract i j).size = j - i
    rw [Array.size_extract]; omega
  rw [len _ _ h4 h5]
  have at_ : ∀ k, k < x.length → x.cps.getD k 0 ∈ x.cps.toList := fun k hk => by
    have hk' : k < x.cps.size := hk
    simp [Array.getD, hk']
  constructor
  · intro h c hc
    obtain ⟨k, hk⟩ := List.getElem?_of_mem hc
    have hk' : k < x.length := by simpa [Str.length] using lt_of_get hk
    have e : c = x.cps.getD k 0 := by rw [Array.getD_eq_getD_getElem?, ← Array.getElem?_toList, hk]; rfl
    rw [e]
    by_cases q : k < stripLo y.cps.contains true x
    · exact h2 k q
    · exact h6 k (by omega) hk'
  · intro h
    have : stripLo y.cps.contains true x = x.length := by
      rcases h3 with h3 | h3
      · exact h3
      · by_cases q : stripLo y.cps.contains true x < x.length
        · rw [h _ (at_ _ q)] at h3; cases h3
        · omega
    omega
def isN : D → Bool
  | .str x => decide (1 ≤ x.length) && decide (x.length ≤ 6) && inAbc x
  | _ => false
theorem is_name_ok {s : Store} {d : D} (h : Wf s d) : m_is_name [d] s = .ok (.bl (isN d)) s := by
  cases h with
  | str x hx =>
    have z : (Txt.stripChars x abc).length ≤ x.length := len_stripBy _ _ _ x
    have e : inAbc x = !(((Txt.stripChars x abc).length : Int) != 0) := by
      rw [Bool.eq_iff_iff]
      unfold inAbc
      rw [List.all_eq_true, ← strip_nil]
      simp
    have hx1 : x.length ≤ 16777216 := by omega
    have hz1 : (Txt.stripChars x abc).length ≤ 16777216 := by omega
    simp [m_is_name, finM, b_is_name, sRet, eAnd, eOp, eCB, eVar, aCons, aNil, eC, bType, tyD, R.of, R.bind, opIs, Mi.isR, tru, eCh, opLe, cmpI, R.thenO, bLen, hx1, c_MOST_LETTERS, c_LETTERS, eNot, eBM, tyOk, isSt, mStrip]
    by_cases h1 : 1 ≤ x.length
    · by_cases h2 : x.length ≤ 6
      · have h1' : (1 : Int) ≤ x.length := by omega
        have h2' : (x.length : Int) ≤ 6 := by omega
        have key : (Txt.stripChars x (Str.ofString "abcdefghijklmnopqrstuvwxyz")) = Txt.stripChars x abc := rfl
        simp [h1', h2', key, hz1, isN, h1, h2, e]
      · have h1' : (1 : Int) ≤ x.length := by omega
        have h2' : ¬ (x.length : Int) ≤ 6 := by omega
        simp [h1', h2', isN, h2]
    · have h1' : ¬ (1 : Int) ≤ x.length := by omega
      simp [h1', isN, h1]
  | lst i xs e => simp [m_is_name, finM, b_is_name, sRet, eAnd, eOp, eCB, eVar, aCons, aNil, eC, bType, tyD, R.of, R.bind, opIs, Mi.isR, tru, R.thenO, isN, e]
  | dct i e => simp [m_is_name, finM, b_is_name, sRet, eAnd, eOp, eCB, eVar, aCons, aNil, eC, bType, tyD, R.of, R.bind, opIs, Mi.isR, tru, R.thenO, isN, e]
  | _ => simp [m_is_name, finM, b_is_name, sRet, eAnd, eOp, eCB, eVar, aCons, aNil, eC, bType, tyD, R.of, R.bind, opIs, Mi.isR, tru, R.thenO, isN]
end K12
namespace K12
open PySem PySem.Spec PyProof.Rows L2 Mi
theorem law_whole_ok {s : Store} {d : D} (h : Wf s d) (lo hi : Int) : m__law_whole [d, .int lo, .int hi] s = .ok (.bl (isW lo hi d)) s := by
  cases h <;> simp [m__law_whole, finM, b__law_whole, sRet, eAnd, eNot, eOp, eCB, eVar, aCons, aNil, eC, bIsi, isiB, tyD, R.of, R.bind, tyNames, tru, eCh, opLe, cmpI, R.thenO, isW, *]
  rename_i i
  by_cases h1 : lo ≤ i <;> simp [h1]
theorem eqv_str (x y : Str) : PyData.eqv (.str x) (.str y) = decide (x = y) := by
  by_cases h : x = y
  · subst h; simp [PyData.eqv]
  · simp [PyData.eqv, h]
theorem eqv_int (x y : Int) : PyData.eqv (.int x) (.int y) = decide (x = y) := by
  by_cases h : x = y
  · subst h; simp [PyData.eqv]
  · simp [PyData.eqv, h]
/-- two lists, the second empty -/
theorem teq_nil {s : Store} {i j : Nat} {xs : List D} (hi : s[i]? = some (.lst xs)) (hj : s[j]? = some (.lst [])) : teq s 60 (.loc i) (.loc j) = some (decide (xs = [])) := by
  unfold teq
  simp only [kdOf, hi, hj]
  cases xs with
  | nil => rfl
  | cons a b => simp
theorem law_name_ok {s : Store} {d : D} (h : Wf s d) : ∃ s', m__law_is_name [d] s = .ok (.bl (isN d)) s' ∧ Px s s' := by
  cases h with
  | str x hx =>
    have hx1 : x.length ≤ 16777216 := by omega
    by_cases h1 : 1 ≤ x.length
    · by_cases h2 : x.length ≤ 6
      · have h1' : (1 : Int) ≤ x.length := by omega
        have h2' : (x.length : Int) ≤ 6 := by omega
        obtain ⟨acc, s1, r1, r2, r3⟩ := lc_inv (J := ⟨x.cps.size, fun i s => (x.cps[i]?).map fun c => (.str ⟨#[c]⟩, s), fun _ => true⟩) (g := gNm 1) (t := tB' (eOp opNotIn (eVar 1) (eC (.str "abcdefghijklmnopqrstuvwxyz")))) (e := eVar 1) (σ0 := [some (.str x), none]) (l := s.length) (n := x.cps.size)
          (fun i acc s1 => Px s s1 ∧ (acc = [] ↔ ∀ j, j < i → ∀ c, x.cps[j]? = some c → c ∈ abc.cps.toList)) (by have : x.cps.size = x.length := rfl; omega) (fun _ _ _ => rfl) (fun i acc s1 hi hs ⟨p, q⟩ => by
            have hc : x.cps[i]? = some x.cps[i] := Array.getElem?_eq_getElem hi
            have key : (Str.ofString "abcdefghijklmnopqrstuvwxyz") = abc := rfl
            refine ⟨.str ⟨#[x.cps[i]]⟩, s1, [(1, .str ⟨#[x.cps[i]]⟩)], s1, !decide (x.cps[i] ∈ abc.cps.toList), s1, by simp [hc], rfl, by simp [tB', eOp, eVar, setD, eC, R.of, R.bind, opNotIn, Mi.inR, key], ?_⟩
            by_cases hm : x.cps[i] ∈ abc.cps.toList
            · refine .inl ⟨by simp [hm], hs, p, q.trans ⟨fun z j hj c e => ?_, fun z j hj c e => z j (by omega) c e⟩⟩
              by_cases hji : j = i
              · subst hji; rw [hc] at e; cases e; exact hm
              · exact z j (by omega) c e
            · refine .inr ⟨by simp [hm], .str ⟨#[x.cps[i]]⟩, s1, by simp [eVar, setD], hs, p.set (Nat.le_refl _), by simp, fun z => absurd (z i (by omega) _ hc) hm⟩) x.cps.size 0 [] (s ++ [.lst []]) (by omega) (Nat.le_refl _) (by simp) ⟨Px.push _ _, by simp⟩
        have e : eLc (iOf (eVar 0)) (gNm 1) (tB' (eOp opNotIn (eVar 1) (eC (.str "abcdefghijklmnopqrstuvwxyz")))) (eVar 1) [1] [some (.str x), none] s = .ok (.loc s.length) s1 := by
          simp only [eLc, iOf, eVar, R.bind, iSeq, wipeD]
          exact r1
        have hn : decide (acc = []) = inAbc x := by
          rw [Bool.eq_iff_iff]
          unfold inAbc
          rw [List.all_eq_true, decide_eq_true_iff, r3.2]
          constructor
          · intro z c hc
            obtain ⟨k, hk⟩ := List.getElem?_of_mem hc
            have := z k (by simpa using lt_of_get hk) c (by rw [← Array.getElem?_toList]; exact hk)
            simpa using this
          · intro z j hj c hc
            have := z c (by rw [← Array.getElem?_toList] at hc; exact List.mem_of_getElem? hc)
            simpa using this
        refine ⟨s1 ++ [.lst []], ?_, r3.1.trans (Px.push _ _)⟩
        have tq : teq (s1 ++ [.lst []]) 60 (.loc s.length) (.loc s1.length) = some (decide (acc = [])) := teq_nil (i := s.length) (xs := acc) ((Px.push _ _).get r2) (by simp)
        simp [m__law_is_name, finM, b__law_is_name, sSeq, sIf, tOrM, tNotM, tTru, tB', eCB, eVar, aCons, aNil, eC, bIsi, isiB, tyD, R.of, R.bind, tyNames, tru, eCh, opLe, cmpI, R.thenO, bLen, hx1, h1', h2', sNil, sRet, eOp, e, eLst, opEq, tq, hn, isN, h1, h2]
      · have h1' : (1 : Int) ≤ x.length := by omega
        have h2' : ¬ (x.length : Int) ≤ 6 := by omega
        exact ⟨s, by simp [m__law_is_name, finM, b__law_is_name, sSeq, sIf, tOrM, tNotM, tTru, tB', eCB, eVar, aCons, aNil, eC, bIsi, isiB, tyD, R.of, R.bind, tyNames, tru, eCh, opLe, cmpI, R.thenO, bLen, hx1, h1', h2', sRet, isN, h2], Px.refl _⟩
    · have h1' : ¬ (1 : Int) ≤ x.length := by omega
      exact ⟨s, by simp [m__law_is_name, finM, b__law_is_name, sSeq, sIf, tOrM, tNotM, tTru, tB', eCB, eVar, aCons, aNil, eC, bIsi, isiB, tyD, R.of, R.bind, tyNames, tru, eCh, opLe, cmpI, R.thenO, bLen, hx1, h1', sRet, isN, h1], Px.refl _⟩
  | lst i xs e => exact ⟨s, by simp [m__law_is_name, finM, b__law_is_name, sSeq, sIf, tOrM, tNotM, tTru, eCB, eVar, aCons, aNil, eC, bIsi, isiB, tyD, R.of, R.bind, tyNames, tru, R.thenO, sRet, isN, e], Px.refl _⟩
  | dct i e => exact ⟨s, by simp [m__law_is_name, finM, b__law_is_name, sSeq, sIf, tOrM, tNotM, tTru, eCB, eVar, aCons, aNil, eC, bIsi, isiB, tyD, R.of, R.bind, tyNames, tru, R.thenO, sRet, isN, e], Px.refl _⟩
  | _ => exact ⟨s, by simp [m__law_is_name, finM, b__law_is_name, sSeq, sIf, tOrM, tNotM, tTru, eCB, eVar, aCons, aNil, eC, bIsi, isiB, tyD, R.of, R.bind, tyNames, tru, R.thenO, sRet, isN], Px.refl _⟩
end K12
namespace K12
open PySem PySem.Spec PyProof.Rows L2 Mi
/-- a sign or a text as a word -/
def isS (z : Str) : D → Bool
  | .str x => decide (x = z)
  | _ => false
theorem teq_str {s : Store} {d : D} (h : Wf s d) (z : Str) : teq s 60 d (.str z) = some (isS z d) := by
  cases h with
  | str x hx => simp [teq, kdOf, isS, eqv_str]
  | tup xs hl hx => simp [teq, kdOf, isS]
  | lst i xs e => simp [teq, kdOf, isS, e]
  | dct i e => simp [teq, kdOf, isS, e]
  | _ => simp [teq, kdOf, isS, PyData.eqv]
theorem deq_str {s : Store} {d : D} (h : Wf s d) (z : Str) : deq s 60 (.str z) d = some (isS z d) := by
  cases h with
  | str x hx => simp [deq, kdOf, isS, eqv_str, eq_comm]
  | tup xs hl hx => simp [deq, kdOf, isS]
  | lst i xs e => simp [deq, kdOf, isS, e]
  | dct i e => simp [deq, kdOf, isS, e]
  | _ => simp [deq, kdOf, isS, PyData.eqv]
theorem opEq_str {s : Store} {d : D} (h : Wf s d) (z : Str) : opEq d (.str z) s = some (.bl (isS z d), s) := by
  have := teq_str h z
  cases h <;> simp [opEq, this]
def isW3 (d : D) : Bool := isS "is" d || (isS "least" d || isS "most" d)
theorem in_words {s : Store} {d : D} (h : Wf s d) : Mi.inR d (.tup [.str "is", .str "least", .str "most"]) s = some (isW3 d) := by
  simp [Mi.inR, inD, deq_str h, isW3]
/-- a plain test, by its word and what follows -/
def plain (word : D) (rest : List D) : Bool := match rest with
  | [k] => isS "done" word && isW 0 12 k
  | [n, k] => isW3 word && (isN n && isW 0 99 k)
  | _ => false
theorem opEq_int (s : Store) (a b : Int) : opEq (.int a) (.int b) s = some (.bl (decide (a = b)), s) := by simp [opEq, teq, kdOf, eqv_int]
theorem plain_ok {s : Store} {w : D} {rest : List D} (hw : Wf s w) (hr : ∀ x ∈ rest, Wf s x) (hl : rest.length = 1 ∨ rest.length = 2) : m_is_plain_test [w, .tup rest] s = .ok (.bl (plain w rest)) s := by
  match rest, hl with
  | [k], _ =>
    have hk : Wf s k := hr k (by simp)
    have e1 := opEq_str hw "done"
    have e2 := is_whole_ok hk 0 12
    cases q : isS "done" w <;> rw [q] at e1 <;> simp [m_is_plain_test, finM, b_is_plain_test, sSeq, sIf, tB', eOp, eCB, eVar, aCons, aNil, eC, bLen, R.of, R.bind, opEq_int, R.thenO, sRet, eAnd, e1, tru, plain, q, eCall, ixD, atI, ixN, c_MOST_DEEDS, e2]
  | [n, k], _ =>
    have hn : Wf s n := hr n (by simp)
    have hk : Wf s k := hr k (by simp)
    have e1 := in_words hw
    have e2 := is_name_ok hn
    have e3 := is_whole_ok hk 0 99
    cases q : isW3 w <;> rw [q] at e1 <;> cases q2 : isN n <;> rw [q2] at e2 <;> simp [m_is_plain_test, finM, b_is_plain_test, sSeq, sIf, tB', eOp, eCB, eVar, aCons, aNil, eC, bLen, R.of, R.bind, opEq_int, R.thenO, sRet, sNil, sAsg, gTp, gLen, gsCons, gNm, gsNil, setD, eAnd, opIn, c_WORTH_WORDS, e1, tru, plain, q, eCall, e2, q2, c_MOST_WORTH, e3]
def its : D → List D
  | .tup ps => ps
  | _ => []
theorem isRow_its {a b : Nat} {x : D} (h : isRow a b x = true) : x = .tup (its x) := by
  cases x <;> first | rfl | cases h
/-- what a test is made of: none, where it is no test; () of a plain one -/
def pt : D → Option (List D)
  | .tup [w, x] => if isS "not" w then some [x] else if isS "and" w || isS "or" w then (if isRow 2 4 x then some (its x) else none) else if plain w [x] then some [] else none
  | .tup [w, x, y] => if plain w [x, y] then some [] else none
  | _ => none
def ptD : Option (List D) → D
  | some ps => .tup ps
  | none => .non
theorem parts_ok {s : Store} {d : D} (h : Wf s d) : m_parts_if_test [d] s = .ok (ptD (pt d)) s := by
  have e0 : m_is_row [d, .int 2, .int 3] s = .ok (.bl (isRow 2 3 d)) s := is_row_ok h 2 3
  by_cases hr : isRow 2 3 d = true
  · rw [hr] at e0
    cases h with
    | tup xs hl hx =>
      match xs, hr, hx with
      | [w, x], _, hx =>
        have hw : Wf s w := hx w (by simp)
        have hxx : Wf s x := hx x (by simp)
        have e1 := opEq_str hw "not"
        have e2 := opEq_str hw "and"
        have e3 := opEq_str hw "or"
        have e4 : m_is_row [x, .int 2, .int 4] s = .ok (.bl (isRow 2 4 x)) s := is_row_ok hxx 2 4
        have e5 := plain_ok (rest := [x]) hw (fun z hz => by simp at hz; rw [hz]; exact hxx) (.inl rfl)
        have e6 : isRow 2 4 x = true → x = .tup (its x) := isRow_its
        cases q1 : isS "not" w <;> rw [q1] at e1 <;> cases q2 : isS "and" w <;> rw [q2] at e2 <;> cases q3 : isS "or" w <;> rw [q3] at e3 <;> cases q4 : isRow 2 4 x <;> rw [q4] at e4 e6 <;> cases q5 : plain w [x] <;> rw [q5] at e5 <;>
          first | (simp [m_parts_if_test, finM, b_parts_if_test, sSeq, sIf, tNotM, tTru, eCall, aCons, aNil, eVar, eC, R.bind, R.thenO, e0, tru, sNil, sPar, eOp, ixD, atI, ixN, R.of, eSl, pI, pNo, slD, cutL, HT.sIx, tAndM, tOrM, tB', e1, e2, e3, eCB, bLen, opEq_int, sRet, eIf, e4, e5, c_MOST_PARTS, eTup, pt, ptD, q1, q2, q3, q4, q5]; done) | (simp [m_parts_if_test, finM, b_parts_if_test, sSeq, sIf, tNotM, tTru, eCall, aCons, aNil, eVar, eC, R.bind, R.thenO, e0, tru, sNil, sPar, eOp, ixD, atI, ixN, R.of, eSl, pI, pNo, slD, cutL, HT.sIx, tAndM, tOrM, tB', e1, e2, e3, eCB, bLen, opEq_int, sRet, eIf, e4, e5, c_MOST_PARTS, eTup, pt, ptD, q1, q2, q3, q4, q5]; exact e6 rfl)
      | [w, x, y], _, hx => 
        have hw : Wf s w := hx w (by simp)
        have e1 := opEq_str hw "not"
        have e2 := opEq_str hw "and"
        have e3 := opEq_str hw "or"
        have e5 := plain_ok (rest := [x, y]) hw (fun z hz => hx z (by simp at hz ⊢; exact .inr hz)) (.inr rfl)
        cases q1 : isS "not" w <;> rw [q1] at e1 <;> cases q2 : isS "and" w <;> rw [q2] at e2 <;> cases q3 : isS "or" w <;> rw [q3] at e3 <;> cases q5 : plain w [x, y] <;> rw [q5] at e5 <;>
          simp [m_parts_if_test, finM, b_parts_if_test, sSeq, sIf, tNotM, tTru, eCall, aCons, aNil, eVar, eC, R.bind, R.thenO, e0, tru, sNil, sPar, eOp, ixD, atI, ixN, R.of, eSl, pI, pNo, slD, cutL, HT.sIx, tAndM, tOrM, tB', e1, e2, e3, eCB, bLen, opEq_int, sRet, eIf, e5, c_MOST_PARTS, eTup, pt, ptD, q5]
    | _ => simp [isRow] at hr
  · have hr' : isRow 2 3 d = false := by simpa using hr
    rw [hr'] at e0
    have hp : pt d = none := by
      cases d with
      | tup xs =>
        match xs, hr' with
        | [], _ => rfl
        | [_], _ => rfl
        | [_, _], hr' => simp [isRow] at hr'
        | [_, _, _], hr' => simp [isRow] at hr'
        | _ :: _ :: _ :: _ :: _, _ => rfl
      | _ => rfl
    simp [m_parts_if_test, finM, b_parts_if_test, sSeq, sIf, tNotM, tTru, eCall, aCons, aNil, eVar, eC, R.bind, R.thenO, e0, tru, sRet, hp, ptD]
end K12
namespace K12
open PySem PySem.Spec PyProof.Rows L2 Mi
def isStr : D → Bool
  | .str _ => true
  | _ => false
/-- how many plain ones, a thousand and more of what is no test -/
def lv : Nat → D → Nat
  | 0 => fun _ => 1000
  | n + 1 => fun d => match d with
    | .tup (w :: rest) => if isStr w = false then 1000 else if isW3 w then (match rest with
        | [a, b] => if isN a && isW 0 99 b then 1 else 1000
        | _ => 1000)
      else if isS "done" w then (match rest with
        | [a] => if isW 0 12 a then 1 else 1000
        | _ => 1000)
      else if isS "not" w then (match rest with
        | [a] => lv n a
        | _ => 1000)
      else if isS "and" w || isS "or" w then (match rest with
        | [.tup ps] => (ps.map (lv n)).sum + (if 2 ≤ ps.length ∧ ps.length ≤ 4 then 0 else 1000)
        | _ => 1000)
      else 1000
    | _ => 1000
theorem opEq_nil (s : Store) (xs : List D) : opEq (.tup xs) (.tup []) s = some (.bl (decide (xs = [])), s) := by
  cases xs with
  | nil => rfl
  | cons a b => simp [opEq, teq, kdOf, deqs]
theorem opNe_int (s : Store) (a b : Int) : opNe (.int a) (.int b) s = some (.bl (!decide (a = b)), s) := by simp [opNe, teq, kdOf, eqv_int]
theorem in_both {s : Store} {d : D} (h : Wf s d) : Mi.inR d (.tup [.str "and", .str "or"]) s = some (isS "and" d || isS "or" d) := by
  simp [Mi.inR, inD, deq_str h]
theorem ints_map (f : D → Nat) (ps : List D) : intsOf (ps.map fun p => .int (f p)) = some (ps.map fun p => (f p : Int)) := by
  induction ps with
  | nil => rfl
  | cons a b ih => simp [intsOf, ih]
theorem sum_cast (f : D → Nat) (ps : List D) : (ps.map fun p => (f p : Int)).sum = (((ps.map f).sum : Nat) : Int) := by
  induction ps with
  | nil => rfl
  | cons a b ih => simp [ih]
theorem lc_leaves {f : FD} {L : Nat} (hf : ∀ s d, Wf s d → ∃ s', f [d, .int L] s = .ok (.int (lv L d)) s' ∧ Px s s') {s : Store} {w : D} {ps : List D} (hl : ps.length ≤ 1000) (hp : ∀ p ∈ ps, Wf s p) :
    ∃ s', eLc (iOf (eOp ixD (eVar 0) (eC (.int 1)))) (gNm 2) tYesM (eCall 2 f (aCons (eVar 2) (aCons (eOp opSub (eVar 1) (eC (.int 1))) aNil))) [2] [some (.tup [w, .tup ps]), some (.int ((L : Int) + 1)), none] s = .ok (.loc s.length) s' ∧ s'[s.length]? = some (.lst (ps.map fun p => .int (lv L p))) ∧ Px s s' := by
  obtain ⟨acc, s1, r1, r2, r3, r4⟩ := lc_inv (J := ⟨ps.length, fun i s => (ps[i]?).map fun d => (d, s), fun _ => true⟩) (g := gNm 2) (t := tYesM) (e := eCall 2 f (aCons (eVar 2) (aCons (eOp opSub (eVar 1) (eC (.int 1))) aNil))) (σ0 := [some (.tup [w, .tup ps]), some (.int ((L : Int) + 1)), none]) (l := s.length) (n := ps.length)
    (fun i acc s1 => Px s s1 ∧ acc = (ps.take i).map fun p => .int (lv L p)) (by omega) (fun _ _ _ => rfl) (fun i acc s1 hi hs ⟨p, q⟩ => by
      have hc : ps[i]? = some ps[i] := List.getElem?_eq_getElem hi
      obtain ⟨s2, h1, h2⟩ := hf s1 ps[i] ((hp _ (List.getElem_mem hi)).px p)
      have hL : (L : Int) + 1 - 1 = L := by omega
      refine ⟨ps[i], s1, [(2, ps[i])], s1, true, s1, by simp [hc], rfl, rfl, .inr ⟨rfl, .int (lv L ps[i]), s2, by simp [eCall, aCons, aNil, eVar, setD, eOp, opSub, eC, R.of, R.bind, hL, h1], h2.get hs, (p.trans h2).set (Nat.le_refl _), ?_⟩⟩
      rw [q, List.take_succ, hc, List.map_append]; rfl) ps.length 0 [] (s ++ [.lst []]) (by omega) (Nat.le_refl _) (by simp) ⟨Px.push _ _, by simp⟩
  rw [List.take_length] at r4
  rw [r4] at r2
  refine ⟨s1, ?_, r2, r3⟩
  have e0 : eOp ixD (eVar 0) (eC (.int 1)) [some (.tup [w, .tup ps]), some (.int ((L : Int) + 1)), none] s = .ok (.tup ps) s := by simp [eOp, eVar, eC, R.bind, ixD, atI, ixN, R.of]
  simp only [eLc, iOf, e0, R.bind, iSeq, wipeD]
  exact r1
theorem leaves_ok : ∀ (L N : Nat) (s : Store) (d : D), L < N → Wf s d → ∃ s', m__law_leaves N [d, .int L] s = .ok (.int (lv L d)) s' ∧ Px s s' := by
  intro L
  induction L with
  | zero =>
    intro N s d hN h
    obtain ⟨N, rfl⟩ : ∃ M, N = M + 1 := ⟨N - 1, by omega⟩
    refine ⟨s, ?_, Px.refl _⟩
    cases h with
    | tup xs hl hx =>
      cases xs with
      | nil => simp [m__law_leaves, finM, b__law_leaves, sSeq, sIf, tOrM, tNotM, tTru, tB', eCB, eVar, aCons, aNil, eC, bIsi, isiB, tyD, R.of, R.bind, tyNames, tru, R.thenO, sRet, eOp, eTup, opEq_nil, lv]
      | cons w rest =>
        have hw : Wf s w := hx w (by simp)
        cases hw <;> simp [m__law_leaves, finM, b__law_leaves, sSeq, sIf, tOrM, tNotM, tTru, tB', eCB, eVar, aCons, aNil, eC, bIsi, isiB, tyD, R.of, R.bind, tyNames, tru, R.thenO, sRet, eOp, eTup, opEq_nil, lv, ixD, atI, ixN, opEq_int, *]
    | _ => simp [m__law_leaves, finM, b__law_leaves, sSeq, sIf, tOrM, tNotM, tTru, eCB, eVar, aCons, aNil, eC, bIsi, isiB, tyD, R.of, R.bind, tyNames, tru, R.thenO, sRet, lv, *]
  | succ L ih =>
    intro N s d hN h
    obtain ⟨N, rfl⟩ : ∃ M, N = M + 1 := ⟨N - 1, by omega⟩
    have hf : ∀ s d, Wf s d → ∃ s', m__law_leaves N [d, .int L] s = .ok (.int (lv L d)) s' ∧ Px s s' := fun s d => ih N s d (by omega)
    have hL : ¬ (L : Int) + 1 = 0 := by omega
    have hL1 : (L : Int) + 1 - 1 = L := by omega
    cases h with
    | tup xs hl hx =>
      cases xs with
      | nil => exact ⟨s, by simp [m__law_leaves, finM, b__law_leaves, sSeq, sIf, tOrM, tNotM, tTru, tB', eCB, eVar, aCons, aNil, eC, bIsi, isiB, tyD, R.of, R.bind, tyNames, tru, R.thenO, sRet, eOp, eTup, opEq_nil, lv], Px.refl _⟩
      | cons w rest =>
        have hw : Wf s w := hx w (by simp)
        by_cases hs : isStr w = true
        · obtain ⟨z, rfl⟩ : ∃ z, w = .str z := by cases w <;> first | exact ⟨_, rfl⟩ | cases hs
          have i3 := in_words hw
          have ed := opEq_str hw "done"
          have en := opEq_str hw "not"
          have ib := in_both hw
          have hr : ∀ x ∈ rest, Wf s x := fun x hm => hx x (by simp [hm])
          clear hx
          cases q3 : isW3 (.str z) with
          | true =>
            rw [q3] at i3
            match rest, hr, hl with
            | [], _, _ => exact ⟨s, by simp [m__law_leaves, finM, b__law_leaves, sSeq, sIf, tOrM, tAndM, tNotM, tTru, tB', eCB, eVar, aCons, aNil, eC, bIsi, isiB, tyD, R.of, R.bind, tyNames, tru, R.thenO, sRet, sNil, eOp, eTup, opEq_nil, opEq_int, ixD, atI, ixN, opIn, opNotIn, eIf, eCall, bLen, lv, isStr, hL,  i3, q3], Px.refl _⟩
            | [_], _, _ => exact ⟨s, by simp [m__law_leaves, finM, b__law_leaves, sSeq, sIf, tOrM, tAndM, tNotM, tTru, tB', eCB, eVar, aCons, aNil, eC, bIsi, isiB, tyD, R.of, R.bind, tyNames, tru, R.thenO, sRet, sNil, eOp, eTup, opEq_nil, opEq_int, ixD, atI, ixN, opIn, opNotIn, eIf, eCall, bLen, lv, isStr, hL,  i3, q3], Px.refl _⟩
            | [a, b], hr, _ =>
              obtain ⟨s1, n1, n2⟩ := law_name_ok (hr a (by simp))
              have w1 := law_whole_ok ((hr b (by simp)).px n2) 0 99
              refine ⟨s1, ?_, n2⟩
              cases qa : isN a <;> rw [qa] at n1 <;> cases qb : isW 0 99 b <;> rw [qb] at w1 <;> simp [m__law_leaves, finM, b__law_leaves, sSeq, sIf, tOrM, tAndM, tNotM, tTru, tB', eCB, eVar, aCons, aNil, eC, bIsi, isiB, tyD, R.of, R.bind, tyNames, tru, R.thenO, sRet, sNil, eOp, eTup, opEq_nil, opEq_int, ixD, atI, ixN, opIn, opNotIn, eIf, eCall, bLen, lv, isStr, hL,  i3, q3, n1, w1, qa, qb]
            | x1 :: x2 :: x3 :: xs, _, _ =>
              have h3 : ¬ (xs.length : Int) + 1 + 1 + 1 + 1 = 3 := by omega
              have h0 : (0 : Int) < (xs.length : Int) + 1 + 1 + 1 + 1 := by omega
              exact ⟨s, by simp [m__law_leaves, finM, b__law_leaves, sSeq, sIf, tOrM, tAndM, tNotM, tTru, tB', eCB, eVar, aCons, aNil, eC, bIsi, isiB, tyD, R.of, R.bind, tyNames, tru, R.thenO, sRet, sNil, eOp, eTup, opEq_nil, opEq_int, ixD, atI, ixN, opIn, opNotIn, eIf, eCall, bLen, lv, isStr, hL,  i3, q3, h3, h0], Px.refl _⟩
          | false =>
            rw [q3] at i3
            cases qd : isS "done" (.str z) with
            | true =>
              rw [qd] at ed
              match rest, hr, hl with
              | [], _, _ => exact ⟨s, by simp [m__law_leaves, finM, b__law_leaves, sSeq, sIf, tOrM, tAndM, tNotM, tTru, tB', eCB, eVar, aCons, aNil, eC, bIsi, isiB, tyD, R.of, R.bind, tyNames, tru, R.thenO, sRet, sNil, eOp, eTup, opEq_nil, opEq_int, ixD, atI, ixN, opIn, opNotIn, eIf, eCall, bLen, lv, isStr, hL,  i3, q3, ed, qd], Px.refl _⟩
              | [a], hr, _ =>
                have w1 := law_whole_ok (hr a (by simp)) 0 12
                refine ⟨s, ?_, Px.refl _⟩
                cases qb : isW 0 12 a <;> rw [qb] at w1 <;> simp [m__law_leaves, finM, b__law_leaves, sSeq, sIf, tOrM, tAndM, tNotM, tTru, tB', eCB, eVar, aCons, aNil, eC, bIsi, isiB, tyD, R.of, R.bind, tyNames, tru, R.thenO, sRet, sNil, eOp, eTup, opEq_nil, opEq_int, ixD, atI, ixN, opIn, opNotIn, eIf, eCall, bLen, lv, isStr, hL,  i3, q3, ed, qd, w1, qb]
              | x1 :: x2 :: xs, _, _ =>
                have h3 : ¬ (xs.length : Int) + 1 + 1 + 1 = 2 := by omega
                have h0 : (0 : Int) < (xs.length : Int) + 1 + 1 + 1 := by omega
                exact ⟨s, by simp [m__law_leaves, finM, b__law_leaves, sSeq, sIf, tOrM, tAndM, tNotM, tTru, tB', eCB, eVar, aCons, aNil, eC, bIsi, isiB, tyD, R.of, R.bind, tyNames, tru, R.thenO, sRet, sNil, eOp, eTup, opEq_nil, opEq_int, ixD, atI, ixN, opIn, opNotIn, eIf, eCall, bLen, lv, isStr, hL,  i3, q3, ed, qd, h3, h0], Px.refl _⟩
            | false =>
              rw [qd] at ed
              cases qn : isS "not" (.str z) with
              | true =>
                rw [qn] at en
                match rest, hr, hl with
                | [], _, _ => exact ⟨s, by simp [m__law_leaves, finM, b__law_leaves, sSeq, sIf, tOrM, tAndM, tNotM, tTru, tB', eCB, eVar, aCons, aNil, eC, bIsi, isiB, tyD, R.of, R.bind, tyNames, tru, R.thenO, sRet, sNil, eOp, eTup, opEq_nil, opEq_int, ixD, atI, ixN, opIn, opNotIn, eIf, eCall, bLen, lv, isStr, hL,  i3, q3, ed, qd, en, qn], Px.refl _⟩
                | [a], hr, _ =>
                  obtain ⟨s1, n1, n2⟩ := hf s a (hr a (by simp))
                  exact ⟨s1, by simp [m__law_leaves, finM, b__law_leaves, sSeq, sIf, tOrM, tAndM, tNotM, tTru, tB', eCB, eVar, aCons, aNil, eC, bIsi, isiB, tyD, R.of, R.bind, tyNames, tru, R.thenO, sRet, sNil, eOp, eTup, opEq_nil, opEq_int, ixD, atI, ixN, opIn, opNotIn, eIf, eCall, bLen, lv, isStr, hL,  i3, q3, ed, qd, en, qn, opSub, hL1, n1], n2⟩
                | x1 :: x2 :: xs, _, _ =>
                  have h3 : ¬ (xs.length : Int) + 1 + 1 + 1 = 2 := by omega
                  have h0 : (0 : Int) < (xs.length : Int) + 1 + 1 + 1 := by omega
                  exact ⟨s, by simp [m__law_leaves, finM, b__law_leaves, sSeq, sIf, tOrM, tAndM, tNotM, tTru, tB', eCB, eVar, aCons, aNil, eC, bIsi, isiB, tyD, R.of, R.bind, tyNames, tru, R.thenO, sRet, sNil, eOp, eTup, opEq_nil, opEq_int, ixD, atI, ixN, opIn, opNotIn, eIf, eCall, bLen, lv, isStr, hL,  i3, q3, ed, qd, en, qn, h3, h0], Px.refl _⟩
              | false =>
                rw [qn] at en
                cases qb : (isS "and" (.str z) || isS "or" (.str z)) with
                | false =>
                  rw [qb] at ib
                  exact ⟨s, by simp [m__law_leaves, finM, b__law_leaves, sSeq, sIf, tOrM, tAndM, tNotM, tTru, tB', eCB, eVar, aCons, aNil, eC, bIsi, isiB, tyD, R.of, R.bind, tyNames, tru, R.thenO, sRet, sNil, eOp, eTup, opEq_nil, opEq_int, ixD, atI, ixN, opIn, opNotIn, eIf, eCall, bLen, lv, isStr, hL,  i3, q3, ed, qd, en, qn, ib, qb], Px.refl _⟩
                | true =>
                  rw [qb] at ib
                  match rest, hr, hl with
                  | [], _, _ => exact ⟨s, by simp [m__law_leaves, finM, b__law_leaves, sSeq, sIf, tOrM, tAndM, tNotM, tTru, tB', eCB, eVar, aCons, aNil, eC, bIsi, isiB, tyD, R.of, R.bind, tyNames, tru, R.thenO, sRet, sNil, eOp, eTup, opEq_nil, opEq_int, ixD, atI, ixN, opIn, opNotIn, eIf, eCall, bLen, lv, isStr, hL,  i3, q3, ed, qd, en, qn, ib, qb, opNe_int], Px.refl _⟩
                  | x1 :: x2 :: xs, _, _ =>
                    have h3 : ¬ (xs.length : Int) + 1 + 1 + 1 = 2 := by omega
                    have h0 : (0 : Int) < (xs.length : Int) + 1 + 1 + 1 := by omega
                    exact ⟨s, by simp [m__law_leaves, finM, b__law_leaves, sSeq, sIf, tOrM, tAndM, tNotM, tTru, tB', eCB, eVar, aCons, aNil, eC, bIsi, isiB, tyD, R.of, R.bind, tyNames, tru, R.thenO, sRet, sNil, eOp, eTup, opEq_nil, opEq_int, ixD, atI, ixN, opIn, opNotIn, eIf, eCall, bLen, lv, isStr, hL,  i3, q3, ed, qd, en, qn, ib, qb, opNe_int, h3, h0], Px.refl _⟩
                  | [a], hr, _ =>
                    have ha : Wf s a := hr a (by simp)
                    cases ha with
                    | tup ps hpl hp =>
                      obtain ⟨s1, c1, c2, c3⟩ := lc_leaves hf (w := .str z) hpl hp
                      refine ⟨s1, ?_, c3⟩
                      have e1 : lsOf s1 s.length = some (ps.map fun p => .int (lv L p)) := by unfold lsOf; rw [c2]
                      have e2 := ints_map (lv L) ps
                      have e3 := sum_cast (lv L) ps
                      by_cases ha : 2 ≤ ps.length
                      · by_cases hb : ps.length ≤ 4
                        · have ha' : (2 : Int) ≤ ps.length := by omega
                          have hb' : (ps.length : Int) ≤ 4 := by omega
                          have lg : Nat.log2 1000 < 1000000 := by decide
                          have lg2 : Nat.log2 1000 + Nat.log2 1 < 1000000 := by decide
                          simp [m__law_leaves, finM, b__law_leaves, sSeq, sIf, tOrM, tAndM, tNotM, tTru, tB', eCB, eVar, aCons, aNil, eC, bIsi, isiB, tyD, R.of, R.bind, tyNames, tru, R.thenO, sRet, sNil, eOp, eTup, opEq_nil, opEq_int, ixD, atI, ixN, opIn, opNotIn, eIf, eCall, bLen, lv, isStr, hL,  i3, q3, ed, qd, en, qn, ib, qb, opNe_int, c1, onInts, e1, e2, e3, eCh, opLe, cmpI, eNot, ha', hb', ha, hb, bInt, opMul, opAdd, lg, lg2]
                        · have ha' : (2 : Int) ≤ ps.length := by omega
                          have hb' : ¬ (ps.length : Int) ≤ 4 := by omega
                          have lg : Nat.log2 1000 < 1000000 := by decide
                          have lg2 : Nat.log2 1000 + Nat.log2 1 < 1000000 := by decide
                          simp [m__law_leaves, finM, b__law_leaves, sSeq, sIf, tOrM, tAndM, tNotM, tTru, tB', eCB, eVar, aCons, aNil, eC, bIsi, isiB, tyD, R.of, R.bind, tyNames, tru, R.thenO, sRet, sNil, eOp, eTup, opEq_nil, opEq_int, ixD, atI, ixN, opIn, opNotIn, eIf, eCall, bLen, lv, isStr, hL,  i3, q3, ed, qd, en, qn, ib, qb, opNe_int, c1, onInts, e1, e2, e3, eCh, opLe, cmpI, eNot, ha', hb', ha, hb, bInt, opMul, opAdd, lg, lg2]
                      · have ha' : ¬ (2 : Int) ≤ ps.length := by omega
                        have lg : Nat.log2 1000 < 1000000 := by decide
                        have lg2 : Nat.log2 1000 + Nat.log2 1 < 1000000 := by decide
                        simp [m__law_leaves, finM, b__law_leaves, sSeq, sIf, tOrM, tAndM, tNotM, tTru, tB', eCB, eVar, aCons, aNil, eC, bIsi, isiB, tyD, R.of, R.bind, tyNames, tru, R.thenO, sRet, sNil, eOp, eTup, opEq_nil, opEq_int, ixD, atI, ixN, opIn, opNotIn, eIf, eCall, bLen, lv, isStr, hL,  i3, q3, ed, qd, en, qn, ib, qb, opNe_int, c1, onInts, e1, e2, e3, eCh, opLe, cmpI, eNot, ha', ha, bInt, opMul, opAdd, lg, lg2]
                    | _ => exact ⟨s, by simp [m__law_leaves, finM, b__law_leaves, sSeq, sIf, tOrM, tAndM, tNotM, tTru, tB', eCB, eVar, aCons, aNil, eC, bIsi, isiB, tyD, R.of, R.bind, tyNames, tru, R.thenO, sRet, sNil, eOp, eTup, opEq_nil, opEq_int, ixD, atI, ixN, opIn, opNotIn, eIf, eCall, bLen, lv, isStr, hL,  i3, q3, ed, qd, en, qn, ib, qb, opNe_int, *], Px.refl _⟩
        · have hs' : isStr w = false := by simpa using hs
          refine ⟨s, ?_, Px.refl _⟩
          cases hw <;> first | exact nomatch (show true = false from hs') | simp [m__law_leaves, finM, b__law_leaves, sSeq, sIf, tOrM, tNotM, tTru, tB', eCB, eVar, aCons, aNil, eC, bIsi, isiB, tyD, R.of, R.bind, tyNames, tru, R.thenO, sRet, eOp, eTup, opEq_nil, lv, ixD, atI, ixN, isStr, *]
    | _ => exact ⟨s, by simp [m__law_leaves, finM, b__law_leaves, sSeq, sIf, tOrM, tNotM, tTru, eCB, eVar, aCons, aNil, eC, bIsi, isiB, tyD, R.of, R.bind, tyNames, tru, R.thenO, sRet, lv, *], Px.refl _⟩
end K12
namespace K12
open PySem PySem.Spec PyProof.Rows L2 Mi
theorem isS_str {z : Str} {w : D} (h : isS z w = true) : w = .str z := by
  cases w <;> first | (have := of_decide_eq_true h; rw [this]) | cases h
theorem isS_not {z : Str} {w : D} (h : isStr w = false) : isS z w = false := by
  cases w <;> first | rfl | cases h
theorem words : isW3 (.str "not") = false ∧ isW3 (.str "and") = false ∧ isW3 (.str "or") = false ∧ isW3 (.str "done") = false ∧ isS "done" (.str "not") = false ∧ isS "done" (.str "and") = false ∧ isS "done" (.str "or") = false ∧ isS "not" (.str "and") = false ∧ isS "not" (.str "or") = false ∧ isS "not" (.str "done") = false ∧
    isS "and" (.str "and") = true ∧ isS "or" (.str "or") = true ∧ isS "not" (.str "not") = true := by decide +kernel
theorem lv_big (n : Nat) (w : D) (rest : List D) (h : isStr w = false) : lv n (.tup (w :: rest)) = 1000 := by
  cases n with
  | zero => rfl
  | succ n => simp [lv, h]
theorem w3_cases {w : D} (h : isW3 w = true) : isStr w = true ∧ isS "done" w = false ∧ isS "not" w = false ∧ isS "and" w = false ∧ isS "or" w = false := by
  have key : isStr (.str "is") = true ∧ isS "done" (.str "is") = false ∧ isS "not" (.str "is") = false ∧ isS "and" (.str "is") = false ∧ isS "or" (.str "is") = false ∧ isS "done" (.str "least") = false ∧ isS "not" (.str "least") = false ∧ isS "and" (.str "least") = false ∧ isS "or" (.str "least") = false ∧
    isS "done" (.str "most") = false ∧ isS "not" (.str "most") = false ∧ isS "and" (.str "most") = false ∧ isS "or" (.str "most") = false := by decide +kernel
  obtain ⟨_, k1, k2, k3, k4, k5, k6, k7, k8, k9, k10, k11, k12⟩ := key
  unfold isW3 at h
  rw [Bool.or_eq_true, Bool.or_eq_true] at h
  rcases h with h | h | h <;> have e := isS_str h <;> subst e
  · exact ⟨rfl, k1, k2, k3, k4⟩
  · exact ⟨rfl, k5, k6, k7, k8⟩
  · exact ⟨rfl, k9, k10, k11, k12⟩
/-- what lv makes of a thing, by its parts -/
theorem lv_pt (n : Nat) (d : D) : match pt d with
    | none => 1000 ≤ lv (n + 1) d
    | some [] => lv (n + 1) d = 1
    | some ps => lv (n + 1) d = (ps.map (lv n)).sum ∧ ps.length ≤ 4 := by
  obtain ⟨t1, t2, t3, t4, t5, t6, t7, t8, t9, t10, t11, t12, t13⟩ := words
  cases d with
  | tup xs =>
    match xs with
    | [] => exact Nat.le_refl 1000
    | [w] =>
      show 1000 ≤ lv (n + 1) (.tup [w])
      simp only [lv]
      split
      · omega
      · split
        · omega
        · split
          · omega
          · split
            · omega
            · split <;> omega
    | [w, x] =>
      cases qn : isS "not" w with
      | true =>
        have e := isS_str qn
        subst e
        simp [pt, lv, isStr, t1, t5, t13]
      | false =>
        cases qb : (isS "and" w || isS "or" w) with
        | true =>
          have facts : isStr w = true ∧ isW3 w = false ∧ isS "done" w = false := by
            rw [Bool.or_eq_true] at qb
            rcases qb with h | h <;> have e := isS_str h <;> subst e
            · exact ⟨rfl, t2, t6⟩
            · exact ⟨rfl, t3, t7⟩
          obtain ⟨f1, f2, f3⟩ := facts
          cases qr : isRow 2 4 x with
          | true =>
            have e := isRow_its qr
            generalize its x = ps at e
            subst e
            have hl : 2 ≤ ps.length ∧ ps.length ≤ 4 := by simpa [isRow] using qr
            have hne : ps ≠ [] := fun z => by rw [z] at hl; simp at hl
            have e1 : pt (.tup [w, .tup ps]) = some ps := by
              simp only [pt, qn, qb, qr, if_true]
              simp [its]
            rw [e1]
            cases ps with
            | nil => exact absurd rfl hne
            | cons a b =>
              refine ⟨?_, hl.2⟩
              simp only [lv, f1, f2, f3, qn, qb]
              simp [hl] at hl ⊢
              omega
          | false =>
            have e1 : pt (.tup [w, x]) = none := by
              simp only [pt, qn, qb, qr]
              simp
            rw [e1]
            show 1000 ≤ lv (n + 1) (.tup [w, x])
            simp only [lv, f1, f2, f3, qn, qb]
            cases x with
            | tup ps =>
              have hl : ¬ (2 ≤ ps.length ∧ ps.length ≤ 4) := fun z => by simp [isRow] at qr; omega
              simp only [if_neg hl]
              simp
            | _ => simp
        | false =>
          cases qp : plain w [x] with
          | true =>
            have qp2 : isS "done" w = true ∧ isW 0 12 x = true := by simpa [plain] using qp
            have e := isS_str qp2.1
            subst e
            have e1 : pt (.tup [.str "done", x]) = some [] := by
              simp only [pt, qn, qb, qp]
              simp
            rw [e1]
            simp [lv, isStr, t4, qp2.1, qp2.2]
          | false =>
            have e1 : pt (.tup [w, x]) = none := by
              simp only [pt, qn, qb, qp]
              simp
            rw [e1]
            show 1000 ≤ lv (n + 1) (.tup [w, x])
            simp only [lv, qn, qb]
            split
            · omega
            · split
              · simp
              · split
                · rename_i h1 h2 h3
                  have h4 : isW 0 12 x = false := by simpa [plain, h3] using qp
                  simp [h4]
                · simp
    | [w, x, y] =>
      cases qp : plain w [x, y] with
      | true =>
        have qp2 : isW3 w = true ∧ isN x = true ∧ isW 0 99 y = true := by simpa [plain] using qp
        obtain ⟨f1, _, _, _, _⟩ := w3_cases qp2.1
        have e1 : pt (.tup [w, x, y]) = some [] := by simp [pt, qp]
        rw [e1]
        simp [lv, f1, qp2]
      | false =>
        have e1 : pt (.tup [w, x, y]) = none := by simp [pt, qp]
        rw [e1]
        show 1000 ≤ lv (n + 1) (.tup [w, x, y])
        simp only [lv]
        split
        · omega
        · split
          · rename_i h1 h2
            have h4 : (isN x && isW 0 99 y) = false := by simpa [plain, h2] using qp
            simp only [h4]
            simp
          · split
            · omega
            · split
              · omega
              · split <;> omega
    | w :: x :: y :: z :: r =>
      show 1000 ≤ lv (n + 1) (.tup (w :: x :: y :: z :: r))
      simp only [lv]
      split
      · omega
      · split
        · omega
        · split
          · omega
          · split
            · omega
            · split <;> omega
  | _ => exact Nat.le_refl 1000
end K12
namespace K12
open PySem PySem.Spec PyProof.Rows L2 Mi
theorem Wf.setL {s : Store} {l : Nat} {ys zs : List D} (e : s[l]? = some (.lst ys)) : ∀ {d : D}, Wf s d → Wf (s.set l (.lst zs)) d
  | _, .non => .non
  | _, .bl b => .bl b
  | _, .int i => .int i
  | _, .str x hx => .str x hx
  | _, .tup xs hl hx => .tup xs hl fun x hm => Wf.setL e (hx x hm)
  | _, .lst i xs h => by
    by_cases q : l = i
    · subst q; exact .lst l zs (by rw [List.getElem?_set_self (lt_of_get e)])
    · exact .lst i xs (by rw [List.getElem?_set_ne q]; exact h)
  | _, .dct i h => by
    have q : l ≠ i := fun z => by subst z; rw [e] at h; cases h
    exact .dct i (by rw [List.getElem?_set_ne q]; exact h)
/-- the pairs that wait -/
def pr (q : D × Nat) : D := .tup [q.1, .int q.2]
def tot (W : List (D × Nat)) : Nat := (W.map fun q => lv (5 - q.2) q.1).sum
def wl : Nat → Nat
  | 0 => 1
  | n + 1 => 1 + 4 * wl n
theorem wl_pos (n : Nat) : 1 ≤ wl n := by cases n <;> simp [wl] <;> omega
def mu (W : List (D × Nat)) : Nat := (W.map fun q => wl (5 - q.2)).sum
theorem mu_len (W : List (D × Nat)) : W.length ≤ mu W := by
  induction W with
  | nil => exact Nat.le_refl _
  | cons a b ih =>
    have := wl_pos (5 - a.2)
    simp only [mu, List.map_cons, List.sum_cons, List.length_cons] at ih ⊢
    omega
theorem mu_app (W U : List (D × Nat)) : mu (W ++ U) = mu W + mu U := by simp [mu]
theorem tot_app (W U : List (D × Nat)) : tot (W ++ U) = tot W + tot U := by simp [tot]
abbrev bodyT : MS := (sSeq (sAsg (eBM "list" mPop (eVar 1) aNil) (gTp (gLen 2 (gsCons (gNm 3) (gsCons (gNm 4) gsNil))))) (sSeq (sAsg (eCall 1 (m_parts_if_test) (aCons (eVar 3) aNil)) (gNm 5)) (sSeq (sIf ((tOrM (tB' (eOp opIs (eVar 5) (eC .non))) (tB' (eOp opGt (eVar 4) (eC c_MOST_WITHIN))))) (sRet (eC (.bl false))) sNil) (sSeq (sIf (tB' (eOp opEq (eVar 5) (eTup aNil))) (sSeq (sAug 2 opIAdd (eC (.int 1))) (sIf (tB' (eOp opGt (eVar 2) (eC c_MOST_PLAIN))) (sRet (eC (.bl false))) sNil)) sNil) (sExpr (eBM "list" mExtend (eVar 1) (aCons (eLc (iOf (eVar 5)) (gNm 6) tYesM (eTup (aCons (eVar 6) (aCons (eOp opAdd (eVar 4) (eC (.int 1))) aNil))) [6]) aNil)))))))
theorem lc_pairs {a0 a1 a2 a3 a6 : Option D} {s : Store} {k : Nat} {ps : List D} (hl : ps.length ≤ 1000) :
    eLc (iOf (eVar 5)) (gNm 6) tYesM (eTup (aCons (eVar 6) (aCons (eOp opAdd (eVar 4) (eC (.int 1))) aNil))) [6] [a0, a1, a2, a3, some (.int (k : Int)), some (.tup ps), a6] s = .ok (.loc s.length) (s ++ [.lst (ps.map fun p => pr (p, k + 1))]) := by
  obtain ⟨acc, s1, r1, r2, r3, r4⟩ := lc_inv (J := ⟨ps.length, fun i s => (ps[i]?).map fun d => (d, s), fun _ => true⟩) (g := gNm 6) (t := tYesM) (e := eTup (aCons (eVar 6) (aCons (eOp opAdd (eVar 4) (eC (.int 1))) aNil))) (σ0 := [a0, a1, a2, a3, some (.int (k : Int)), some (.tup ps), none]) (l := s.length) (n := ps.length)
    (fun i acc s1 => s1 = s ++ [.lst acc] ∧ acc = (ps.take i).map fun p => pr (p, k + 1)) (by omega) (fun _ _ _ => rfl) (fun i acc s1 hi hs ⟨p, q⟩ => by
      have hc : ps[i]? = some ps[i] := List.getElem?_eq_getElem hi
      refine ⟨ps[i], s1, [(6, ps[i])], s1, true, s1, by simp [hc], rfl, rfl, .inr ⟨rfl, pr (ps[i], k + 1), s1, by simp [eTup, aCons, aNil, eVar, setD, eOp, opAdd, eC, R.of, R.bind, pr], hs, ?_, ?_⟩⟩
      · rw [p]; simp
      · rw [q, List.take_succ, hc, List.map_append]; rfl) ps.length 0 [] (s ++ [.lst []]) (by omega) (Nat.le_refl _) (by simp) ⟨rfl, by simp⟩
  rw [List.take_length] at r4
  rw [r4] at r3
  rw [r3] at r1
  simp only [eLc, iOf, eVar, R.bind, iSeq, wipeD]
  exact r1
theorem sum_const (ps : List D) (c : Nat) : (ps.map fun _ => c).sum = ps.length * c := by
  induction ps with
  | nil => simp
  | cons a b ih => simp only [List.map_cons, List.sum_cons, List.length_cons, ih, Nat.add_mul]; omega
theorem pt_wf {s : Store} {d : D} {ps : List D} (h : pt d = some ps) (hd : Wf s d) : ∀ p ∈ ps, Wf s p := by
  cases hd with
  | tup xs hl hx =>
    match xs, hx, h with
    | [w, x], hx, h =>
      simp only [pt] at h
      split at h
      · cases h; exact fun p hp => by simp at hp; rw [hp]; exact hx x (by simp)
      · split at h
        · split at h
          · rename_i hr
            have e := isRow_its hr
            have hxx := hx x (by simp)
            rw [e] at hxx
            cases h
            cases hxx with
            | tup _ _ hi => exact hi
          · cases h
        · split at h
          · cases h; exact fun p hp => by cases hp
          · cases h
    | [w, x, y], hx, h =>
      simp only [pt] at h
      split at h
      · cases h; exact fun p hp => by cases hp
      · cases h
    | [], _, h => cases h
    | [_], _, h => cases h
    | _ :: _ :: _ :: _ :: _, _, h => cases h
  | _ => cases h
theorem wh_ok (s0 : Store) (th : Option D) : ∀ (fu : Nat) (W : List (D × Nat)) (many : Nat) (s : Store) (w : Nat) (a3 a4 a5 a6 : Option D), fu ≤ 100000 → mu W < fu → s[w]? = some (.lst (W.map pr)) → (∀ q ∈ W, Wf s q.1 ∧ 1 ≤ q.2 ∧ q.2 ≤ 5) → many ≤ 12 → Px s0 s → s0.length ≤ w →
    ∃ s', Px s0 s' ∧ ((many + tot W ≤ 12 ∧ ∃ σ', whL (tTru (eVar 1)) bodyT fu [th, some (.loc w), some (.int many), a3, a4, a5, a6] s = .nx σ' s') ∨ (¬ many + tot W ≤ 12 ∧ whL (tTru (eVar 1)) bodyT fu [th, some (.loc w), some (.int many), a3, a4, a5, a6] s = .rt (.bl false) s'))
  | 0, W, many, s, w, a3, a4, a5, a6, _, hm, _, _, _, _, _ => by omega
  | fu + 1, W, many, s, w, a3, a4, a5, a6, hf, hm, hw, hW, h12, hp, hle => by
    rcases List.eq_nil_or_concat W with rfl | ⟨U, ⟨d, k⟩, rfl⟩
    · refine ⟨s, hp, .inl ⟨by simpa [tot] using h12, [th, some (.loc w), some (.int many), a3, a4, a5, a6], ?_⟩⟩
      have hw' : s[w]? = some (.lst []) := hw
      simp [whL, tTru, eVar, R.bind, tru, hw', R.thenO]
    · rw [List.concat_eq_append] at hw hW hm ⊢
      obtain ⟨hd, hk1, hk5⟩ := hW (d, k) (by simp)
      have hU : ∀ q ∈ U, Wf s q.1 ∧ 1 ≤ q.2 ∧ q.2 ≤ 5 := fun q hq => hW q (by simp [hq])
      have hlen := mu_len (U ++ [(d, k)])
      have hls : lsOf s w = some (U.map pr ++ [pr (d, k)]) := by unfold lsOf; rw [hw]; simp
      have hs1 : (s.set w (.lst (U.map pr)))[w]? = some (.lst (U.map pr)) := by rw [List.getElem?_set_self (lt_of_get hw)]
      have hd1 : Wf (s.set w (.lst (U.map pr))) d := hd.setL hw
      have hpt := parts_ok hd1
      have hp1 : Px s0 (s.set w (.lst (U.map pr))) := hp.set hle
      have htru : tru s (.loc w) = some true := by simp [tru, hw]
      have hisL : isL s (.loc w) = true := by simp [isL, hls]
      have hpop : mPop (.loc w) [] s = some (pr (d, k), s.set w (.lst (U.map pr))) := by simp [mPop, onL, hls]
      have hlv := lv_pt (4 - k) d
      have hkk : k = 5 ∨ (k ≤ 4 ∧ 5 - k = (4 - k) + 1) := by omega
      cases hpd : pt d with
      | none =>
        rw [hpd] at hpt hlv
        refine ⟨s.set w (.lst (U.map pr)), hp1, .inr ⟨?_, ?_⟩⟩
        · rw [tot_app]
          have : 1000 ≤ tot [(d, k)] := by
            rcases hkk with rfl | ⟨_, e⟩
            · simp [tot, lv]
            · simp only [tot, List.map_cons, List.map_nil, List.sum_cons, List.sum_nil, e]; simpa using hlv
          omega
        · simp [whL, tTru, eVar, R.bind, htru, R.thenO, bodyT, sSeq, sAsg, eBM, tyOk, hisL, aNil, hpop, R.of, pr, gTp, gLen, gsCons, gNm, gsNil, setD, eCall, aCons, hpt, ptD, sIf, tOrM, tB', eOp, eC, opIs, Mi.isR, sRet]
      | some ps =>
        rw [hpd] at hpt hlv
        rcases hkk with rfl | ⟨hk4, e5⟩
        · refine ⟨s.set w (.lst (U.map pr)), hp1, .inr ⟨?_, ?_⟩⟩
          · rw [tot_app]; simp [tot, lv]; omega
          · simp [whL, tTru, eVar, R.bind, htru, R.thenO, bodyT, sSeq, sAsg, eBM, tyOk, hisL, aNil, hpop, R.of, pr, gTp, gLen, gsCons, gNm, gsNil, setD, eCall, aCons, hpt, ptD, sIf, tOrM, tB', eOp, eC, opIs, Mi.isR, sRet, opGt, cmpI, c_MOST_WITHIN]
        · have hk' : ¬ (4 : Int) < k := by omega
          have hn5 : 4 - k + 1 = 5 - k := e5.symm
          have h4 : ps.length ≤ 4 := by
            cases ps with
            | nil => simp
            | cons a b => exact hlv.2
          have hlc := fun (a0 a1 a2 a3 a6 : Option D) => lc_pairs (a0 := a0) (a1 := a1) (a2 := a2) (a3 := a3) (a6 := a6) (s := s.set w (.lst (U.map pr))) (k := k) (ps := ps) (by omega)
          have hwl : w < (s.set w (.lst (U.map pr))).length := lt_of_get hs1
          have g1 : (s.set w (.lst (U.map pr)) ++ [SO.lst (ps.map fun p => pr (p, k + 1))])[w]? = some (.lst (U.map pr)) := by rw [List.getElem?_append_left hwl]; exact hs1
          have g2 : lsOf (s.set w (.lst (U.map pr)) ++ [SO.lst (ps.map fun p => pr (p, k + 1))]) w = some (U.map pr) := by unfold lsOf; rw [g1]
          have g3 : lsOf (s.set w (.lst (U.map pr)) ++ [SO.lst (ps.map fun p => pr (p, k + 1))]) (s.set w (.lst (U.map pr))).length = some (ps.map fun p => pr (p, k + 1)) := by unfold lsOf; rw [List.getElem?_append_right (Nat.le_refl _)]; simp
          have hz : (U.map pr).length + (ps.map fun p => pr (p, k + 1)).length ≤ 16777216 := by
            rw [List.length_append] at hlen
            simp only [List.length_map]
            omega
          have hext : mExtend (.loc w) [.loc (s.set w (.lst (U.map pr))).length] (s.set w (.lst (U.map pr)) ++ [SO.lst (ps.map fun p => pr (p, k + 1))]) = some (.non, (s.set w (.lst (U.map pr)) ++ [SO.lst (ps.map fun p => pr (p, k + 1))]).set w (.lst (U.map pr ++ ps.map fun p => pr (p, k + 1)))) := by
            simp only [mExtend, onL, g2, g3, if_pos hz]
          have hisL2 : isL (s.set w (.lst (U.map pr))) (.loc w) = true := by simp [isL, lsOf, hs1]
          generalize hs2 : s.set w (.lst (U.map pr)) = s1 at *
          generalize hs3 : (s1 ++ [SO.lst (ps.map fun p => pr (p, k + 1))]) = s2 at *
          have px2 : Px s0 s2 := by rw [← hs3]; exact hp1.trans (Px.push _ _)
          have px3 : Px s0 (s2.set w (.lst (U.map pr ++ ps.map fun p => pr (p, k + 1)))) := px2.set hle
          have hW3 : ∀ q ∈ U ++ ps.map (fun p => (p, k + 1)), Wf (s2.set w (.lst (U.map pr ++ ps.map fun p => pr (p, k + 1)))) q.1 ∧ 1 ≤ q.2 ∧ q.2 ≤ 5 := by
            intro q hq
            have up : ∀ {x : D}, Wf s1 x → Wf (s2.set w (.lst (U.map pr ++ ps.map fun p => pr (p, k + 1)))) x := fun {x} hx => Wf.setL g1 (Wf.px (by rw [← hs3]; exact Px.push _ _) hx)
            rcases List.mem_append.mp hq with hq | hq
            · obtain ⟨q1, q2⟩ := hU q hq
              exact ⟨up (by rw [← hs2]; exact q1.setL hw), q2⟩
            · obtain ⟨p, hp', rfl⟩ := List.mem_map.mp hq
              exact ⟨up (pt_wf hpd hd1 p hp'), by simp, by simp; omega⟩
          have hg : (s2.set w (.lst (U.map pr ++ ps.map fun p => pr (p, k + 1))))[w]? = some (.lst ((U ++ ps.map fun p => (p, k + 1)).map pr)) := by
            rw [List.getElem?_set_self (lt_of_get g1), List.map_append, List.map_map]; rfl
          have hmu : mu (U ++ ps.map fun p => (p, k + 1)) < fu := by
            have e1 : mu (ps.map fun p => (p, k + 1)) = ps.length * wl (4 - k) := by
              have : 5 - (k + 1) = 4 - k := by omega
              simp only [mu, List.map_map, Function.comp_def, this]
              exact sum_const _ _
            have e2 : mu [(d, k)] = 1 + 4 * wl (4 - k) := by simp [mu, e5, wl]
            have e3 : ps.length * wl (4 - k) ≤ 4 * wl (4 - k) := Nat.mul_le_mul_right _ h4
            rw [mu_app, e1]
            rw [mu_app, e2] at hm
            omega
          have hto : tot (ps.map fun p => (p, k + 1)) = (ps.map (lv (4 - k))).sum := by
            have : 5 - (k + 1) = 4 - k := by omega
            simp [tot, List.map_map, Function.comp_def, this]
          have hto2 : tot [(d, k)] = lv (4 - k + 1) d := by simp [tot, e5]
          cases ps with
          | nil =>
            simp only [List.map_nil, List.append_nil] at *
            by_cases hmany : many + 1 ≤ 12
            · obtain ⟨s', r1, r2⟩ := wh_ok s0 th fu U (many + 1) (s2.set w (.lst (U.map pr))) w (some d) (some (.int k)) (some (.tup [])) a6 (by omega) hmu hg hW3 hmany px3 hle
              have hm2 : ¬ (12 : Int) < (many : Int) + 1 := by omega
              refine ⟨s', r1, ?_⟩
              have et : many + tot (U ++ [(d, k)]) = many + 1 + tot U := by rw [tot_app, hto2, hlv]; omega
              rw [et]
              have key : whL (tTru (eVar 1)) bodyT (fu + 1) [th, some (.loc w), some (.int many), a3, a4, a5, a6] s = whL (tTru (eVar 1)) bodyT fu [th, some (.loc w), some (.int (many + 1 : Nat)), some d, some (.int k), some (.tup []), a6] (s2.set w (.lst (U.map pr))) := by
                simp [whL, tTru, eVar, R.bind, htru, R.thenO, bodyT, sSeq, sAsg, eBM, tyOk, hisL, aNil, hpop, R.of, pr, gTp, gLen, gsCons, gNm, gsNil, setD, eCall, aCons, hpt, ptD, sIf, tOrM, tB', eOp, eC, opIs, Mi.isR, sRet, opGt, cmpI, c_MOST_WITHIN, hk', sNil, eTup, opEq_nil, sAug, opIAdd, c_MOST_PLAIN, hm2, sExpr, hisL2, hlc, hext]
              rw [key]
              exact r2
            · have hm2 : (12 : Int) < (many : Int) + 1 := by omega
              refine ⟨s1, hp1, .inr ⟨by rw [tot_app, hto2, hlv]; omega, ?_⟩⟩
              simp [whL, tTru, eVar, R.bind, htru, R.thenO, bodyT, sSeq, sAsg, eBM, tyOk, hisL, aNil, hpop, R.of, pr, gTp, gLen, gsCons, gNm, gsNil, setD, eCall, aCons, hpt, ptD, sIf, tOrM, tB', eOp, eC, opIs, Mi.isR, sRet, opGt, cmpI, c_MOST_WITHIN, hk', sNil, eTup, opEq_nil, sAug, opIAdd, c_MOST_PLAIN, hm2]
          | cons p0 pr0 =>
            obtain ⟨s', r1, r2⟩ := wh_ok s0 th fu (U ++ (p0 :: pr0).map fun p => (p, k + 1)) many _ w (some d) (some (.int k)) (some (.tup (p0 :: pr0))) a6 (by omega) hmu hg hW3 h12 px3 hle
            refine ⟨s', r1, ?_⟩
            have et : many + tot (U ++ [(d, k)]) = many + tot (U ++ (p0 :: pr0).map fun p => (p, k + 1)) := by rw [tot_app, tot_app, hto2, hto, hlv.1]
            rw [et]
            have key : whL (tTru (eVar 1)) bodyT (fu + 1) [th, some (.loc w), some (.int many), a3, a4, a5, a6] s = whL (tTru (eVar 1)) bodyT fu [th, some (.loc w), some (.int many), some d, some (.int k), some (.tup (p0 :: pr0)), a6] (s2.set w (.lst (U.map pr ++ (p0 :: pr0).map fun p => pr (p, k + 1)))) := by
              simp [whL, tTru, eVar, R.bind, htru, R.thenO, bodyT, sSeq, sAsg, eBM, tyOk, hisL, aNil, hpop, R.of, pr, gTp, gLen, gsCons, gNm, gsNil, setD, eCall, aCons, hpt, ptD, sIf, tOrM, tB', eOp, eC, opIs, Mi.isR, sRet, opGt, cmpI, c_MOST_WITHIN, hk', sNil, eTup, opEq_nil, sExpr, hisL2, hlc, hext]
            rw [key]
            exact r2
/-- is_test tells just whether there are at most twelve -/
theorem is_test_ok {s : Store} {d : D} (h : Wf s d) : ∃ s', m_is_test [d] s = .ok (.bl (decide (lv 4 d ≤ 12))) s' ∧ Px s s' := by
  have e0 : mu [(d, 1)] = 341 := by simp [mu, wl]
  obtain ⟨s', r1, r2⟩ := wh_ok s (some d) fuel [(d, 1)] 0 (s ++ [.lst [pr (d, 1)]]) s.length none none none none (by decide) (by rw [e0]; decide) (by simp) (fun q hq => by simp at hq; subst hq; exact ⟨h.px (Px.push _ _), Nat.le_refl 1, show 1 ≤ 5 by decide⟩) (by omega) (Px.push _ _) (Nat.le_refl _)
  have et : 0 + tot [(d, 1)] = lv 4 d := by simp [tot]
  rw [et] at r2
  refine ⟨s', ?_, r1⟩
  rcases r2 with ⟨h1, σ', h2⟩ | ⟨h1, h2⟩
  · have h2' : whL (tTru (eVar 1)) bodyT fuel [some d, some (.loc s.length), some (.int 0), none, none, none, none] (s ++ [.lst [.tup [d, .int 1]]]) = .nx σ' s' := h2
    simp only [bodyT] at h2'
    simp [m_is_test, finM, b_is_test, sSeq, sAsg, eLst, aCons, aNil, eTup, eVar, eC, R.bind, R.thenO, gNm, setD, h2', sRet, h1]
  · have h2' : whL (tTru (eVar 1)) bodyT fuel [some d, some (.loc s.length), some (.int 0), none, none, none, none] (s ++ [.lst [.tup [d, .int 1]]]) = .rt (.bl false) s' := h2
    simp only [bodyT] at h2'
    simp [m_is_test, finM, b_is_test, sSeq, sAsg, eLst, aCons, aNil, eTup, eVar, eC, R.bind, R.thenO, gNm, setD, h2', sRet, h1]
theorem repr2 {s : Store} {l : Nat} (b c : Bool) (h : s[l]? = some (.lst [.bl b, .bl c])) : bReprC [.loc l] s = some (.str (PyData.list [.bool b, .bool c]).shown, s) := by
  have e : toPD s 60 (.loc l) = some (.list [.bool b, .bool c]) := by
    unfold toPD
    simp only [h]
    rfl
  have z : (PyData.list [.bool b, .bool c]).showable = true ∧ (PyData.list [.bool b, .bool c]).depth ≤ 60 ∧ (PyData.list [.bool b, .bool c]).shown.length ≤ 16777216 := by
    cases b <;> cases c <;> decide +kernel
  simp only [bReprC, isBox, bRepr, e, if_pos z]
  rfl
theorem opEq_strs (s : Store) (x : Str) : opEq (.str x) (.str x) s = some (.bl true, s) := by simp [opEq, teq, kdOf, eqv_str]
/-- is_test and the law's own look tell alike -/
theorem right_ok {s : Store} {d : D} (h : Wf s d) : ∃ s', m__law_right [d] s = .ok (.bl true) s' ∧ Px s s' := by
  obtain ⟨s1, h1, p1⟩ := is_test_ok h
  obtain ⟨s2, h2, p2⟩ := is_test_ok (h.px p1)
  have p3 := p1.trans p2
  have p4 := p3.trans (Px.push s2 (.lst [.bl (decide (lv 4 d ≤ 12)), .bl (decide (lv 4 d ≤ 12))]))
  obtain ⟨s5, h5, p5⟩ := leaves_ok 4 10 _ d (by omega) (h.px p4)
  have h5' : m__law_leaves 10 [d, .int 4] (s2 ++ [.lst [.bl (decide (lv 4 d ≤ 12)), .bl (decide (lv 4 d ≤ 12))]]) = .ok (.int (lv 4 d)) s5 := h5
  have c : decide ((lv 4 d : Int) ≤ 12) = decide (lv 4 d ≤ 12) := by
    by_cases q : lv 4 d ≤ 12
    · have : (lv 4 d : Int) ≤ 12 := by omega
      simp [q, this]
    · have : ¬ (lv 4 d : Int) ≤ 12 := by omega
      simp [q, this]
  refine ⟨s5 ++ [.lst [.bl (decide (lv 4 d ≤ 12))]] ++ [.lst [.bl (decide (lv 4 d ≤ 12)), .bl (decide (lv 4 d ≤ 12))]], ?_, ((p4.trans p5).trans (Px.push _ _)).trans (Px.push _ _)⟩
  generalize (decide (lv 4 d ≤ 12)) = b at *
  have q1 : bReprC [.loc s2.length] (s2 ++ [.lst [.bl b, .bl b]]) = some (.str (PyData.list [.bool b, .bool b]).shown, s2 ++ [.lst [.bl b, .bl b]]) := repr2 b b (by simp)
  have q2 : bReprC [.loc (s5.length + 1)] (s5 ++ [.lst [.bl b], .lst [.bl b, .bl b]]) = some (.str (PyData.list [.bool b, .bool b]).shown, s5 ++ [.lst [.bl b], .lst [.bl b, .bl b]]) := repr2 b b (by simp)
  simp [m__law_right, finM, b__law_right, sRet, eOp, eCB, aCons, aNil, eLst, eCall, eCallK, eVar, eC, R.bind, R.of, h1, h2, h5', pick, opLe, cmpI, c, opMul, lsOf, q1, q2, opEq_strs, R.thenO]
end K12
namespace K12
open PySem PySem.Spec PyProof.Rows L2 Mi
/-! ### steps -/
theorem asg_nm {e : ME} {i : Nat} {σ : SlD} {s s1 : Store} {d : D} (h : e σ s = .ok d s1) : sAsg e (gNm i) σ s = .nx (σ.set i (some d)) s1 := by simp [sAsg, h, gNm, setD]
theorem seq_nx {a b : MS} {σ σ1 : SlD} {s s1 : Store} (h : a σ s = .nx σ1 s1) : sSeq a b σ s = b σ1 s1 := by simp [sSeq, h]
theorem seq_rt {a b : MS} {σ : SlD} {s s1 : Store} {d : D} (h : a σ s = .rt d s1) : sSeq a b σ s = .rt d s1 := by simp [sSeq, h]
theorem if_t {t : MT} {a b : MS} {σ : SlD} {s s1 : Store} (h : t σ s = .ok true s1) : sIf t a b σ s = a σ s1 := by simp [sIf, h]
theorem if_f {t : MT} {a b : MS} {σ : SlD} {s s1 : Store} (h : t σ s = .ok false s1) : sIf t a b σ s = b σ s1 := by simp [sIf, h]
theorem ret_ok {e : ME} {σ : SlD} {s s1 : Store} {d : D} (h : e σ s = .ok d s1) : sRet e σ s = .rt d s1 := by simp [sRet, h]
/-! ### the pot -/
structure Ex (p : Nat) (s s' : Store) : Prop where
  le : s.length ≤ s'.length
  at_ : ∀ i, i < s.length → i ≠ p → s'[i]? = s[i]?
  pot : ∀ ys, s[p]? = some (.lst ys) → ∃ zs, s'[p]? = some (.lst zs)
  dct : ∀ i : Nat, s[i]? = some (.dK []) → s'[i]? = some (.dK [])
theorem Ex.refl (p : Nat) (s : Store) : Ex p s s := ⟨Nat.le_refl _, fun _ _ _ => rfl, fun ys h => ⟨ys, h⟩, fun _ h => h⟩
theorem Ex.trans {p : Nat} {a b c : Store} (h : Ex p a b) (k : Ex p b c) : Ex p a c :=
  ⟨Nat.le_trans h.le k.le, fun i hi hp => (k.at_ i (Nat.lt_of_lt_of_le hi h.le) hp).trans (h.at_ i hi hp), fun ys e => let ⟨zs, z⟩ := h.pot ys e; k.pot zs z, fun i e => k.dct i (h.dct i e)⟩
theorem Px.ex {p : Nat} {s s' : Store} (h : Px s s') : Ex p s s' := ⟨h.le, fun i hi _ => h.at_ i hi, fun ys e => ⟨ys, h.get e⟩, fun i e => h.get e⟩
theorem Ex.set {p : Nat} {s : Store} {ys zs : List D} (e : s[p]? = some (.lst ys)) : Ex p s (s.set p (.lst zs)) :=
  ⟨by simp, fun i hi hp => by rw [List.getElem?_set_ne (Ne.symm hp)], fun _ _ => ⟨zs, by rw [List.getElem?_set_self (lt_of_get e)]⟩, fun i h => by
    have q : p ≠ i := fun z => by subst z; rw [e] at h; cases h
    rw [List.getElem?_set_ne q]; exact h⟩
theorem Wf.ex {p : Nat} {s s' : Store} (h : Ex p s s') : ∀ {d : D}, Wf s d → Wf s' d
  | _, .non => .non
  | _, .bl b => .bl b
  | _, .int i => .int i
  | _, .str x hx => .str x hx
  | _, .tup xs hl hx => .tup xs hl fun x hm => Wf.ex h (hx x hm)
  | _, .lst i xs e => by
    by_cases q : i = p
    · subst q; obtain ⟨zs, z⟩ := h.pot xs e; exact .lst i zs z
    · exact .lst i xs (by rw [h.at_ i (lt_of_get e) q]; exact e)
  | _, .dct i e => .dct i (h.dct i e)
def Pot (n p : Nat) (s : Store) : Prop := ∃ a b c : Int, s[p]? = some (.lst [.int a, .int b, .int c]) ∧ 0 ≤ a ∧ 0 ≤ b ∧ b < 2 ^ 61 ∧ 0 ≤ c ∧ c ≤ n
theorem Pot.up {n m p : Nat} {s : Store} (h : Pot n p s) (hm : n ≤ m) : Pot m p s := by
  obtain ⟨a, b, c, h1, h2, h3, h4, h5, h6⟩ := h
  exact ⟨a, b, c, h1, h2, h3, h4, h5, by omega⟩
theorem Pot.px {n p : Nat} {s s' : Store} (h : Pot n p s) (k : Px s s') : Pot n p s' := by
  obtain ⟨a, b, c, h1, h2⟩ := h
  exact ⟨a, b, c, k.get h1, h2⟩
theorem lg {x : Int} {k : Nat} (hk : 0 < k) (h : x.natAbs < 2 ^ k) : x.natAbs.log2 < k := by
  by_cases q : x.natAbs = 0
  · rw [q]; simpa using hk
  · exact (Nat.log2_lt q).mpr h
theorem pow_ok {x : Int} (j : Nat) (hj : j ≤ 5) (h0 : 0 ≤ x) (h : x < 2 ^ 100) : (x.natAbs.log2 + 1) * j ≤ 100000000 := by
  have : x.natAbs.log2 < 100 := lg (by decide) (by omega)
  have : (x.natAbs.log2 + 1) * j ≤ 100 * 5 := Nat.mul_le_mul (by omega) hj
  omega
theorem take_ok {n p : Nat} {s : Store} {many : Int} (h : Pot n p s) (hn : n ≤ 1000000) (hm : 0 < many) (hm2 : many < 2 ^ 200) :
    ∃ r s', m__law_take [.loc p, .int many] s = .ok (.int r) s' ∧ 0 ≤ r ∧ r < many ∧ Pot (n + 1) p s' ∧ Ex p s s' := by
  obtain ⟨a, b, c, h1, h2, h3, h4, h5, h6⟩ := h
  have hls : lsOf s p = some [.int a, .int b, .int c] := by unfold lsOf; rw [h1]
  by_cases ha : 0 < a
  · have hlg : many.natAbs.log2 < 9000 := Nat.lt_trans (lg (k := 200) (by decide) (by omega)) (by decide)
    refine ⟨a % many, s.set p (.lst [.int (a / many), .int b, .int c]), ?_, Int.emod_nonneg _ (by omega), Int.emod_lt_of_pos _ hm, ⟨a / many, b, c, by rw [List.getElem?_set_self (lt_of_get h1)], Int.ediv_nonneg h2 (by omega), h3, h4, h5, by omega⟩, Ex.set h1⟩
    simp [m__law_take, finM, b__law_take, sSeq, sIf, tB', eOp, eVar, eC, R.bind, R.of, ixD, hls, atI, ixN, opGt, cmpI, ha, R.thenO, sAsg, opMod, hm, gNm, setD, opDiv, hlg, gSb, setL3, sRet]
  · have ha0 : a = 0 := by omega
    subst ha0
    have m1 : ∀ (x y : Int) (s : Store), x.natAbs < 2 ^ 100 → y.natAbs < 2 ^ 100 → opMul (.int x) (.int y) s = some (.int (x * y), s) := fun x y s hx hy => by
      have k1 := lg (k := 100) (by decide) hx
      have k2 := lg (k := 100) (by decide) hy
      have k3 : x.natAbs.log2 + y.natAbs.log2 < 1000000 := by omega
      simp only [opMul, if_pos k3]
    have p1 : ∀ (x : Int) (j : Nat) (s : Store), j ≤ 5 → 0 ≤ x → x < 2 ^ 100 → opPow (.int x) (.int (j : Int)) s = some (.int (x ^ j), s) := fun x j s hj h0 hx => by
      have k1 : 0 ≤ (j : Int) ∧ (x.natAbs.log2 + 1) * (j : Int).toNat ≤ 100000000 := ⟨by omega, by simpa using pow_ok j hj h0 hx⟩
      simp only [opPow, if_pos k1]
      simp
    have o0 : 0 ≤ (b + 104677 * (c + 1)) ^ 3 % 2305843009213693921 := Int.emod_nonneg _ (by decide)
    have o1 : (b + 104677 * (c + 1)) ^ 3 % 2305843009213693921 < 2305843009213693921 := Int.emod_lt_of_pos _ (by decide)
    have o2 : 0 ≤ b % 65519 := Int.emod_nonneg _ (by decide)
    have o3 : b % 65519 < 65519 := Int.emod_lt_of_pos _ (by decide)
    have e1 : ∀ s, opMul (.int 104677) (.int (c + 1)) s = some (.int (104677 * (c + 1)), s) := fun s => m1 _ _ s (by decide) (by omega)
    have e2 : ∀ s, opPow (.int (b + 104677 * (c + 1))) (.int 3) s = some (.int ((b + 104677 * (c + 1)) ^ 3), s) := fun s => p1 _ 3 s (by decide) (by omega) (by omega)
    have e3 : ∀ s, opMul (.int 41) (.int (c + 1)) s = some (.int (41 * (c + 1)), s) := fun s => m1 _ _ s (by decide) (by omega)
    have e4 : ∀ s, opPow (.int ((b + 104677 * (c + 1)) ^ 3 % 2305843009213693921 + b % 65519 + 41 * (c + 1))) (.int 5) s = some (.int (((b + 104677 * (c + 1)) ^ 3 % 2305843009213693921 + b % 65519 + 41 * (c + 1)) ^ 5), s) := fun s => p1 _ 5 s (by decide) (by omega) (by omega)
    have lg1 : Nat.log2 1024 < 9000 := by decide
    have hls1 : lsOf (s.set p (.lst [.int 0, .int b, .int (c + 1)])) p = some [.int 0, .int b, .int (c + 1)] := by unfold lsOf; rw [List.getElem?_set_self (lt_of_get h1)]
    refine ⟨((b + 104677 * (c + 1)) ^ 3 % 2305843009213693921 + b % 65519 + 41 * (c + 1)) ^ 5 % 2305843009213693907 / 1024 % many, s.set p (.lst [.int 0, .int b, .int (c + 1)]), ?_, Int.emod_nonneg _ (by omega), Int.emod_lt_of_pos _ hm, ⟨0, b, c + 1, by rw [List.getElem?_set_self (lt_of_get h1)], by omega, h3, h4, by omega, by omega⟩, Ex.set h1⟩
    simp [m__law_take, finM, b__law_take, sSeq, sIf, tB', eOp, eVar, eC, R.bind, R.of, ixD, hls, hls1, atI, ixN, opGt, cmpI, R.thenO, sNil, sAsg, opAdd, gSb, setL3, setD, gNm, e1, e2, e3, e4, opMod, hm, opDiv, sRet, lg1]
end K12
namespace K12
open PySem PySem.Spec PyProof.Rows L2 Mi
theorem mul_ok {x y : Int} (s : Store) (hx : x.natAbs < 2 ^ 3000) (hy : y.natAbs < 2 ^ 3000) : opMul (.int x) (.int y) s = some (.int (x * y), s) := by
  have k1 := lg (k := 3000) (by decide) hx
  have k2 := lg (k := 3000) (by decide) hy
  have k3 : x.natAbs.log2 + y.natAbs.log2 < 1000000 := by omega
  simp only [opMul, if_pos k3]
theorem pw_ok {x : Int} (j : Nat) (s : Store) (hj : j ≤ 100) (hx : x.natAbs < 2 ^ 3000) : opPow (.int x) (.int (j : Int)) s = some (.int (x ^ j), s) := by
  have k1 : 0 ≤ (j : Int) ∧ (x.natAbs.log2 + 1) * (j : Int).toNat ≤ 100000000 := by
    have k1 := lg (k := 3000) (by decide) hx
    have : (x.natAbs.log2 + 1) * j ≤ 3000 * 100 := Nat.mul_le_mul (by omega) hj
    exact ⟨by omega, by simp; omega⟩
  simp only [opPow, if_pos k1]
  simp
theorem tens : ∃ T M U : Int, (∀ s, opPow (.int 10) (.int 60) s = some (.int T, s)) ∧ (∀ s, opPow (.int T) (.int 10) s = some (.int M, s)) ∧ (∀ s, opPow (.int 10) (.int 18) s = some (.int U, s)) ∧ 0 < M ∧ M.natAbs < 2 ^ 2000 := by
  refine ⟨10 ^ 60, (10 ^ 60) ^ 10, 10 ^ 18, fun s => pw_ok 60 s (by decide) (by decide +kernel), fun s => pw_ok 10 s (by decide) (by decide +kernel), fun s => pw_ok 18 s (by decide) (by decide +kernel), by decide +kernel, by decide +kernel⟩
theorem pot_ok {s : Store} {ns : List Int} {k : Nat} (hk : k < 12) : ∃ s', m__law_pot [.scr ns, .int k] s = .ok (.loc s.length) s' ∧ Pot 0 s.length s' ∧ Px s s' := by
  obtain ⟨T, M, U, t1, t2, t3, t4, t5⟩ := tens
  have key : ∃ cell : Int, 0 ≤ cell ∧ cell < M ∧ (sSeq (sAsg (eC (.int 0)) (gNm 2)) (sIf (tB' (eOp opLt (eVar 1) (eCB bLen (aCons (eVar 0) aNil)))) (sAsg (eOp opMod (eCB bAbs (aCons (eOp ixD (eVar 0) (eVar 1)) aNil)) (eOp opPow (eOp opPow (eC (.int 10)) (eC (.int 60))) (eC (.int 10)))) (gNm 2)) sNil)) [some (.scr ns), some (.int k), none, none] s = .nx [some (.scr ns), some (.int k), some (.int cell), none] s := by
    by_cases h : k < ns.length
    · have h' : (k : Int) < ns.length := by omega
      have h2 : ns[k]? = some ns[k] := List.getElem?_eq_getElem h
      refine ⟨(if ns[k] < 0 then -ns[k] else ns[k]) % M, Int.emod_nonneg _ (by omega), Int.emod_lt_of_pos _ t4, ?_⟩
      simp [sSeq, sAsg, eC, R.thenO, gNm, setD, sIf, tB', eOp, eVar, R.bind, eCB, aCons, aNil, bLen, R.of, opLt, cmpI, h', bAbs, ixD, atI, ixN, h2, t1, t2, opMod, t4, h]
    · have h' : ¬ (k : Int) < ns.length := by omega
      refine ⟨0, Int.le_refl _, t4, ?_⟩
      simp [sSeq, sAsg, eC, R.thenO, gNm, setD, sIf, tB', eOp, eVar, R.bind, eCB, aCons, aNil, bLen, R.of, opLt, cmpI, h', sNil]
  obtain ⟨cell, c0, c1, c2⟩ := key
  have c3 : cell.natAbs < 2 ^ 3000 := by
    have : M.natAbs < 2 ^ 3000 := Nat.lt_trans t5 (by decide +kernel)
    omega
  have o0 : 0 ≤ cell % 2147483579 := Int.emod_nonneg _ (by decide)
  have o1 : cell % 2147483579 < 2147483579 := Int.emod_lt_of_pos _ (by decide)
  have big : (2 : Nat) ^ 100 ≤ 2 ^ 3000 := by decide +kernel
  have e1 : ∀ s, opMul (.int 5987) (.int k) s = some (.int (5987 * k), s) := fun s => mul_ok s (Nat.lt_of_lt_of_le (by decide) big) (Nat.lt_of_lt_of_le (by omega) big)
  have e2 : ∀ s, opPow (.int (cell % 2147483579 + 5987 * k + 1)) (.int 5) s = some (.int ((cell % 2147483579 + 5987 * k + 1) ^ 5), s) := fun s => pw_ok 5 s (by decide) (Nat.lt_of_lt_of_le (by omega) big)
  have e3 : ∀ s, opMul (.int cell) (.int 1) s = some (.int (cell * 1), s) := fun s => mul_ok s c3 (Nat.lt_of_lt_of_le (by decide) big)
  have e4 : ∀ s, opMul (.int cell) (.int 0) s = some (.int (cell * 0), s) := fun s => mul_ok s c3 (Nat.lt_of_lt_of_le (by decide) big)
  refine ⟨s ++ [.lst [.int (if U ≤ cell then cell else 0), .int ((cell % 2147483579 + 5987 * k + 1) ^ 5 % 2305843009213693951), .int 0]], ?_, ⟨if U ≤ cell then cell else 0, (cell % 2147483579 + 5987 * k + 1) ^ 5 % 2305843009213693951, 0, by rw [List.getElem?_append_right (Nat.le_refl _)]; simp, ?_, Int.emod_nonneg _ (by decide), ?_, Int.le_refl _, Int.le_refl _⟩, Px.push _ _⟩
  · have split2 : ∀ (a b r : MS) σ s σ1 s1, (sSeq a b) σ s = .nx σ1 s1 → sSeq a (sSeq b r) σ s = r σ1 s1 := fun a b r σ s σ1 s1 h => by
      simp only [sSeq] at h ⊢
      cases q : a σ s with
      | nx σ2 s2 => rw [q] at h; simp only at h ⊢; rw [h]
      | _ => rw [q] at h; cases h
    have e := split2 _ _ (sSeq (sAsg (eOp opMod (eOp opPow (eOp opAdd (eOp opAdd (eOp opMod (eVar 2) (eC (.int 2147483579))) (eOp opMul (eC (.int 5987)) (eVar 1))) (eC (.int 1))) (eC (.int 5))) (eC (.int 2305843009213693951))) (gNm 3)) (sRet (eLst (aCons (eOp opMul (eVar 2) (eCB bInt (aCons (eOp opGe (eVar 2) (eOp opPow (eC (.int 10)) (eC (.int 18)))) aNil))) (aCons (eVar 3) (aCons (eC (.int 0)) aNil)))))) _ _ _ _ c2
    unfold m__law_pot finM b__law_pot
    show (match (sSeq _ _) [some (.scr ns), some (.int k), none, none] s with
      | .nx _ s1 => R.ok D.non s1
      | .rt d s1 => .ok d s1
      | .exc x _ s1 => .exc x s1
      | _ => .no) = _
    rw [e]
    by_cases hU : U ≤ cell
    · simp [sSeq, sAsg, eOp, eVar, eC, R.bind, R.of, opMod, e1, opAdd, e2, R.thenO, gNm, setD, sRet, eLst, aCons, aNil, eCB, t3, opGe, cmpI, hU, bInt, e3]
    · simp [sSeq, sAsg, eOp, eVar, eC, R.bind, R.of, opMod, e1, opAdd, e2, R.thenO, gNm, setD, sRet, eLst, aCons, aNil, eCB, t3, opGe, cmpI, hU, bInt, e4]
  · by_cases hU : U ≤ cell
    · rw [if_pos hU]; exact c0
    · rw [if_neg hU]; exact Int.le_refl _
  · have := Int.emod_lt_of_pos ((cell % 2147483579 + 5987 * k + 1) ^ 5) (show (0 : Int) < 2305843009213693951 by decide)
    have h2 : (2305843009213693951 : Int) < 2 ^ 61 := by decide +kernel
    omega
end K12
namespace K12
open PySem PySem.Spec PyProof.Rows L2 Mi
/-- small data without places -/
inductive Ws : D → Prop
  | int (i : Int) : Ws (.int i)
  | str (x : Str) : x.length ≤ 1000 → Ws (.str x)
  | tup (xs : List D) : xs.length ≤ 10 → (∀ x ∈ xs, Ws x) → Ws (.tup xs)
theorem Ws.wf {s : Store} : ∀ {d : D}, Ws d → Wf s d
  | _, .int i => .int i
  | _, .str x h => .str x h
  | _, .tup xs hl hx => .tup xs (by omega) fun x hm => Ws.wf (hx x hm)
theorem Pot.lt {n p : Nat} {s : Store} (h : Pot n p s) : p < s.length := by
  obtain ⟨a, b, c, h1, _⟩ := h
  exact lt_of_get h1
theorem Pot.ne {n p l : Nat} {s : Store} {o : SO} (h : Pot n p s) (hl : l ≠ p) : Pot n p (s.set l o) := by
  obtain ⟨a, b, c, h1, h2⟩ := h
  exact ⟨a, b, c, by rw [List.getElem?_set_ne hl]; exact h1, h2⟩
theorem Ex.new {p l : Nat} {s0 s : Store} {o : SO} (h : Ex p s0 s) (hl : s0.length ≤ l) (hp : l ≠ p) : Ex p s0 (s.set l o) :=
  ⟨by simpa using h.le, fun i hi hne => by rw [List.getElem?_set_ne (by omega)]; exact h.at_ i hi hne, fun ys e => by rw [List.getElem?_set_ne hp]; exact h.pot ys e, fun i e => by
    have := lt_of_get e
    rw [List.getElem?_set_ne (by omega)]; exact h.dct i e⟩
theorem cons_ok {e : ME} {r : MA} {σ : SlD} {s s1 s2 : Store} {d : D} {ds : List D} (h : e σ s = .ok d s1) (k : r σ s1 = .ok ds s2) : aCons e r σ s = .ok (d :: ds) s2 := by simp [aCons, h, k]
theorem tup_ok {r : MA} {σ : SlD} {s s1 : Store} {ds : List D} (h : r σ s = .ok ds s1) (hl : ds.length ≤ 100) : eTup r σ s = .ok (.tup ds) s1 := by
  have : ds.length ≤ 16777216 := by omega
  simp [eTup, h, this]
theorem lst_ok {r : MA} {σ : SlD} {s s1 : Store} {ds : List D} (h : r σ s = .ok ds s1) (hl : ds.length ≤ 100) : eLst r σ s = .ok (.loc s1.length) (s1 ++ [.lst ds]) := by
  have : ds.length ≤ 16777216 := by omega
  simp [eLst, h, this]
theorem if_nil {t : MT} {a : MS} {σ : SlD} {s s1 : Store} (h : t σ s = .ok false s1) : sIf t a sNil σ s = .nx σ s1 := by simp [sIf, h, sNil]
/-- a draw -/
theorem draw {σ : SlD} {n p : Nat} {s : Store} (many : Int) (h : Pot n p s) (hσ : σ[0]? = some (some (.loc p))) (hn : n ≤ 1000000) (hm : 0 < many := by decide) (hm2 : many < 2 ^ 200 := by decide) :
    ∃ r s', eCall 2 m__law_take (aCons (eVar 0) (aCons (eC (.int many)) aNil)) σ s = .ok (.int r) s' ∧ 0 ≤ r ∧ r < many ∧ Pot (n + 1) p s' ∧ Ex p s s' := by
  obtain ⟨r, s', h1, h2⟩ := take_ok h hn hm hm2
  exact ⟨r, s', by simp [eCall, aCons, eVar, hσ, eC, aNil, R.bind, h1], h2⟩
/-- one of a written list, drawn -/
theorem draws {σ : SlD} {n p : Nat} {s s1 : Store} {ra : MA} {items : List D} (many : Int) (ha : ra σ s = .ok items s1) (h : Pot n p s1) (hσ : σ[0]? = some (some (.loc p))) (hn : n ≤ 1000000) (hl : (items.length : Int) = many) (hm : 0 < many := by decide) (hm2 : many < 1000 := by decide) :
    ∃ d s', eOp ixD (eLst ra) (eCall 2 m__law_take (aCons (eVar 0) (aCons (eC (.int many)) aNil))) σ s = .ok d s' ∧ d ∈ items ∧ Pot (n + 1) p s' ∧ Ex p s1 s' := by
  have px := Px.push s1 (.lst items)
  obtain ⟨r, s', h1, h2, h3, h4, h5⟩ := draw (σ := σ) many (h.px px) hσ hn hm (by omega)
  have hlt := h.lt
  have g : lsOf s' s1.length = some items := by
    unfold lsOf
    rw [h5.at_ s1.length (by simp) (by omega), List.getElem?_append_right (Nat.le_refl _)]
    simp
  have hr : r.toNat < items.length := by omega
  have ix : atI items r = some items[r.toNat] := by
    have h6 : ixN items.length r = some r.toNat := by
      unfold ixN
      rw [if_pos h2, if_pos (by omega)]
    unfold atI
    rw [h6]
    exact List.getElem?_eq_getElem hr
  refine ⟨items[r.toNat], s', ?_, List.getElem_mem hr, h4, px.ex.trans h5⟩
  have hz : items.length ≤ 16777216 := by omega
  have e1 : eLst ra σ s = .ok (.loc s1.length) (s1 ++ [.lst items]) := by simp only [eLst, ha, R.bind, if_pos hz]
  simp only [eOp, e1, R.bind, h1, ixD, g, ix, Option.map, R.of]
def cost : Nat → Nat
  | 0 => 8
  | n + 1 => 8 + 3 * cost n
theorem small_str (z : String) (h : (Str.ofString z).length ≤ 1000 := by decide +kernel) : Ws (.str z) := .str _ h
/-- a row of things, each made with the pot -/
theorem lc_pot {f : SlD → Store → R D} {P : D → Prop} {c : Nat} {σ : SlD} {g : MG} {n p m : Nat} {s : Store} {J : MI} (hJ : J.n = m) (hm : m ≤ 1000) (hfin : ∀ s, J.fin s = true) (hit : ∀ i s, i < m → ∃ d, J.item i s = some (d, s) ∧ ∃ as, g d σ s = some (as, s) ∧ ∀ k s1, k + c ≤ n + m * c → Pot k p s1 → Ex p s s1 → ∃ y s2, f (setD σ as) s1 = .ok y s2 ∧ P y ∧ Pot (k + c) p s2 ∧ Ex p s1 s2)
    (hitem : ∀ i s d, J.item i s = some (d, s) → ∀ s', J.item i s' = some (d, s')) (hg : ∀ d s as, g d σ s = some (as, s) → ∀ s', g d σ s' = some (as, s')) (hp : Pot n p s) :
    ∃ acc s', lcL J g tYesM f σ s.length J.n 0 (s ++ [.lst []]) = .ok (.loc s.length) s' ∧ s'[s.length]? = some (.lst acc) ∧ acc.length = m ∧ (∀ y ∈ acc, P y) ∧ Pot (n + m * c) p s' ∧ Ex p s s' := by
  have hlt := hp.lt
  obtain ⟨acc, s1, r1, r2, r3, r4, r5, r6⟩ := lc_inv (J := J) (g := g) (t := tYesM) (e := f) (σ0 := σ) (l := s.length) (n := m)
    (fun i acc s1 => Pot (n + i * c) p s1 ∧ Ex p s s1 ∧ acc.length = i ∧ ∀ y ∈ acc, P y) (by omega) (fun _ s _ => hfin s) (fun i acc s1 hi hs ⟨h1, h2, h3, h4⟩ => by
      obtain ⟨d, e1, as, e2, e3⟩ := hit i s hi
      have hk : n + i * c + c ≤ n + m * c := by
        have := Nat.mul_le_mul_right c hi
        rw [Nat.succ_mul] at this
        omega
      obtain ⟨y, s2, f1, f2, f3, f4⟩ := e3 _ s1 hk h1 h2
      have hs2 : s2[s.length]? = some (.lst acc) := by rw [f4.at_ _ (lt_of_get hs) (by omega)]; exact hs
      refine ⟨d, s1, as, s1, true, s1, hitem i s d e1 s1, hg d s as e2 s1, rfl, .inr ⟨rfl, y, s2, f1, hs2, (f3.ne (by omega)).up (by rw [Nat.succ_mul]; omega), (h2.trans f4).new (Nat.le_refl _) (by omega), by simp [h3], fun z hz => ?_⟩⟩
      rcases List.mem_append.mp hz with hz | hz
      · exact h4 z hz
      · simp at hz; rw [hz]; exact f2) J.n 0 [] (s ++ [.lst []]) (by omega) (Nat.le_refl _) (by simp) ⟨by simpa using hp.px (Px.push _ _), (Px.push _ _).ex, rfl, fun y hy => by cases hy⟩
  exact ⟨acc, s1, r1, r2, r5, r6, r3, r4⟩
theorem test_ok : ∀ (N deep n p : Nat) (s : Store), deep < N → Pot n p s → n + cost deep ≤ 1000000 → ∃ d s', m__law_test N [.loc p, .int deep] s = .ok d s' ∧ Ws d ∧ (∃ w r, d = .tup (w :: r)) ∧ Pot (n + cost deep) p s' ∧ Ex p s s'
  | 0, deep, n, p, s, h, _, _ => by omega
  | N + 1, deep, n, p, s, hd, hp, hn => by
    have hc : 8 ≤ cost deep := by cases deep <;> simp [cost] <;> omega
    have fin : ∀ d s', b__law_test (m__law_test N) [some (.loc p), some (.int deep), none, none, none, none] s = .rt d s' → m__law_test (N + 1) [.loc p, .int deep] s = .ok d s' := fun d s' e => by
      simp [m__law_test, finM, e]
    obtain ⟨way, s1, w1, w2, w3, p1, x1⟩ := draw (σ := [some (.loc p), some (.int deep), none, none, none, none]) 9 hp rfl (by omega)
    by_cases hleaf : deep < 2 ∨ way < 4
    · have ht : (tOrM (tB' (eOp opLt (eVar 1) (eC (.int 2)))) (tB' (eOp opLt (eVar 2) (eC (.int 4))))) [some (.loc p), some (.int deep), some (.int way), none, none, none] s1 = .ok true s1 := by
        by_cases h1 : deep < 2
        · have h1' : (deep : Int) < 2 := by omega
          simp [tOrM, tB', eOp, eVar, eC, R.bind, R.of, opLt, cmpI, h1']
        · have h1' : ¬ (deep : Int) < 2 := by omega
          have h2' : way < 4 := by omega
          simp [tOrM, tB', eOp, eVar, eC, R.bind, R.of, opLt, cmpI, h1', h2']
      obtain ⟨q, s2, q1, q2, q3, p2, x2⟩ := draw (σ := [some (.loc p), some (.int deep), some (.int way), none, none, none]) 3 p1 rfl (by omega)
      by_cases hq : q = 0
      · have ht2 : (tB' (eOp opEq (eCall 2 (m__law_take) (aCons (eVar 0) (aCons (eC (.int 3)) aNil))) (eC (.int 0)))) [some (.loc p), some (.int deep), some (.int way), none, none, none] s1 = .ok true s2 := by
          simp only [tB', eOp, q1, R.bind, eC, opEq_int, R.of, hq, decide_true]
        obtain ⟨k, s3, k1, k2, k3, p3, x3⟩ := draw (σ := [some (.loc p), some (.int deep), some (.int way), none, none, none]) 6 p2 rfl (by omega)
        obtain ⟨d, s4, d1, d2, p4, x4⟩ := draws (σ := [some (.loc p), some (.int deep), some (.int way), none, none, none]) (s := s2) (s1 := s3) (items := [.int 0, .int 1, .int 2, .int 12, .int k]) (ra := (aCons (eC (.int 0)) (aCons (eC (.int 1)) (aCons (eC (.int 2)) (aCons (eC (.int 12)) (aCons (eCall 2 (m__law_take) (aCons (eVar 0) (aCons (eC (.int 6)) aNil))) aNil)))))) 5 (by simp only [aCons, eC, R.bind, k1, aNil]) p3 rfl (by omega) rfl
        have wd : Ws d := by
          simp at d2
          rcases d2 with rfl | rfl | rfl | rfl | rfl <;> exact .int _
        refine ⟨.tup [.str "done", d], s4, fin _ _ ?_, .tup _ (by simp) (fun x hx => by simp at hx; rcases hx with rfl | rfl; exact small_str _; exact wd), ⟨_, _, rfl⟩, p4.up (by omega), (x1.trans x2).trans (x3.trans x4)⟩
        unfold b__law_test
        rw [seq_nx (asg_nm w1)]
        refine seq_rt ?_
        show sIf _ _ _ [some (.loc p), some (.int deep), some (.int way), none, none, none] s1 = _
        rw [if_t ht]
        refine seq_rt ?_
        rw [if_t ht2]
        refine ret_ok ?_
        simp only [eTup, aCons, d1, eC, R.bind, aNil]
        simp
      · have ht2 : (tB' (eOp opEq (eCall 2 (m__law_take) (aCons (eVar 0) (aCons (eC (.int 3)) aNil))) (eC (.int 0)))) [some (.loc p), some (.int deep), some (.int way), none, none, none] s1 = .ok false s2 := by
          simp only [tB', eOp, q1, R.bind, eC, opEq_int, R.of, hq, decide_false]
        obtain ⟨a, s3, a1, a2, p3, x3⟩ := draws (σ := [some (.loc p), some (.int deep), some (.int way), none, none, none]) (s := s2) (s1 := s2) (items := [.str "is", .str "least", .str "most"]) (ra := (aCons (eC (.str "is")) (aCons (eC (.str "least")) (aCons (eC (.str "most")) aNil)))) 3 (by simp only [aCons, eC, R.bind, aNil]) p2 rfl (by omega) rfl
        obtain ⟨b, s4, b1, b2, p4, x4⟩ := draws (σ := [some (.loc p), some (.int deep), some (.int way), none, some a, none]) (s := s3) (s1 := s3) (items := [.str "a", .str "a", .str "b", .str "go", .str "zz"]) (ra := (aCons (eC (.str "a")) (aCons (eC (.str "a")) (aCons (eC (.str "b")) (aCons (eC (.str "go")) (aCons (eC (.str "zz")) aNil)))))) 5 (by simp only [aCons, eC, R.bind, aNil]) p3 rfl (by omega) rfl
        obtain ⟨c, s5, c1, c2, p5, x5⟩ := draws (σ := [some (.loc p), some (.int deep), some (.int way), none, some a, none]) (s := s4) (s1 := s4) (items := [.int 0, .int 1, .int 2, .int 50, .int 99]) (ra := (aCons (eC (.int 0)) (aCons (eC (.int 1)) (aCons (eC (.int 2)) (aCons (eC (.int 50)) (aCons (eC (.int 99)) aNil)))))) 5 (by simp only [aCons, eC, R.bind, aNil]) p4 rfl (by omega) rfl
        have wa : Ws a := by simp at a2; rcases a2 with rfl | rfl | rfl <;> exact small_str _
        have wb : Ws b := by simp at b2; rcases b2 with rfl | rfl | rfl | rfl <;> exact small_str _
        have wc : Ws c := by simp at c2; rcases c2 with rfl | rfl | rfl | rfl | rfl <;> exact .int _
        refine ⟨.tup [a, b, c], s5, fin _ _ ?_, .tup _ (by simp) (fun x hx => by simp at hx; rcases hx with rfl | rfl | rfl; exact wa; exact wb; exact wc), ⟨_, _, rfl⟩, p5.up (by omega), (x1.trans x2).trans ((x3.trans x4).trans x5)⟩
        unfold b__law_test
        rw [seq_nx (asg_nm w1)]
        refine seq_rt ?_
        show sIf _ _ _ [some (.loc p), some (.int deep), some (.int way), none, none, none] s1 = _
        rw [if_t ht]
        rw [seq_nx (if_nil ht2)]
        rw [seq_nx (asg_nm a1)]
        refine ret_ok ?_
        exact tup_ok (cons_ok rfl (cons_ok b1 (cons_ok c1 rfl))) (by simp)
    · have hd2 : 2 ≤ deep := by omega
      have hw4 : 4 ≤ way := by omega
      obtain ⟨e, rfl⟩ : ∃ e, deep = e + 1 := ⟨deep - 1, by omega⟩
      have hcost : cost (e + 1) = 8 + 3 * cost e := rfl
      have hsub : ∀ x : Int, ((e + 1 : Nat) : Int) - 1 = (e : Int) := fun _ => by omega
      have hsub' : ((e : Int) + 1) - 1 = (e : Int) := by omega
      have ht : (tOrM (tB' (eOp opLt (eVar 1) (eC (.int 2)))) (tB' (eOp opLt (eVar 2) (eC (.int 4))))) [some (.loc p), some (.int (e + 1 : Nat)), some (.int way), none, none, none] s1 = .ok false s1 := by
        have h1' : ¬ (e : Int) + 1 < 2 := by omega
        have h2' : ¬ way < 4 := by omega
        simp [tOrM, tB', eOp, eVar, eC, R.bind, R.of, opLt, cmpI, h1', h2']
      by_cases h6 : way < 6
      · obtain ⟨d, s2, d1, d2, _, p2, x2⟩ := test_ok N e (n + 1) p s1 (by omega) p1 (by omega)
        have ht2 : (tB' (eOp opLt (eVar 2) (eC (.int 6)))) [some (.loc p), some (.int (e + 1 : Nat)), some (.int way), none, none, none] s1 = .ok true s1 := by
          simp [tB', eOp, eVar, eC, R.bind, R.of, opLt, cmpI, h6]
        refine ⟨.tup [.str "not", d], s2, fin _ _ ?_, .tup _ (by simp) (fun x hx => by simp at hx; rcases hx with rfl | rfl; exact small_str _; exact d2), ⟨_, _, rfl⟩, p2.up (by omega), x1.trans x2⟩
        unfold b__law_test
        rw [seq_nx (asg_nm w1)]
        show sSeq _ _ [some (.loc p), some (.int (e + 1 : Nat)), some (.int way), none, none, none] s1 = _
        rw [seq_nx (if_nil ht)]
        refine seq_rt ?_
        rw [if_t ht2]
        refine ret_ok ?_
        simp [eTup, aCons, eC, R.bind, aNil, eCall, eVar, eOp, opSub, R.of, hsub', d1]
      · have ht2 : (tB' (eOp opLt (eVar 2) (eC (.int 6)))) [some (.loc p), some (.int (e + 1 : Nat)), some (.int way), none, none, none] s1 = .ok false s1 := by
          simp [tB', eOp, eVar, eC, R.bind, R.of, opLt, cmpI, h6]
        obtain ⟨k, s2, k1, k2, k3, p2, x2⟩ := draw (σ := [some (.loc p), some (.int (e + 1 : Nat)), some (.int way), none, none, none]) 2 p1 rfl (by omega)
        have hk : 0 ≤ 2 + k ∧ 2 + k < 4 := by omega
        have hm3 : (2 + k).toNat ≤ 3 := by omega
        obtain ⟨acc, s3, r1, r2, r3, r4, p3, x3⟩ := lc_pot (f := eCall 2 (m__law_test N) (aCons (eVar 0) (aCons (eOp opSub (eVar 1) (eC (.int 1))) aNil))) (P := Ws) (c := cost e) (σ := [some (.loc p), some (.int (e + 1 : Nat)), some (.int way), none, none, none]) (g := gNm 5) (m := (2 + k).toNat) (J := ⟨(2 + k).toNat, fun i s => some (.int (0 + (i : Nat)), s), fun _ => true⟩)
          rfl (by omega) (fun _ => rfl) (fun i s hi => ⟨_, rfl, _, rfl, fun k' s1 hk' q1 q2 => by
            have hle : (2 + k).toNat * cost e ≤ 3 * cost e := Nat.mul_le_mul_right _ hm3
            obtain ⟨d, s', z1, z2, _, z3, z4⟩ := test_ok N e k' p s1 (by omega) q1 (by omega)
            exact ⟨d, s', by simp [eCall, aCons, eVar, setD, eC, eOp, opSub, R.bind, R.of, aNil, hsub', z1], z2, z3, z4⟩⟩) (fun i s d h s' => by cases h; rfl) (fun d s as h s' => by cases h; rfl) p2
        have hle : (2 + k).toNat * cost e ≤ 3 * cost e := Nat.mul_le_mul_right _ hm3
        have l3 : lsOf s3 s2.length = some acc := by unfold lsOf; rw [r2]
        have h1 : eCB bTuple (aCons (eLc (iRg1 (aCons (eOp opAdd (eC (.int 2)) (eCall 2 (m__law_take) (aCons (eVar 0) (aCons (eC (.int 2)) aNil)))) aNil)) (gNm 5) tYesM (eCall 2 (m__law_test N) (aCons (eVar 0) (aCons (eOp opSub (eVar 1) (eC (.int 1))) aNil))) [5]) aNil) [some (.loc p), some (.int (e + 1 : Nat)), some (.int way), none, none, none] s1 = .ok (.tup acc) s3 := by
          have hr : -(2 ^ 62) ≤ 2 + k ∧ 2 + k < 2 ^ 62 := by omega
          have i1 : iRg1 (aCons (eOp opAdd (eC (.int 2)) (eCall 2 (m__law_take) (aCons (eVar 0) (aCons (eC (.int 2)) aNil)))) aNil) [some (.loc p), some (.int (e + 1 : Nat)), some (.int way), none, none, none] s1 = .ok ⟨(2 + k).toNat, fun i s => some (.int (0 + (i : Nat)), s), fun _ => true⟩ s2 := by
            simp only [iRg1, aCons, eOp, eC, R.bind, k1, opAdd, R.of, aNil, if_pos hr]
          have l1 : eLc (iRg1 (aCons (eOp opAdd (eC (.int 2)) (eCall 2 (m__law_take) (aCons (eVar 0) (aCons (eC (.int 2)) aNil)))) aNil)) (gNm 5) tYesM (eCall 2 (m__law_test N) (aCons (eVar 0) (aCons (eOp opSub (eVar 1) (eC (.int 1))) aNil))) [5] [some (.loc p), some (.int (e + 1 : Nat)), some (.int way), none, none, none] s1 = .ok (.loc s2.length) s3 := by
            simp only [eLc, i1, R.bind]
            exact r1
          simp only [eCB, aCons, l1, R.bind, aNil, bTuple, l3, Option.map, R.of]
        obtain ⟨a, s4, a1, a2, p4, x4⟩ := draws (σ := [some (.loc p), some (.int (e + 1 : Nat)), some (.int way), some (.tup acc), none, none]) (s := s3) (s1 := s3) (items := [.str "and", .str "or"]) (ra := (aCons (eC (.str "and")) (aCons (eC (.str "or")) aNil))) 2 (by simp only [aCons, eC, R.bind, aNil]) p3 rfl (by omega) rfl
        have wa : Ws a := by simp at a2; rcases a2 with rfl | rfl <;> exact small_str _
        have wt : Ws (.tup acc) := .tup acc (by omega) r4
        refine ⟨.tup [a, .tup acc], s4, fin _ _ ?_, .tup _ (by simp) (fun x hx => by simp at hx; rcases hx with rfl | rfl; exact wa; exact wt), ⟨_, _, rfl⟩, p4.up (by omega), (x1.trans x2).trans (x3.trans x4)⟩
        unfold b__law_test
        rw [seq_nx (asg_nm w1)]
        show sSeq _ _ [some (.loc p), some (.int (e + 1 : Nat)), some (.int way), none, none, none] s1 = _
        rw [seq_nx (if_nil ht), seq_nx (if_nil ht2), seq_nx (asg_nm h1)]
        refine ret_ok ?_
        show eTup _ [some (.loc p), some (.int (e + 1 : Nat)), some (.int way), some (.tup acc), none, none] s3 = _
        simp only [eTup, aCons, a1, R.bind, aNil]
        simp [eVar]
end K12
namespace K12
open PySem PySem.Spec PyProof.Rows L2 Mi
/-- a draw among so many as an expression tells -/
theorem drawE {σ : SlD} {n p : Nat} {s : Store} {em : ME} {many : Int} (hem : em σ s = .ok (.int many) s) (h : Pot n p s) (hσ : σ[0]? = some (some (.loc p))) (hn : n ≤ 1000000) (hm : 0 < many) (hm2 : many < 2 ^ 200) :
    ∃ r s', eCall 2 m__law_take (aCons (eVar 0) (aCons em aNil)) σ s = .ok (.int r) s' ∧ 0 ≤ r ∧ r < many ∧ Pot (n + 1) p s' ∧ Ex p s s' := by
  obtain ⟨r, s', h1, h2⟩ := take_ok h hn hm hm2
  exact ⟨r, s', by simp [eCall, aCons, eVar, hσ, hem, aNil, R.bind, h1], h2⟩
/-- an item of a list at a drawn place -/
theorem itemAt {σ : SlD} {p l : Nat} {s s1 s2 : Store} {el ei : ME} {items : List D} {r : Int} (ha : el σ s = .ok (.loc l) s1) (hl : s1[l]? = some (.lst items)) (hp : l ≠ p) (hi : ei σ s1 = .ok (.int r) s2) (x : Ex p s1 s2) (h0 : 0 ≤ r) (h1 : r < items.length) :
    ∃ d, eOp ixD el ei σ s = .ok d s2 ∧ d ∈ items := by
  have g : lsOf s2 l = some items := by
    unfold lsOf
    rw [x.at_ l (lt_of_get hl) hp, hl]
  have hr : r.toNat < items.length := by omega
  have ix : atI items r = some items[r.toNat] := by
    have h6 : ixN items.length r = some r.toNat := by
      unfold ixN
      rw [if_pos h0, if_pos h1]
    unfold atI
    rw [h6]
    exact List.getElem?_eq_getElem hr
  exact ⟨items[r.toNat], by simp only [eOp, ha, R.bind, hi, ixD, g, ix, Option.map, R.of], List.getElem_mem hr⟩
/-- two lists joined -/
theorem join_ok {σ : SlD} {s s1 s2 : Store} {ea eb : ME} {i j : Nat} {xs ys : List D} (ha : ea σ s = .ok (.loc i) s1) (hb : eb σ s1 = .ok (.loc j) s2) (hi : s2[i]? = some (.lst xs)) (hj : s2[j]? = some (.lst ys)) (hl : xs.length + ys.length ≤ 1000) :
    eOp opAdd ea eb σ s = .ok (.loc s2.length) (s2 ++ [.lst (xs ++ ys)]) := by
  have h1 : lsOf s2 i = some xs := by unfold lsOf; rw [hi]
  have h2 : lsOf s2 j = some ys := by unfold lsOf; rw [hj]
  have h3 : xs.length + ys.length ≤ 16777216 := by omega
  simp only [eOp, ha, hb, R.bind, opAdd, h1, h2, if_pos h3, R.of]
theorem odd_ok {n p : Nat} {s : Store} (h : Pot n p s) (hn : n + 2 ≤ 1000000) : ∃ d s', m__law_odd [.loc p] s = .ok d s' ∧ Wf s' d ∧ Pot (n + 2) p s' ∧ Ex p s s' := by
  have e39 : eOp opPow (eC (.int 10)) (eC (.int 39)) [some (.loc p), none, none] s = .ok (.int (10 ^ 39)) s := by
    have := pw_ok (x := 10) 39 s (by decide) (by decide +kernel)
    have h2 : opPow (.int 10) (.int 39) s = some (.int (10 ^ 39), s) := this
    simp only [eOp, eC, R.bind, h2, R.of]
  obtain ⟨far, s1, f1, f2, f3, p1, x1⟩ := drawE e39 h rfl (by omega) (by decide +kernel) (by decide +kernel)
  have items : ∃ items s2, (aCons (eC .non) (aCons (eC (.bl true)) (aCons (eC (.bl false)) (aCons (eUn unNeg (eC (.int 1))) (aCons (eC (.int 0)) (aCons (eC (.int 1)) (aCons (eC (.int 100)) (aCons (eVar 1) (aCons (eOp opSub (eC (.int 0)) (eVar 1)) (aCons (eC (.str "")) (aCons (eC (.str "a")) (aCons (eC (.str "is")) (aCons (eC (.str "done")) (aCons (eC (.str "all")) (aCons (eTup aNil) (aCons (eLst aNil) (aCons (eDict0) (aCons (eTup (aCons (eC (.int 0)) aNil)) (aCons (eTup (aCons (eTup aNil) aNil)) aNil))))))))))))))))))) [some (.loc p), some (.int far), none] s1 = .ok items s2 ∧ items.length = 19 ∧ Px s1 s2 ∧ ∀ x ∈ items, Wf s2 x := by
    refine ⟨[.non, .bl true, .bl false, .int (-1), .int 0, .int 1, .int 100, .int far, .int (0 - far), .str "", .str "a", .str "is", .str "done", .str "all", .tup [], .loc s1.length, .loc (s1 ++ [SO.lst []]).length, .tup [.int 0], .tup [.tup []]], s1 ++ [.lst []] ++ [.dK []], rfl, rfl, (Px.push _ _).trans (Px.push _ _), ?_⟩
    intro x hx
    simp only [List.mem_cons, List.not_mem_nil, or_false] at hx
    have te : Wf (s1 ++ [.lst []] ++ [.dK []]) (.tup []) := .tup [] (by simp) fun z hz => by cases hz
    rcases hx with rfl | rfl | rfl | rfl | rfl | rfl | rfl | rfl | rfl | rfl | rfl | rfl | rfl | rfl | rfl | rfl | rfl | rfl | rfl
    · exact .non
    · exact .bl _
    · exact .bl _
    · exact .int _
    · exact .int _
    · exact .int _
    · exact .int _
    · exact .int _
    · exact .int _
    · exact (small_str "").wf
    · exact (small_str "a").wf
    · exact (small_str "is").wf
    · exact (small_str "done").wf
    · exact (small_str "all").wf
    · exact te
    · exact .lst _ [] (by simp)
    · exact .dct _ (by simp)
    · exact .tup _ (by simp) fun z hz => by simp at hz; rw [hz]; exact .int _
    · exact .tup _ (by simp) fun z hz => by simp at hz; rw [hz]; exact te
  obtain ⟨items, s2, i1, i2, i3, i4⟩ := items
  have l1 := lst_ok i1 (by omega)
  have tl : eLst (aCons (eTup (aCons (eC (.str "end")) aNil)) aNil) [some (.loc p), some (.int far), some (.loc s2.length)] (s2 ++ [.lst items]) = .ok (.loc (s2 ++ [SO.lst items]).length) (s2 ++ [.lst items] ++ [.lst [.tup [.str "end"]]]) := rfl
  have jn := join_ok (σ := [some (.loc p), some (.int far), some (.loc s2.length)]) (s := s2 ++ [.lst items]) (ea := eVar 2) (xs := items) (ys := [.tup [.str "end"]]) (i := s2.length) rfl tl (by simp) (by simp) (by simp; omega)
  have px : Px s1 (s2 ++ [.lst items] ++ [.lst [.tup [.str "end"]]] ++ [.lst (items ++ [.tup [.str "end"]])]) := i3.trans ((Px.push _ _).trans ((Px.push _ _).trans (Px.push _ _)))
  have px2 : Px s2 (s2 ++ [.lst items] ++ [.lst [.tup [.str "end"]]] ++ [.lst (items ++ [.tup [.str "end"]])]) := (Px.push _ _).trans ((Px.push _ _).trans (Px.push _ _))
  obtain ⟨r, s3, r1, r2, r3, p3, x3⟩ := draw (σ := [some (.loc p), some (.int far), some (.loc s2.length)]) 20 (p1.px px) rfl (by omega)
  have hlt := p1.lt
  have hle := i3.le
  obtain ⟨d, d1, d2⟩ := itemAt (p := p) jn (items := items ++ [.tup [.str "end"]]) (by rw [List.getElem?_append_right (Nat.le_refl _)]; simp) (by simp; omega) r1 x3 r2 (by simp; omega)
  have wd : Wf s2 d := by
    rcases List.mem_append.mp d2 with hd | hd
    · exact i4 d hd
    · simp at hd; rw [hd]; exact .tup _ (by simp) fun z hz => by simp at hz; rw [hz]; exact (small_str "end").wf
  refine ⟨d, s3, ?_, (wd.px px2).ex x3, p3, x1.trans (px.ex.trans x3)⟩
  have e : b__law_odd [some (.loc p), none, none] s = .rt d s3 := by
    unfold b__law_odd
    rw [seq_nx (asg_nm f1)]
    show sSeq _ _ [some (.loc p), some (.int far), none] s1 = _
    rw [seq_nx (asg_nm l1)]
    exact ret_ok d1
  simp [m__law_odd, finM, e]
end K12
namespace K12
open PySem PySem.Spec PyProof.Rows L2 Mi
theorem cut_mem {xs : List D} {lo hi : Option Int} {x : D} (h : x ∈ cutL xs lo hi) : x ∈ xs := List.mem_of_mem_drop (List.mem_of_mem_take h)
theorem cut_len (xs : List D) (lo hi : Option Int) : (cutL xs lo hi).length ≤ xs.length := by
  unfold cutL
  simp only [List.length_take, List.length_drop]
  omega
abbrev tCond : MT := (tOrM (tNotM (tTru (eCB bIsi (aCons (eVar 1) (aCons (eC (.ty "tuple")) aNil))))) (tOrM (tB' (eOp opEq (eVar 1) (eTup aNil))) (tB' (eOp opEq (eVar 2) (eC (.int 0))))))
abbrev tNum : MT := (tAndM (tTru (eCB bIsi (aCons (eVar 1) (aCons (eC (.ty "int")) aNil)))) (tAndM (tNotM (tTru (eCB bIsi (aCons (eVar 1) (aCons (eC (.ty "bool")) aNil))))) (tB' (eOp opGt (eCall 2 (m__law_take) (aCons (eVar 0) (aCons (eC (.int 3)) aNil))) (eC (.int 0))))))
theorem bent_fin {N : Nat} {p : Nat} {h dp : D} {s s' : Store} {d : D} (e : b__law_bent (m__law_bent N) [some (.loc p), some h, some dp, none, none, none] s = .rt d s') : m__law_bent (N + 1) [.loc p, h, dp] s = .ok d s' := by
  simp [m__law_bent, finM, e]
/-- what isn't gone into, no number: something odd -/
theorem bent_odd {N n p : Nat} {h dp : D} {s : Store} (c : tCond [some (.loc p), some h, some dp, none, none, none] s = .ok true s) (t : tNum [some (.loc p), some h, some dp, none, none, none] s = .ok false s) (hp : Pot n p s) (hn : n + 10 ≤ 1000000) :
    ∃ d' s', m__law_bent (N + 1) [.loc p, h, dp] s = .ok d' s' ∧ Wf s' d' ∧ Pot (n + 10) p s' ∧ Ex p s s' := by
  obtain ⟨d, s', o1, o2, o3, o4⟩ := odd_ok hp (by omega)
  refine ⟨d, s', bent_fin ?_, o2, o3.up (by omega), o4⟩
  unfold b__law_bent
  refine seq_rt ?_
  rw [if_t c, seq_nx (if_nil t)]
  refine ret_ok ?_
  simp [eCall, aCons, eVar, aNil, R.bind, o1]
theorem bent_ok : ∀ (N deep n p : Nat) (s : Store) (h : D), deep < N → Ws h → Pot n p s → n + 10 * (deep + 1) ≤ 1000000 → ∃ d' s', m__law_bent N [.loc p, h, .int deep] s = .ok d' s' ∧ Wf s' d' ∧ Pot (n + 10 * (deep + 1)) p s' ∧ Ex p s s'
  | 0, deep, n, p, s, h, hd, _, _, _ => by omega
  | N + 1, deep, n, p, s, h, hd, hw, hp, hn => by
    cases hw with
    | str x hx =>
      obtain ⟨d, s', h1, h2, h3, h4⟩ := bent_odd (N := N) (h := .str x) (dp := .int deep) (s := s) (n := n) (p := p) (by simp [tCond, tOrM, tNotM, tTru, eCB, aCons, eVar, eC, aNil, R.bind, bIsi, tyD, isiB, tyNames, R.of, tru]) (by simp [tNum, tAndM, tTru, eCB, aCons, eVar, eC, aNil, R.bind, bIsi, tyD, isiB, tyNames, R.of, tru]) hp (by omega)
      exact ⟨d, s', h1, h2, h3.up (by omega), h4⟩
    | int i =>
      have c : tCond [some (.loc p), some (.int i), some (.int deep), none, none, none] s = .ok true s := by simp [tCond, tOrM, tNotM, tTru, eCB, aCons, eVar, eC, aNil, R.bind, bIsi, tyD, isiB, tyNames, R.of, tru]
      obtain ⟨k, s1, k1, k2, k3, p1, x1⟩ := draw (σ := [some (.loc p), some (.int i), some (.int deep), none, none, none]) 3 hp rfl (by omega)
      by_cases hk : 0 < k
      · have t : tNum [some (.loc p), some (.int i), some (.int deep), none, none, none] s = .ok true s1 := by
          have e1 : tB' (eOp opGt (eCall 2 (m__law_take) (aCons (eVar 0) (aCons (eC (.int 3)) aNil))) (eC (.int 0))) [some (.loc p), some (.int i), some (.int deep), none, none, none] s = .ok true s1 := by
            simp only [tB', eOp, k1, R.bind, eC, opGt, cmpI, R.of, hk, decide_true]
          simp [tNum, tAndM, tNotM, tTru, eCB, aCons, eVar, eC, aNil, R.bind, bIsi, tyD, isiB, tyNames, R.of, tru]
          exact e1
        obtain ⟨a, s2, a1, a2, p2, x2⟩ := draws (σ := [some (.loc p), some (.int i), some (.int deep), none, none, none]) (s := s1) (s1 := s1) (items := [.int 1, .int (-1), .int 13, .int 99]) (ra := (aCons (eC (.int 1)) (aCons (eUn unNeg (eC (.int 1))) (aCons (eC (.int 13)) (aCons (eC (.int 99)) aNil))))) 4 rfl p1 rfl (by omega) rfl
        obtain ⟨j, rfl⟩ : ∃ j, a = .int j := by simp at a2; rcases a2 with rfl | rfl | rfl | rfl <;> exact ⟨_, rfl⟩
        refine ⟨.int (i + j), s2, bent_fin ?_, .int _, p2.up (by omega), x1.trans x2⟩
        unfold b__law_bent
        refine seq_rt ?_
        rw [if_t c]
        refine seq_rt ?_
        rw [if_t t]
        refine ret_ok ?_
        have e0 : eVar 1 [some (.loc p), some (.int i), some (.int deep), none, none, none] s1 = .ok (.int i) s1 := rfl
        rw [eOp, e0]
        simp only [R.bind, a1, opAdd, R.of]
      · have t : tNum [some (.loc p), some (.int i), some (.int deep), none, none, none] s = .ok false s1 := by
          have e1 : tB' (eOp opGt (eCall 2 (m__law_take) (aCons (eVar 0) (aCons (eC (.int 3)) aNil))) (eC (.int 0))) [some (.loc p), some (.int i), some (.int deep), none, none, none] s = .ok false s1 := by
            simp only [tB', eOp, k1, R.bind, eC, opGt, cmpI, R.of, hk, decide_false]
          simp [tNum, tAndM, tNotM, tTru, eCB, aCons, eVar, eC, aNil, R.bind, bIsi, tyD, isiB, tyNames, R.of, tru]
          exact e1
        obtain ⟨d, s', o1, o2, o3, o4⟩ := odd_ok p1 (by omega)
        refine ⟨d, s', bent_fin ?_, o2, o3.up (by omega), x1.trans o4⟩
        unfold b__law_bent
        refine seq_rt ?_
        rw [if_t c, seq_nx (if_nil t)]
        refine ret_ok ?_
        simp [eCall, aCons, eVar, aNil, R.bind, o1]
    | tup xs hl hx =>
      have tn : tNum [some (.loc p), some (.tup xs), some (.int deep), none, none, none] s = .ok false s := by simp [tNum, tAndM, tTru, eCB, aCons, eVar, eC, aNil, R.bind, bIsi, tyD, isiB, tyNames, R.of, tru]
      by_cases hc : xs = [] ∨ deep = 0
      · have c : tCond [some (.loc p), some (.tup xs), some (.int deep), none, none, none] s = .ok true s := by
          by_cases h1 : xs = []
          · simp [tCond, tOrM, tNotM, tTru, tB', eOp, eTup, eCB, aCons, eVar, eC, aNil, R.bind, bIsi, tyD, isiB, tyNames, R.of, tru, opEq_nil, h1]
          · have h2 : deep = 0 := by rcases hc with h | h; exact absurd h h1; exact h
            simp [tCond, tOrM, tNotM, tTru, tB', eOp, eTup, eCB, aCons, eVar, eC, aNil, R.bind, bIsi, tyD, isiB, tyNames, R.of, tru, opEq_nil, opEq_int, h1, h2]
        obtain ⟨d, s', h1, h2, h3, h4⟩ := bent_odd (N := N) (h := .tup xs) (dp := .int deep) (s := s) (n := n) (p := p) c tn hp (by omega)
        exact ⟨d, s', h1, h2, h3.up (by omega), h4⟩
      · have hne : xs ≠ [] := fun z => hc (.inl z)
        have hd0 : deep ≠ 0 := fun z => hc (.inr z)
        obtain ⟨e, rfl⟩ : ∃ e, deep = e + 1 := ⟨deep - 1, by omega⟩
        have hd1 : ¬ (e : Int) + 1 = 0 := by omega
        have hsub : ((e : Int) + 1) - 1 = (e : Int) := by omega
        have hlen : 0 < xs.length := List.length_pos_iff.mpr hne
        have c : tCond [some (.loc p), some (.tup xs), some (.int (e + 1 : Nat)), none, none, none] s = .ok false s := by
          simp [tCond, tOrM, tNotM, tTru, tB', eOp, eTup, eCB, aCons, eVar, eC, aNil, R.bind, bIsi, tyD, isiB, tyNames, R.of, tru, opEq_nil, opEq_int, hne, hd1]
        have lenE : eCB bLen (aCons (eVar 1) aNil) [some (.loc p), some (.tup xs), some (.int (e + 1 : Nat)), none, none, none] s = .ok (.int xs.length) s := rfl
        have h200 : (xs.length : Int) < 2 ^ 200 := Int.lt_of_le_of_lt (show (xs.length : Int) ≤ 10 by omega) (by decide +kernel)
        obtain ⟨at_, s1, k1, k2, k3, p1, x1⟩ := drawE lenE hp rfl (by omega) (by omega) h200
        obtain ⟨way, s2, w1, w2, w3, p2, x2⟩ := draw (σ := [some (.loc p), some (.tup xs), some (.int (e + 1 : Nat)), none, none, none]) 12 p1 rfl (by omega)
        have par : sPar 3 4 (aCons (eCall 2 (m__law_take) (aCons (eVar 0) (aCons (eCB bLen (aCons (eVar 1) aNil)) aNil))) (aCons (eCall 2 (m__law_take) (aCons (eVar 0) (aCons (eC (.int 12)) aNil))) aNil)) [some (.loc p), some (.tup xs), some (.int (e + 1 : Nat)), none, none, none] s = .nx [some (.loc p), some (.tup xs), some (.int (e + 1 : Nat)), some (.int at_), some (.int way), none] s2 := by
          have := cons_ok k1 (cons_ok w1 (show aNil _ s2 = .ok [] s2 from rfl))
          simp only [sPar, this, R.thenO]
          rfl
        have up : ∀ {s' : Store} {lo hi : Option Int} {x : D}, x ∈ cutL xs lo hi → Wf s' x := fun hm => (hx _ (cut_mem hm)).wf
        have cl := fun lo hi => cut_len xs lo hi
        have slE : ∀ (lo hi : MP) (l h : Option Int) (s' : Store) (σ : SlD), σ[1]? = some (some (.tup xs)) → lo σ s' = .ok l s' → hi σ s' = .ok h s' → eSl (eVar 1) lo hi σ s' = .ok (.tup (cutL xs l h)) s' := fun lo hi l h s' σ hs h1 h2 => by
          simp only [eSl, eVar, hs, R.bind, h1, h2, slD, R.of]
        by_cases h8 : way < 8
        · have hat : at_.toNat < xs.length := by omega
          have ix : atI xs at_ = some xs[at_.toNat] := by
            have h6 : ixN xs.length at_ = some at_.toNat := by
              unfold ixN
              rw [if_pos k2, if_pos k3]
            unfold atI
            rw [h6]
            exact List.getElem?_eq_getElem hat
          obtain ⟨d', s3, b1, b2, b3, b4⟩ := bent_ok N e (n + 1 + 1) p s2 xs[at_.toNat] (by omega) (hx _ (List.getElem_mem hat)) p2 (by omega)
          have t8 : tB' (eOp opLt (eVar 4) (eC (.int 8))) [some (.loc p), some (.tup xs), some (.int (e + 1 : Nat)), some (.int at_), some (.int way), none] s2 = .ok true s2 := by
            simp [tB', eOp, eVar, eC, R.bind, R.of, opLt, cmpI, h8]
          have sA := slE pNo (pI (eVar 3)) none (some at_) s2 [some (.loc p), some (.tup xs), some (.int (e + 1 : Nat)), some (.int at_), some (.int way), none] rfl rfl rfl
          have sB := slE (pI (eOp opAdd (eVar 3) (eC (.int 1)))) pNo (some (at_ + 1)) none s3 [some (.loc p), some (.tup xs), some (.int (e + 1 : Nat)), some (.int at_), some (.int way), none] rfl rfl rfl
          have rc : eTup (aCons (eCall 3 (m__law_bent N) (aCons (eVar 0) (aCons (eOp ixD (eVar 1) (eVar 3)) (aCons (eOp opSub (eVar 2) (eC (.int 1))) aNil)))) aNil) [some (.loc p), some (.tup xs), some (.int (e + 1 : Nat)), some (.int at_), some (.int way), none] s2 = .ok (.tup [d']) s3 := by
            simp [eTup, aCons, eCall, eVar, eOp, ixD, ix, R.of, R.bind, eC, opSub, aNil, hsub, b1]
          have c1 := cl none (some at_)
          have c2 := cl (some (at_ + 1)) none
          have z1 : (cutL xs none (some at_)).length + [d'].length ≤ 16777216 := by simp; omega
          have z2 : (cutL xs none (some at_) ++ [d']).length + (cutL xs (some (at_ + 1)) none).length ≤ 16777216 := by simp; omega
          refine ⟨.tup (cutL xs none (some at_) ++ [d'] ++ cutL xs (some (at_ + 1)) none), s3, bent_fin ?_, .tup _ (by simp; omega) (fun x hm => ?_), b3.up (by omega), (x1.trans x2).trans b4⟩
          · unfold b__law_bent
            rw [seq_nx (if_nil c), seq_nx par]
            refine seq_rt ?_
            rw [if_t t8]
            refine ret_ok ?_
            rw [eOp, eOp, sA]
            simp only [R.bind, rc, opAdd, if_pos z1, R.of]
            rw [sB]
            simp only [R.bind, opAdd, if_pos z2, R.of]
          · rcases List.mem_append.mp hm with hm | hm
            · rcases List.mem_append.mp hm with hm | hm
              · exact up hm
              · simp at hm; rw [hm]; exact b2
            · exact up hm
        · have t8 : tB' (eOp opLt (eVar 4) (eC (.int 8))) [some (.loc p), some (.tup xs), some (.int (e + 1 : Nat)), some (.int at_), some (.int way), none] s2 = .ok false s2 := by
            simp [tB', eOp, eVar, eC, R.bind, R.of, opLt, cmpI, h8]
          obtain ⟨o, s3, o1, o2, o3, o4⟩ := odd_ok p2 (by omega)
          have hsl := fun (lo hi : MP) (l h : Option Int) h1 h2 => slE lo hi l h s2 [some (.loc p), some (.tup xs), some (.int (e + 1 : Nat)), some (.int at_), some (.int way), none] rfl h1 h2
          have sA := hsl pNo (pI (eVar 3)) none (some at_) rfl rfl
          have sB := hsl (pI (eOp opAdd (eVar 3) (eC (.int 1)))) pNo (some (at_ + 1)) none rfl rfl
          have sC := hsl (pI (eVar 3)) (pI (eOp opAdd (eVar 3) (eC (.int 1)))) (some at_) (some (at_ + 1)) rfl rfl
          have sD := hsl (pI (eVar 3)) pNo (some at_) none rfl rfl
          have c1 := cl none (some at_)
          have c2 := cl (some (at_ + 1)) none
          have c3 := cl (some at_) (some (at_ + 1))
          have c4 := cl (some at_) none
          have z1 : (cutL xs none (some at_)).length + (cutL xs (some (at_ + 1)) none).length ≤ 16777216 := by omega
          have z2 : (cutL xs none (some at_)).length + (cutL xs (some at_) (some (at_ + 1))).length ≤ 16777216 := by omega
          have z3 : (cutL xs none (some at_) ++ cutL xs (some at_) (some (at_ + 1))).length + (cutL xs (some at_) none).length ≤ 16777216 := by rw [List.length_append]; omega
          have z4 : xs.length + [o].length ≤ 16777216 := by simp; omega
          have eA : eOp opAdd (eSl (eVar 1) pNo (pI (eVar 3))) (eSl (eVar 1) (pI (eOp opAdd (eVar 3) (eC (.int 1)))) pNo) [some (.loc p), some (.tup xs), some (.int (e + 1 : Nat)), some (.int at_), some (.int way), none] s2 = .ok (.tup (cutL xs none (some at_) ++ cutL xs (some (at_ + 1)) none)) s2 := by
            rw [eOp, sA]; simp only [R.bind]; rw [sB]; simp only [R.bind, opAdd, if_pos z1, R.of]
          have eB : eOp opAdd (eOp opAdd (eSl (eVar 1) pNo (pI (eVar 3))) (eSl (eVar 1) (pI (eVar 3)) (pI (eOp opAdd (eVar 3) (eC (.int 1)))))) (eSl (eVar 1) (pI (eVar 3)) pNo) [some (.loc p), some (.tup xs), some (.int (e + 1 : Nat)), some (.int at_), some (.int way), none] s2 = .ok (.tup (cutL xs none (some at_) ++ cutL xs (some at_) (some (at_ + 1)) ++ cutL xs (some at_) none)) s2 := by
            rw [eOp, eOp, sA]; simp only [R.bind]; rw [sC]; simp only [R.bind, opAdd, if_pos z2, R.of]; rw [sD]; simp only [R.bind, opAdd, if_pos z3, R.of]
          have eC' : eOp opAdd (eVar 1) (eTup (aCons (eCall 1 (m__law_odd) (aCons (eVar 0) aNil)) aNil)) [some (.loc p), some (.tup xs), some (.int (e + 1 : Nat)), some (.int at_), some (.int way), none] s2 = .ok (.tup (xs ++ [o])) s3 := by
            have e0 : eVar 1 [some (.loc p), some (.tup xs), some (.int (e + 1 : Nat)), some (.int at_), some (.int way), none] s2 = .ok (.tup xs) s2 := rfl
            have e1 : eTup (aCons (eCall 1 (m__law_odd) (aCons (eVar 0) aNil)) aNil) [some (.loc p), some (.tup xs), some (.int (e + 1 : Nat)), some (.int at_), some (.int way), none] s2 = .ok (.tup [o]) s3 := by
              simp [eTup, aCons, eCall, eVar, R.bind, aNil, o1]
            rw [eOp, e0]; simp only [R.bind, e1, opAdd, if_pos z4, R.of]
          have lst := lst_ok (cons_ok eA (cons_ok eB (cons_ok eC' (show aNil _ s3 = .ok [] s3 from rfl)))) (by simp)
          have hall : ∀ x ∈ [D.tup (cutL xs none (some at_) ++ cutL xs (some (at_ + 1)) none), .tup (cutL xs none (some at_) ++ cutL xs (some at_) (some (at_ + 1)) ++ cutL xs (some at_) none), .tup (xs ++ [o])], Wf s3 x := by
            intro x hm
            simp only [List.mem_cons, List.not_mem_nil, or_false] at hm
            rcases hm with rfl | rfl | rfl
            · exact .tup _ (by simp; omega) fun z hz => by rcases List.mem_append.mp hz with hz | hz <;> exact up hz
            · exact .tup _ (by simp; omega) fun z hz => by
                rcases List.mem_append.mp hz with hz | hz
                · rcases List.mem_append.mp hz with hz | hz <;> exact up hz
                · exact up hz
            · exact .tup _ (by simp; omega) fun z hz => by
                rcases List.mem_append.mp hz with hz | hz
                · exact (hx z hz).wf
                · simp at hz; rw [hz]; exact o2
          have hlen3 : [D.tup (cutL xs none (some at_) ++ cutL xs (some (at_ + 1)) none), .tup (cutL xs none (some at_) ++ cutL xs (some at_) (some (at_ + 1)) ++ cutL xs (some at_) none), .tup (xs ++ [o])].length = 3 := rfl
          generalize [D.tup (cutL xs none (some at_) ++ cutL xs (some (at_ + 1)) none), .tup (cutL xs none (some at_) ++ cutL xs (some at_) (some (at_ + 1)) ++ cutL xs (some at_) none), .tup (xs ++ [o])] = items at *
          have bl : eLst (aCons (eCB bList (aCons (eVar 1) aNil)) aNil) [some (.loc p), some (.tup xs), some (.int (e + 1 : Nat)), some (.int at_), some (.int way), some (.loc s3.length)] (s3 ++ [.lst items]) = .ok (.loc (s3 ++ [SO.lst items] ++ [SO.lst xs]).length) (s3 ++ [.lst items] ++ [.lst xs] ++ [.lst [.loc (s3 ++ [SO.lst items]).length]]) := rfl
          have jn := join_ok (σ := [some (.loc p), some (.tup xs), some (.int (e + 1 : Nat)), some (.int at_), some (.int way), some (.loc s3.length)]) (s := s3 ++ [.lst items]) (ea := eVar 5) (i := s3.length) (xs := items) (ys := [.loc (s3 ++ [SO.lst items]).length]) rfl bl (by simp) (by simp) (by simp; omega)
          have px : Px s3 (s3 ++ [.lst items] ++ [.lst xs] ++ [.lst [.loc (s3 ++ [SO.lst items]).length]] ++ [.lst (items ++ [.loc (s3 ++ [SO.lst items]).length])]) := (Px.push _ _).trans ((Px.push _ _).trans ((Px.push _ _).trans (Px.push _ _)))
          have hlt := o3.lt
          have hnew : Wf (s3 ++ [.lst items] ++ [.lst xs] ++ [.lst [.loc (s3 ++ [SO.lst items]).length]] ++ [.lst (items ++ [.loc (s3 ++ [SO.lst items]).length])]) (.loc (s3 ++ [SO.lst items]).length) := .lst _ xs (by simp)
          have hat : (s3 ++ [.lst items] ++ [.lst xs] ++ [.lst [.loc (s3 ++ [SO.lst items]).length]] ++ [.lst (items ++ [.loc (s3 ++ [SO.lst items]).length])])[(s3 ++ [SO.lst items] ++ [SO.lst xs] ++ [SO.lst [.loc (s3 ++ [SO.lst items]).length]]).length]? = some (.lst (items ++ [.loc (s3 ++ [SO.lst items]).length])) := by
            rw [List.getElem?_append_right (Nat.le_refl _)]; simp
          obtain ⟨d, d1, d2⟩ := itemAt (p := p) (r := way - 8) jn hat (by simp; omega) (show eOp opSub (eVar 4) (eC (.int 8)) _ _ = _ from rfl) (Ex.refl p _) (by omega) (by simp; omega)
          refine ⟨d, _, bent_fin ?_, ?_, (o3.px px).up (by omega), ((x1.trans x2).trans o4).trans px.ex⟩
          · unfold b__law_bent
            rw [seq_nx (if_nil c), seq_nx par, seq_nx (if_nil t8), seq_nx (asg_nm lst)]
            exact ret_ok d1
          · rcases List.mem_append.mp d2 with hm | hm
            · exact (hall d hm).px px
            · simp only [List.mem_singleton] at hm; rw [hm]; exact hnew
end K12
namespace K12
open PySem PySem.Spec PyProof.Rows L2 Mi
/-- what is walked of a list -/
abbrev wkL (l : Nat) (ys : List D) : MI := ⟨ys.length, fun i s => match lsOf s l with
        | some xs => (xs[i]?).map fun d => (d, s)
        | none => none, fun s => match lsOf s l with
        | some xs => decide (xs.length ≤ ys.length)
        | none => false⟩
theorem iOf_list {e : ME} {σ : SlD} {s s1 : Store} {l : Nat} {ys : List D} (h : e σ s = .ok (.loc l) s1) (hl : s1[l]? = some (.lst ys)) : iOf e σ s = .ok (wkL l ys) s1 := by
  have g : lsOf s1 l = some ys := by unfold lsOf; rw [hl]
  simp only [iOf, h, R.bind, iSeq, g]
  all_goals rfl
/-- is_test over a list -/
theorem lc_tests {σ : SlD} {s : Store} {l : Nat} {ys : List D} (hσ : σ.length = 6) (hl : s[l]? = some (.lst ys)) (hn : ys.length ≤ 1000) (hw : ∀ y ∈ ys, Wf s y) :
    ∃ s', lcL (wkL l ys) (gNm 5) tYesM (eCall 1 (m_is_test) (aCons (eVar 5) aNil)) σ s.length ys.length 0 (s ++ [.lst []]) = .ok (.loc s.length) s' ∧ s'[s.length]? = some (.lst (ys.map fun d => .bl (decide (lv 4 d ≤ 12)))) ∧ Px s s' := by
  obtain ⟨acc, s1, r1, r2, r3, r4⟩ := lc_inv (J := wkL l ys) (g := gNm 5) (t := tYesM) (e := eCall 1 (m_is_test) (aCons (eVar 5) aNil)) (σ0 := σ) (l := s.length) (n := ys.length)
    (fun i acc s1 => Px s s1 ∧ acc = (ys.take i).map fun d => .bl (decide (lv 4 d ≤ 12))) (by omega) (fun acc s1 ⟨p, _⟩ => by
      have g : lsOf s1 l = some ys := by unfold lsOf; rw [p.get hl]
      simp [g]) (fun i acc s1 hi hs ⟨p, q⟩ => by
      have g : lsOf s1 l = some ys := by unfold lsOf; rw [p.get hl]
      have hc : ys[i]? = some ys[i] := List.getElem?_eq_getElem hi
      obtain ⟨s2, h1, h2⟩ := is_test_ok ((hw _ (List.getElem_mem hi)).px p)
      have hv : (σ.set 5 (some ys[i]))[5]? = some (some ys[i]) := by rw [List.getElem?_set_self (by omega)]
      refine ⟨ys[i], s1, [(5, ys[i])], s1, true, s1, by simp [g, hc], rfl, rfl, .inr ⟨rfl, .bl (decide (lv 4 ys[i] ≤ 12)), s2, by simp [eCall, aCons, aNil, eVar, setD, hv, R.bind, h1], h2.get hs, (p.trans h2).set (Nat.le_refl _), ?_⟩⟩
      rw [q, List.take_succ, hc, List.map_append]; rfl) ys.length 0 [] (s ++ [.lst []]) (by omega) (Nat.le_refl _) (by simp) ⟨Px.push _ _, by simp⟩
  rw [List.take_length] at r4
  rw [r4] at r2
  exact ⟨s1, r1, r2, r3⟩
theorem deqs_bools (s : Store) : ∀ bs : List Bool, deqs (deq s 60) (bs.map D.bl) (bs.map D.bl) = some true
  | [] => rfl
  | b :: bs => by
    have h : deq s 60 (.bl b) (.bl b) = some true := by cases b <;> rfl
    simp only [List.map_cons, deqs, h, deqs_bools s bs]
    rfl
theorem rep_ok {σ : SlD} {s : Store} {b : Bool} {i l : Nat} {xs : List D} (hσ : σ[i]? = some (some (.loc l))) (hl : s[l]? = some (.lst xs)) (hn : xs.length ≤ 1000) :
    eOp opMul (eLst (aCons (eC (.bl b)) aNil)) (eCB bLen (aCons (eVar i) aNil)) σ s = .ok (.loc (s ++ [SO.lst [.bl b]]).length) (s ++ [.lst [.bl b]] ++ [.lst ((List.replicate xs.length b).map D.bl)]) := by
  have h1 : (s ++ [SO.lst [.bl b]])[l]? = some (.lst xs) := (Px.push _ _).get hl
  have h2 : lsOf (s ++ [SO.lst [.bl b]]) s.length = some [.bl b] := by unfold lsOf; rw [List.getElem?_append_right (Nat.le_refl _)]; simp
  have h3 : -(2 ^ 63) ≤ (xs.length : Int) ∧ (xs.length : Int) < 2 ^ 63 ∧ [D.bl b].length * (xs.length : Int).toNat ≤ 16777216 := by
    refine ⟨by omega, by omega, ?_⟩
    simp; omega
  have h4 : (List.replicate xs.length [D.bl b]).flatten = (List.replicate xs.length b).map D.bl := by
    generalize xs.length = n
    induction n with
    | zero => rfl
    | succ n ih => simp only [List.replicate_succ, List.flatten_cons, List.map_cons, ih]; rfl
  have eL : eLst (aCons (eC (.bl b)) aNil) σ s = .ok (.loc s.length) (s ++ [.lst [.bl b]]) := rfl
  generalize s ++ [SO.lst [.bl b]] = s1 at *
  have eN : eCB bLen (aCons (eVar i) aNil) σ s1 = .ok (.int xs.length) s1 := by simp [eCB, aCons, eVar, hσ, R.bind, aNil, bLen, h1, R.of]
  rw [eOp, eL]
  simp only [R.bind, eN, opMul, h2, if_pos h3, R.of]
  rw [← h4]
  simp
/-! ### the written ones -/
def one : D := .tup [.str "is", .str "abcdef", .int 99]
def ten : D := .tup [.str "done", .int 12]
def four : D := .tup [.str "and", .tup [one, ten, one, ten]]
def good1 : List D := [one, ten, .tup [.str "least", .str "z", .int 0], .tup [.str "most", .str "a", .int 1], .tup [.str "done", .int 0], four, .tup [.str "not", .tup [.str "not", .tup [.str "not", one]]]]
def good2 : List D := [.tup [.str "or", .tup [four, four, four]], .tup [.str "or", .tup [one, ten]], .tup [.str "not", .tup [.str "not", four]]]
def bad1 : List D := [.tup [.str "is", .str "abcdefg", .int 1], .tup [.str "is", .str "", .int 1], .tup [.str "is", .str "aB", .int 1], .tup [.str "is", .str "a1", .int 1], .tup [.str "is", .str "a", .int 100], .tup [.str "is", .str "a", .bl true]]
def bad2 : List D := [.tup [.str "done", .int 13], .tup [.str "done", .int (-1)], .tup [.str "done", .bl true], .tup [.str "and", .tup [one]], .tup [.str "and", .tup [one, ten, one, ten, one]]]
def bad3 : List D := [.tup [.str "or", .tup [four, four, four, one]], .tup [.str "not", .tup [.str "not", .tup [.str "not", .tup [.str "not", one]]]]]
def bad4 (l : Nat) : List D := [.tup [.str "not", .tup [.str "not", .tup [.str "not", four]]], .tup [.str "xor", .tup [one, ten]], .tup [.str "and", .loc l], .tup [.str "and", one, ten]]
def bad5 : List D := [.tup [.str "is", .str "a"], .tup [.str "not"], .tup [.str "is", .tup [.str "a"], .int 1], .str "done", .tup [.str "done", .int 1, .int 1], .tup [.str "not", one, one], .tup [.str "is", .str "a", .int 1, .int 1]]
theorem told (l : Nat) : ((good1 ++ good2) ++ ((((bad1 ++ bad2) ++ bad3) ++ bad4 l) ++ bad5)).map (fun d => decide (lv 4 d ≤ 12)) = List.replicate 10 true ++ List.replicate 24 false := by
  kernel_rfl
end K12
namespace K12
open PySem PySem.Spec PyProof.Rows L2 Mi
theorem join_st {σ : SlD} {s s1 : Store} {i a : Nat} {ra : MA} {xs ys : List D} (hσ : σ[i]? = some (some (.loc a))) (ha : s[a]? = some (.lst xs)) (hr : ra σ s = .ok ys s1) (px : Px s s1) (h1 : xs.length ≤ 100) (h2 : ys.length ≤ 100) :
    ∃ c s2, sAsg (eOp opAdd (eVar i) (eLst ra)) (gNm i) σ s = .nx (σ.set i (some (.loc c))) s2 ∧ s2[c]? = some (.lst (xs ++ ys)) ∧ Px s1 s2 := by
  have e0 : eVar i σ s = .ok (.loc a) s := by simp only [eVar, hσ]
  have e1 := lst_ok hr h2
  have j := join_ok (ys := ys) e0 e1 (((px.trans (Px.push _ _)).get ha)) (by rw [List.getElem?_append_right (Nat.le_refl _)]; simp) (by omega)
  exact ⟨_, _, asg_nm j, by rw [List.getElem?_append_right (Nat.le_refl _)]; simp, (Px.push _ _).trans (Px.push _ _)⟩
theorem wfs (s : Store) (l : Nat) (hl : s[l]? = some (.lst [one, ten])) : ∀ y ∈ ((good1 ++ good2) ++ ((((bad1 ++ bad2) ++ bad3) ++ bad4 l) ++ bad5)), Wf s y := by
  have st : ∀ z : String, (Str.ofString z).length ≤ 1000 → Ws (.str (Str.ofString z)) := fun z h => .str _ h
  have t1 : ∀ a, Ws a → Ws (.tup [a]) := fun a h => .tup _ (by simp) fun x hx => by simp at hx; rw [hx]; exact h
  have t2 : ∀ a b, Ws a → Ws b → Ws (.tup [a, b]) := fun a b h k => .tup _ (by simp) fun x hx => by simp at hx; rcases hx with rfl | rfl; exact h; exact k
  have t3 : ∀ a b c, Ws a → Ws b → Ws c → Ws (.tup [a, b, c]) := fun a b c h k m => .tup _ (by simp) fun x hx => by simp at hx; rcases hx with rfl | rfl | rfl; exact h; exact k; exact m
  have t4 : ∀ a b c d, Ws a → Ws b → Ws c → Ws d → Ws (.tup [a, b, c, d]) := fun a b c d h k m n => .tup _ (by simp) fun x hx => by simp at hx; rcases hx with rfl | rfl | rfl | rfl; exact h; exact k; exact m; exact n
  have t5 : ∀ a b c d e, Ws a → Ws b → Ws c → Ws d → Ws e → Ws (.tup [a, b, c, d, e]) := fun a b c d e h k m n o => .tup _ (by simp) fun x hx => by simp at hx; rcases hx with rfl | rfl | rfl | rfl | rfl; exact h; exact k; exact m; exact n; exact o
  have w1 : Ws one := t3 _ _ _ (st "is" (by decide +kernel)) (st "abcdef" (by decide +kernel)) (.int _)
  have w2 : Ws ten := t2 _ _ (st "done" (by decide +kernel)) (.int _)
  have w4 : Ws four := t2 _ _ (st "and" (by decide +kernel)) (t4 _ _ _ _ w1 w2 w1 w2)
  have wn : ∀ a, Ws a → Ws (.tup [.str "not", a]) := fun a h => t2 _ _ (st "not" (by decide +kernel)) h
  have wo : ∀ a, Ws a → Ws (.tup [.str "or", a]) := fun a h => t2 _ _ (st "or" (by decide +kernel)) h
  have wa : ∀ a, Ws a → Ws (.tup [.str "and", a]) := fun a h => t2 _ _ (st "and" (by decide +kernel)) h
  have wd : ∀ a, Ws a → Ws (.tup [.str "done", a]) := fun a h => t2 _ _ (st "done" (by decide +kernel)) h
  have wi : ∀ (a : Str) (i : Int), a.length ≤ 1000 → Ws (.tup [.str "is", .str a, .int i]) := fun a i h => t3 _ _ _ (st "is" (by decide +kernel)) (.str _ h) (.int _)
  have ia : Wf s (.str "is") := (st "is" (by decide +kernel)).wf
  have aa : Wf s (.str "a") := (st "a" (by decide +kernel)).wf
  have an : Wf s (.str "and") := (st "and" (by decide +kernel)).wf
  have dn : Wf s (.str "done") := (st "done" (by decide +kernel)).wf
  intro y hy
  simp only [good1, good2, bad1, bad2, bad3, bad4, bad5, List.mem_append, List.mem_cons, List.not_mem_nil, or_false] at hy
  rcases hy with ((rfl | rfl | rfl | rfl | rfl | rfl | rfl) | (rfl | rfl | rfl)) | (((((rfl | rfl | rfl | rfl | rfl | rfl) | (rfl | rfl | rfl | rfl | rfl)) | (rfl | rfl)) | (rfl | rfl | rfl | rfl)) | (rfl | rfl | rfl | rfl | rfl | rfl | rfl))
  · exact w1.wf
  · exact w2.wf
  · exact (t3 _ _ _ (st "least" (by decide +kernel)) (st "z" (by decide +kernel)) (.int _)).wf
  · exact (t3 _ _ _ (st "most" (by decide +kernel)) (st "a" (by decide +kernel)) (.int _)).wf
  · exact (wd _ (.int _)).wf
  · exact w4.wf
  · exact (wn _ (wn _ (wn _ w1))).wf
  · exact (wo _ (t3 _ _ _ w4 w4 w4)).wf
  · exact (wo _ (t2 _ _ w1 w2)).wf
  · exact (wn _ (wn _ w4)).wf
  · exact (wi _ _ (by decide +kernel)).wf
  · exact (wi _ _ (by decide +kernel)).wf
  · exact (wi _ _ (by decide +kernel)).wf
  · exact (wi _ _ (by decide +kernel)).wf
  · exact (wi _ _ (by decide +kernel)).wf
  · exact .tup _ (by simp) fun x hx => by simp at hx; rcases hx with rfl | rfl | rfl; exact ia; exact aa; exact .bl _
  · exact (wd _ (.int _)).wf
  · exact (wd _ (.int _)).wf
  · exact .tup _ (by simp) fun x hx => by simp at hx; rcases hx with rfl | rfl; exact dn; exact .bl _
  · exact (wa _ (t1 _ w1)).wf
  · exact (wa _ (t5 _ _ _ _ _ w1 w2 w1 w2 w1)).wf
  · exact (wo _ (t4 _ _ _ _ w4 w4 w4 w1)).wf
  · exact (wn _ (wn _ (wn _ (wn _ w1)))).wf
  · exact (wn _ (wn _ (wn _ w4))).wf
  · exact (t2 _ _ (st "xor" (by decide +kernel)) (t2 _ _ w1 w2)).wf
  · exact .tup _ (by simp) fun x hx => by simp at hx; rcases hx with rfl | rfl; exact an; exact .lst _ _ hl
  · exact (t3 _ _ _ (st "and" (by decide +kernel)) w1 w2).wf
  · exact (t2 _ _ (st "is" (by decide +kernel)) (st "a" (by decide +kernel))).wf
  · exact (t1 _ (st "not" (by decide +kernel))).wf
  · exact (t3 _ _ _ (st "is" (by decide +kernel)) (t1 _ (st "a" (by decide +kernel))) (.int _)).wf
  · exact dn
  · exact (t3 _ _ _ (st "done" (by decide +kernel)) (.int _) (.int _)).wf
  · exact (t3 _ _ _ (st "not" (by decide +kernel)) w1 w1).wf
  · exact (t4 _ _ _ _ (st "is" (by decide +kernel)) (st "a" (by decide +kernel)) (.int _) (.int _)).wf
theorem teq_same {s : Store} {i j : Nat} {bs : List Bool} (hi : s[i]? = some (.lst (bs.map D.bl))) (hj : s[j]? = some (.lst (bs.map D.bl))) : teq s 60 (.loc i) (.loc j) = some true := by
  unfold teq
  simp only [kdOf, hi, hj]
  rw [if_pos True.intro]
  exact deqs_bools s bs
theorem written_ok (s : Store) : ∃ s', m__law_written [] s = .ok (.bl true) s' := by
  obtain ⟨c1, s2, j1, g1, x1⟩ := join_st (σ := [some one, some ten, some four, some (.loc s.length), none, none]) (s := s ++ [.lst good1]) (i := 3) (a := s.length) (xs := good1) (ys := good2) (s1 := s ++ [.lst good1]) (ra := (aCons (eTup (aCons (eC (.str "or")) (aCons (eTup (aCons (eVar 2) (aCons (eVar 2) (aCons (eVar 2) aNil)))) aNil))) (aCons (eTup (aCons (eC (.str "or")) (aCons (eTup (aCons (eVar 0) (aCons (eVar 1) aNil))) aNil))) (aCons (eTup (aCons (eC (.str "not")) (aCons (eTup (aCons (eC (.str "not")) (aCons (eVar 2) aNil))) aNil))) aNil)))) rfl (by simp) rfl (Px.refl _) (by decide) (by decide)
  have b1 : (s2 ++ [SO.lst bad1])[s2.length]? = some (.lst bad1) := by simp
  obtain ⟨c2, s3, j2, g2, x2⟩ := join_st (σ := [some one, some ten, some four, some (.loc c1), some (.loc s2.length), none]) (s := s2 ++ [.lst bad1]) (i := 4) (a := s2.length) (xs := bad1) (ys := bad2) (s1 := s2 ++ [.lst bad1]) (ra := (aCons (eTup (aCons (eC (.str "done")) (aCons (eC (.int 13)) aNil))) (aCons (eTup (aCons (eC (.str "done")) (aCons (eUn unNeg (eC (.int 1))) aNil))) (aCons (eTup (aCons (eC (.str "done")) (aCons (eC (.bl true)) aNil))) (aCons (eTup (aCons (eC (.str "and")) (aCons (eTup (aCons (eVar 0) aNil)) aNil))) (aCons (eTup (aCons (eC (.str "and")) (aCons (eTup (aCons (eVar 0) (aCons (eVar 1) (aCons (eVar 0) (aCons (eVar 1) (aCons (eVar 0) aNil)))))) aNil))) aNil)))))) rfl b1 rfl (Px.refl _) (by decide) (by decide)
  obtain ⟨c3, s4, j3, g3, x3⟩ := join_st (σ := [some one, some ten, some four, some (.loc c1), some (.loc c2), none]) (s := s3) (i := 4) (a := c2) (xs := bad1 ++ bad2) (ys := bad3) (s1 := s3) (ra := (aCons (eTup (aCons (eC (.str "or")) (aCons (eTup (aCons (eVar 2) (aCons (eVar 2) (aCons (eVar 2) (aCons (eVar 0) aNil))))) aNil))) (aCons (eTup (aCons (eC (.str "not")) (aCons (eTup (aCons (eC (.str "not")) (aCons (eTup (aCons (eC (.str "not")) (aCons (eTup (aCons (eC (.str "not")) (aCons (eVar 0) aNil))) aNil))) aNil))) aNil))) aNil))) rfl g2 rfl (Px.refl _) (by decide) (by decide)
  obtain ⟨c4, s5, j4, g4, x4⟩ := join_st (σ := [some one, some ten, some four, some (.loc c1), some (.loc c3), none]) (s := s4) (i := 4) (a := c3) (xs := bad1 ++ bad2 ++ bad3) (ys := bad4 s4.length) (s1 := s4 ++ [.lst [one, ten]]) (ra := (aCons (eTup (aCons (eC (.str "not")) (aCons (eTup (aCons (eC (.str "not")) (aCons (eTup (aCons (eC (.str "not")) (aCons (eVar 2) aNil))) aNil))) aNil))) (aCons (eTup (aCons (eC (.str "xor")) (aCons (eTup (aCons (eVar 0) (aCons (eVar 1) aNil))) aNil))) (aCons (eTup (aCons (eC (.str "and")) (aCons (eLst (aCons (eVar 0) (aCons (eVar 1) aNil))) aNil))) (aCons (eTup (aCons (eC (.str "and")) (aCons (eVar 0) (aCons (eVar 1) aNil)))) aNil))))) rfl g3 rfl (Px.push _ _) (by decide) (show 4 ≤ 100 by decide)
  have q4 : s5[s4.length]? = some (.lst [one, ten]) := x4.get (by simp)
  obtain ⟨c5, s6, j5, g5, x5⟩ := join_st (σ := [some one, some ten, some four, some (.loc c1), some (.loc c4), none]) (s := s5) (i := 4) (a := c4) (xs := bad1 ++ bad2 ++ bad3 ++ bad4 s4.length) (ys := bad5) (s1 := s5) (ra := (aCons (eTup (aCons (eC (.str "is")) (aCons (eC (.str "a")) aNil))) (aCons (eTup (aCons (eC (.str "not")) aNil)) (aCons (eTup (aCons (eC (.str "is")) (aCons (eTup (aCons (eC (.str "a")) aNil)) (aCons (eC (.int 1)) aNil)))) (aCons (eC (.str "done")) (aCons (eTup (aCons (eC (.str "done")) (aCons (eC (.int 1)) (aCons (eC (.int 1)) aNil)))) (aCons (eTup (aCons (eC (.str "not")) (aCons (eVar 0) (aCons (eVar 0) aNil)))) (aCons (eTup (aCons (eC (.str "is")) (aCons (eC (.str "a")) (aCons (eC (.int 1)) (aCons (eC (.int 1)) aNil))))) aNil)))))))) rfl g4 rfl (Px.refl _) (show 17 ≤ 100 by decide) (by decide)
  have q5 : s6[s4.length]? = some (.lst [one, ten]) := x5.get q4
  have q1 : s6[c1]? = some (.lst (good1 ++ good2)) := x5.get ((Px.push _ _).trans x4 |>.get (x3.get (x2.get ((Px.push _ _).get g1))))
  have hw := wfs s6 s4.length q5
  have ht := told s4.length
  have hlen : ((good1 ++ good2) ++ ((((bad1 ++ bad2) ++ bad3) ++ bad4 s4.length) ++ bad5)).length = 34 := rfl
  have l1 : (good1 ++ good2).length = 10 := rfl
  have l2 : ((((bad1 ++ bad2) ++ bad3) ++ bad4 s4.length) ++ bad5).length = 24 := rfl
  have e5 : (bad1 ++ bad2 ++ bad3 ++ bad4 s4.length ++ bad5) = ((((bad1 ++ bad2) ++ bad3) ++ bad4 s4.length) ++ bad5) := rfl
  rw [e5] at g5
  have sgood : (sAsg (eLst (aCons (eVar 0) (aCons (eVar 1) (aCons (eTup (aCons (eC (.str "least")) (aCons (eC (.str "z")) (aCons (eC (.int 0)) aNil)))) (aCons (eTup (aCons (eC (.str "most")) (aCons (eC (.str "a")) (aCons (eC (.int 1)) aNil)))) (aCons (eTup (aCons (eC (.str "done")) (aCons (eC (.int 0)) aNil))) (aCons (eVar 2) (aCons (eTup (aCons (eC (.str "not")) (aCons (eTup (aCons (eC (.str "not")) (aCons (eTup (aCons (eC (.str "not")) (aCons (eVar 0) aNil))) aNil))) aNil))) aNil)))))))) (gNm 3)) [some one, some ten, some four, none, none, none] s = .nx [some one, some ten, some four, some (.loc s.length), none, none] (s ++ [.lst good1]) := rfl
  have sbad : (sAsg (eLst (aCons (eTup (aCons (eC (.str "is")) (aCons (eC (.str "abcdefg")) (aCons (eC (.int 1)) aNil)))) (aCons (eTup (aCons (eC (.str "is")) (aCons (eC (.str "")) (aCons (eC (.int 1)) aNil)))) (aCons (eTup (aCons (eC (.str "is")) (aCons (eC (.str "aB")) (aCons (eC (.int 1)) aNil)))) (aCons (eTup (aCons (eC (.str "is")) (aCons (eC (.str "a1")) (aCons (eC (.int 1)) aNil)))) (aCons (eTup (aCons (eC (.str "is")) (aCons (eC (.str "a")) (aCons (eC (.int 100)) aNil)))) (aCons (eTup (aCons (eC (.str "is")) (aCons (eC (.str "a")) (aCons (eC (.bl true)) aNil)))) aNil))))))) (gNm 4)) [some one, some ten, some four, some (.loc c1), none, none] s2 = .nx [some one, some ten, some four, some (.loc c1), some (.loc s2.length), none] (s2 ++ [.lst bad1]) := rfl
  generalize ((((bad1 ++ bad2) ++ bad3) ++ bad4 s4.length) ++ bad5) = bads at *
  have jn := join_ok (σ := [some one, some ten, some four, some (.loc c1), some (.loc c5), none]) (ea := eVar 3) (eb := eVar 4) (s := s6) (s1 := s6) (s2 := s6) (i := c1) (j := c5) rfl rfl q1 g5 (by rw [l1, l2]; decide)
  obtain ⟨s8, r1, r2, r3⟩ := lc_tests (σ := [some one, some ten, some four, some (.loc c1), some (.loc c5), none]) (s := s6 ++ [.lst (good1 ++ good2 ++ bads)]) (l := s6.length) (ys := good1 ++ good2 ++ bads) rfl (by simp) (by rw [hlen]; decide) (fun y hy => (hw y hy).px (Px.push _ _))
  have hm : (good1 ++ good2 ++ bads).map (fun d => D.bl (decide (lv 4 d ≤ 12))) = (List.replicate 10 true ++ List.replicate 24 false).map D.bl := by
    rw [← ht, List.map_map]; rfl
  rw [hm] at r2
  have px8 : Px s6 s8 := (Px.push _ _).trans r3
  have t1 := rep_ok (σ := [some one, some ten, some four, some (.loc c1), some (.loc c5), none]) (s := s8) (b := true) (i := 3) (l := c1) (xs := good1 ++ good2) rfl (px8.get q1) (by rw [l1]; decide)
  have px9 : Px s8 (s8 ++ [.lst [.bl true]] ++ [.lst ((List.replicate (good1 ++ good2).length true).map D.bl)]) := (Px.push _ _).trans (Px.push _ _)
  have t2 := rep_ok (σ := [some one, some ten, some four, some (.loc c1), some (.loc c5), none]) (s := s8 ++ [.lst [.bl true]] ++ [.lst ((List.replicate (good1 ++ good2).length true).map D.bl)]) (b := false) (i := 4) (l := c5) (xs := bads) rfl (px9.get (px8.get g5)) (by rw [l2]; decide)
  have u1 : (s8 ++ [SO.lst [.bl true]] ++ [.lst ((List.replicate (good1 ++ good2).length true).map D.bl)])[(s8 ++ [SO.lst [.bl true]]).length]? = some (.lst ((List.replicate (good1 ++ good2).length true).map D.bl)) := by
    rw [List.getElem?_append_right (Nat.le_refl _)]; simp
  generalize (s8 ++ [SO.lst [.bl true]] ++ [.lst ((List.replicate (good1 ++ good2).length true).map D.bl)]) = s9 at *
  have px10 : Px s9 (s9 ++ [.lst [.bl false]] ++ [.lst ((List.replicate bads.length false).map D.bl)]) := (Px.push _ _).trans (Px.push _ _)
  have u2 : (s9 ++ [SO.lst [.bl false]] ++ [.lst ((List.replicate bads.length false).map D.bl)])[(s9 ++ [SO.lst [.bl false]]).length]? = some (.lst ((List.replicate bads.length false).map D.bl)) := by
    rw [List.getElem?_append_right (Nat.le_refl _)]; simp
  have jr := join_ok t1 t2 (px10.get u1) u2 (by simp only [List.length_map, List.length_replicate]; rw [l1, l2]; decide)
  rw [l1, l2, ← List.map_append] at jr
  have px11 : Px s8 (s9 ++ [SO.lst [D.bl false]] ++ [SO.lst ((List.replicate 24 false).map D.bl)] ++ [SO.lst ((List.replicate 10 true ++ List.replicate 24 false).map D.bl)]) := px9.trans (((Px.push _ _).trans (Px.push _ _)).trans (Px.push _ _))
  have v1 := px11.get r2
  have v2 : (s9 ++ [SO.lst [D.bl false]] ++ [SO.lst ((List.replicate 24 false).map D.bl)] ++ [SO.lst ((List.replicate 10 true ++ List.replicate 24 false).map D.bl)])[(s9 ++ [SO.lst [D.bl false]] ++ [SO.lst ((List.replicate 24 false).map D.bl)]).length]? = some (.lst ((List.replicate 10 true ++ List.replicate 24 false).map D.bl)) := by
    rw [List.getElem?_append_right (Nat.le_refl _)]; simp
  have te := teq_same v1 v2
  have lc : eLc (iOf (eOp opAdd (eVar 3) (eVar 4))) (gNm 5) tYesM (eCall 1 (m_is_test) (aCons (eVar 5) aNil)) [5] [some one, some ten, some four, some (.loc c1), some (.loc c5), none] s6 = .ok (.loc (s6 ++ [SO.lst (good1 ++ good2 ++ bads)]).length) s8 := by
    rw [eLc, iOf_list (ys := good1 ++ good2 ++ bads) jn (by simp)]
    exact r1
  refine ⟨s9 ++ [SO.lst [D.bl false]] ++ [SO.lst ((List.replicate 24 false).map D.bl)] ++ [SO.lst ((List.replicate 10 true ++ List.replicate 24 false).map D.bl)], ?_⟩
  · have fin : b__law_written [none, none, none, none, none, none] s = .rt (.bl true) (s9 ++ [SO.lst [D.bl false]] ++ [SO.lst ((List.replicate 24 false).map D.bl)] ++ [SO.lst ((List.replicate 10 true ++ List.replicate 24 false).map D.bl)]) := by
      unfold b__law_written
      refine (seq_nx (σ1 := [some one, some ten, none, none, none, none]) (s1 := s) rfl).trans ?_
      refine (seq_nx (σ1 := [some one, some ten, some four, none, none, none]) (s1 := s) rfl).trans ?_
      refine (seq_nx sgood).trans ?_
      refine (seq_nx j1).trans ?_
      refine (seq_nx sbad).trans ?_
      refine (seq_nx j2).trans ?_
      refine (seq_nx j3).trans ?_
      refine (seq_nx j4).trans ?_
      refine (seq_nx j5).trans ?_
      refine ret_ok ?_
      rw [eOp]
      show (eLc _ _ _ _ _ [some one, some ten, some four, some (.loc c1), some (.loc c5), none] s6).bind _ = _
      rw [lc]
      simp only [R.bind]
      show (eOp opAdd _ _ [some one, some ten, some four, some (.loc c1), some (.loc c5), none] s8).bind _ = _
      rw [jr]
      simp only [R.bind, opEq, te, Option.map, R.of]
    have e : m__law_written [] s = finM 6 b__law_written [] s := rfl
    rw [e]
    show (match b__law_written [none, none, none, none, none, none] s with
      | .nx _ s1 => R.ok D.non s1
      | .rt d s1 => .ok d s1
      | .exc x _ s1 => .exc x s1
      | _ => .no) = _
    rw [fin]
end K12
namespace K12
open PySem PySem.Spec PyProof.Rows L2 Mi
theorem drawI {σ : SlD} {n p i : Nat} {s : Store} (many : Int) (h : Pot n p s) (hσ : σ[i]? = some (some (.loc p))) (hn : n ≤ 1000000) (hm : 0 < many := by decide) (hm2 : many < 2 ^ 200 := by decide) :
    ∃ r s', eCall 2 m__law_take (aCons (eVar i) (aCons (eC (.int many)) aNil)) σ s = .ok (.int r) s' ∧ 0 ≤ r ∧ r < many ∧ Pot (n + 1) p s' ∧ Ex p s s' := by
  obtain ⟨r, s', h1, h2⟩ := take_ok h hn hm hm2
  exact ⟨r, s', by simp [eCall, aCons, eVar, hσ, eC, aNil, R.bind, h1], h2⟩
abbrev body3 : MS := (sIf (tNotM (tTru (eCall 1 (m__law_right) (aCons (eVar 6) aNil)))) (sRet (eC (.bl false))) sNil)
theorem walk_ok {a0 a1 a2 a3 a4 a5 a6 a7 : Option D} {s : Store} {l : Nat} {ys : List D} (hl : s[l]? = some (.lst ys)) (hw : ∀ y ∈ ys, Wf s y) :
    ∃ x6 s', forL (wkL l ys) (gNm 6) body3 ys.length 0 [a0, a1, a2, a3, a4, a5, a6, a7] s = .nx [a0, a1, a2, a3, a4, a5, x6, a7] s' ∧ Px s s' := by
  obtain ⟨σ', s', r1, ⟨x6, r2⟩, r3⟩ := for_inv (J := wkL l ys) (g := gNm 6) (b := body3) (n := ys.length) (fun i σ s1 => (∃ x6, σ = [a0, a1, a2, a3, a4, a5, x6, a7]) ∧ Px s s1) (fun σ s1 ⟨_, p⟩ => by
      have g : lsOf s1 l = some ys := by unfold lsOf; rw [p.get hl]
      simp [g]) (fun i σ s1 hi ⟨⟨x6, e⟩, p⟩ => by
      subst e
      have g : lsOf s1 l = some ys := by unfold lsOf; rw [p.get hl]
      have hc : ys[i]? = some ys[i] := List.getElem?_eq_getElem hi
      obtain ⟨s2, h1, h2⟩ := right_ok ((hw _ (List.getElem_mem hi)).px p)
      refine ⟨ys[i], s1, [(6, ys[i])], s1, [a0, a1, a2, a3, a4, a5, some ys[i], a7], s2, by simp [g, hc], rfl, ?_, ⟨_, rfl⟩, p.trans h2⟩
      show body3 [a0, a1, a2, a3, a4, a5, some ys[i], a7] s1 = _
      simp [body3, sIf, tNotM, tTru, eCall, aCons, eVar, aNil, R.bind, h1, tru, R.thenO, sNil]) ys.length 0 [a0, a1, a2, a3, a4, a5, a6, a7] s (by omega) ⟨⟨a6, rfl⟩, Px.refl _⟩
  subst r2
  exact ⟨x6, s', r1, r3⟩
abbrev bentE : ME := (eCall 3 (m__law_bent 10) (aCons (eVar 2) (aCons (eVar 4) (aCons (eOp opAdd (eC (.int 1)) (eCall 2 (m__law_take) (aCons (eVar 2) (aCons (eC (.int 5)) aNil)))) aNil))))
theorem bents_ok {a0 a1 a3 a5 a6 a7 : Option D} {t : D} {n p : Nat} {s : Store} (hp : Pot n p s) (ht : Ws t) (hn : n + 12 * 61 ≤ 1000000) :
    ∃ acc s', eLc (iRg1 (aCons (eC (.int 12)) aNil)) (gNm 7) tYesM bentE [7] [a0, a1, some (.loc p), a3, some t, a5, a6, a7] s = .ok (.loc s.length) s' ∧ s'[s.length]? = some (.lst acc) ∧ acc.length = 12 ∧ (∀ y ∈ acc, Wf s' y) ∧ Pot (n + 12 * 61) p s' ∧ Ex p s s' := by
  have hlt := hp.lt
  obtain ⟨acc, s1, r1, r2, r3, r4, r5, r6⟩ := lc_inv (J := ⟨12, fun i s => some (.int (0 + (i : Nat)), s), fun _ => true⟩) (g := gNm 7) (t := tYesM) (e := bentE) (σ0 := [a0, a1, some (.loc p), a3, some t, a5, a6, none]) (l := s.length) (n := 12)
    (fun i acc s1 => Pot (n + i * 61) p s1 ∧ Ex p s s1 ∧ acc.length = i ∧ ∀ y ∈ acc, Wf s1 y) (by omega) (fun _ s _ => rfl) (fun i acc s1 hi hs ⟨h1, h2, h3, h4⟩ => by
      have hk : n + i * 61 + 61 ≤ n + 12 * 61 := by omega
      obtain ⟨r, s2, d1, d2, d3, d4, d5⟩ := drawI (σ := [a0, a1, some (.loc p), a3, some t, a5, a6, some (.int (0 + (i : Nat)))]) (i := 2) 5 h1 rfl (by omega)
      have e1 : (1 : Int) + r = ((1 + r).toNat : Int) := by omega
      obtain ⟨y, s3, f1, f2, f3, f4⟩ := bent_ok 10 (1 + r).toNat (n + i * 61 + 1) p s2 t (by omega) ht d4 (by omega)
      have hs3 : s3[s.length]? = some (.lst acc) := by rw [(d5.trans f4).at_ _ (lt_of_get hs) (by omega)]; exact hs
      refine ⟨_, s1, _, s1, true, s1, rfl, rfl, rfl, .inr ⟨rfl, y, s3, ?_, hs3, (f3.ne (by omega)).up (by omega), ((h2.trans d5).trans f4).new (Nat.le_refl _) (by omega), by simp [h3], fun z hz => ?_⟩⟩
      · show bentE [a0, a1, some (.loc p), a3, some t, a5, a6, some (.int (0 + (i : Nat)))] s1 = _
        have e2 : eOp opAdd (eC (.int 1)) (eCall 2 (m__law_take) (aCons (eVar 2) (aCons (eC (.int 5)) aNil))) [a0, a1, some (.loc p), a3, some t, a5, a6, some (.int (0 + (i : Nat)))] s1 = .ok (.int ((1 + r).toNat : Int)) s2 := by
          rw [eOp]
          simp only [eC, R.bind, d1, opAdd, R.of, ← e1]
        have e3 := cons_ok (show eVar 2 [a0, a1, some (.loc p), a3, some t, a5, a6, some (.int (0 + (i : Nat)))] s1 = .ok (.loc p) s1 from rfl) (cons_ok (show eVar 4 [a0, a1, some (.loc p), a3, some t, a5, a6, some (.int (0 + (i : Nat)))] s1 = .ok t s1 from rfl) (cons_ok e2 (show aNil _ s2 = .ok [] s2 from rfl)))
        simp only [bentE, eCall, e3, R.bind, List.length_cons, List.length_nil, Nat.reduceAdd, if_true, f1]
      · rcases List.mem_append.mp hz with hz | hz
        · exact Wf.setL hs3 ((h4 z hz).ex (d5.trans f4))
        · simp at hz; rw [hz]; exact Wf.setL hs3 f2) 12 0 [] (s ++ [.lst []]) (by omega) (Nat.le_refl _) (by simp) ⟨by simpa using hp.px (Px.push _ _), (Px.push _ _).ex, rfl, fun y hy => by cases hy⟩
  refine ⟨acc, s1, ?_, r2, r5, r6, r3, r4⟩
  have i1 : iRg1 (aCons (eC (.int 12)) aNil) [a0, a1, some (.loc p), a3, some t, a5, a6, a7] s = .ok ⟨12, fun i s => some (.int (0 + (i : Nat)), s), fun _ => true⟩ s := rfl
  rw [eLc, i1]
  exact r1
end K12
namespace K12
open PySem PySem.Spec PyProof.Rows L2 Mi
abbrev body2 : MS := (sSeq (sAsg (eCall 2 (m__law_test 10) (aCons (eVar 2) (aCons (eOp opAdd (eC (.int 1)) (eCall 2 (m__law_take) (aCons (eVar 2) (aCons (eC (.int 4)) aNil)))) aNil))) (gNm 4)) (sSeq (sAsg (eLst (aCons (eVar 4) (aCons (eTup (aCons (eC (.str "not")) (aCons (eVar 4) aNil))) (aCons (eTup (aCons (eC (.str "and")) (aCons (eTup (aCons (eVar 4) (aCons (eVar 4) aNil))) aNil))) (aCons (eTup (aCons (eVar 4) aNil)) (aCons (eCB bList (aCons (eVar 4) aNil)) aNil)))))) (gNm 5)) (sFor (iOf (eOp opAdd (eVar 5) (eLc (iRg1 (aCons (eC (.int 12)) aNil)) (gNm 7) tYesM bentE [7]))) (gNm 6) body3)))
theorem turn_ok {a0 a1 a3 a4 a5 a6 a7 : Option D} {n p : Nat} {s : Store} (hp : Pot n p s) (hn : n + 1701 ≤ 1000000) :
    ∃ b4 b5 b6 b7 s', body2 [a0, a1, some (.loc p), a3, a4, a5, a6, a7] s = .nx [a0, a1, some (.loc p), a3, b4, b5, b6, b7] s' ∧ Pot (n + 1701) p s' := by
  obtain ⟨r, s1, d1, d2, d3, d4, d5⟩ := drawI (σ := [a0, a1, some (.loc p), a3, a4, a5, a6, a7]) (i := 2) 4 hp rfl (by omega)
  have e1 : (1 : Int) + r = ((1 + r).toNat : Int) := by omega
  have hd : (1 + r).toNat ≤ 4 := by omega
  have hcost : cost (1 + r).toNat ≤ 968 := by
    generalize (1 + r).toNat = m at hd
    match m, hd with
    | 0, _ => decide
    | 1, _ => decide
    | 2, _ => decide
    | 3, _ => decide
    | 4, _ => decide
  obtain ⟨d, s2, f1, f2, ⟨w, rr, hd'⟩, f3, f4⟩ := test_ok 10 (1 + r).toNat (n + 1) p s1 (by omega) d4 (by omega)
  have p2 : Pot (n + 969) p s2 := f3.up (by omega)
  have et : eCall 2 (m__law_test 10) (aCons (eVar 2) (aCons (eOp opAdd (eC (.int 1)) (eCall 2 (m__law_take) (aCons (eVar 2) (aCons (eC (.int 4)) aNil)))) aNil)) [a0, a1, some (.loc p), a3, a4, a5, a6, a7] s = .ok d s2 := by
    have e2 : eOp opAdd (eC (.int 1)) (eCall 2 (m__law_take) (aCons (eVar 2) (aCons (eC (.int 4)) aNil))) [a0, a1, some (.loc p), a3, a4, a5, a6, a7] s = .ok (.int ((1 + r).toNat : Int)) s1 := by
      rw [eOp]
      simp only [eC, R.bind, d1, opAdd, R.of, ← e1]
    have e3 := cons_ok (show eVar 2 [a0, a1, some (.loc p), a3, a4, a5, a6, a7] s = .ok (.loc p) s from rfl) (cons_ok e2 (show aNil _ s1 = .ok [] s1 from rfl))
    simp only [eCall, e3, R.bind, List.length_cons, List.length_nil, Nat.reduceAdd, if_true, f1]
  subst hd'
  have el : eLst (aCons (eVar 4) (aCons (eTup (aCons (eC (.str "not")) (aCons (eVar 4) aNil))) (aCons (eTup (aCons (eC (.str "and")) (aCons (eTup (aCons (eVar 4) (aCons (eVar 4) aNil))) aNil))) (aCons (eTup (aCons (eVar 4) aNil)) (aCons (eCB bList (aCons (eVar 4) aNil)) aNil))))) [a0, a1, some (.loc p), a3, some (.tup (w :: rr)), a5, a6, a7] s2
      = .ok (.loc (s2 ++ [SO.lst (w :: rr)]).length) (s2 ++ [.lst (w :: rr)] ++ [.lst [.tup (w :: rr), .tup [.str "not", .tup (w :: rr)], .tup [.str "and", .tup [.tup (w :: rr), .tup (w :: rr)]], .tup [.tup (w :: rr)], .loc s2.length]]) := rfl
  have px : Px s2 (s2 ++ [.lst (w :: rr)] ++ [.lst [.tup (w :: rr), .tup [.str "not", .tup (w :: rr)], .tup [.str "and", .tup [.tup (w :: rr), .tup (w :: rr)]], .tup [.tup (w :: rr)], .loc s2.length]]) := (Px.push _ _).trans (Px.push _ _)
  have hitems : ∀ x ∈ [D.tup (w :: rr), .tup [.str "not", .tup (w :: rr)], .tup [.str "and", .tup [.tup (w :: rr), .tup (w :: rr)]], .tup [.tup (w :: rr)], .loc s2.length], Wf (s2 ++ [.lst (w :: rr)] ++ [.lst [.tup (w :: rr), .tup [.str "not", .tup (w :: rr)], .tup [.str "and", .tup [.tup (w :: rr), .tup (w :: rr)]], .tup [.tup (w :: rr)], .loc s2.length]]) x := by
    intro x hx
    simp only [List.mem_cons, List.not_mem_nil, or_false] at hx
    have wt := fun s => f2.wf (s := s)
    rcases hx with rfl | rfl | rfl | rfl | rfl
    · exact wt _
    · exact .tup _ (by simp) fun z hz => by simp at hz; rcases hz with rfl | rfl; exact (small_str "not").wf; exact wt _
    · exact .tup _ (by simp) fun z hz => by
        simp at hz
        rcases hz with rfl | rfl
        · exact (small_str "and").wf
        · exact .tup _ (by simp) fun z hz => by simp at hz; rw [hz]; exact wt _
    · exact .tup _ (by simp) fun z hz => by simp at hz; rw [hz]; exact wt _
    · exact .lst _ (w :: rr) (by simp)
  have hat : (s2 ++ [SO.lst (w :: rr)] ++ [.lst [.tup (w :: rr), .tup [.str "not", .tup (w :: rr)], .tup [.str "and", .tup [.tup (w :: rr), .tup (w :: rr)]], .tup [.tup (w :: rr)], .loc s2.length]])[(s2 ++ [SO.lst (w :: rr)]).length]? = some (.lst [.tup (w :: rr), .tup [.str "not", .tup (w :: rr)], .tup [.str "and", .tup [.tup (w :: rr), .tup (w :: rr)]], .tup [.tup (w :: rr)], .loc s2.length]) := by
    rw [List.getElem?_append_right (Nat.le_refl _)]; simp
  have h5 : [D.tup (w :: rr), .tup [.str "not", .tup (w :: rr)], .tup [.str "and", .tup [.tup (w :: rr), .tup (w :: rr)]], .tup [.tup (w :: rr)], .loc s2.length].length = 5 := rfl
  have hne : (s2 ++ [SO.lst (w :: rr)]).length ≠ p := by
    have := p2.lt
    simp; omega
  generalize [D.tup (w :: rr), .tup [.str "not", .tup (w :: rr)], .tup [.str "and", .tup [.tup (w :: rr), .tup (w :: rr)]], .tup [.tup (w :: rr)], .loc s2.length] = items at *
  generalize (s2 ++ [SO.lst (w :: rr)] ++ [.lst items]) = s3 at *
  generalize (s2 ++ [SO.lst (w :: rr)]).length = l0 at *
  have p3 := p2.px px
  obtain ⟨acc, s4, g1, g2, g3, g4, g5, g6⟩ := bents_ok (a0 := a0) (a1 := a1) (a3 := a3) (a5 := some (.loc l0)) (a6 := a6) (a7 := a7) p3 f2 (by omega)
  have hat4 : s4[l0]? = some (.lst items) := by rw [g6.at_ _ (lt_of_get hat) hne]; exact hat
  have jn := join_ok (σ := [a0, a1, some (.loc p), a3, some (.tup (w :: rr)), some (.loc l0), a6, a7]) (ea := eVar 5) (s := s3) (i := l0) rfl g1 hat4 g2 (by omega)
  have wall : ∀ y ∈ items ++ acc, Wf (s4 ++ [.lst (items ++ acc)]) y := by
    intro y hy
    rcases List.mem_append.mp hy with hy | hy
    · exact ((hitems y hy).ex g6).px (Px.push _ _)
    · exact (g4 y hy).px (Px.push _ _)
  obtain ⟨x6, s5, k1, k2⟩ := walk_ok (a0 := a0) (a1 := a1) (a2 := some (.loc p)) (a3 := a3) (a4 := some (.tup (w :: rr))) (a5 := some (.loc l0)) (a6 := a6) (a7 := a7) (s := s4 ++ [.lst (items ++ acc)]) (l := s4.length) (ys := items ++ acc) (by simp) wall
  refine ⟨some (.tup (w :: rr)), some (.loc l0), x6, a7, s5, ?_, ((g5.px (Px.push _ _)).px k2).up (by omega)⟩
  refine (seq_nx (asg_nm et)).trans ?_
  refine (seq_nx (asg_nm el)).trans ?_
  have io := iOf_list (ys := items ++ acc) jn (by simp)
  show sFor _ _ _ [a0, a1, some (.loc p), a3, some (.tup (w :: rr)), some (.loc l0), a6, a7] s3 = _
  rw [sFor, io]
  simp only [R.thenO_ok]
  exact k1
abbrev body1 : MS := (sSeq (sAsg (eCall 2 (m__law_pot) (aCons (eVar 0) (aCons (eVar 1) aNil))) (gNm 2)) (sFor (iRg1 (aCons (eC (.int 4)) aNil)) (gNm 3) body2))
theorem cell_ok {ns : List Int} {k : Nat} (hk : k < 12) {a2 a3 a4 a5 a6 a7 : Option D} (s : Store) : ∃ b2 b3 b4 b5 b6 b7 s', body1 [some (.scr ns), some (.int k), a2, a3, a4, a5, a6, a7] s = .nx [some (.scr ns), some (.int k), b2, b3, b4, b5, b6, b7] s' := by
  obtain ⟨s1, h1, h2, _⟩ := pot_ok (s := s) (ns := ns) hk
  have e1 : eCall 2 (m__law_pot) (aCons (eVar 0) (aCons (eVar 1) aNil)) [some (.scr ns), some (.int k), a2, a3, a4, a5, a6, a7] s = .ok (.loc s.length) s1 := by
    simp [eCall, aCons, eVar, aNil, R.bind, h1]
  obtain ⟨σ', s', r1, ⟨b3, b4, b5, b6, b7, r2⟩, r3⟩ := for_inv (J := ⟨4, fun i s => some (.int (0 + (i : Nat)), s), fun _ => true⟩) (g := gNm 3) (b := body2) (n := 4) (fun i σ s1 => (∃ b3 b4 b5 b6 b7, σ = [some (.scr ns), some (.int k), some (.loc s.length), b3, b4, b5, b6, b7]) ∧ Pot (i * 1701) s.length s1) (fun _ _ _ => rfl) (fun i σ s1 hi ⟨⟨b3, b4, b5, b6, b7, e⟩, hp⟩ => by
    subst e
    obtain ⟨c4, c5, c6, c7, s2, t1, t2⟩ := turn_ok (a0 := some (.scr ns)) (a1 := some (.int k)) (a3 := some (.int (0 + (i : Nat)))) (a4 := b4) (a5 := b5) (a6 := b6) (a7 := b7) hp (by omega)
    exact ⟨_, s1, _, s1, _, s2, rfl, rfl, t1, ⟨_, _, _, _, _, rfl⟩, t2.up (by omega)⟩) 4 0 [some (.scr ns), some (.int k), some (.loc s.length), a3, a4, a5, a6, a7] s1 (by omega) ⟨⟨_, _, _, _, _, rfl⟩, by simpa using h2⟩
  subst r2
  refine ⟨some (.loc s.length), b3, b4, b5, b6, b7, s', ?_⟩
  · refine (seq_nx (asg_nm e1)).trans ?_
    show sFor _ _ _ [some (.scr ns), some (.int k), some (.loc s.length), a3, a4, a5, a6, a7] s1 = _
    have i1 : iRg1 (aCons (eC (.int 4)) aNil) [some (.scr ns), some (.int k), some (.loc s.length), a3, a4, a5, a6, a7] s1 = .ok ⟨4, fun i s => some (.int (0 + (i : Nat)), s), fun _ => true⟩ s1 := rfl
    rw [sFor, i1]
    simp only [R.thenO_ok]
    exact r1
theorem tells : Tells 63 m_law := by
  intro ns hns
  have hJ : ∃ m : Nat, m ≤ 12 ∧ iRg1 (aCons (eCB bMax (aCons (eC (.int 1)) (aCons (eCB bMin (aCons (eC (.int 12)) (aCons (eCB bLen (aCons (eVar 0) aNil)) aNil))) aNil))) aNil) [some (.scr ns), none, none, none, none, none, none, none] [] = .ok ⟨m, fun i s => some (.int (0 + (i : Nat)), s), fun _ => true⟩ [] := by
    have e0 : ∀ j : Int, -(2 ^ 62) ≤ j → j < 2 ^ 62 → (aCons (eCB bMax (aCons (eC (.int 1)) (aCons (eCB bMin (aCons (eC (.int 12)) (aCons (eCB bLen (aCons (eVar 0) aNil)) aNil))) aNil))) aNil) [some (.scr ns), none, none, none, none, none, none, none] [] = .ok [.int j] [] → iRg1 (aCons (eCB bMax (aCons (eC (.int 1)) (aCons (eCB bMin (aCons (eC (.int 12)) (aCons (eCB bLen (aCons (eVar 0) aNil)) aNil))) aNil))) aNil) [some (.scr ns), none, none, none, none, none, none, none] [] = .ok ⟨j.toNat, fun i s => some (.int (0 + (i : Nat)), s), fun _ => true⟩ [] := fun j h1 h2 h => by
      have h3 : -(2 ^ 62) ≤ j ∧ j < 2 ^ 62 := ⟨h1, h2⟩
      simp only [iRg1, h, R.bind, if_pos h3]
    refine ⟨_, ?_, e0 (if (if (ns.length : Int) < 12 then (ns.length : Int) else 12) > 1 then (if (ns.length : Int) < 12 then (ns.length : Int) else 12) else 1) ?_ ?_ ?_⟩
    · split <;> split <;> omega
    · split <;> split <;> omega
    · split <;> split <;> omega
    · rfl
  obtain ⟨m, hm, hJ⟩ := hJ
  obtain ⟨σ', s', r1, ⟨b1, b2, b3, b4, b5, b6, b7, r2⟩⟩ := for_inv (J := ⟨m, fun i s => some (.int (0 + (i : Nat)), s), fun _ => true⟩) (g := gNm 1) (b := body1) (n := m) (fun i σ s1 => ∃ b1 b2 b3 b4 b5 b6 b7, σ = [some (.scr ns), b1, b2, b3, b4, b5, b6, b7]) (fun _ _ _ => rfl) (fun i σ s1 hi ⟨b1, b2, b3, b4, b5, b6, b7, e⟩ => by
    subst e
    obtain ⟨c2, c3, c4, c5, c6, c7, s2, t1⟩ := cell_ok (ns := ns) (k := i) (by omega) (a2 := b2) (a3 := b3) (a4 := b4) (a5 := b5) (a6 := b6) (a7 := b7) s1
    have e0 : (0 : Int) + (i : Nat) = (i : Int) := by omega
    have hb : body1 [some (.scr ns), some (.int (0 + (i : Nat))), b2, b3, b4, b5, b6, b7] s1 = .nx [some (.scr ns), some (.int (i : Nat)), c2, c3, c4, c5, c6, c7] s2 := by
      rw [e0]
      exact t1
    exact ⟨_, s1, _, s1, _, s2, rfl, rfl, hb, ⟨_, _, _, _, _, _, _, rfl⟩⟩) m 0 [some (.scr ns), none, none, none, none, none, none, none] [] (by omega) ⟨_, _, _, _, _, _, _, rfl⟩
  subst r2
  obtain ⟨s2, w1⟩ := written_ok s'
  refine ⟨s2, ?_⟩
  have e : b_law [some (.scr ns), none, none, none, none, none, none, none] [] = .rt (.bl true) s2 := by
    unfold b_law
    refine (seq_nx (σ1 := [some (.scr ns), b1, b2, b3, b4, b5, b6, b7]) (s1 := s') ?_).trans ?_
    · rw [sFor, hJ]
      simp only [R.thenO_ok]
      exact r1
    · refine ret_ok ?_
      simp [eCall, aNil, R.bind, w1]
  have e2 : m_law [.scr ns] [] = finM 7 b_law [.scr ns] [] := rfl
  rw [e2]
  show (match b_law [some (.scr ns), none, none, none, none, none, none, none] [] with
      | .nx _ s1 => R.ok D.non s1
      | .rt d s1 => .ok d s1
      | .exc x _ s1 => .exc x s1
      | _ => .no) = _
  rw [e]
end K12
namespace K12
open PySem PySem.Spec PyProof.Rows L2 Mi
abbrev R : PySem.W.OpenRow := PySem.W.OpenLaw.row PySem.Challenge.rw_mighthave_k12_what_is_a_test
abbrev hk : PySem.W.Hook := hookM 5 fa fn ex
def ob (s : PySem.W.SharedT) : AlM := obsM 5 fa fn ex (HandSHeadRun.getT s)
theorem ob_eq (s : PySem.W.SharedT) : ob s = hk.obs s.abs := obsM_eq (HandSHeadRun.getT_eq s)
def loose : List PySem.Str := ["is_whole", "is_row", "is_name", "is_test", "parts_if_test", "is_plain_test", "_law_pot", "_law_take", "_law_test", "_law_odd", "_law_bent", "_law_whole", "_law_is_name", "_law_leaves", "_law_right", "_law_written", "MOST_DEEDS", "MOST_LETTERS", "MOST_WORTH", "LETTERS", "MOST_WITHIN", "MOST_PLAIN", "MOST_PARTS", "WORTH_WORDS"]
theorem run (w : World) : HandSHeadRun.RunEq R (PySem.W.view R.prog [28]) hk ob 3000 loose w := by
  intro os
  kernel_rfl
end K12
open PySem PySem.W PySem.Calls PyProof.Rows
theorem PySem.Challenge.cw_mighthave_k12_what_is_a_test_holds : PySem.Challenge.rw_mighthave_k12_what_is_a_test.Holds := by
  w_on; o_law
  refine HandSHeadRun.head_any (r := OpenLaw.row PySem.Challenge.rw_mighthave_k12_what_is_a_test) (q := view (OpenLaw.row PySem.Challenge.rw_mighthave_k12_what_is_a_test).prog [28]) (H := K12.hk) (ob := K12.ob) (M := 3000) (loose := K12.loose) (d := HandSHeadRun.topDef (OpenLaw.row PySem.Challenge.rw_mighthave_k12_what_is_a_test).prog 28) (kwd := []) K12.ob_eq
    (by kernel_rfl) (fun s => by kernel_rfl) K12.run (by kernel_rfl) (by kernel_rfl) (by kernel_rfl) (by rfl) (by first | assumption | decide +kernel) (by decide +kernel) ⟨rfl, rfl, rfl, rfl, rfl, by decide +kernel⟩ ?hw ?hc
  case hw => w_witness2
  case hc =>
    refine Mi.walk_m (l := PySem.Challenge.rw_mighthave_k12_what_is_a_test) (n := 63) (k := 14) (x := "script") (m := K12.m_law) rfl (by decide) (by kernel_rfl) ⟨rfl, by decide, by decide⟩ K12.tells ?F
    intro w mg f0 h Y G hmg0
    obtain ⟨K, KX, c⟩ := Y
    have E := K12.facts_of KX G c
    have hmg : mg ("law" : PySem.Str) = some (.ref f0) := by
      have e : (HandSHeadRun.topDef (OpenLaw.row PySem.Challenge.rw_mighthave_k12_what_is_a_test).prog 28).name = ("law" : PySem.Str) := by kernel_rfl
      rw [← e]
      exact hmg0
    obtain ⟨f, fd, D⟩ := E.d_law
    have e := hmg.symm.trans D.at_
    cases e
    have hb := D.bind 1 ["script"] rfl fun _ _ _ _ _ _ us hl => match us, hl with | [_], _ => rfl
    refine ⟨K, fd, KX, fun s u => .of_eq (hb [u] rfl), fun base _ _ => ?_⟩
    obtain ⟨f2, fd2, D2, G2⟩ := K12.ok_law (P := (PySem.Challenge.rw_mighthave_k12_what_is_a_test).prog) (w := w) (base := base) E
    have e := D2.at_.symm.trans D.at_
    cases e
    obtain ⟨_, _, _, _, _, _, _, _, _, _, q1, l1, _⟩ := D.fn.ex
    obtain ⟨_, _, _, _, _, _, _, _, _, _, q2, l2, _⟩ := D2.fn.ex
    have : fd2 = fd := by
      have := l1.symm.trans l2
      simp only [Option.some.injEq, Obj.mk.injEq, Data.func.injEq] at this
      exact this.2.2.1.symm
    subst this
    exact G2
