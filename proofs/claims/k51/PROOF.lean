import PyProof.Rows.All
import Wide.All
import OpenK.AllK
import Wide.FinOn
import HandS.Small
import HandS.DictComp
import KE.GoesMore
import HandS.Zip
import HandS.HeadHook1
import HandS.HeadHook2
import HandS.Head0
import HandS.Head1
import HandS.Head2
import HandS.HeadEnd
import KE.KStateDown
import HandS.Defaults
import HandS.Strs
import HandS.Rev
import HandS.SetFor
import HandS.Dict
import HandS.WordsDict
import HandS.Ends
import HandS.EndBits
import HandS.RaiseMore
import HandS.Iter
import HandS.More
import HandS.Style
import HandS.ExcOwn
import HandS.WordsExc
import HandS.Words
import HandS.TupAny
import HandS.Wide
import HandS.WideBits
import HandS.IsInst
import HandS.Conv
import HandS.SortInts
import HandS.Exc
import HandS.Comp
import HandS.Base
import HandS.Call
import HandS.List
import PyProof.ReprRoads
import PyProof.CallFns
import HandS.SortKw
import KE.SortCalls
import KE.DatumOrd
import KE.KIndexOf
import PyProof.WalksMore
import PyProof.WalkInts
import PyProof.TupleOps
import PyProof.Rows.RuleB_pow
import PyProof.ListIndex
import HandS.Flow
import HandS.TryOnly
import HandS.TupSets
import KE.KSortTup
import HandS.DictSubView
import KE.KDictList
import PyProof.SumWalkG
import PyProof.RulesAssignMore
import PyProof.AutoSeq1
import HandS.Gcd
import HandS.Text
import KE.GoesEnumKw
import KE.KSortTupG
import HandS.FStr
import HandS.Head3
import HandS.StrMore
import PySem.Challenge.RW_tallerfirst_k51_texts_both_ways
section
set_option Elab.async false
set_option linter.all false
set_option maxRecDepth 100000
/-! values without a heap, slots that own lists, and what they say of the layer's heap -/
namespace Sd
open PySem L2

inductive PV where
  | non | bl (b : Bool) | int (i : Int) | str (x : Str) | ty (n : String)
  | tup (xs : List PV) | tpl (xs : List PV) | lst (xs : List PV) | dct (kvs : List (Key × PV))
  | exn (c : Str) (xs : List PV) (a : Addr)
  deriving Inhabited
inductive Ob where
  | lst (xs : List PV) | dct (kvs : List (Key × PV))
  deriving Inhabited
@[simp] def Ob.pv : Ob → PV
  | .lst xs => .lst xs
  | .dct kvs => .dct kvs
inductive Sl where
  | un | pv (v : PV) | own (o : Ob) | bor (o : Ob) | lck (kvs : List (Key × PV)) (a : Addr)
  deriving Inhabited
inductive EV where
  | pv (v : PV) | nw (o : Ob)
  deriving Inhabited
@[simp] def EV.v : EV → PV
  | .pv v => v
  | .nw o => o.pv
/-- an exception: its class by name, what it was made with -/
structure Ex where
  c : Str
  xs : List PV
inductive Res (α : Type) where
  | ok (a : α) (m : List Sl) | exc (c : Ex) (m : List Sl) | stuck
def Res.bind {α β : Type} (r : Res α) (k : α → List Sl → Res β) : Res β := match r with
  | .ok a m => k a m
  | .exc c m => .exc c m
  | .stuck => .stuck
@[simp] theorem Res.bind_ok {α β : Type} (a : α) (m : List Sl) (k : α → List Sl → Res β) : (Res.ok a m).bind k = k a m := rfl
@[simp] theorem Res.bind_exc {α β : Type} (c : Ex) (m : List Sl) (k : α → List Sl → Res β) : (Res.exc c m : Res α).bind k = .exc c m := rfl
@[simp] theorem Res.bind_stuck {α β : Type} (k : α → List Sl → Res β) : (Res.stuck : Res α).bind k = .stuck := rfl

theorem Res.bind_congr {α β : Type} {r r' : Res α} {k : α → List Sl → Res β} (h : r = r') : r.bind k = r'.bind k := by rw [h]
abbrev Lv := Addr → Prop
def SqN (K : PySem.W.Frag) (H : Hp) (L : Lv) (a : Addr) (vs : List V) : Prop := (Rd H a (.lst vs) ∧ ¬ L a) ∨ SqL K (fun _ => none) a vs
theorem SqN.seq {K : PySem.W.Frag} {H : Hp} {L : Lv} {a : Addr} {vs : List V} (h : SqN K H L a vs) : SqL K H a vs := by
  rcases h with ⟨h, _⟩ | h
  · exact .inl h
  · rcases h with (h | ⟨o, h⟩) | h
    · cases h
    · cases h
    · exact .inr h
/-- a tuple of one's own making: its object is known to have no dict -/
def TupF (H : Hp) (a : Addr) (vs : List V) : Prop := ∃ ob : Obj, H a = some (.frz ob (.tup vs)) ∧ ob.dict = none
theorem TupF.sq {K : PySem.W.Frag} {H : Hp} {a : Addr} {vs : List V} (h : TupF H a vs) : SqT K H a vs := let ⟨ob, e, _⟩ := h; .inl (.inr ⟨ob, e⟩)
theorem TupF.some {H : Hp} {a : Addr} {vs : List V} (h : TupF H a vs) : ∃ o, H a = some o := let ⟨ob, e, _⟩ := h; ⟨_, e⟩
mutual
inductive VR (K : PySem.W.Frag) (H : Hp) (L : Lv) : PV → V → Prop
  | non : VR K H L .non .non
  | bl (b : Bool) : VR K H L (.bl b) (.bl b)
  | int (i : Int) : VR K H L (.int i) (.int i)
  | str (x : Str) : VR K H L (.str x) (.str x)
  | ty (n : String) : VR K H L (.ty n) (.ty n)
  | tup {a : Addr} {vs : List V} {xs : List PV} : TupF H a vs → ¬ L a → VRs K H L xs vs → VR K H L (.tup xs) (.ref a)
  | tpl {a : Addr} {vs : List V} {xs : List PV} : H a = some (.tup vs) → ¬ L a → VRs K H L xs vs → VR K H L (.tpl xs) (.ref a)
  | lst {a : Addr} {vs : List V} {xs : List PV} : SqN K H L a vs → VRs K H L xs vs → VR K H L (.lst xs) (.ref a)
  | dct {a : Addr} {kws : List (Key × V)} {kvs : List (Key × PV)} : Rd H a (.dK kws) → ¬ L a → VRk K H L kvs kws → VR K H L (.dct kvs) (.ref a)
inductive VRs (K : PySem.W.Frag) (H : Hp) (L : Lv) : List PV → List V → Prop
  | nil : VRs K H L [] []
  | cons {v : PV} {x : V} {vs : List PV} {xs : List V} : VR K H L v x → VRs K H L vs xs → VRs K H L (v :: vs) (x :: xs)
inductive VRk (K : PySem.W.Frag) (H : Hp) (L : Lv) : List (Key × PV) → List (Key × V) → Prop
  | nil : VRk K H L [] []
  | cons {k : Key} {v : PV} {x : V} {vs : List (Key × PV)} {xs : List (Key × V)} : VR K H L v x → VRk K H L vs xs → VRk K H L ((k, v) :: vs) ((k, x) :: xs)
end

/-- what no one may change stands; what A does not hold stands too -/
structure Stp (A : Addr → Prop) (H : Hp) (L : Lv) (H' : Hp) (L' : Lv) : Prop where
  old : ∀ a, H a ≠ none → H' a ≠ none
  stay : ∀ a o, H a = some o → ¬ L a → H' a = some o ∧ ¬ L' a
  live : ∀ a o, H a = some o → L a → ¬ A a → H' a = some o ∧ L' a
abbrev No : Addr → Prop := fun _ => False
theorem Stp.refl (A : Addr → Prop) (H : Hp) (L : Lv) : Stp A H L H L := ⟨fun _ h => h, fun _ _ h n => ⟨h, n⟩, fun _ _ h l _ => ⟨h, l⟩⟩
theorem Stp.wide {A A' : Addr → Prop} {H H' : Hp} {L L' : Lv} (s : Stp A H L H' L') (h : ∀ a, A a → A' a) : Stp A' H L H' L' := ⟨s.old, s.stay, fun a o e l n => s.live a o e l fun z => n (h a z)⟩
theorem Stp.of {A : Addr → Prop} {H H' : Hp} {L L' : Lv} (s : Stp No H L H' L') : Stp A H L H' L' := s.wide fun _ z => z.elim
theorem Stp.trans {A A1 : Addr → Prop} {H H1 H2 : Hp} {L L1 L2 : Lv} (s : Stp A H L H1 L1) (t : Stp A1 H1 L1 H2 L2) (sub : ∀ a, A1 a → A a ∨ H a = none) : Stp A H L H2 L2 :=
  ⟨fun a h => t.old a (s.old a h), fun a o e n => let ⟨e1, n1⟩ := s.stay a o e n; t.stay a o e1 n1, fun a o e l n => by
    obtain ⟨e1, l1⟩ := s.live a o e l n
    refine t.live a o e1 l1 fun z => ?_
    rcases sub a z with z | z
    · exact n z
    · rw [e] at z; cases z⟩
theorem Stp.rd {A : Addr → Prop} {H H' : Hp} {L L' : Lv} {a : Addr} {u : HO} (s : Stp A H L H' L') (h : Rd H a u) (n : ¬ L a) : Rd H' a u ∧ ¬ L' a := by
  rcases h with h | ⟨o, h⟩
  · obtain ⟨e, n'⟩ := s.stay a _ h n
    exact ⟨.inl e, n'⟩
  · obtain ⟨e, n'⟩ := s.stay a _ h n
    exact ⟨.inr ⟨o, e⟩, n'⟩
theorem SqN.mono {K : PySem.W.Frag} {A : Addr → Prop} {H H' : Hp} {L L' : Lv} {a : Addr} {vs : List V} (s : Stp A H L H' L') (h : SqN K H L a vs) : SqN K H' L' a vs := by
  rcases h with ⟨h, n⟩ | h
  · exact .inl (s.rd h n)
  · exact .inr h
theorem TupF.mono {A : Addr → Prop} {H H' : Hp} {L L' : Lv} {a : Addr} {vs : List V} (s : Stp A H L H' L') (h : TupF H a vs) (n : ¬ L a) : TupF H' a vs ∧ ¬ L' a := by
  obtain ⟨ob, e, d⟩ := h
  obtain ⟨e', n'⟩ := s.stay a _ e n
  exact ⟨⟨ob, e', d⟩, n'⟩
section
variable {K : PySem.W.Frag} {A : Addr → Prop} {H H' : Hp} {L L' : Lv}
mutual
theorem VR.mono (s : Stp A H L H' L') : ∀ {v : PV} {x : V}, VR K H L v x → VR K H' L' v x
  | _, _, .non => .non
  | _, _, .bl b => .bl b
  | _, _, .int i => .int i
  | _, _, .str x => .str x
  | _, _, .ty n => .ty n
  | _, _, .tup e n h => let ⟨e1, n1⟩ := e.mono s n; .tup e1 n1 (VRs.mono s h)
  | _, _, .tpl e n h => let ⟨e1, n1⟩ := s.stay _ _ e n; .tpl e1 n1 (VRs.mono s h)
  | _, _, .lst e h => .lst (e.mono s) (VRs.mono s h)
  | _, _, .dct e n h => let ⟨e1, n1⟩ := s.rd e n; .dct e1 n1 (VRk.mono s h)
theorem VRs.mono (s : Stp A H L H' L') : ∀ {vs : List PV} {xs : List V}, VRs K H L vs xs → VRs K H' L' vs xs
  | _, _, .nil => .nil
  | _, _, .cons h t => .cons (VR.mono s h) (VRs.mono s t)
theorem VRk.mono (s : Stp A H L H' L') : ∀ {vs : List (Key × PV)} {xs : List (Key × V)}, VRk K H L vs xs → VRk K H' L' vs xs
  | _, _, .nil => .nil
  | _, _, .cons h t => .cons (VR.mono s h) (VRk.mono s t)
end
theorem VRs.length : ∀ {vs : List PV} {xs : List V}, VRs K H L vs xs → vs.length = xs.length
  | _, _, .nil => rfl
  | _, _, .cons _ t => congrArg (· + 1) (VRs.length t)
theorem VRs.get : ∀ {vs : List PV} {xs : List V} {i : Nat} {v : PV}, VRs K H L vs xs → vs[i]? = some v → ∃ x, xs[i]? = some x ∧ VR K H L v x
  | _, _, _, _, .nil, e => by simp at e
  | _, _, 0, _, .cons h _, e => by simp at e; subst e; exact ⟨_, rfl, h⟩
  | _, _, i + 1, _, .cons _ t, e => by
    obtain ⟨x, h1, h2⟩ := VRs.get (i := i) t (by simpa using e)
    exact ⟨x, by simpa using h1, h2⟩
theorem VRs.get' : ∀ {vs : List PV} {xs : List V} {i : Nat} {x : V}, VRs K H L vs xs → xs[i]? = some x → ∃ v, vs[i]? = some v ∧ VR K H L v x
  | _, _, _, _, .nil, e => by simp at e
  | _, _, 0, _, .cons h _, e => by simp at e; subst e; exact ⟨_, rfl, h⟩
  | _, _, i + 1, _, .cons _ t, e => by
    obtain ⟨x, h1, h2⟩ := VRs.get' (i := i) t (by simpa using e)
    exact ⟨x, by simpa using h1, h2⟩
theorem VRs.append : ∀ {vs ws : List PV} {xs ys : List V}, VRs K H L vs xs → VRs K H L ws ys → VRs K H L (vs ++ ws) (xs ++ ys)
  | _, _, _, _, .nil, s => s
  | _, _, _, _, .cons h t, s => .cons h (VRs.append t s)
theorem VRs.take : ∀ {vs : List PV} {xs : List V} (n : Nat), VRs K H L vs xs → VRs K H L (vs.take n) (xs.take n)
  | _, _, 0, _ => by simpa using VRs.nil
  | _, _, _ + 1, .nil => .nil
  | _, _, n + 1, .cons h t => .cons h (VRs.take n t)
theorem VRs.drop : ∀ {vs : List PV} {xs : List V} (n : Nat), VRs K H L vs xs → VRs K H L (vs.drop n) (xs.drop n)
  | _, _, 0, h => h
  | _, _, _ + 1, .nil => .nil
  | _, _, n + 1, .cons _ t => VRs.drop n t
theorem VRs.set {v : PV} {x : V} (h : VR K H L v x) : ∀ {vs : List PV} {xs : List V} (i : Nat), VRs K H L vs xs → VRs K H L (vs.set i v) (xs.set i x)
  | _, _, _, .nil => .nil
  | _, _, 0, .cons _ t => .cons h t
  | _, _, i + 1, .cons q t => .cons q (VRs.set h i t)
theorem VRs.eraseIdx : ∀ {vs : List PV} {xs : List V} (i : Nat), VRs K H L vs xs → VRs K H L (vs.eraseIdx i) (xs.eraseIdx i)
  | _, _, _, .nil => .nil
  | _, _, 0, .cons _ t => t
  | _, _, i + 1, .cons q t => .cons q (VRs.eraseIdx i t)
theorem VRs.reverse : ∀ {vs : List PV} {xs : List V}, VRs K H L vs xs → VRs K H L vs.reverse xs.reverse
  | _, _, .nil => .nil
  | _, _, .cons h t => by rw [List.reverse_cons, List.reverse_cons]; exact (VRs.reverse t).append (.cons h .nil)
theorem VRs.ints : ∀ {ns : List Int} {xs : List V}, VRs K H L (ns.map PV.int) xs → xs = ns.map V.int
  | [], _, h => by cases h; rfl
  | n :: ns, _, h => by
    cases h with
    | cons h t => cases h; rw [VRs.ints t]; rfl
theorem VRs.ofInts : ∀ (ns : List Int), VRs K H L (ns.map PV.int) (ns.map V.int)
  | [] => .nil
  | n :: ns => .cons (.int n) (VRs.ofInts ns)
end

/-! ### the objects of slots -/
def ObR (K : PySem.W.Frag) (H : Hp) (L : Lv) (o : Ob) (a : Addr) : Prop := match o with
  | .lst xs => ∃ vs, H a = some (.lst vs) ∧ VRs K H L xs vs
  | .dct kvs => ∃ kws, H a = some (.dK kws) ∧ VRk K H L kvs kws
theorem ObR.some {K : PySem.W.Frag} {H : Hp} {L : Lv} {o : Ob} {a : Addr} (h : ObR K H L o a) : H a ≠ none := by
  cases o with
  | lst xs => obtain ⟨_, e, _⟩ := h; rw [e]; simp
  | dct xs => obtain ⟨_, e, _⟩ := h; rw [e]; simp
theorem ObR.mono {K : PySem.W.Frag} {A : Addr → Prop} {H H' : Hp} {L L' : Lv} {o : Ob} {a : Addr} (s : Stp A H L H' L') (l : L a) (n : ¬ A a) (h : ObR K H L o a) : ObR K H' L' o a ∧ L' a := by
  cases o with
  | lst xs => obtain ⟨vs, e, r⟩ := h; obtain ⟨e', l'⟩ := s.live a _ e l n; exact ⟨⟨vs, e', r.mono s⟩, l'⟩
  | dct xs => obtain ⟨vs, e, r⟩ := h; obtain ⟨e', l'⟩ := s.live a _ e l n; exact ⟨⟨vs, e', r.mono s⟩, l'⟩
/-- a dict of one's own while it is gone through -/
def LkR (K : PySem.W.Frag) (H : Hp) (L : Lv) (kvs : List (Key × PV)) (a : Addr) : Prop := ∃ od kws, H a = some (.frz od (.dK kws)) ∧ VRk K H L kvs kws
theorem LkR.mono {K : PySem.W.Frag} {A : Addr → Prop} {H H' : Hp} {L L' : Lv} {kvs : List (Key × PV)} {a : Addr} (s : Stp A H L H' L') (l : L a) (n : ¬ A a) (h : LkR K H L kvs a) : LkR K H' L' kvs a ∧ L' a := by
  obtain ⟨od, vs, e, r⟩ := h
  obtain ⟨e', l'⟩ := s.live a _ e l n
  exact ⟨⟨od, vs, e', r.mono s⟩, l'⟩
def SlOk (K : PySem.W.Frag) (H : Hp) (L : Lv) (b : Option Addr) (s : Sl) (x : Option V) : Prop := match s with
  | .un => True
  | .pv v => ∃ y, x = some y ∧ VR K H L v y
  | .own o => ∃ a, x = some (.ref a) ∧ L a ∧ b = none ∧ ObR K H L o a
  | .bor o => ∃ a, x = some (.ref a) ∧ L a ∧ b = some a ∧ ObR K H L o a
  | .lck kvs a => x = some (.ref a) ∧ L a ∧ b = none ∧ LkR K H L kvs a
def Cell : Option Sl → Prop
  | some (.own _) => True
  | some (.bor _) => True
  | _ => False
def Adr (m : List Sl) (σ : L2.St) (a : Addr) : Prop := ∃ i : Nat, Cell m[i]? ∧ σ[i]? = some (some (.ref a))
structure StR (K : PySem.W.Frag) (B : Nat → Option Addr) (m : List Sl) (σ : L2.St) (H : Hp) (L : Lv) : Prop where
  len : m.length = σ.length
  ok : ∀ (i : Nat) (s : Sl) (x : Option V), m[i]? = some s → σ[i]? = some x → SlOk K H L (B i) s x
  ne : ∀ (i j : Nat) (a : Addr), i ≠ j → Cell m[i]? → Cell m[j]? → σ[i]? = some (some (.ref a)) → σ[j]? = some (some (.ref a)) → False
  wf : ∀ a, L a → H a ≠ none
  lent : ∀ (i : Nat) (a : Addr), B i = some a → ∃ o, m[i]? = some (.bor o) ∧ σ[i]? = some (some (.ref a))
theorem StR.at {K : PySem.W.Frag} {B : Nat → Option Addr} {m : List Sl} {σ : L2.St} {H : Hp} {L : Lv} (h : StR K B m σ H L) {i : Nat} {s : Sl} (e : m[i]? = some s) : ∃ x, σ[i]? = some x ∧ SlOk K H L (B i) s x := by
  obtain ⟨hi, _⟩ := List.getElem?_eq_some_iff.mp e
  have hj : i < σ.length := by rw [← h.len]; exact hi
  exact ⟨σ[i], List.getElem?_eq_getElem hj, h.ok i s _ e (List.getElem?_eq_getElem hj)⟩
theorem StR.adr {K : PySem.W.Frag} {B : Nat → Option Addr} {m : List Sl} {σ : L2.St} {H : Hp} {L : Lv} (h : StR K B m σ H L) {a : Addr} (z : Adr m σ a) : L a ∧ H a ≠ none := by
  obtain ⟨i, c, e⟩ := z
  have fin : L a := by
    cases q : m[i]? with
    | none => rw [q] at c; exact c.elim
    | some s =>
      have k := h.ok i s _ q e
      cases s with
      | un => rw [q] at c; exact c.elim
      | pv v => rw [q] at c; exact c.elim
      | own o => obtain ⟨b, e1, l, _⟩ := k; cases e1; exact l
      | bor o => obtain ⟨b, e1, l, _⟩ := k; cases e1; exact l
      | lck kvs b => rw [q] at c; exact c.elim
  exact ⟨fin, h.wf a fin⟩
/-- nobody may change what is gone through -/
theorem StR.lckN {K : PySem.W.Frag} {B : Nat → Option Addr} {m : List Sl} {σ : L2.St} {H : Hp} {L : Lv} (h : StR K B m σ H L) {kvs : List (Key × PV)} {a : Addr} (r : LkR K H L kvs a) : ¬ Adr m σ a := by
  rintro ⟨j, c, e⟩
  obtain ⟨od, kws, eh, _⟩ := r
  cases q : m[j]? with
  | none => rw [q] at c; exact c.elim
  | some s =>
    have k := h.ok j s _ q e
    cases s with
    | un => rw [q] at c; exact c.elim
    | pv v => rw [q] at c; exact c.elim
    | lck kvs b => rw [q] at c; exact c.elim
    | own o => obtain ⟨b, e1, l, _, ob⟩ := k; cases e1; cases o <;> (obtain ⟨_, e2, _⟩ := ob; rw [eh] at e2; cases e2)
    | bor o => obtain ⟨b, e1, l, _, ob⟩ := k; cases e1; cases o <;> (obtain ⟨_, e2, _⟩ := ob; rw [eh] at e2; cases e2)
/-- new objects alone -/
theorem StR.mono {K : PySem.W.Frag} {B : Nat → Option Addr} {m : List Sl} {σ : L2.St} {H H' : Hp} {L L' : Lv} (h : StR K B m σ H L) (s : Stp No H L H' L') (wf : ∀ a, L' a → H' a ≠ none) : StR K B m σ H' L' := by
  refine ⟨h.len, fun i sl x e1 e2 => ?_, h.ne, wf, h.lent⟩
  have k := h.ok i sl x e1 e2
  cases sl with
  | un => trivial
  | pv v => obtain ⟨y, e, r⟩ := k; exact ⟨y, e, r.mono s⟩
  | own o => obtain ⟨a, e, l, b, r⟩ := k; obtain ⟨r', l'⟩ := r.mono s l (fun z => z); exact ⟨a, e, l', b, r'⟩
  | bor o => obtain ⟨a, e, l, b, r⟩ := k; obtain ⟨r', l'⟩ := r.mono s l (fun z => z); exact ⟨a, e, l', b, r'⟩
  | lck kvs a => obtain ⟨e, l, b, r⟩ := k; obtain ⟨r', l'⟩ := r.mono s l (fun z => z); exact ⟨e, l', b, r'⟩

structure Tr (K : PySem.W.Frag) (B : Nat → Option Addr) (m : List Sl) (σ : L2.St) (H : Hp) (L : Lv) (m' : List Sl) (σ' : L2.St) (H' : Hp) (L' : Lv) : Prop where
  stp : Stp (Adr m σ) H L H' L'
  st : StR K B m' σ' H' L'
  sub : ∀ a, Adr m' σ' a → Adr m σ a
/-- .. where slots may come to own what is new -/
structure Tw (K : PySem.W.Frag) (B : Nat → Option Addr) (m : List Sl) (σ : L2.St) (H : Hp) (L : Lv) (m' : List Sl) (σ' : L2.St) (H' : Hp) (L' : Lv) : Prop where
  stp : Stp (Adr m σ) H L H' L'
  st : StR K B m' σ' H' L'
  sub : ∀ a, Adr m' σ' a → Adr m σ a ∨ H a = none
theorem none_back {A : Addr → Prop} {H H' : Hp} {L L' : Lv} {a : Addr} (s : Stp A H L H' L') (h : H' a = none) : H a = none := by
  cases q : H a with
  | none => rfl
  | some o => exact absurd h (s.old a (by rw [q]; simp))
section
variable {K : PySem.W.Frag} {B : Nat → Option Addr} {m m' m1 m2 : List Sl} {σ σ' σ1 σ2 : L2.St} {H H' H1 H2 : Hp} {L L' L1 L2 : Lv}
theorem Tr.refl (h : StR K B m σ H L) : Tr K B m σ H L m σ H L := ⟨.refl _ _ _, h, fun _ z => z⟩
theorem Tr.trans (s : Tr K B m σ H L m1 σ1 H1 L1) (t : Tr K B m1 σ1 H1 L1 m2 σ2 H2 L2) : Tr K B m σ H L m2 σ2 H2 L2 := by
  exact ⟨s.stp.trans t.stp fun a z => .inl (s.sub a z), t.st, fun a z => s.sub a (t.sub a z)⟩
theorem Tr.w (s : Tr K B m σ H L m1 σ1 H1 L1) : Tw K B m σ H L m1 σ1 H1 L1 := ⟨s.stp, s.st, fun a z => .inl (s.sub a z)⟩
theorem Tw.trans (s : Tw K B m σ H L m1 σ1 H1 L1) (t : Tw K B m1 σ1 H1 L1 m2 σ2 H2 L2) : Tw K B m σ H L m2 σ2 H2 L2 := by
  refine ⟨s.stp.trans t.stp s.sub, t.st, fun a z => ?_⟩
  rcases t.sub a z with z | z
  · exact s.sub a z
  · exact .inr (none_back s.stp z)
/-- new objects alone -/
theorem Tr.grow (h : StR K B m σ H L) (s : Stp No H L H' L') (wf : ∀ a, L' a → H' a ≠ none) : Tr K B m σ H L m σ H' L' := ⟨s.of, h.mono s wf, fun _ z => z⟩
end

/-! ### results -/
def EvR (K : PySem.W.Frag) (H0 H : Hp) (L : Lv) : EV → V → Prop
  | .pv v, x => VR K H L v x
  | .nw o, x => ∃ a, x = .ref a ∧ H0 a = none ∧ L a ∧ ObR K H L o a
/-- to be read: at the top it may be one's own -/
def RdR (K : PySem.W.Frag) (H : Hp) (L : Lv) (v : PV) (x : V) : Prop := match v with
  | .lst xs => ∃ a vs, x = .ref a ∧ SqL K H a vs ∧ VRs K H L xs vs
  | .dct kvs => ∃ a kws, x = .ref a ∧ Rd H a (.dK kws) ∧ VRk K H L kvs kws
  | v => VR K H L v x
theorem VR.rd {K : PySem.W.Frag} {H : Hp} {L : Lv} {v : PV} {x : V} (h : VR K H L v x) : RdR K H L v x := by
  cases h with
  | non => exact .non
  | bl b => exact .bl b
  | int i => exact .int i
  | str x => exact .str x
  | ty n => exact .ty n
  | tup e n r => exact .tup e n r
  | tpl e n r => exact .tpl e n r
  | lst e r => exact ⟨_, _, rfl, e.seq, r⟩
  | dct e n r => exact ⟨_, _, rfl, e, r⟩
theorem ObR.rd {K : PySem.W.Frag} {H : Hp} {L : Lv} {o : Ob} {a : Addr} (h : ObR K H L o a) : RdR K H L o.pv (.ref a) := by
  cases o with
  | lst xs => obtain ⟨vs, e, r⟩ := h; exact ⟨_, _, rfl, SqL.of e, r⟩
  | dct xs => obtain ⟨vs, e, r⟩ := h; exact ⟨_, _, rfl, .inl e, r⟩
theorem EvR.rd {K : PySem.W.Frag} {H0 H : Hp} {L : Lv} {v : EV} {x : V} (h : EvR K H0 H L v x) : RdR K H L v.v x := by
  cases v with
  | pv v => exact VR.rd h
  | nw o => obtain ⟨a, rfl, _, _, r⟩ := h; exact r.rd
/-- a pending value over a step of this frame -/
theorem EvR.over {K : PySem.W.Frag} {B : Nat → Option Addr} {m m1 m2 : List Sl} {σ : L2.St} {H H1 H2 : Hp} {L L1 L2 : Lv} {v : EV} {x : V} (st : StR K B m σ H L) (s : Tr K B m σ H L m1 σ H1 L1) (t : Tr K B m1 σ H1 L1 m2 σ H2 L2)
    (h : EvR K H H1 L1 v x) : EvR K H H2 L2 v x := by
  cases v with
  | pv v => exact VR.mono t.stp h
  | nw o =>
    obtain ⟨a, rfl, na, l, r⟩ := h
    obtain ⟨r', l'⟩ := r.mono t.stp l fun z => (st.adr (s.sub a z)).2 na
    exact ⟨a, rfl, na, l', r'⟩
/-- what may be frozen: a new object becomes a value -/
theorem EvR.freeze {K : PySem.W.Frag} {H0 H : Hp} {L : Lv} {v : EV} {x : V} (h : EvR K H0 H L v x) : ∃ L' : Lv, (∀ a, L' a → L a) ∧ (∀ a, L a → (∀ o, v = .nw o → x ≠ .ref a) → L' a) ∧ VR K H L' v.v x := by
  cases v with
  | pv v => exact ⟨L, fun _ z => z, fun _ z _ => z, h⟩
  | nw o =>
    obtain ⟨a, rfl, na, l, r⟩ := h
    refine ⟨fun b => L b ∧ b ≠ a, fun b z => z.1, fun b z n => ⟨z, fun e => n o rfl (by rw [e])⟩, ?_⟩
    have s : Stp (fun b => b = a) H L H fun b => L b ∧ b ≠ a := ⟨fun _ z => z, fun b u e n => ⟨e, fun z => n z.1⟩, fun b u e l n => ⟨e, l, n⟩⟩
    cases o with
    | lst xs => obtain ⟨vs, e, r⟩ := r; exact .lst (.inl ⟨.inl e, fun z => z.2 rfl⟩) (r.mono s)
    | dct xs => obtain ⟨vs, e, r⟩ := r; exact .dct (.inl e) (fun z => z.2 rfl) (r.mono s)
end Sd
end
section
set_option Elab.async false
set_option linter.all false
set_option maxRecDepth 100000
/-! readings that say what an expression hands back, by values without a heap -/
namespace Sd
open PySem L2

/-- where one stands: the module, the wish about exceptions, the lent slots -/
structure Pm where
  K : PySem.W.Frag
  mg : Str → Option Value
  W : WX
  B : Nat → Option Addr

def ExR (p : Pm) (c : Ex) (cls : Value) (d : Option Addr) (H : Hp) (L : Lv) : Prop :=
  p.mg c.c = some cls ∧ ((c.xs = [] ∧ d = none) ∨ ∃ v a x f, c.xs = [v] ∧ d = some a ∧ H a = some (.xd [(f, x)]) ∧ VR p.K H L v x)
section
variable (p : Pm) (m : List Sl) (σ : L2.St) (H : Hp) (L : Lv)
def RX (c : Ex) (m' : List Sl) : Prop := ∀ cls d H' L', Tr p.K p.B m σ H L m' σ H' L' → ExR p c cls d H' L' → p.W cls d σ H'
def RQ (r : Res EV) (Q : VK) : Prop := match r with
  | .ok v m' => ∀ x H' L', Tr p.K p.B m σ H L m' σ H' L' → EvR p.K H H' L' v x → Q x H'
  | .exc c m' => RX p m σ H L c m'
  | .stuck => False
def RT (r : Res Bool) (Q : Bool → Hp → Prop) : Prop := match r with
  | .ok b m' => ∀ H' L', Tr p.K p.B m σ H L m' σ H' L' → Q b H'
  | .exc c m' => RX p m σ H L c m'
  | .stuck => False
end
/-- an expression's reading, a test's -/
def tE (p : Pm) (s : List Sl → Res EV) : TE := fun σ H Q => ∃ m L, StR p.K p.B m σ H L ∧ RQ p m σ H L (s m) Q
def tT (p : Pm) (s : List Sl → Res Bool) : TT := fun σ H Q => ∃ m L, StR p.K p.B m σ H L ∧ RT p m σ H L (s m) Q
def SE (p : Pm) (X : Cx) (e : Expr) (s : List Sl → Res EV) : Prop := PE X e (tE p s)
def ST (p : Pm) (X : Cx) (e : Expr) (s : List Sl → Res Bool) : Prop := PT X e (tT p s)
theorem pe_imp {X : Cx} {e : Expr} {t t' : TE} (h : PE X e t) (i : ∀ σ H Q, t' σ H Q → t σ H Q) : PE X e t' := ⟨fun pins s σ H Q I hq => h.run pins s σ H Q I (i σ H Q hq)⟩
theorem pt_imp {X : Cx} {e : Expr} {t t' : TT} (h : PT X e t) (i : ∀ σ H Q, t' σ H Q → t σ H Q) : PT X e t' := ⟨fun pins s σ H Q I hq => h.run pins s σ H Q I (i σ H Q hq)⟩
theorem pw_imp {X : Cx} {e : Expr} {t t' : TT} (h : PW X e t) (i : ∀ σ H Q, t' σ H Q → t σ H Q) : PW X e t' := ⟨fun wh pins s σ H Q I hq => h.run wh pins s σ H Q I (i σ H Q hq)⟩

section
variable {p : Pm} {X : Cx} {m m1 : List Sl} {σ : L2.St} {H H1 : Hp} {L L1 : Lv}
theorem EvR.back {K : PySem.W.Frag} {H0 H1 H2 : Hp} {L2 : Lv} {v : EV} {x : V} (h : EvR K H1 H2 L2 v x) (n : ∀ a, H1 a = none → H0 a = none) : EvR K H0 H2 L2 v x := by
  cases v with
  | pv v => exact h
  | nw o => obtain ⟨a, e, na, l, r⟩ := h; exact ⟨a, e, n a na, l, r⟩
theorem RX.go {c : Ex} {m' : List Sl} (t : Tr p.K p.B m σ H L m1 σ H1 L1) (h : RX p m σ H L c m') : RX p m1 σ H1 L1 c m' := fun cls d H' L' t' e => h cls d H' L' (t.trans t') e
theorem RQ.go {r : Res EV} {Q : VK} (t : Tr p.K p.B m σ H L m1 σ H1 L1) (h : RQ p m σ H L r Q) : RQ p m1 σ H1 L1 r Q := by
  cases r with
  | ok v m' => exact fun x H' L' t' e => h x H' L' (t.trans t') (e.back fun a => none_back t.stp)
  | exc c m' => exact RX.go t h
  | stuck => exact h
theorem RT.go {r : Res Bool} {Q : Bool → Hp → Prop} (t : Tr p.K p.B m σ H L m1 σ H1 L1) (h : RT p m σ H L r Q) : RT p m1 σ H1 L1 r Q := by
  cases r with
  | ok v m' => exact fun H' L' t' => h H' L' (t.trans t')
  | exc c m' => exact RX.go t h
  | stuck => exact h
/-- first an expression, then the rest -/
theorem tE_then {s : List Sl → Res EV} {k : EV → List Sl → Res EV} {Q : VK} {Q1 : VK} (st : StR p.K p.B m σ H L) (h : RQ p m σ H L ((s m).bind k) Q)
    (hk : ∀ v m1 x H1 L1, Tr p.K p.B m σ H L m1 σ H1 L1 → EvR p.K H H1 L1 v x → RQ p m1 σ H1 L1 (k v m1) Q → Q1 x H1) : tE p s σ H Q1 := by
  refine ⟨m, L, st, ?_⟩
  cases e : s m with
  | ok v m1 => rw [e] at h; exact fun x H1 L1 t ev => hk v m1 x H1 L1 t ev (RQ.go t h)
  | exc c m1 => rw [e] at h; exact h
  | stuck => rw [e] at h; exact h
theorem tE_thenT {s : List Sl → Res EV} {k : EV → List Sl → Res Bool} {Q : Bool → Hp → Prop} {Q1 : VK} (st : StR p.K p.B m σ H L) (h : RT p m σ H L ((s m).bind k) Q)
    (hk : ∀ v m1 x H1 L1, Tr p.K p.B m σ H L m1 σ H1 L1 → EvR p.K H H1 L1 v x → RT p m1 σ H1 L1 (k v m1) Q → Q1 x H1) : tE p s σ H Q1 := by
  refine ⟨m, L, st, ?_⟩
  cases e : s m with
  | ok v m1 => rw [e] at h; exact fun x H1 L1 t ev => hk v m1 x H1 L1 t ev (RT.go t h)
  | exc c m1 => rw [e] at h; exact h
  | stuck => rw [e] at h; exact h
theorem tT_then {s : List Sl → Res Bool} {k : Bool → List Sl → Res EV} {Q : VK} {Q1 : Bool → Hp → Prop} (st : StR p.K p.B m σ H L) (h : RQ p m σ H L ((s m).bind k) Q)
    (hk : ∀ v m1 H1 L1, Tr p.K p.B m σ H L m1 σ H1 L1 → RQ p m1 σ H1 L1 (k v m1) Q → Q1 v H1) : tT p s σ H Q1 := by
  refine ⟨m, L, st, ?_⟩
  cases e : s m with
  | ok v m1 => rw [e] at h; exact fun H1 L1 t => hk v m1 H1 L1 t (RQ.go t h)
  | exc c m1 => rw [e] at h; exact h
  | stuck => rw [e] at h; exact h
theorem tT_thenT {s : List Sl → Res Bool} {k : Bool → List Sl → Res Bool} {Q : Bool → Hp → Prop} {Q1 : Bool → Hp → Prop} (st : StR p.K p.B m σ H L) (h : RT p m σ H L ((s m).bind k) Q)
    (hk : ∀ v m1 H1 L1, Tr p.K p.B m σ H L m1 σ H1 L1 → RT p m1 σ H1 L1 (k v m1) Q → Q1 v H1) : tT p s σ H Q1 := by
  refine ⟨m, L, st, ?_⟩
  cases e : s m with
  | ok v m1 => rw [e] at h; exact fun H1 L1 t => hk v m1 H1 L1 t (RT.go t h)
  | exc c m1 => rw [e] at h; exact h
  | stuck => rw [e] at h; exact h
theorem RQ.pv {v : PV} {Q : VK} {x : V} (st : StR p.K p.B m σ H L) (h : RQ p m σ H L (.ok (.pv v) m) Q) (r : VR p.K H L v x) : Q x H := h x H L (.refl st) r

/-! ### values -/
@[simp] def eC (v : PV) (m : List Sl) : Res EV := .ok (.pv v) m
@[simp] def eVar (i : Nat) (m : List Sl) : Res EV := match m[i]? with
  | some (.pv v) => .ok (.pv v) m
  | some (.own o) => .ok (.pv o.pv) (m.set i (.pv o.pv))
  | _ => .stuck
def eStuck : List Sl → Res EV := fun _ => .stuck
theorem se_int {i j pos} : SE p X (.Constant (.int i) j pos) (eC (.int i)) := pe_imp pe_int fun σ H Q ⟨m, L, st, h⟩ => RQ.pv st h (.int i)
theorem se_bl {b j pos} : SE p X (.Constant (.bool b) j pos) (eC (.bl b)) := pe_imp pe_bl fun σ H Q ⟨m, L, st, h⟩ => RQ.pv st h (.bl b)
theorem se_non {j pos} : SE p X (.Constant .none j pos) (eC .non) := pe_imp pe_non fun σ H Q ⟨m, L, st, h⟩ => RQ.pv st h .non
theorem se_str {x j pos} : SE p X (.Constant (.str x) j pos) (eC (.str x)) := pe_imp pe_str fun σ H Q ⟨m, L, st, h⟩ => RQ.pv st h (.str x)
theorem se_stuck {e : Expr} : SE p X e eStuck := ⟨fun pins s σ H Q I ⟨m, L, st, h⟩ => h.elim⟩
/-- a slot's own object becomes a value -/
theorem StR.freeze {i : Nat} {o : Ob} (st : StR p.K p.B m σ H L) (e : m[i]? = some (.own o)) : ∃ a L', σ[i]? = some (some (.ref a)) ∧ Tr p.K p.B m σ H L (m.set i (.pv o.pv)) σ H L' ∧ VR p.K H L' o.pv (.ref a) := by
  obtain ⟨x, ex, a, rfl, l, _, r⟩ := st.at e
  have hi : i < m.length := (List.getElem?_eq_some_iff.mp e).1
  have s : Stp (fun b => b = a) H L H fun b => L b ∧ b ≠ a := ⟨fun _ z => z, fun b u e n => ⟨e, fun z => n z.1⟩, fun b u e l n => ⟨e, l, n⟩⟩
  have cm : ∀ j, Cell (m.set i (.pv o.pv))[j]? → j ≠ i ∧ Cell m[j]? := fun j c => by
    by_cases hj : i = j
    · subst hj; rw [List.getElem?_set_self hi] at c; exact c.elim
    · rw [List.getElem?_set_ne hj] at c; exact ⟨fun z => hj z.symm, c⟩
  have hv : VR p.K H (fun b => L b ∧ b ≠ a) o.pv (.ref a) := by
    cases o with
    | lst xs => obtain ⟨vs, e, r⟩ := r; exact .lst (.inl ⟨.inl e, fun z => z.2 rfl⟩) (r.mono s)
    | dct xs => obtain ⟨vs, e, r⟩ := r; exact .dct (.inl e) (fun z => z.2 rfl) (r.mono s)
  have ci : Cell m[i]? := by rw [e]; trivial
  refine ⟨a, fun b => L b ∧ b ≠ a, ex, ⟨s.wide fun b z => by subst z; exact ⟨i, ci, ex⟩, ⟨by rw [List.length_set]; exact st.len, fun j s' x' e1 e2 => ?_, fun j k b hjk cj ck => st.ne j k b hjk (cm j cj).2 (cm k ck).2, fun b z => st.wf b z.1, fun j b hb => by
    obtain ⟨o', e1, e2⟩ := st.lent j b hb
    have hj : i ≠ j := fun z => by subst z; rw [e] at e1; cases e1
    exact ⟨o', by rw [List.getElem?_set_ne hj]; exact e1, e2⟩⟩, fun b ⟨j, c, e'⟩ => ⟨j, (cm j c).2, e'⟩⟩, hv⟩
  by_cases hj : i = j
  · subst hj
    rw [List.getElem?_set_self hi] at e1
    cases e1
    rw [ex] at e2
    cases e2
    exact ⟨_, rfl, hv⟩
  · rw [List.getElem?_set_ne hj] at e1
    have k := st.ok j s' x' e1 e2
    cases s' with
    | un => trivial
    | pv v => obtain ⟨y, ey, ry⟩ := k; exact ⟨y, ey, ry.mono s⟩
    | own o' =>
      obtain ⟨b, eb, lb, n, rb⟩ := k
      have hb : b ≠ a := fun z => by subst z; subst eb; exact st.ne i j b hj ci (by rw [e1]; trivial) ex e2
      obtain ⟨rb', lb'⟩ := rb.mono s lb hb
      exact ⟨b, eb, lb', n, rb'⟩
    | bor o' =>
      obtain ⟨b, eb, lb, n, rb⟩ := k
      have hb : b ≠ a := fun z => by subst z; subst eb; exact st.ne i j b hj ci (by rw [e1]; trivial) ex e2
      obtain ⟨rb', lb'⟩ := rb.mono s lb hb
      exact ⟨b, eb, lb', n, rb'⟩
    | lck kvs b =>
      obtain ⟨eb, lb, n, rb⟩ := k
      have hb : b ≠ a := fun z => by subst z; exact st.lckN rb ⟨i, ci, ex⟩
      obtain ⟨rb', lb'⟩ := rb.mono s lb hb
      exact ⟨eb, lb', n, rb'⟩
theorem se_var {e : Expr} {i : Nat} (h : PE X e (tVar i)) : SE p X e (eVar i) := pe_imp h fun σ H Q ⟨m, L, st, h⟩ => by
  unfold eVar at h
  split at h
  next v e =>
    obtain ⟨x, ex, y, rfl, r⟩ := st.at e
    exact ⟨y, ex, h y H L (.refl st) r⟩
  next o e =>
    obtain ⟨a, L', ex, t, r⟩ := st.freeze e
    exact ⟨.ref a, ex, h _ H L' t r⟩
  next => exact h.elim
theorem se_glob {e : Expr} {v : PV} {x : V} (h : PE X e (tC x)) (r : ∀ H L, VR p.K H L v x) : SE p X e (eC v) := pe_imp h fun σ H Q ⟨m, L, st, h⟩ => RQ.pv st h (r H L)

/-! ### operators -/
@[simp] def eOp (g : PV → PV → Option EV) (sa sb : List Sl → Res EV) (m : List Sl) : Res EV := (sa m).bind fun x m1 => (sb m1).bind fun y m2 => match g x.v y.v with
  | some z => .ok z m2
  | none => .stuck
/-- a two-place operation on values: the abstract heap may grow -/
def Op2 (K : PySem.W.Frag) (r : R2) (g : PV → PV → Option EV) : Prop := ∀ H L x y z X Y Q, (∀ a, L a → H a ≠ none) → RdR K H L x X → RdR K H L y Y → g x y = some z →
  (∀ Z H' L', Stp No H L H' L' → (∀ a, L' a → H' a ≠ none) → EvR K H H' L' z Z → Q Z H') → r X Y H Q
theorem op2_val {K : PySem.W.Frag} {r : R2} {g : PV → PV → Option EV} (h : ∀ H L x y z X Y Q, RdR K H L x X → RdR K H L y Y → g x y = some z → (∀ Z, EvR K H H L z Z → Q Z H) → r X Y H Q) : Op2 K r g :=
  fun H L x y z X Y Q wf hx hy e q => h H L x y z X Y Q hx hy e fun Z r => q Z H L (.refl _ _ _) wf r
end
end Sd
end
section
set_option Elab.async false
set_option linter.all false
set_option maxRecDepth 100000
/-! tuples of one's own making -/
namespace Sd
open PySem L2 PySem.Spec PyProof.Rows
abbrev NewT (H : Hp) (xs : List V) (Q : VK) : Prop := ∀ (p : Addr) (ob : Obj), H p = none → ob.dict = none → Q (.ref p) (upd H p (.frz ob (.tup xs)))
section
variable {X : Cx} {pins : List (Addr × Obj)} {σ : L2.St} {H : Hp} {s : Shared}
theorem new_tup {us : List Value} {xs : List V} {Q : VK} (I : Inv X pins σ H s) (r : Vals xs us) (z : xs.length ≤ sizeLine) (q : NewT H xs Q) : EP X pins σ Q (.ref s.heap.objs.size) { s with heap := s.heap.push { cls := .type "tuple", data := .seq us.toArray } } :=
  ⟨.ref s.heap.objs.size, upd H s.heap.objs.size (.frz { cls := .type "tuple", data := .seq us.toArray } (.tup xs)), I.laid (t' := s.toks) (fun b o e => Heap.get?_push_of_some _ e) (Nat.le_refl _) ⟨Heap.get?_push_size _ rfl, z, us, r, IsTup.new _ _⟩, rfl, q _ _ (I.hok.fresh (Nat.le_refl _)) rfl⟩
theorem pe_tupN {es : List Expr} {x1} {pos : Pos} {t : TA} (h : PA X es t) : PE X (.Tuple es x1 pos) (fun σ H Q => t σ H fun xs H1 => xs.length ≤ sizeLine ∧ NewT H1 xs Q) :=
  ⟨fun pins s σ H Q I hq => wpAny_Tuple_spliced (thn (h.run pos pins s σ H _ I hq) fun us s1 ⟨xs, H1, I1, r, z, q⟩ => ⟨by rw [← r.length]; exact z, new_tup I1 r z q⟩)⟩
def rCatN (K : PySem.W.Frag) : R2 := fun x y H Q => ∃ a b xs ys, x = .ref a ∧ y = .ref b ∧ SqT K H a xs ∧ SqT K H b ys ∧ xs.length + ys.length ≤ sizeLine ∧
  (xs = [] → Q (.ref b) H) ∧ (xs ≠ [] → ys = [] → Q (.ref a) H) ∧ (xs ≠ [] → ys ≠ [] → NewT H (xs ++ ys) Q)
theorem op_catN : OpR X (binaryOp .Add) (rCatN X.K) := fun pins s σ H x y v u Q I rx ry ⟨a, b, xs, ys, ex, ey, ha, hb, hz, q0, q1, q2⟩ => by
  by_cases hx : xs = []
  · exact op_catA pins s σ H x y v u Q I rx ry ⟨a, b, xs, ys, ex, ey, ha, hb, hz, q0, fun n => (n hx).elim, fun n => (n hx).elim⟩
  · subst ex ey; cases rx; cases ry
    obtain ⟨vs, r1, p1, _⟩ := I.tuple ha
    obtain ⟨ws, r2, p2, _⟩ := I.tuple hb
    exact HT.cat_tup p1 p2 (fun z => hx (r1.nil_iff.mp z)) (fun z => ⟨.ref a, H, I, rfl, q1 hx (r2.nil_iff.mp z)⟩) (fun z => new_tup I (r1.append r2) (by rw [List.length_append]; exact hz) (q2 hx fun w => z (r2.nil_iff.mpr w))) (by rw [← r1.length, ← r2.length]; exact hz)
def rSlN (K : PySem.W.Frag) : V → Option Int → Option Int → Hp → VK → Prop := fun x lo hi H Q => ∃ a xs, x = .ref a ∧ SqT K H a xs ∧
  (HT.sIx xs.length 0 lo = 0 ∧ HT.sIx xs.length xs.length hi = xs.length → Q (.ref a) H) ∧ (¬ (HT.sIx xs.length 0 lo = 0 ∧ HT.sIx xs.length xs.length hi = xs.length) → NewT H (cutV xs lo hi) Q)
theorem sl_tupN : SlR X (rSlN X.K) := fun pins s σ H x v vl vu lo hi sl Q I rx hs pl pu ⟨a, xs, ex, hx, q1, q2⟩ => by
  by_cases hw : HT.sIx xs.length 0 lo = 0 ∧ HT.sIx xs.length xs.length hi = xs.length
  · exact sl_tupA pins s σ H x v vl vu lo hi sl Q I rx hs pl pu ⟨a, xs, ex, hx, q1, fun n => (n hw).elim⟩
  · subst ex; cases rx
    obtain ⟨us, r, ht, hz⟩ := I.tuple hx
    have hl : us.toArray.size = xs.length := by rw [List.size_toArray, ← r.length]
    refine ⟨"tuple", _, PyProof.Rows.slot_tuple_getitem.lookup, ht.typeIs, HT.getItem_tuple_cut ht hs pl pu (by rw [hl]; exact hw) ?_ (by rw [hl]; exact hz)⟩
    rw [hl]
    exact new_tup I (Vals.take _ (Vals.drop _ r)) (Nat.le_trans (cutV_length xs lo hi) hz) (q2 hw)
theorem call_tupleN : CallR X (.type "tuple") (fun xs H Q => ∃ p ys, xs = [.ref p] ∧ ((SqL X.K H p ys ∧ NewT H ys Q) ∨ (SqT X.K H p ys ∧ Q (.ref p) H))) := fun pins s σ H xs us Q I r ⟨p, ys, e, h⟩ => by
  subst e
  rcases h with ⟨hq, q⟩ | h
  · obtain ⟨u, rfl, rx⟩ := vals1 r
    cases rx
    obtain ⟨its, r', pl, hz⟩ := I.list hq
    have hn := r'.length
    exact call_tuple_list pl.isList (fun h' kp => new_tup (I.kept (t' := s.toks) kp) r' hz q) (by simp only [List.size_toArray] <;> omega)
  · exact call_tuple_of pins s σ H [.ref p] us Q I r ⟨p, ys, rfl, .inr h⟩
end
end Sd
end
section
set_option Elab.async false
set_option linter.all false
set_option maxRecDepth 100000
/-! operators, comparisons, tests -/
namespace Sd
open PySem L2

abbrev big : Nat := 16777216
theorem big_eq : sizeLine = big := sizeLine_eq
section
variable {p : Pm} {X : Cx} {m m1 : List Sl} {σ : L2.St} {H H1 : Hp} {L L1 : Lv}
theorem RQ.new {z : EV} {Q : VK} {Z : V} (st : StR p.K p.B m σ H L) (h : RQ p m σ H L (.ok z m) Q) (s : Stp No H L H1 L1) (wf : ∀ a, L1 a → H1 a ≠ none) (r : EvR p.K H H1 L1 z Z) : Q Z H1 := h Z H1 L1 (.grow st s wf) r
theorem se_op {e : Expr} {sa sb : List Sl → Res EV} {r : R2} {g : PV → PV → Option EV} (h : PE X e (tOp r (tE p sa) (tE p sb))) (hr : Op2 p.K r g) : SE p X e (eOp g sa sb) := pe_imp h fun σ H Q ⟨m, L, st, h⟩ => by
  refine tE_then st h fun v m1 x H1 L1 t ev h1 => ?_
  refine tE_then t.st h1 fun u m2 y H2 L2 t2 ev2 h2 => ?_
  have ev' := ev.over st t t2
  cases e : g v.v u.v with
  | none => rw [e] at h2; exact h2.elim
  | some z =>
    rw [e] at h2
    exact hr H2 L2 v.v u.v z x y Q t2.st.wf ev'.rd ev2.rd e fun Z H' L' s wf r => RQ.new t2.st h2 s wf r
end

/-! ### new objects -/
section
variable {K : PySem.W.Frag} {H : Hp} {L : Lv} {q : Addr}
theorem stp_new {o : HO} (hq : H q = none) : Stp No H L (upd H q o) fun a => L a ∨ a = q := ⟨fun a n => by
    by_cases e : a = q
    · subst e; rw [upd_same]; simp
    · rw [upd_ne e]; exact n, fun a u e n => by
    have ne := ne_of_none e hq
    rw [upd_ne ne]
    exact ⟨e, fun z => z.elim n ne⟩, fun a u e l _ => by
    rw [upd_ne (ne_of_none e hq)]
    exact ⟨e, .inl l⟩⟩
theorem stp_newT {o : HO} (hq : H q = none) : Stp No H L (upd H q o) L := ⟨fun a n => by
    by_cases e : a = q
    · subst e; rw [upd_same]; simp
    · rw [upd_ne e]; exact n, fun a u e n => by
    rw [upd_ne (ne_of_none e hq)]
    exact ⟨e, n⟩, fun a u e l _ => by
    rw [upd_ne (ne_of_none e hq)]
    exact ⟨e, l⟩⟩
theorem wf_new {o : HO} (wf : ∀ a, L a → H a ≠ none) : ∀ a, (L a ∨ a = q) → upd H q o a ≠ none := fun a z => by
  by_cases e : a = q
  · subst e; rw [upd_same]; simp
  · rw [upd_ne e]
    exact wf a (z.resolve_right e)
theorem wf_newT {o : HO} (wf : ∀ a, L a → H a ≠ none) : ∀ a, L a → upd H q o a ≠ none := fun a z => wf_new wf a (.inl z)
theorem ev_lst {xs : List PV} {vs : List V} (hq : H q = none) (r : VRs K H L xs vs) : EvR K H (upd H q (.lst vs)) (fun a => L a ∨ a = q) (.nw (.lst xs)) (.ref q) := ⟨q, rfl, hq, .inr rfl, vs, upd_same, r.mono (stp_new (o := .lst vs) hq)⟩
theorem vr_tup {xs : List PV} {vs : List V} (wf : ∀ a, L a → H a ≠ none) (hq : H q = none) (r : VRs K H L xs vs) : VR K (upd H q (.tup vs)) L (.tpl xs) (.ref q) := .tpl upd_same (fun z => wf q z hq) (r.mono (stp_newT (o := .tup vs) hq))
end
section
variable {K : PySem.W.Frag} {H : Hp} {L : Lv} {Q : VK} {vs : List V} {xs : List PV}
abbrev Kq (K : PySem.W.Frag) (H : Hp) (L : Lv) (z : EV) (Q : VK) : Prop := ∀ Z H' L', Stp No H L H' L' → (∀ a, L' a → H' a ≠ none) → EvR K H H' L' z Z → Q Z H'
theorem Kq.lst (wf : ∀ a, L a → H a ≠ none) (r : VRs K H L xs vs) (q : Kq K H L (.nw (.lst xs)) Q) : ∀ p, H p = none → Q (.ref p) (upd H p (.lst vs)) := fun p hp => q _ _ _ (stp_new hp) (wf_new wf) (ev_lst hp r)
theorem vr_tupN {q : Addr} {ob : Obj} (wf : ∀ a, L a → H a ≠ none) (hq : H q = none) (hd : ob.dict = none) (r : VRs K H L xs vs) : VR K (upd H q (.frz ob (.tup vs))) L (.tup xs) (.ref q) := .tup ⟨ob, upd_same, hd⟩ (fun z => wf q z hq) (r.mono (stp_newT (o := .frz ob (.tup vs)) hq))
theorem Kq.tup (wf : ∀ a, L a → H a ≠ none) (r : VRs K H L xs vs) (q : Kq K H L (.pv (.tup xs)) Q) : NewT H vs Q := fun p ob hp hd => q _ _ _ (stp_newT hp) (wf_newT wf) (vr_tupN wf hp hd r)
theorem Kq.pv {v : PV} {x : V} (wf : ∀ a, L a → H a ≠ none) (r : VR K H L v x) (q : Kq K H L (.pv v) Q) : Q x H := q _ _ _ (.refl _ _ _) wf r
theorem RdR.int {i : Int} {x : V} (h : RdR K H L (.int i) x) : x = .int i := by cases (show VR K H L (.int i) x from h); rfl
theorem RdR.str {i : Str} {x : V} (h : RdR K H L (.str i) x) : x = .str i := by cases (show VR K H L (.str i) x from h); rfl
theorem RdR.bl {i : Bool} {x : V} (h : RdR K H L (.bl i) x) : x = .bl i := by cases (show VR K H L (.bl i) x from h); rfl
theorem RdR.non {x : V} (h : RdR K H L .non x) : x = .non := by cases (show VR K H L .non x from h); rfl
theorem RdR.lst {xs : List PV} {x : V} (h : RdR K H L (.lst xs) x) : ∃ a vs, x = .ref a ∧ SqL K H a vs ∧ VRs K H L xs vs := h
theorem RdR.dct {xs : List (Key × PV)} {x : V} (h : RdR K H L (.dct xs) x) : ∃ a vs, x = .ref a ∧ Rd H a (.dK vs) ∧ VRk K H L xs vs := h
theorem RdR.tup {xs : List PV} {x : V} (h : RdR K H L (.tup xs) x) : ∃ a vs, x = .ref a ∧ TupF H a vs ∧ ¬ L a ∧ VRs K H L xs vs := by
  cases (show VR K H L (.tup xs) x from h) with
  | tup e n r => exact ⟨_, _, rfl, e, n, r⟩
end

/-! ### arithmetic -/
theorem op_catS {X : Cx} : OpR X (binaryOp .Add) (fun x y H Q => ∃ a b xs ys, x = .ref a ∧ y = .ref b ∧ SqL X.K H a xs ∧ SqL X.K H b ys ∧ xs.length + ys.length ≤ sizeLine ∧ ∀ p, H p = none → Q (.ref p) (upd H p (.lst (xs ++ ys)))) := by
  intro pins s σ H x y v u Q I rx ry h
  obtain ⟨a, b, xs, ys, rfl, rfl, ha, hb, hz, q⟩ := h
  cases rx; cases ry
  obtain ⟨its, r, ⟨⟨c1, d1, t1, s1⟩, n1, ho, hc, _, hd⟩, z1⟩ := I.list ha
  obtain ⟨jts, r2, ⟨⟨c2, d2, t2, s2⟩, n2, ho2, hc2, _, hd2⟩, z2⟩ := I.list hb
  simp only at hc hd hc2 hd2
  subst hc hd hc2 hd2
  have l1 := r.length
  have l2 := r2.length
  refine concat_meets ⟨_, ho, rfl⟩ ⟨_, ho2, rfl⟩ noFill_list_add seq_list_add F.slot_list_add F.entry_list_add (F.args_list_add_2 _ _)
    (PyProof.Rows.list_addW a b its.toArray jts.toArray n1 n2 d1 d2 s1 s2 (by simp only [List.size_toArray]; omega)) ⟨ho, ho2, ?_⟩
  rw [show its.toArray ++ jts.toArray = (its ++ jts).toArray by simp]
  exact ⟨.ref _, _, I.lnew (t' := s.toks) (r.append r2) (by rw [List.length_append]; omega), rfl, q _ I.fresh⟩

@[simp] def gI (f : Int → Int → Option PV) : PV → PV → Option EV
  | .int i, .int j => (f i j).map .pv
  | _, _ => none
theorem op2_I {K : PySem.W.Frag} {r : R2} {f : Int → Int → Option PV} (h : ∀ H i j v Q, f i j = some v → (∀ x, (∀ L, VR K H L v x) → Q x H) → r (.int i) (.int j) H Q) : Op2 K r (gI f) := by
  intro H L x y z X Y Q wf hx hy e q
  unfold gI at e
  split at e
  next i j =>
    obtain ⟨v, ev, rfl⟩ := Option.map_eq_some_iff.mp e
    rw [hx.int, hy.int]
    exact h H i j v Q ev fun x r => Kq.pv wf (r L) q
  next => cases e
@[simp] def gAdd : PV → PV → Option EV
  | .int i, .int j => some (.pv (.int (i + j)))
  | .str i, .str j => if i.length + j.length ≤ big then some (.pv (.str (i ++ j))) else none
  | .lst xs, .lst ys => if xs.length + ys.length ≤ big then some (.nw (.lst (xs ++ ys))) else none
  | .tup xs, .tup ys => if xs.length + ys.length ≤ big then some (.pv (.tup (xs ++ ys))) else none
  | _, _ => none
def rAddA (K : PySem.W.Frag) : R2 := fun x y H Q => rI0 (fun i j => .int (i + j)) x y H Q ∨ (∃ i j, x = .str i ∧ y = .str j ∧ i.length + j.length ≤ sizeLine ∧ Q (.str (i ++ j)) H) ∨
  (∃ a b xs ys, x = .ref a ∧ y = .ref b ∧ SqL K H a xs ∧ SqL K H b ys ∧ xs.length + ys.length ≤ sizeLine ∧ ∀ p, H p = none → Q (.ref p) (upd H p (.lst (xs ++ ys)))) ∨ rCatN K x y H Q
theorem op_addA {X : Cx} : OpR X (binaryOp .Add) (rAddA X.K) := OpR.or op_add (OpR.or op_add_str (OpR.or op_catS op_catN))
theorem op2_add {K : PySem.W.Frag} : Op2 K (rAddA K) gAdd := by
  intro H L x y z X Y Q wf hx hy e q
  unfold gAdd at e
  split at e
  next i j =>
    cases e
    rw [hx.int, hy.int]
    exact .inl ⟨i, j, rfl, rfl, Kq.pv wf (.int _) q⟩
  next i j =>
    split at e
    next hz =>
      cases e
      rw [hx.str, hy.str]
      exact .inr (.inl ⟨i, j, rfl, rfl, by rw [big_eq]; exact hz, Kq.pv wf (.str _) q⟩)
    next => cases e
  next xs ys =>
    split at e
    next hz =>
      cases e
      obtain ⟨a, vs, rfl, ha, ra⟩ := hx.lst
      obtain ⟨b, ws, rfl, hb, rb⟩ := hy.lst
      exact .inr (.inr (.inl ⟨a, b, vs, ws, rfl, rfl, ha, hb, by rw [big_eq, ← ra.length, ← rb.length]; exact hz, Kq.lst wf (ra.append rb) q⟩))
    next => cases e
  next xs ys =>
    split at e
    next hz =>
      cases e
      obtain ⟨a, vs, rfl, ha, na, ra⟩ := hx.tup
      obtain ⟨b, ws, rfl, hb, nb, rb⟩ := hy.tup
      refine .inr (.inr (.inr ⟨a, b, vs, ws, rfl, rfl, ha.sq, hb.sq, by rw [big_eq, ← ra.length, ← rb.length]; exact hz, fun e => ?_, fun _ e => ?_, fun _ _ => Kq.tup wf (ra.append rb) q⟩))
      · subst e; cases ra; exact Kq.pv wf (.tup hb nb rb) q
      · subst e; cases rb; rw [List.append_nil] at q; exact Kq.pv wf (.tup ha na ra) q
    next => cases e
  next => cases e
section
variable {p : Pm} {X : Cx} {a b : Expr} {sa sb : List Sl → Res EV} {pos : Pos}
theorem se_add (hk : X.K = p.K) (ha : SE p X a sa) (hb : SE p X b sb) : SE p X (.BinOp a .Add b pos) (eOp gAdd sa sb) := se_op (pe_op (hk ▸ op_addA) ha hb) op2_add
@[simp] def gMin (x y : PV) : Option EV := gI (fun i j => some (.int (i - j))) x y
theorem se_sub (ha : SE p X a sa) (hb : SE p X b sb) : SE p X (.BinOp a .Sub b pos) (eOp gMin sa sb) := se_op (pe_op op_sub ha hb) (op2_I fun H i j v Q e q => ⟨i, j, rfl, rfl, q _ fun L => by cases e; exact .int _⟩)
end
end Sd
end
section
set_option Elab.async false
set_option linter.all false
set_option maxRecDepth 100000
namespace Sd
open PySem L2
/-! ### more arithmetic -/
/-- small enough to be multiplied and to divide -/
def fits (i : Int) : Bool := decide (i.natAbs < 2 ^ 500)
theorem fits_of {i : Int} (h0 : -(2 ^ 400) ≤ i) (h : i ≤ 2 ^ 400) : fits i = true := decide_eq_true (by omega)
def fits64 (i : Int) : Bool := decide (i.natAbs < 2 ^ 64)
theorem fits64_of {i : Int} (h0 : -(2 ^ 60) ≤ i) (h : i ≤ 2 ^ 60) : fits64 i = true := decide_eq_true (by omega)
theorem fits_lt {i : Int} (h : fits i = true) : i.natAbs < 2 ^ 500 := of_decide_eq_true h
section
variable {p : Pm} {X : Cx} {a b : Expr} {sa sb : List Sl → Res EV} {pos : Pos}
@[simp] def gMulI (x y : PV) : Option EV := gI (fun i j => if fits i = true ∧ fits j = true then some (.int (i * j)) else none) x y
@[simp] def gFdiv (x y : PV) : Option EV := gI (fun i j => if 0 < j ∧ fits j = true then some (.int (i / j)) else none) x y
@[simp] def gMod (x y : PV) : Option EV := gI (fun i j => if 0 < j then some (.int (i % j)) else none) x y
@[simp] def gPow (x y : PV) : Option EV := gI (fun i j => if 0 ≤ j ∧ j ≤ 1000000 ∧ fits64 i = true then some (.int (i ^ j.toNat)) else none) x y
@[simp] def gShl (x y : PV) : Option EV := gI (fun i j => if 0 ≤ j ∧ j ≤ 1000000 ∧ fits64 i = true then some (.int (i * 2 ^ j.toNat)) else none) x y
@[simp] def gShr (x y : PV) : Option EV := gI (fun i j => if 0 ≤ j then some (.int (i / 2 ^ j.toNat)) else none) x y
@[simp] def gBit (x y : PV) : Option EV := gI (fun i j => if 0 ≤ i ∧ j = 1 then some (.int (i % 2)) else none) x y
theorem se_mul (ha : SE p X a sa) (hb : SE p X b sb) : SE p X (.BinOp a .Mult b pos) (eOp gMulI sa sb) := se_op (pe_op op_mulW ha hb) (op2_I fun H i j v Q e q => by
  split at e
  next h => cases e; exact ⟨i, j, rfl, rfl, wide_mul (fits_lt h.1) (fits_lt h.2) (by decide) (by decide) (by decide), q _ fun L => .int _⟩
  next => cases e)
theorem se_fdiv (ha : SE p X a sa) (hb : SE p X b sb) : SE p X (.BinOp a .FloorDiv b pos) (eOp gFdiv sa sb) := se_op (pe_op op_fdivW ha hb) (op2_I fun H i j v Q e q => by
  split at e
  next h => cases e; exact ⟨i, j, rfl, rfl, wide_div h.1 (fits_lt h.2) (by decide) (by decide), q _ fun L => .int _⟩
  next => cases e)
theorem se_mod (ha : SE p X a sa) (hb : SE p X b sb) : SE p X (.BinOp a .Mod b pos) (eOp gMod sa sb) := se_op (pe_op op_mod ha hb) (op2_I fun H i j v Q e q => by
  split at e
  next h => cases e; exact ⟨i, j, rfl, rfl, h, q _ fun L => .int _⟩
  next => cases e)
theorem se_pow (ha : SE p X a sa) (hb : SE p X b sb) : SE p X (.BinOp a .Pow b pos) (eOp gPow sa sb) := se_op (pe_op op_pow ha hb) (op2_I fun H i j v Q e q => by
  split at e
  next h => cases e; exact ⟨i, j, rfl, rfl, ⟨h.1, h.2.1, of_decide_eq_true h.2.2⟩, q _ fun L => .int _⟩
  next => cases e)
theorem se_shl (ha : SE p X a sa) (hb : SE p X b sb) : SE p X (.BinOp a .LShift b pos) (eOp gShl sa sb) := se_op (pe_op op_shl ha hb) (op2_I fun H i j v Q e q => by
  split at e
  next h => cases e; exact ⟨i, j, rfl, rfl, ⟨h.1, h.2.1, of_decide_eq_true h.2.2⟩, q _ fun L => .int _⟩
  next => cases e)
theorem se_shr (ha : SE p X a sa) (hb : SE p X b sb) : SE p X (.BinOp a .RShift b pos) (eOp gShr sa sb) := se_op (pe_op op_shr ha hb) (op2_I fun H i j v Q e q => by
  split at e
  next h => cases e; exact ⟨i, j, rfl, rfl, h, q _ fun L => .int _⟩
  next => cases e)
theorem se_bit (ha : SE p X a sa) (hb : SE p X b sb) : SE p X (.BinOp a .BitAnd b pos) (eOp gBit sa sb) := se_op (pe_op op_odd ha hb) (op2_I fun H i j v Q e q => by
  split at e
  next h =>
    obtain ⟨h0, rfl⟩ := h
    cases e
    refine ⟨i.toNat, by rw [Int.toNat_of_nonneg h0], rfl, ?_⟩
    have e2 : ((i.toNat % 2 : Nat) : Int) = i % 2 := by omega
    rw [e2]
    exact q _ fun L => .int _
  next => cases e)
@[simp] def eNeg (sa : List Sl → Res EV) (m : List Sl) : Res EV := (sa m).bind fun x m1 => match x.v with
  | .int i => .ok (.pv (.int (-i))) m1
  | _ => .stuck
theorem se_neg (ha : SE p X a sa) : SE p X (.UnaryOp .USub a pos) (eNeg sa) := pe_imp (pe_un un_neg ha) fun σ H Q ⟨m, L, st, h⟩ => by
  refine tE_then st h fun v m1 x H1 L1 t ev h1 => ?_
  split at h1
  next i e =>
    have r := ev.rd
    rw [e] at r
    rw [r.int]
    exact ⟨i, rfl, RQ.pv t.st h1 (.int _)⟩
  next => exact h1.elim
end

/-! ### data -/
mutual
def PV.dat : PV → PyData
  | .non => .none
  | .bl b => .bool b
  | .int i => .int i
  | .str x => .str x
  | .ty _ => .none
  | .tup xs => .tuple (PV.dats xs)
  | .tpl _ => .none
  | .lst xs => .list (PV.dats xs)
  | .dct kvs => .dict (PV.datk kvs)
  | .exn _ _ _ => .none
def PV.dats : List PV → List PyData
  | [] => []
  | x :: xs => PV.dat x :: PV.dats xs
def PV.datk : List (Key × PV) → List (PyData × PyData)
  | [] => []
  | (k, v) :: r => ((match k with | .inl i => .int i | .inr x => .str x), PV.dat v) :: PV.datk r
end
mutual
/-- no dict, no class, no error -/
def PV.flat : PV → Bool
  | .ty _ => false
  | .tup xs => PV.flats xs
  | .tpl _ => false
  | .lst xs => PV.flats xs
  | .dct _ => false
  | .exn _ _ _ => false
  | _ => true
def PV.flats : List PV → Bool
  | [] => true
  | x :: xs => PV.flat x && PV.flats xs
end
mutual
/-- no list, no class, no error, dicts empty -/
def PV.nol : PV → Bool
  | .ty _ => false
  | .tup xs => PV.nols xs
  | .tpl _ => false
  | .lst _ => false
  | .dct kvs => kvs.isEmpty
  | .exn _ _ _ => false
  | _ => true
def PV.nols : List PV → Bool
  | [] => true
  | x :: xs => PV.nol x && PV.nols xs
end
section
variable {K : PySem.W.Frag} {H : Hp} {L : Lv}
mutual
theorem VR.dp : ∀ {v : PV} {x : V}, VR K H L v x → v.flat = true → Dp K H x v.dat
  | _, _, .non, _ => by rw [PV.dat]; exact .non
  | _, _, .bl b, _ => by rw [PV.dat]; exact .bl b
  | _, _, .int i, _ => by rw [PV.dat]; exact .int i
  | _, _, .str x, _ => by rw [PV.dat]; exact .str x
  | _, _, .ty n, f => by rw [PV.flat] at f; cases f
  | _, _, .tup e n h, f => by rw [PV.dat]; rw [PV.flat] at f; exact .tup e.sq (VRs.dp h f)
  | _, _, .tpl _ _ _, f => by rw [PV.flat] at f; cases f
  | _, _, .lst e h, f => by rw [PV.dat]; rw [PV.flat] at f; exact .lst e.seq (VRs.dp h f)
  | _, _, .dct _ _ _, f => by rw [PV.flat] at f; cases f
theorem VRs.dp : ∀ {v : List PV} {x : List V}, VRs K H L v x → PV.flats v = true → DpAll K H x (PV.dats v)
  | _, _, .nil, _ => by rw [PV.dats]; exact .nil
  | _, _, .cons h t, f => by
    rw [PV.flats, Bool.and_eq_true] at f
    rw [PV.dats]
    exact .cons (VR.dp h f.1) (VRs.dp t f.2)
end
theorem RdR.dp {v : PV} {x : V} (h : RdR K H L v x) (f : v.flat = true) : Dp K H x v.dat := by
  cases v with
  | lst xs => obtain ⟨a, vs, rfl, e, r⟩ := h; rw [PV.dat]; rw [PV.flat] at f; exact .lst e (r.dp f)
  | dct xs => rw [PV.flat] at f; cases f
  | non => exact VR.dp h f
  | bl b => exact VR.dp h f
  | int i => exact VR.dp h f
  | str i => exact VR.dp h f
  | ty n => exact VR.dp h f
  | tup xs => exact VR.dp h f
  | tpl xs => exact VR.dp h f
  | exn c xs a => exact VR.dp h f
end
section
variable {X : Cx} {pins : List (Addr × Obj)} {σ : L2.St} {H : Hp} {s : Shared} {L : Lv}
theorem dct_rds (I : Inv X pins σ H s) {a : Addr} (e : Rd H a (.dK [])) : ∃ as, Reads s.heap (.ref a) (.dict []) as ∧ sysModules ∉ as := by
  obtain ⟨z, hS, vs, kv, o, es, ep, ho, hc, hd, _, hp, _⟩ := e.ok I.hok
  cases kv
  have e0 : es.toList = [] := by
    generalize es.toList = l at hp
    cases hp
    rfl
  refine ⟨_, .dict (as := []) (bs := []) ho hc.1 hd (by rw [e0]; exact .nil) (by rw [e0]; exact .nil), ?_⟩
  simp only [List.append_nil, List.mem_singleton]
  intro e; rw [← e] at hS; simp at hS
mutual
theorem VR.rds (I : Inv X pins σ H s) : ∀ {v : PV} {x : V} {u : Value}, VR X.K H L v x → v.nol = true → RelV x u → ∃ as, Reads s.heap u v.dat as ∧ sysModules ∉ as
  | _, _, _, .non, _, r => by cases r; rw [PV.dat]; exact ⟨_, .none, by simp⟩
  | _, _, _, .bl b, _, r => by cases r; rw [PV.dat]; exact ⟨_, .bool b, by simp⟩
  | _, _, _, .int i, _, r => by obtain ⟨t, rfl⟩ := r; rw [PV.dat]; exact ⟨_, .int i t, by simp⟩
  | _, _, _, .str x, _, r => by obtain ⟨t, rfl⟩ := r; rw [PV.dat]; exact ⟨_, .str x t, by simp⟩
  | _, _, _, .ty n, f, r => by rw [PV.nol] at f; cases f
  | _, _, _, .tup e n h, f, r => by
    rw [PV.nol] at f
    cases r
    obtain ⟨its, rv, ⟨o, ho, hc, k, hd⟩, _⟩ := I.tuple e.sq
    obtain ⟨as, q, n⟩ := VRs.rds I h f rv
    rw [PV.dat]
    exact ⟨as, .tuple ho hc hd q, n⟩
  | _, _, _, .tpl _ _ _, f, r => by rw [PV.nol] at f; cases f
  | _, _, _, .lst e h, f, r => by rw [PV.nol] at f; cases f
  | _, _, _, .dct e n h, f, r => by
    rw [PV.nol] at f
    cases r
    cases h with
    | cons _ _ => cases f
    | nil =>
      rw [PV.dat, PV.datk]
      exact dct_rds I e
theorem VRs.rds (I : Inv X pins σ H s) : ∀ {v : List PV} {x : List V} {u : List Value}, VRs X.K H L v x → PV.nols v = true → Vals x u → ∃ as, ReadsAll s.heap u (PV.dats v) as ∧ sysModules ∉ as
  | _, _, _, .nil, _, r => by cases r; rw [PV.dats]; exact ⟨_, .nil, by simp⟩
  | _, _, _, .cons h t, f, r => by
    rw [PV.nols, Bool.and_eq_true] at f
    cases r with
    | cons r1 r2 =>
      obtain ⟨as, q1, n1⟩ := VR.rds I h f.1 r1
      obtain ⟨bs, q2, n2⟩ := VRs.rds I t f.2 r2
      rw [PV.dats]
      exact ⟨_, .cons q1 q2, by simp only [List.mem_append, not_or]; exact ⟨n1, n2⟩⟩
end
theorem RdR.rds (I : Inv X pins σ H s) {v : PV} {x : V} {u : Value} (h : RdR X.K H L v x) (f : v.nol = true) (r : RelV x u) : ∃ as, Reads s.heap u v.dat as ∧ sysModules ∉ as := by
  cases v with
  | lst xs => rw [PV.nol] at f; cases f
  | dct kvs =>
    obtain ⟨a, kws, rfl, e, rk⟩ := h
    rw [PV.nol] at f
    cases r
    cases rk with
    | cons _ _ => cases f
    | nil => rw [PV.dat, PV.datk]; exact dct_rds I e
  | non => exact VR.rds I h f r
  | bl b => exact VR.rds I h f r
  | int i => exact VR.rds I h f r
  | str i => exact VR.rds I h f r
  | ty n => exact VR.rds I h f r
  | tup xs => exact VR.rds I h f r
  | tpl xs => exact VR.rds I h f r
  | exn c xs a => exact VR.rds I h f r
end
/-! ### repr -/
def PV.shows (v : PV) : Bool := v.dat.showable && decide (v.dat.shown.length ≤ big) && decide (v.dat.depth ≤ 50) && (v.flat || v.nol)
def rRepr (X : Cx) : List V → Hp → VK → Prop := fun xs H Q => ∃ x L v, xs = [x] ∧ RdR X.K H L v x ∧ v.shows = true ∧ Q (.str v.dat.shown) H
theorem call_reprD {X : Cx} (hg : X.A.guards = some []) (hu : X.A.units + 64 < cLine) : CallR X (.builtin "repr") (rRepr X) := by
  intro pins s σ H xs us Q I r h
  obtain ⟨x, L, v, rfl, hv, hs, q⟩ := h
  obtain ⟨u, rfl, ru⟩ := vals1 r
  unfold PV.shows at hs
  simp only [Bool.and_eq_true, decide_eq_true_eq, Bool.or_eq_true] at hs
  obtain ⟨⟨⟨h1, h2⟩, h3⟩, h4⟩ := hs
  have hz : v.dat.shown.length ≤ sizeLine := by rw [big_eq]; exact h2
  have rd : ∃ as, Reads s.heap u v.dat as ∧ (v.dat.hasDict = true → sysModules ∉ as) := by
    rcases h4 with f | f
    · obtain ⟨as, q⟩ := Dp.reads I _ _ _ (hv.dp f) ru
      refine ⟨as, q, ?_⟩
      have key : ∀ (d : PyData) (y : V), Dp X.K H y d → d.hasDict = true → False := by
        intro d
        refine PyData.rec (motive_1 := fun d => ∀ (y : V), Dp X.K H y d → d.hasDict = true → False) (motive_2 := fun ds => ∀ ys : List V, DpAll X.K H ys ds → PyData.hasDictAll ds = true → False) (motive_3 := fun _ => True) (motive_4 := fun _ => True)
          (fun y _ z => by rw [PyData.hasDict] at z; cases z) (fun b y _ z => by rw [PyData.hasDict] at z; cases z) (fun i y _ z => by rw [PyData.hasDict] at z; cases z) (fun i y _ z => by rw [PyData.hasDict] at z; cases z)
          (fun xs ih y hd z => by rw [PyData.hasDict] at z; cases hd with | lst _ ha => exact ih _ ha z) (fun xs ih y hd z => by rw [PyData.hasDict] at z; cases hd with | tup _ ha => exact ih _ ha z) (fun _ _ y hd _ => by cases hd)
          (fun ys _ z => by rw [PyData.hasDictAll] at z; cases z) (fun d ds i1 i2 ys hd z => by
            rw [PyData.hasDictAll, Bool.or_eq_true] at z
            cases hd with
            | cons a b => exact z.elim (i1 _ a) (i2 _ b)) trivial (fun _ _ _ _ => trivial) (fun _ _ _ _ => trivial) d
      exact fun z => (key _ _ (hv.dp f) z).elim
    · obtain ⟨as, q, n⟩ := RdR.rds I hv f ru
      exact ⟨as, q, fun _ => n⟩
  obtain ⟨as, rd, hm⟩ := rd
  generalize v.dat = d at rd hm h1 h2 h3 hz q
  cases rd with
  | none => rw [PyData.shown] at q; exact PySem.P.repr_of_none ⟨.str _, H, I.tok _, ⟨_, rfl⟩, q⟩
  | bool b => rw [PyData.shown] at q; exact PySem.P.repr_of_bool ⟨.str _, H, I.tok _, ⟨_, rfl⟩, q⟩
  | int i t =>
    rw [PyData.shown] at q
    rw [PyData.showable] at h1
    exact PySem.P.repr_of_int (of_decide_eq_true h1) ⟨.str _, H, I.tok _, ⟨_, rfl⟩, q⟩
  | str y t =>
    rw [PyData.shown] at q hz
    exact PySem.P.repr_of_str ⟨.str _, H, I.tok _, ⟨_, rfl⟩, q⟩ hz
  | list e1 e2 e3 e4 => exact repr_of_reads' (h₀ := s.heap) (.list e1 e2 e3 e4) h1 hm hg (by omega) (fun _ _ e => e) (fun h' u' tk hk => ⟨.str _, H, I.kept hk, ⟨_, rfl⟩, q⟩) hz
  | tuple e1 e2 e3 e4 => exact repr_of_reads' (h₀ := s.heap) (.tuple e1 e2 e3 e4) h1 hm hg (by omega) (fun _ _ e => e) (fun h' u' tk hk => ⟨.str _, H, I.kept hk, ⟨_, rfl⟩, q⟩) hz
  | dict e1 e2 e3 e4 e5 => exact repr_of_reads' (h₀ := s.heap) (.dict e1 e2 e3 e4 e5) h1 hm hg (by omega) (fun _ _ e => e) (fun h' u' tk hk => ⟨.str _, H, I.kept hk, ⟨_, rfl⟩, q⟩) hz
end Sd
end
section
set_option Elab.async false
set_option linter.all false
set_option maxRecDepth 100000
namespace Sd
open PySem L2
section
variable {p : Pm} {X : Cx} {m m1 : List Sl} {σ : L2.St} {H H1 : Hp} {L L1 : Lv}
/-! ### comparisons -/
def gEqB (x y : PV) : Option Bool := match x, y with
  | .str a, .str b => some (decide (a = b))
  | x, y => if (x.flat && y.flat && SeqAt.shaped x.dat && SeqAt.shaped y.dat) = true then some (PyData.eqv x.dat y.dat) else none
@[simp] def gEq (x y : PV) : Option EV := (gEqB x y).map fun b => .pv (.bl b)
@[simp] def gNe (x y : PV) : Option EV := (gEqB x y).map fun b => .pv (.bl !b)
def rEqA (K : PySem.W.Frag) : R2 := fun x y H Q => rEq x y H Q ∨ rEqD K x y H Q
def rNeA (K : PySem.W.Frag) : R2 := fun x y H Q => rNe x y H Q ∨ rNeD K x y H Q
theorem op2_eq {K : PySem.W.Frag} : Op2 K (rEqA K) gEq := by
  intro H L x y z X Y Q wf hx hy e q
  obtain ⟨b, eb, rfl⟩ := Option.map_eq_some_iff.mp e
  unfold gEqB at eb
  split at eb
  next a c => cases eb; rw [hx.str, hy.str]; exact .inl ⟨rfl, by have h := Kq.pv wf (.bl _) q; rw [show decide (V.str a = V.str c) = decide (a = c) by simp]; exact h⟩
  next =>
    split at eb
    next h =>
      cases eb
      simp only [Bool.and_eq_true] at h
      exact .inr ⟨_, _, hx.dp h.1.1.1, hy.dp h.1.1.2, h.1.2, h.2, Kq.pv wf (.bl _) q⟩
    next => cases eb
theorem op2_ne {K : PySem.W.Frag} : Op2 K (rNeA K) gNe := by
  intro H L x y z X Y Q wf hx hy e q
  obtain ⟨b, eb, rfl⟩ := Option.map_eq_some_iff.mp e
  unfold gEqB at eb
  split at eb
  next a c => cases eb; rw [hx.str, hy.str]; exact .inl ⟨rfl, by have h := Kq.pv wf (.bl _) q; rw [show decide (V.str a = V.str c) = decide (a = c) by simp]; exact h⟩
  next =>
    split at eb
    next h =>
      cases eb
      simp only [Bool.and_eq_true] at h
      exact .inr ⟨_, _, hx.dp h.1.1.1, hy.dp h.1.1.2, h.1.2, h.2, Kq.pv wf (.bl _) q⟩
    next => cases eb
@[simp] def gLt (x y : PV) : Option EV := gI (fun i j => some (.bl (decide (i < j)))) x y
@[simp] def gLe (x y : PV) : Option EV := gI (fun i j => some (.bl (decide (i ≤ j)))) x y
@[simp] def gGt (x y : PV) : Option EV := gI (fun i j => some (.bl (decide (j < i)))) x y
@[simp] def gGe (x y : PV) : Option EV := gI (fun i j => some (.bl (decide (j ≤ i)))) x y
@[simp] def gIs (x y : PV) : Option EV := match x, y with
  | .non, .non => some (.pv (.bl true))
  | .ty a, .ty b => some (.pv (.bl (decide (a = b))))
  | .bl a, .bl b => some (.pv (.bl (decide (a = b))))
  | _, .non => some (.pv (.bl false))
  | _, _ => none
@[simp] def gIsNot (x y : PV) : Option EV := match x, y with
  | .non, .non => some (.pv (.bl false))
  | .ty a, .ty b => some (.pv (.bl (!decide (a = b))))
  | .bl a, .bl b => some (.pv (.bl (!decide (a = b))))
  | _, .non => some (.pv (.bl true))
  | _, _ => none
abbrev rIsA : R2 := fun x y H Q => (y = .non ∧ Q (.bl (decide (x = .non))) H) ∨ (∃ a b, x = .ty a ∧ y = .ty b ∧ Q (.bl (decide (a = b))) H) ∨ ∃ a b : Bool, x = .bl a ∧ y = .bl b ∧ Q (.bl (decide (a = b))) H
abbrev rNotA : R2 := fun x y H Q => (y = .non ∧ Q (.bl (!decide (x = .non))) H) ∨ (∃ a b, x = .ty a ∧ y = .ty b ∧ Q (.bl (!decide (a = b))) H) ∨ ∃ a b : Bool, x = .bl a ∧ y = .bl b ∧ Q (.bl (!decide (a = b))) H
theorem op_isA {X : Cx} : OpR X (compareOp .Is) rIsA := OpR.or op_isN (OpR.or op_isTyB op_isBl)
theorem op_notA {X : Cx} : OpR X (compareOp .IsNot) rNotA := OpR.or op_notN (OpR.or op_notTyB op_notBl)
theorem RdR.ty {K : PySem.W.Frag} {n : String} {x : V} (h : RdR K H L (.ty n) x) : x = .ty n := by cases (show VR K H L (.ty n) x from h); rfl
theorem RdR.ne_non {K : PySem.W.Frag} {v : PV} {x : V} (h : RdR K H L v x) (n : v ≠ .non) : decide (x = .non) = false := by
  refine decide_eq_false fun e => ?_
  subst e
  cases v with
  | non => exact n rfl
  | lst xs => obtain ⟨_, _, e, _⟩ := h; cases e
  | dct xs => obtain ⟨_, _, e, _⟩ := h; cases e
  | bl b => cases (show VR K H L _ _ from h)
  | int b => cases (show VR K H L _ _ from h)
  | str b => cases (show VR K H L _ _ from h)
  | ty b => cases (show VR K H L _ _ from h)
  | tup b => cases (show VR K H L _ _ from h)
  | tpl b => cases (show VR K H L _ _ from h)
  | exn _ _ _ => cases (show VR K H L _ _ from h)
theorem op2_is {K : PySem.W.Frag} : Op2 K rIsA gIs := by
  intro H L x y z X Y Q wf hx hy e q
  unfold gIs at e
  split at e
  next => cases e; rw [hx.non, hy.non]; exact .inl ⟨rfl, by rw [decide_eq_true rfl]; exact Kq.pv wf (.bl _) q⟩
  next a b => cases e; rw [hx.ty, hy.ty]; exact .inr (.inl ⟨a, b, rfl, rfl, Kq.pv wf (.bl _) q⟩)
  next a b => cases e; rw [hx.bl, hy.bl]; exact .inr (.inr ⟨a, b, rfl, rfl, Kq.pv wf (.bl _) q⟩)
  next n => cases e; rw [hy.non]; exact .inl ⟨rfl, by rw [hx.ne_non n]; exact Kq.pv wf (.bl _) q⟩
  next => cases e
theorem op2_isnot {K : PySem.W.Frag} : Op2 K rNotA gIsNot := by
  intro H L x y z X Y Q wf hx hy e q
  unfold gIsNot at e
  split at e
  next => cases e; rw [hx.non, hy.non]; exact .inl ⟨rfl, by rw [decide_eq_true rfl]; exact Kq.pv wf (.bl _) q⟩
  next a b => cases e; rw [hx.ty, hy.ty]; exact .inr (.inl ⟨a, b, rfl, rfl, Kq.pv wf (.bl _) q⟩)
  next a b => cases e; rw [hx.bl, hy.bl]; exact .inr (.inr ⟨a, b, rfl, rfl, Kq.pv wf (.bl _) q⟩)
  next n => cases e; rw [hy.non]; exact .inl ⟨rfl, by rw [hx.ne_non n]; exact Kq.pv wf (.bl _) q⟩
  next => cases e
/-- ints of a list or a tuple -/
@[simp] def PV.i? : PV → Option Int
  | .int i => some i
  | _ => none
def ints? : List PV → Option (List Int)
  | [] => some []
  | v :: vs => match v.i?, ints? vs with
    | some i, some is => some (i :: is)
    | _, _ => none
@[simp] theorem ints?_map : ∀ ns : List Int, ints? (ns.map PV.int) = some ns
  | [] => rfl
  | n :: ns => by simp [ints?, PV.i?, ints?_map ns]
theorem ints?_eq : ∀ {vs : List PV} {ns : List Int}, ints? vs = some ns → vs = ns.map PV.int
  | [], ns, h => by cases h; rfl
  | v :: vs, ns, h => by
    unfold ints? at h
    split at h
    next i is e1 e2 =>
      cases h
      rw [ints?_eq e2, List.map_cons]
      cases v <;> first | (cases e1; rfl) | cases e1
    next => cases h
@[simp] def PV.seq? : PV → Option (List PV)
  | .lst xs => some xs
  | .tup xs => some xs
  | _ => none
def gInB (x y : PV) : Option Bool := match x, y.seq? with
  | .int i, some ys => (ints? ys).map fun ns => decide (i ∈ ns)
  | _, _ => none
@[simp] def gIn (x y : PV) : Option EV := (gInB x y).map fun b => .pv (.bl b)
@[simp] def gNotIn (x y : PV) : Option EV := (gInB x y).map fun b => .pv (.bl !b)
theorem inV_ints (i : Int) : ∀ ns : List Int, inV (.int i) (ns.map V.int) = decide (i ∈ ns)
  | [] => by simp [inV]
  | n :: ns => by
    have ih := inV_ints i ns
    unfold inV at ih ⊢
    rw [List.map_cons, List.any_cons, ih]
    by_cases e : i = n
    · subst e; simp [eqV]
    · have : (n == i) = false := by simp; exact fun z => e z.symm
      simp [eqV, e, this]
theorem flat_ints : ∀ ns : List Int, (ns.map V.int).all flatV = true
  | [] => rfl
  | n :: ns => by rw [List.map_cons, List.all_cons, flat_ints ns]; rfl
theorem RdR.ints {K : PySem.W.Frag} {v : PV} {x : V} {ys : List PV} {ns : List Int} (h : RdR K H L v x) (e : v.seq? = some ys) (i : ints? ys = some ns) : ∃ a, x = .ref a ∧ (SqL K H a (ns.map V.int) ∨ SqT K H a (ns.map V.int)) := by
  cases v <;> first | cases e | skip
  · obtain ⟨a, vs, rfl, e1, _, r⟩ := h.tup
    rw [ints?_eq i] at r
    rw [r.ints] at e1
    exact ⟨a, rfl, .inr e1.sq⟩
  · obtain ⟨a, vs, rfl, e1, r⟩ := h.lst
    rw [ints?_eq i] at r
    rw [r.ints] at e1
    exact ⟨a, rfl, .inl e1⟩
theorem op2_in {K : PySem.W.Frag} : Op2 K (rIn K false) gIn := by
  intro H L x y z X Y Q wf hx hy e q
  obtain ⟨b, eb, rfl⟩ := Option.map_eq_some_iff.mp e
  unfold gInB at eb
  split at eb
  next i ys ey =>
    obtain ⟨ns, en, rfl⟩ := Option.map_eq_some_iff.mp eb
    obtain ⟨a, rfl, hs⟩ := hy.ints ey en
    rw [hx.int]
    exact ⟨a, _, rfl, hs, rfl, flat_ints ns, by rw [inV_ints]; exact Kq.pv wf (.bl _) q⟩
  next => cases eb
theorem op2_notIn {K : PySem.W.Frag} : Op2 K (rIn K true) gNotIn := by
  intro H L x y z X Y Q wf hx hy e q
  obtain ⟨b, eb, rfl⟩ := Option.map_eq_some_iff.mp e
  unfold gInB at eb
  split at eb
  next i ys ey =>
    obtain ⟨ns, en, rfl⟩ := Option.map_eq_some_iff.mp eb
    obtain ⟨a, rfl, hs⟩ := hy.ints ey en
    rw [hx.int]
    exact ⟨a, _, rfl, hs, rfl, flat_ints ns, by rw [inV_ints]; exact Kq.pv wf (.bl _) q⟩
  next => cases eb

/-! ### tests -/
@[simp] def sBool (s : List Sl → Res EV) (m : List Sl) : Res Bool := (s m).bind fun v m1 => match v.v with
  | .bl b => .ok b m1
  | _ => .stuck
@[simp] def truB (v : PV) : Option Bool := match v with
  | .non => some false
  | .bl b => some b
  | .int i => some (i != 0)
  | .str y => if y.length ≤ big then some ((y.length : Int) != 0) else none
  | .lst xs => some (!xs.isEmpty)
  | .tup xs => some (!xs.isEmpty)
  | _ => none
@[simp] def sTru (s : List Sl → Res EV) (m : List Sl) : Res Bool := (s m).bind fun v m1 => match truB v.v with
  | some b => .ok b m1
  | none => .stuck
theorem RT.ok {b : Bool} {Q : Bool → Hp → Prop} (st : StR p.K p.B m σ H L) (h : RT p m σ H L (.ok b m) Q) : Q b H := h H L (.refl st)
theorem st_bool {e : Expr} {s : List Sl → Res EV} {te : TE} (h : PT X e (fun σ H Q => te σ H fun x H' => ∃ k, x = .bl k ∧ Q k H')) (i : ∀ σ H Q, tE p s σ H Q → te σ H Q) : ST p X e (sBool s) := pt_imp h fun σ H Q ⟨m, L, st, h⟩ => by
  refine i _ _ _ (tE_thenT st h fun v m1 x H1 L1 t ev h1 => ?_)
  split at h1
  next b e =>
    have r := ev.rd
    rw [e] at r
    exact ⟨b, r.bl, RT.ok t.st h1⟩
  next => exact h1.elim
theorem VRs.isEmpty {K : PySem.W.Frag} {xs : List PV} {vs : List V} (r : VRs K H L xs vs) : xs.isEmpty = vs.isEmpty := by cases r <;> rfl
theorem st_tru {e : Expr} {s : List Sl → Res EV} (hk : X.K = p.K) (h : SE p X e s) (he : ∀ whole, isTrue e X.env whole = (do let v ← whole; standAt e.pos; holding [v] (truthy v))) : ST p X e (sTru s) := pt_imp (pt_truth h he) fun σ H Q ⟨m, L, st, h⟩ => by
  refine tE_thenT st h fun v m1 x H1 L1 t ev h1 => ?_
  cases eb : truB v.v with
  | none => rw [eb] at h1; exact h1.elim
  | some b =>
    rw [eb] at h1
    refine ⟨b, ?_, RT.ok t.st h1⟩
    have r := ev.rd
    rw [hk]
    cases ev' : v.v with
    | non => rw [ev'] at r eb; cases eb; rw [r.non]; exact rfl
    | bl b => rw [ev'] at r eb; cases eb; rw [r.bl]; exact rfl
    | int i => rw [ev'] at r eb; cases eb; rw [r.int]; exact rfl
    | str y =>
      rw [ev'] at r eb
      have eb' : (if y.length ≤ big then some ((y.length : Int) != 0) else none) = some b := eb
      split at eb'
      next hz => cases eb'; rw [r.str]; exact ⟨by rw [big_eq]; exact hz, rfl⟩
      next => cases eb'
    | lst xs => rw [ev'] at r eb; cases eb; obtain ⟨a, vs, rfl, e1, rr⟩ := r.lst; exact .inl ⟨vs, e1, by rw [rr.isEmpty]⟩
    | tup xs => rw [ev'] at r eb; cases eb; obtain ⟨a, vs, rfl, e1, _, rr⟩ := r.tup; exact .inr (.inl ⟨vs, e1.sq, by rw [rr.isEmpty]⟩)
    | ty n => rw [ev'] at eb; cases eb
    | tpl n => rw [ev'] at eb; cases eb
    | dct n => rw [ev'] at eb; cases eb
    | exn _ _ _ => rw [ev'] at eb; cases eb
@[simp] def sAnd (s t : List Sl → Res Bool) (m : List Sl) : Res Bool := (s m).bind fun b m1 => if b then t m1 else .ok false m1
@[simp] def sOr (s t : List Sl → Res Bool) (m : List Sl) : Res Bool := (s m).bind fun b m1 => if b then .ok true m1 else t m1
@[simp] def sNot (s : List Sl → Res Bool) (m : List Sl) : Res Bool := (s m).bind fun b m1 => .ok (!b) m1
def SW (p : Pm) (X : Cx) (e : Expr) (s : List Sl → Res Bool) : Prop := PW X e (tT p s)
theorem SW.st {e : Expr} {s : List Sl → Res Bool} (h : SW p X e s) : ST p X e s := PW.pt h
section
variable {a b : Expr} {rest : List Expr} {pos : Pos} {s t : List Sl → Res Bool}
theorem sw_and1 (ha : ST p X a s) : SW p X (.BoolOp .And [a] pos) s := pw_and1 ha
theorem sw_or1 (ha : ST p X a s) : SW p X (.BoolOp .Or [a] pos) s := pw_or1 ha
theorem sw_and (ha : ST p X a s) (hb : SW p X (.BoolOp .And (b :: rest) pos) t) : SW p X (.BoolOp .And (a :: b :: rest) pos) (sAnd s t) := pw_imp (pw_and ha hb) fun σ H Q ⟨m, L, st, h⟩ => by
  refine tT_thenT st h fun v m1 H1 L1 tr h1 => ?_
  cases v with
  | true => exact ⟨m1, L1, tr.st, h1⟩
  | false => exact RT.ok tr.st h1
theorem sw_or (ha : ST p X a s) (hb : SW p X (.BoolOp .Or (b :: rest) pos) t) : SW p X (.BoolOp .Or (a :: b :: rest) pos) (sOr s t) := pw_imp (pw_or ha hb) fun σ H Q ⟨m, L, st, h⟩ => by
  refine tT_thenT st h fun v m1 H1 L1 tr h1 => ?_
  cases v with
  | false => exact ⟨m1, L1, tr.st, h1⟩
  | true => exact RT.ok tr.st h1
theorem st_not (ha : ST p X a s) : ST p X (.UnaryOp .Not a pos) (sNot s) := pt_imp (pt_not ha) fun σ H Q ⟨m, L, st, h⟩ => tT_thenT st h fun v m1 H1 L1 tr h1 => RT.ok tr.st h1
/-! a test as a value -/
def eOfT (s : List Sl → Res Bool) : List Sl → Res EV := fun m => (s m).bind fun b m1 => .ok (.pv (.bl b)) m1
@[simp] def eAnd (s t : List Sl → Res EV) (m : List Sl) : Res EV := (s m).bind fun v m1 => match v.v with
  | .bl true => t m1
  | .bl false => .ok (.pv (.bl false)) m1
  | _ => .stuck
@[simp] def eOr (s t : List Sl → Res EV) (m : List Sl) : Res EV := (s m).bind fun v m1 => match v.v with
  | .bl false => t m1
  | .bl true => .ok (.pv (.bl true)) m1
  | _ => .stuck
@[simp] def eNot (s : List Sl → Res EV) (m : List Sl) : Res EV := (s m).bind fun v m1 => match v.v with
  | .bl b => .ok (.pv (.bl !b)) m1
  | _ => .stuck
variable {ea eb : List Sl → Res EV}
theorem se_one {op : BoolOp} (h : SE p X a ea) : SE p X (.BoolOp op [a] pos) ea := pe_one h
theorem se_and (ha : SE p X a ea) (hb : SE p X (.BoolOp .And (b :: rest) pos) eb) : SE p X (.BoolOp .And (a :: b :: rest) pos) (eAnd ea eb) := pe_imp (pe_and ha hb) fun σ H Q ⟨m, L, st, h⟩ => by
  refine tE_then st h fun v m1 x H1 L1 t ev h1 => ?_
  split at h1
  next e => have r := ev.rd; rw [e] at r; exact ⟨true, r.bl, ⟨m1, L1, t.st, h1⟩⟩
  next e => have r := ev.rd; rw [e] at r; exact ⟨false, r.bl, RQ.pv t.st h1 (.bl _)⟩
  next => exact h1.elim
theorem se_or (ha : SE p X a ea) (hb : SE p X (.BoolOp .Or (b :: rest) pos) eb) : SE p X (.BoolOp .Or (a :: b :: rest) pos) (eOr ea eb) := pe_imp (pe_or ha hb) fun σ H Q ⟨m, L, st, h⟩ => by
  refine tE_then st h fun v m1 x H1 L1 t ev h1 => ?_
  split at h1
  next e => have r := ev.rd; rw [e] at r; exact ⟨false, r.bl, ⟨m1, L1, t.st, h1⟩⟩
  next e => have r := ev.rd; rw [e] at r; exact ⟨true, r.bl, RQ.pv t.st h1 (.bl _)⟩
  next => exact h1.elim
theorem se_not (ha : SE p X a ea) : SE p X (.UnaryOp .Not a pos) (eNot ea) := pe_imp (pe_not ha) fun σ H Q ⟨m, L, st, h⟩ => by
  refine tE_then st h fun v m1 x H1 L1 t ev h1 => ?_
  split at h1
  next b e => have r := ev.rd; rw [e] at r; exact ⟨b, r.bl, RQ.pv t.st h1 (.bl _)⟩
  next => exact h1.elim
@[simp] def eIf (c : List Sl → Res Bool) (sa sb : List Sl → Res EV) (m : List Sl) : Res EV := (c m).bind fun v m1 => if v then sa m1 else sb m1
theorem se_if {c : Expr} (hc : ST p X c s) (ha : SE p X a ea) (hb : SE p X b eb) : SE p X (.IfExp c a b pos) (eIf s ea eb) := pe_imp (pe_ifExp hc ha hb) fun σ H Q ⟨m, L, st, h⟩ => by
  refine tT_then st h fun v m1 H1 L1 tr h1 => ?_
  cases v with
  | true => exact ⟨m1, L1, tr.st, h1⟩
  | false => exact ⟨m1, L1, tr.st, h1⟩
end
/-! comparisons of expressions -/
section
variable {a b c : Expr} {sa sb sc : List Sl → Res EV} {pos : Pos}
theorem tE_op {r : R2} {g : PV → PV → Option EV} {sa sb : List Sl → Res EV} (hr : Op2 p.K r g) : ∀ σ H Q, tE p (eOp g sa sb) σ H Q → tOp r (tE p sa) (tE p sb) σ H Q := fun σ H Q ⟨m, L, st, h⟩ => by
  refine tE_then st h fun v m1 x H1 L1 t ev h1 => ?_
  refine tE_then t.st h1 fun u m2 y H2 L2 t2 ev2 h2 => ?_
  have ev' := ev.over st t t2
  cases e : g v.v u.v with
  | none => rw [e] at h2; exact h2.elim
  | some z =>
    rw [e] at h2
    exact hr H2 L2 v.v u.v z x y Q t2.st.wf ev'.rd ev2.rd e fun Z H' L' s wf r => RQ.new t2.st h2 s wf r
theorem se_cmp {op : CmpOp} {r : R2} {g : PV → PV → Option EV} (ho : OpR X (compareOp op) r) (hr : Op2 p.K r g) (hm : behindInMarks op b = false) (ha : SE p X a sa) (hb : SE p X b sb) : SE p X (.Compare a [op] [b] pos) (eOp g sa sb) :=
  pe_imp (pe_cmpR ho ha hb hm) (tE_op hr)
theorem st_cmp {op : CmpOp} {r : R2} {g : PV → PV → Option EV} (ho : OpR X (compareOp op) r) (hr : Op2 p.K r g) (hm : behindInMarks op b = false) (ha : SE p X a sa) (hb : SE p X b sb) : ST p X (.Compare a [op] [b] pos) (sBool (eOp g sa sb)) :=
  st_bool (te := tOp r (tE p sa) (tE p sb)) (pt_cmpR ho ha hb hm) (tE_op hr)
/-- a op b op' c -/
@[simp] def eChain (g g' : PV → PV → Option EV) (sa sb sc : List Sl → Res EV) (m : List Sl) : Res EV := (sa m).bind fun x m1 => (sb m1).bind fun y m2 => match g x.v y.v with
  | some (.pv (.bl true)) => (sc m2).bind fun z m3 => match g' y.v z.v with
    | some w => .ok w m3
    | none => .stuck
  | some (.pv (.bl false)) => .ok (.pv (.bl false)) m2
  | _ => .stuck
theorem tE_chain {r r' : R2} {g g' : PV → PV → Option EV} {sa sb sc : List Sl → Res EV} (hr : Op2 p.K r g) (hr' : Op2 p.K r' g') : ∀ σ H Q, tE p (eChain g g' sa sb sc) σ H Q → tChain r r' (tE p sa) (tE p sb) (tE p sc) σ H Q := fun σ H Q ⟨m, L, st, h⟩ => by
  refine tE_then st h fun v m1 x H1 L1 t ev h1 => ?_
  refine tE_then t.st h1 fun u m2 y H2 L2 t2 ev2 h2 => ?_
  have ev' := ev.over st t t2
  split at h2
  next e =>
    refine hr H2 L2 _ _ _ x y _ t2.st.wf ev'.rd ev2.rd e fun Z H3 L3 s wf rz => ?_
    cases (show VR p.K H3 L3 (.bl true) Z from rz)
    refine ⟨true, rfl, ?_⟩
    rw [if_pos rfl]
    have t3 := Tr.grow t2.st s wf
    refine tE_then t3.st (RQ.go t3 h2) fun w m3 z H4 L4 t4 ev4 h4 => ?_
    have ev5 := ev2.over t.st t2 (t3.trans t4)
    cases e' : g' u.v w.v with
    | none => rw [e'] at h4; exact h4.elim
    | some q =>
      rw [e'] at h4
      exact hr' H4 L4 u.v w.v q y z Q t4.st.wf ev5.rd ev4.rd e' fun Z H' L' s wf r => RQ.new t4.st h4 s wf r
  next e =>
    refine hr H2 L2 _ _ _ x y _ t2.st.wf ev'.rd ev2.rd e fun Z H3 L3 s wf rz => ?_
    cases (show VR p.K H3 L3 (.bl false) Z from rz)
    refine ⟨false, rfl, ?_⟩
    rw [if_neg Bool.false_ne_true]
    exact RQ.new t2.st h2 s wf (show EvR p.K H2 H3 L3 (.pv (.bl false)) _ from .bl false)
  next => exact h2.elim
theorem se_chain {op op' : CmpOp} {r r' : R2} {g g' : PV → PV → Option EV} (ho : OpR X (compareOp op) r) (hr : Op2 p.K r g) (ho' : OpR X (compareOp op') r') (hr' : Op2 p.K r' g') (ha : SE p X a sa) (hb : SE p X b sb) (hc : SE p X c sc) (hm : lastMarks [op, op'] [b, c] = false) :
    SE p X (.Compare a [op, op'] [b, c] pos) (eChain g g' sa sb sc) := pe_imp (pe_chain ho ho' ha hb hc hm) (tE_chain hr hr')
theorem st_chain {op op' : CmpOp} {r r' : R2} {g g' : PV → PV → Option EV} (ho : OpR X (compareOp op) r) (hr : Op2 p.K r g) (ho' : OpR X (compareOp op') r') (hr' : Op2 p.K r' g') (ha : SE p X a sa) (hb : SE p X b sb) (hc : SE p X c sc) (hm : lastMarks [op, op'] [b, c] = false) :
    ST p X (.Compare a [op, op'] [b, c] pos) (sBool (eChain g g' sa sb sc)) := st_bool (te := tChain r r' (tE p sa) (tE p sb) (tE p sc)) (pt_chain ho ho' ha hb hc hm) (tE_chain hr hr')
end
end
end Sd
end
section
set_option Elab.async false
set_option linter.all false
set_option maxRecDepth 100000
namespace Sd
open PySem L2
/-! ### several values in a row -/
inductive AV where
  | ev (v : EV) | io (i : Nat)
  deriving Inhabited
inductive ArgD where
  | val (s : List Sl → Res EV) | io (i : Nat)
def AvR (K : PySem.W.Frag) (σ : L2.St) (H0 H : Hp) (L : Lv) : AV → V → Prop
  | .ev v, x => EvR K H0 H L v x
  | .io i, x => σ[i]? = some (some x)
def AV.isNew : AV → Prop
  | .ev (.nw _) => True
  | _ => False
inductive AvRs (K : PySem.W.Frag) (σ : L2.St) (H0 H : Hp) (L : Lv) : List AV → List V → Prop
  | nil : AvRs K σ H0 H L [] []
  | cons {v : AV} {x : V} {vs : List AV} {xs : List V} : AvR K σ H0 H L v x → AvRs K σ H0 H L vs xs → (v.isNew → ∀ w, w.isNew → (w, x) ∉ vs.zip xs) → AvRs K σ H0 H L (v :: vs) (x :: xs)
@[simp] def eArgs : List ArgD → List Sl → Res (List AV)
  | [], m => .ok [] m
  | .val s :: r, m => (s m).bind fun v m1 => (eArgs r m1).bind fun vs m2 => .ok (.ev v :: vs) m2
  | .io i :: r, m => match m[i]? with
    | some (.own _) => (eArgs r m).bind fun vs m2 => .ok (.io i :: vs) m2
    | some (.bor _) => (eArgs r m).bind fun vs m2 => .ok (.io i :: vs) m2
    | _ => .stuck
def RA (p : Pm) (m : List Sl) (σ : L2.St) (H : Hp) (L : Lv) (r : Res (List AV)) (Q : List V → Hp → Prop) : Prop := match r with
  | .ok vs m' => ∀ xs H' L', Tr p.K p.B m σ H L m' σ H' L' → AvRs p.K σ H H' L' vs xs → Q xs H'
  | .exc c m' => RX p m σ H L c m'
  | .stuck => False
def tA (p : Pm) (s : List Sl → Res (List AV)) : TA := fun σ H Q => ∃ m L, StR p.K p.B m σ H L ∧ RA p m σ H L (s m) Q
def SA (p : Pm) (X : Cx) (es : List Expr) (ss : List ArgD) : Prop := PA X es (tA p (eArgs ss))
section
variable {p : Pm} {X : Cx} {m m1 : List Sl} {σ : L2.St} {H H1 : Hp} {L L1 : Lv}
theorem RA.go {r : Res (List AV)} {Q : List V → Hp → Prop} (t : Tr p.K p.B m σ H L m1 σ H1 L1) (h : RA p m1 σ H1 L1 r fun xs H' => ∀ L' vs m', r = .ok vs m' → Tr p.K p.B m1 σ H1 L1 m' σ H' L' → AvRs p.K σ H1 H' L' vs xs → Q xs H') : True := trivial
theorem pa_imp {es : List Expr} {t t' : TA} (h : PA X es t) (i : ∀ σ H Q, t' σ H Q → t σ H Q) : PA X es t' := ⟨fun pos pins s σ H Q I hq => h.run pos pins s σ H Q I (i σ H Q hq)⟩
theorem AvRs.over {K : PySem.W.Frag} {B : Nat → Option Addr} {H0 : Hp} : ∀ {vs : List AV} {xs : List V} {m m1 m2 : List Sl} {H1 H2 : Hp} {L L1 L2 : Lv}, StR K B m σ H L → Tr K B m σ H L m1 σ H1 L1 → Tr K B m1 σ H1 L1 m2 σ H2 L2 → AvRs K σ H H1 L1 vs xs → AvRs K σ H H2 L2 vs xs
  | _, _, _, _, _, _, _, _, _, _, st, s, t, .nil => .nil
  | _, _, _, _, _, _, _, _, _, _, st, s, t, .cons (v := .ev v) h r n => .cons (v := .ev v) (EvR.over st s t h) (AvRs.over (H0 := H0) st s t r) n
  | _, _, _, _, _, _, _, _, _, _, st, s, t, .cons (v := .io i) h r n => .cons (v := .io i) h (AvRs.over (H0 := H0) st s t r) n
theorem AvRs.back {K : PySem.W.Frag} {H0 H1 H2 : Hp} {L2 : Lv} (n : ∀ a, H1 a = none → H0 a = none) : ∀ {vs : List AV} {xs : List V}, AvRs K σ H1 H2 L2 vs xs → AvRs K σ H0 H2 L2 vs xs
  | _, _, .nil => .nil
  | _, _, .cons (v := .ev v) h r k => .cons (v := .ev v) (EvR.back h n) (AvRs.back n r) k
  | _, _, .cons (v := .io i) h r k => .cons (v := .io i) h (AvRs.back n r) k
theorem ObR.notLk {K : PySem.W.Frag} {H : Hp} {L : Lv} {o : Ob} {a : Addr} {kvs : List (Key × PV)} (h : ObR K H L o a) (r : LkR K H L kvs a) : False := by
  obtain ⟨od, kws, e, _⟩ := r
  cases o <;> (obtain ⟨_, e2, _⟩ := h; rw [e] at e2; cases e2)
theorem AvRs.newLk {K : PySem.W.Frag} {H0 H2 : Hp} {L2 : Lv} {kvs : List (Key × PV)} : ∀ {vs : List AV} {xs : List V} {w : AV} {a : Addr}, AvRs K σ H0 H2 L2 vs xs → w.isNew → (w, V.ref a) ∈ vs.zip xs → LkR K H2 L2 kvs a → False
  | _, _, w, a, .nil, _, h, _ => by simp at h
  | _, _, w, a, .cons (v := v) (x := x) h r k, hw, hm, lk => by
    rw [List.zip_cons_cons, List.mem_cons] at hm
    rcases hm with e | hm
    · injection e with e1 e2
      subst e1
      subst e2
      cases w with
      | io i => exact hw.elim
      | ev v =>
        cases v with
        | pv v => exact hw.elim
        | nw o => obtain ⟨b, e, n, _, ob⟩ := h; cases e; exact ob.notLk lk
    · exact AvRs.newLk r hw hm lk
/-- new ones among them were not there -/
theorem AvRs.newNone {K : PySem.W.Frag} {H0 H2 : Hp} {L2 : Lv} : ∀ {vs : List AV} {xs : List V} {w : AV} {a : Addr}, AvRs K σ H0 H2 L2 vs xs → w.isNew → (w, V.ref a) ∈ vs.zip xs → H0 a = none
  | _, _, w, a, .nil, _, h => by simp at h
  | _, _, w, a, .cons (v := v) (x := x) h r k, hw, hm => by
    rw [List.zip_cons_cons, List.mem_cons] at hm
    rcases hm with e | hm
    · injection e with e1 e2
      subst e1
      subst e2
      cases w with
      | io i => exact hw.elim
      | ev v =>
        cases v with
        | pv v => exact hw.elim
        | nw o => obtain ⟨b, e, n, _⟩ := h; cases e; exact n
    · exact AvRs.newNone r hw hm
theorem sa_nil : SA p X [] [] := pa_imp pa_nil fun σ H Q ⟨m, L, st, h⟩ => h [] H L (.refl st) .nil
theorem sa_val {e : Expr} {es : List Expr} {s : List Sl → Res EV} {ss : List ArgD} (ha : SE p X e s) (hr : SA p X es ss) (hs : starEach (e :: es) X.env = (false, eval e X.env) :: starEach es X.env) : SA p X (e :: es) (.val s :: ss) := pa_imp (pa_cons ha hr hs) fun σ H Q ⟨m, L, st, h⟩ => by
  unfold eArgs at h
  refine ⟨m, L, st, ?_⟩
  cases e1 : s m with
  | stuck => rw [e1] at h; exact h.elim
  | exc c m1 => rw [e1] at h; exact h
  | ok v m1 =>
    rw [e1] at h
    intro x H1 L1 t ev
    refine ⟨m1, L1, t.st, ?_⟩
    rw [Res.bind_ok] at h
    cases e2 : eArgs ss m1 with
    | stuck => rw [e2] at h; exact h.elim
    | exc c m2 => rw [e2] at h; exact RX.go t h
    | ok vs m2 =>
      rw [e2] at h
      intro xs H2 L2 t2 evs
      refine h (x :: xs) H2 L2 (t.trans t2) (.cons (v := .ev v) (ev.over st t t2) (evs.back fun a => none_back t.stp) fun hn w hw hm => ?_)
      cases v with
      | pv v => exact hn.elim
      | nw o =>
        obtain ⟨a, rfl, _, l, r⟩ := ev
        exact r.some (evs.newNone hw hm)
theorem sa_io {e : Expr} {es : List Expr} {i : Nat} {ss : List ArgD} (ha : PE X e (tVar i)) (hr : SA p X es ss) (hs : starEach (e :: es) X.env = (false, eval e X.env) :: starEach es X.env) : SA p X (e :: es) (.io i :: ss) := pa_imp (pa_cons ha hr hs) fun σ H Q ⟨m, L, st, h⟩ => by
  unfold eArgs at h
  have go : ∀ (s : Sl), m[i]? = some s → (∃ a, σ[i]? = some (some (.ref a))) → RA p m σ H L ((eArgs ss m).bind fun vs m2 => .ok (.io i :: vs) m2) Q → tCons (tVar i) (tA p (eArgs ss)) σ H Q := fun s es ⟨a, ea⟩ h => by
    refine ⟨.ref a, ea, m, L, st, ?_⟩
    cases e2 : eArgs ss m with
    | stuck => rw [e2] at h; exact h.elim
    | exc c m2 => rw [e2] at h; exact h
    | ok vs m2 =>
      rw [e2] at h
      intro xs H2 L2 t2 evs
      exact h (.ref a :: xs) H2 L2 t2 (.cons (v := .io i) ea evs fun hn => hn.elim)
  split at h
  next o e => obtain ⟨x, ex, a, rfl, _⟩ := st.at e; exact go _ e ⟨a, ex⟩ h
  next o e => obtain ⟨x, ex, a, rfl, _⟩ := st.at e; exact go _ e ⟨a, ex⟩ h
  next => exact h.elim
/-- all as values -/
@[simp] def AV.v : AV → PV
  | .ev v => v.v
  | .io _ => .non
@[simp] def allEv : List AV → Bool
  | [] => true
  | .ev _ :: r => allEv r
  | .io _ :: _ => false
theorem AvRs.freeze {K : PySem.W.Frag} {H0 H : Hp} : ∀ {vs : List AV} {xs : List V} {L : Lv}, allEv vs = true → AvRs K σ H0 H L vs xs → ∃ L' : Lv, (∀ a, L' a → L a) ∧ (∀ a, L a → (∀ w : AV, w.isNew → (w, V.ref a) ∉ vs.zip xs) → L' a) ∧ VRs K H L' (vs.map AV.v) xs
  | [], _, L, _, h => by cases h; exact ⟨L, fun _ z => z, fun _ z _ => z, .nil⟩
  | .io i :: _, _, L, f, _ => by cases f
  | .ev v :: vs, _, L, f, h => by
    cases h with
    | @cons _ x _ xs h r n =>
    obtain ⟨L1, a1, c1, r1⟩ := AvRs.freeze (vs := vs) f r
    have mono1 : Stp (fun b => ¬ L1 b) H L H L1 := ⟨fun _ z => z, fun b u e n => ⟨e, fun z => n (a1 b z)⟩, fun b u e l n => ⟨e, Classical.byContradiction n⟩⟩
    have h1 : EvR K H0 H L1 v x := by
      cases v with
      | pv v => exact VR.mono mono1 h
      | nw o =>
        obtain ⟨b, rfl, nb, lb, rb⟩ := h
        have lb1 : L1 b := c1 b lb (n trivial)
        exact ⟨b, rfl, nb, lb1, (rb.mono mono1 lb (fun z => z lb1)).1⟩
    obtain ⟨L2, a2, c2, r2⟩ := h1.freeze
    have mono2 : Stp (fun b => ¬ L2 b) H L1 H L2 := ⟨fun _ z => z, fun b u e n => ⟨e, fun z => n (a2 b z)⟩, fun b u e l n => ⟨e, Classical.byContradiction n⟩⟩
    refine ⟨L2, fun a z => a1 a (a2 a z), fun a la hn => c2 a (c1 a la fun w hw hm => hn w hw (by rw [List.zip_cons_cons]; exact List.mem_cons_of_mem _ hm)) fun o e1 e2 => ?_, .cons r2 (r1.mono mono2)⟩
    subst e1
    subst e2
    exact hn (.ev (.nw o)) trivial (by rw [List.zip_cons_cons]; exact List.mem_cons_self)
end
end Sd
end
section
set_option Elab.async false
set_option linter.all false
set_option maxRecDepth 100000
namespace Sd
open PySem L2
section
variable {p : Pm} {X : Cx} {m m1 : List Sl} {σ : L2.St} {H H1 : Hp} {L L1 : Lv}
/-! ### displays -/
/-- all the values frozen -/
@[simp] def eSeq (k : List PV → EV) (ss : List ArgD) (m : List Sl) : Res EV := (eArgs ss m).bind fun vs m1 => if (allEv vs && decide (vs.length ≤ big)) = true then .ok (k (vs.map AV.v)) m1 else .stuck
/-- frozen at once, and given back: the step from the start -/
theorem tA_then {ss : List ArgD} {k : List AV → List Sl → Res EV} {Q : VK} {Q1 : List V → Hp → Prop} (st : StR p.K p.B m σ H L) (h : RQ p m σ H L ((eArgs ss m).bind k) Q)
    (hk : ∀ vs m1 xs H1 L1, Tr p.K p.B m σ H L m1 σ H1 L1 → AvRs p.K σ H H1 L1 vs xs → RQ p m σ H L (k vs m1) Q → Q1 xs H1) : tA p (eArgs ss) σ H Q1 := by
  refine ⟨m, L, st, ?_⟩
  cases e : eArgs ss m with
  | ok v m1 => rw [e] at h; exact fun x H1 L1 t ev => hk v m1 x H1 L1 t ev h
  | exc c m1 => rw [e] at h; exact h
  | stuck => rw [e] at h; exact h
theorem Tr.froze {K : PySem.W.Frag} {B : Nat → Option Addr} {L' : Lv} (st : StR K B m σ H L) (t : Tr K B m σ H L m1 σ H1 L1) (a1 : ∀ a, L' a → L1 a) (a2 : ∀ a, L1 a → (H a ≠ none ∨ Adr m1 σ a ∨ ∃ kvs, LkR K H1 L1 kvs a) → L' a) : Tr K B m σ H L m1 σ H1 L' := by
  have s : Stp (fun b => ¬ L' b) H1 L1 H1 L' := ⟨fun _ z => z, fun b u e n => ⟨e, fun z => n (a1 b z)⟩, fun b u e l n => ⟨e, Classical.byContradiction n⟩⟩
  refine ⟨⟨t.stp.old, fun a o e n => let ⟨e1, n1⟩ := t.stp.stay a o e n; ⟨e1, fun z => n1 (a1 a z)⟩, fun a o e l n => let ⟨e1, l1⟩ := t.stp.live a o e l n; ⟨e1, a2 a l1 (.inl (by rw [e]; simp))⟩⟩,
    ⟨t.st.len, fun i sl x e1 e2 => ?_, t.st.ne, fun a z => t.st.wf a (a1 a z), t.st.lent⟩, t.sub⟩
  have k := t.st.ok i sl x e1 e2
  cases sl with
  | un => trivial
  | pv v => obtain ⟨y, e, r⟩ := k; exact ⟨y, e, r.mono s⟩
  | own o =>
    obtain ⟨a, e, l, b, r⟩ := k
    have la : L' a := a2 a l (.inr (.inl ⟨i, by rw [e1]; trivial, by rw [e2, e]⟩))
    exact ⟨a, e, la, b, (r.mono s l (fun z => z la)).1⟩
  | bor o =>
    obtain ⟨a, e, l, b, r⟩ := k
    have la : L' a := a2 a l (.inr (.inl ⟨i, by rw [e1]; trivial, by rw [e2, e]⟩))
    exact ⟨a, e, la, b, (r.mono s l (fun z => z la)).1⟩
  | lck kvs a =>
    obtain ⟨e, l, b, r⟩ := k
    have la : L' a := a2 a l (.inr (.inr ⟨kvs, r⟩))
    exact ⟨e, la, b, (r.mono s l (fun z => z la)).1⟩
theorem AvRs.froze {ss : List AV} {xs : List V} (st : StR p.K p.B m σ H L) (t : Tr p.K p.B m σ H L m1 σ H1 L1) (f : allEv ss = true) (r : AvRs p.K σ H H1 L1 ss xs) : ∃ L' : Lv, Tr p.K p.B m σ H L m1 σ H1 L' ∧ VRs p.K H1 L' (ss.map AV.v) xs := by
  obtain ⟨L', a1, a2, r'⟩ := r.freeze f
  refine ⟨L', t.froze st a1 fun a la h => a2 a la fun w hw hm => ?_, r'⟩
  have n := r.newNone hw hm
  rcases h with h | h | ⟨_, h⟩
  · exact h n
  · exact (st.adr (t.sub a h)).2 n
  · exact r.newLk hw hm h
theorem EvR.froze {v : EV} {x : V} (st : StR p.K p.B m σ H L) (t : Tr p.K p.B m σ H L m1 σ H1 L1) (r : EvR p.K H H1 L1 v x) : ∃ L' : Lv, Tr p.K p.B m σ H L m1 σ H1 L' ∧ VR p.K H1 L' v.v x := by
  obtain ⟨L', a1, a2, r'⟩ := r.freeze
  refine ⟨L', t.froze st a1 fun a la h => a2 a la fun o e1 e2 => ?_, r'⟩
  subst e1
  obtain ⟨b, e, n, _, ob⟩ := r
  rw [e] at e2
  cases e2
  rcases h with h | h | ⟨_, h⟩
  · exact h n
  · exact (st.adr (t.sub _ h)).2 n
  · exact ob.notLk h
theorem allEv_len {ss : List ArgD} : True := trivial
section
variable {es : List Expr} {ss : List ArgD} {pos : Pos}
@[simp] def eTup (ss : List ArgD) (m : List Sl) : Res EV := eSeq (fun vs => .pv (.tup vs)) ss m
@[simp] def eLst (ss : List ArgD) (m : List Sl) : Res EV := eSeq (fun vs => .nw (.lst vs)) ss m
theorem se_tup {x1} (h : SA p X es ss) : SE p X (.Tuple es x1 pos) (eTup ss) := pe_imp (pe_tupN h) fun σ H Q ⟨m, L, st, h⟩ => by
  refine tA_then st h fun vs m1 xs H1 L1 t r h1 => ?_
  split at h1
  next f =>
    rw [Bool.and_eq_true] at f
    obtain ⟨L', t', r'⟩ := r.froze st t f.1
    have h2 := RQ.go t' h1
    have hl := r'.length
    rw [List.length_map] at hl
    exact ⟨by rw [big_eq, ← hl]; exact of_decide_eq_true f.2, Kq.tup t'.st.wf r' fun Z H' L'' s wf e => RQ.new t'.st h2 s wf e⟩
  next => exact h1.elim
theorem se_lst (h : SA p X es ss) : SE p X (.List es pos) (eLst ss) := pe_imp (pe_lst h) fun σ H Q ⟨m, L, st, h⟩ => by
  refine tA_then st h fun vs m1 xs H1 L1 t r h1 => ?_
  split at h1
  next f =>
    rw [Bool.and_eq_true] at f
    obtain ⟨L', t', r'⟩ := r.froze st t f.1
    have h2 := RQ.go t' h1
    have hl := r'.length
    rw [List.length_map] at hl
    exact ⟨by rw [big_eq, ← hl]; exact of_decide_eq_true f.2, Kq.lst t'.st.wf r' fun Z H' L'' s wf e => RQ.new t'.st h2 s wf e⟩
  next => exact h1.elim
end
/-! ### subscripts -/
@[simp] def gIx (x y : PV) : Option EV := match x.seq?, y with
  | some xs, .int i => (atI xs i).map .pv
  | _, _ => none
theorem VRs.at {K : PySem.W.Frag} {xs : List PV} {vs : List V} {i : Int} {v : PV} (r : VRs K H L xs vs) (e : atI xs i = some v) : ∃ x, atI vs i = some x ∧ VR K H L v x := by
  unfold atI at e ⊢
  rw [← r.length]
  cases q : ixN xs.length i with
  | none => rw [q] at e; cases e
  | some j => rw [q] at e; exact r.get e
theorem RdR.seq {K : PySem.W.Frag} {v : PV} {x : V} {ys : List PV} (h : RdR K H L v x) (e : v.seq? = some ys) : ∃ a vs, x = .ref a ∧ (SqL K H a vs ∨ SqT K H a vs) ∧ VRs K H L ys vs := by
  cases v <;> first | cases e | skip
  · obtain ⟨a, vs, rfl, e1, _, r⟩ := h.tup
    exact ⟨a, vs, rfl, .inr e1.sq, r⟩
  · obtain ⟨a, vs, rfl, e1, r⟩ := h.lst
    exact ⟨a, vs, rfl, .inl e1, r⟩
theorem op2_ix {K : PySem.W.Frag} : Op2 K (rIx K) gIx := by
  intro H L x y z X Y Q wf hx hy e q
  unfold gIx at e
  split at e
  next xs i ex =>
    obtain ⟨v, ev, rfl⟩ := Option.map_eq_some_iff.mp e
    obtain ⟨a, vs, rfl, hs, r⟩ := hx.seq ex
    obtain ⟨u, eu, ru⟩ := r.at ev
    rw [hy.int]
    rcases hs with hs | hs
    · exact .inl ⟨a, vs, i, u, rfl, rfl, hs, eu, Kq.pv wf ru q⟩
    · exact .inr (.inl ⟨a, vs, i, u, rfl, rfl, hs, eu, Kq.pv wf ru q⟩)
  next => cases e
theorem se_ix {a b : Expr} {sa sb : List Sl → Res EV} {pos : Pos} (hk : X.K = p.K) (ha : SE p X a sa) (hb : SE p X b sb) (hs : PlainIx b) : SE p X (.Subscript a b pos) (eOp gIx sa sb) := se_op (pe_ix (hk ▸ ix_seq) ha hb hs) op2_ix
/-- what stands in a slot, without taking it -/
@[simp] def slotv (m : List Sl) (i : Nat) : Option PV := match m[i]? with
  | some (.pv v) => some v
  | some (.own o) => some o.pv
  | some (.bor o) => some o.pv
  | some (.lck kvs _) => some (.dct kvs)
  | _ => none
theorem StR.slot {i : Nat} {v : PV} (st : StR p.K p.B m σ H L) (e : slotv m i = some v) : ∃ x, σ[i]? = some (some x) ∧ RdR p.K H L v x := by
  unfold slotv at e
  split at e
  next w em => cases e; obtain ⟨x, ex, y, rfl, r⟩ := st.at em; exact ⟨y, ex, r.rd⟩
  next o em => cases e; obtain ⟨x, ex, a, rfl, _, _, r⟩ := st.at em; exact ⟨_, ex, r.rd⟩
  next o em => cases e; obtain ⟨x, ex, a, rfl, _, _, r⟩ := st.at em; exact ⟨_, ex, r.rd⟩
  next kvs a em => cases e; obtain ⟨x, ex, rfl, _, _, od, kws, e, r⟩ := st.at em; exact ⟨_, ex, _, kws, rfl, .inr ⟨od, e⟩, r⟩
  next => cases e
/-- a slot looked at, then an expression, then the operation on what the slot then holds -/
@[simp] def eOpP (g : PV → PV → Option EV) (i : Nat) (sb : List Sl → Res EV) (m : List Sl) : Res EV := match slotv m i with
  | none => .stuck
  | some _ => (sb m).bind fun y m1 => match slotv m1 i with
    | none => .stuck
    | some x => match g x y.v with
      | some z => .ok z m1
      | none => .stuck
theorem se_opP {e : Expr} {i : Nat} {sb : List Sl → Res EV} {r : R2} {g : PV → PV → Option EV} (h : PE X e (tOp r (tVar i) (tE p sb))) (hr : Op2 p.K r g) : SE p X e (eOpP g i sb) := pe_imp h fun σ H Q ⟨m, L, st, h⟩ => by
  unfold eOpP at h
  split at h
  next => exact h.elim
  next v0 e0 =>
    obtain ⟨x, ex, _⟩ := st.slot e0
    refine ⟨x, ex, tE_then st h fun u m2 y H2 L2 t2 ev2 h2 => ?_⟩
    split at h2
    next => exact h2.elim
    next v e1 =>
      obtain ⟨x', ex', rx⟩ := t2.st.slot e1
      rw [ex] at ex'
      cases ex'
      cases e : g v u.v with
      | none => rw [e] at h2; exact h2.elim
      | some z => rw [e] at h2; exact hr H2 L2 v u.v z x y Q t2.st.wf rx ev2.rd e fun Z H' L' s wf r => RQ.new t2.st h2 s wf r
theorem se_ixP {a b : Expr} {i : Nat} {sb : List Sl → Res EV} {pos : Pos} (hk : X.K = p.K) (ha : PE X a (tVar i)) (hb : SE p X b sb) (hs : PlainIx b) : SE p X (.Subscript a b pos) (eOpP gIx i sb) := se_opP (pe_ix (hk ▸ ix_seq) ha hb hs) op2_ix
/-! ### slices -/
def cutP {α : Type} (xs : List α) (lo hi : Option Int) : List α := (xs.drop (HT.sIx xs.length 0 lo)).take (HT.sIx xs.length xs.length hi - HT.sIx xs.length 0 lo)
@[simp] def gCut (x : PV) (lo hi : Option Int) : Option EV := match x with
  | .lst xs => some (.nw (.lst (cutP xs lo hi)))
  | .tup xs => some (.pv (.tup (cutP xs lo hi)))
  | _ => none
@[simp] def ePart : Option (List Sl → Res EV) → List Sl → Res (Option Int)
  | none, m => .ok none m
  | some s, m => (s m).bind fun v m1 => match v.v with
    | .int i => .ok (some i) m1
    | _ => .stuck
def SPo (p : Pm) (X : Cx) (e : Option Expr) (o : Option (List Sl → Res EV)) : Prop := ∃ t, PO X e t ∧ ∀ (m : List Sl) (L : Lv) (σ : L2.St) (H : Hp) (Q : VK) (k : Option Int → List Sl → Res EV) (Q1 : Option Int → Hp → Prop), StR p.K p.B m σ H L → RQ p m σ H L ((ePart o m).bind k) Q →
  (∀ j m1 H1 L1, Tr p.K p.B m σ H L m1 σ H1 L1 → RQ p m1 σ H1 L1 (k j m1) Q → Q1 j H1) → t σ H Q1
theorem po_none' : SPo p X none none := ⟨_, po_none, fun m L σ H Q k Q1 st h hk => hk none m H L (.refl st) h⟩
theorem po_some' {e : Expr} {s : List Sl → Res EV} (he : SE p X e s) : SPo p X (some e) (some s) := ⟨_, po_some he, fun m L σ H Q k Q1 st h hk => by
  have e0 : ePart (some s) m = (s m).bind fun v m1 => match v.v with | .int i => .ok (some i) m1 | _ => .stuck := rfl
  have h' : RQ p m σ H L ((s m).bind fun v m1 => (match v.v with | .int i => (Res.ok (some i) m1 : Res (Option Int)) | _ => .stuck).bind k) Q := by
    rw [e0] at h
    generalize s m = r at h ⊢
    cases r with
    | ok v m1 => exact h
    | exc c m1 => exact h
    | stuck => exact h
  refine tE_then st h' fun v m1 x H1 L1 t ev h1 => ?_
  have rd := ev.rd
  cases e : v.v with
  | int i => rw [e] at h1 rd; exact ⟨i, rd.int, hk (some i) m1 H1 L1 t h1⟩
  | non => rw [e] at h1; exact h1.elim
  | bl _ => rw [e] at h1; exact h1.elim
  | str _ => rw [e] at h1; exact h1.elim
  | ty _ => rw [e] at h1; exact h1.elim
  | tup _ => rw [e] at h1; exact h1.elim
  | tpl _ => rw [e] at h1; exact h1.elim
  | lst _ => rw [e] at h1; exact h1.elim
  | dct _ => rw [e] at h1; exact h1.elim
  | exn _ _ _ => rw [e] at h1; exact h1.elim⟩
def rSlAny (K : PySem.W.Frag) : V → Option Int → Option Int → Hp → VK → Prop := fun x lo hi H Q => rSlL K x lo hi H Q ∨ rSlN K x lo hi H Q
theorem sl_any : SlR X (rSlAny X.K) := by
  intro pins s σ H x v vl vu lo hi sl Q I rx hs pl pu h
  rcases h with h | h
  · exact sl_list pins s σ H x v vl vu lo hi sl Q I rx hs pl pu h
  · exact sl_tupN pins s σ H x v vl vu lo hi sl Q I rx hs pl pu h
theorem VRs.cut {K : PySem.W.Frag} {xs : List PV} {vs : List V} (r : VRs K H L xs vs) (lo hi : Option Int) : VRs K H L (cutP xs lo hi) (cutV vs lo hi) := by
  unfold cutP cutV
  rw [r.length]
  exact (r.drop _).take _
theorem cut_sound {K : PySem.W.Frag} {x : PV} {Y : V} {lo hi : Option Int} {z : EV} {Q : VK} (wf : ∀ a, L a → H a ≠ none) (h : RdR K H L x Y) (e : gCut x lo hi = some z) (q : Kq K H L z Q) : rSlAny K Y lo hi H Q := by
  cases x <;> first | cases e | skip
  · next xs =>
    obtain ⟨a, vs, rfl, e1, n, r⟩ := h.tup
    have rc := r.cut lo hi
    refine .inr ⟨a, vs, rfl, e1.sq, fun w => ?_, fun w => Kq.tup wf rc q⟩
    have whole : cutV vs lo hi = vs := by
      unfold cutV
      rw [w.1, w.2]
      simp
    have whole' : cutP xs lo hi = xs := by
      unfold cutP
      rw [r.length, w.1, w.2, List.drop_zero, Nat.sub_zero, ← r.length, List.take_length]
    rw [whole'] at q
    exact Kq.pv wf (.tup e1 n r) q
  · next xs =>
    obtain ⟨a, vs, rfl, e1, r⟩ := h.lst
    exact .inl ⟨a, vs, rfl, e1, Kq.lst wf (r.cut lo hi) q⟩
@[simp] def eCut (s : List Sl → Res EV) (lo hi : Option (List Sl → Res EV)) (m : List Sl) : Res EV := (s m).bind fun x m1 => (ePart lo m1).bind fun l m2 => (ePart hi m2).bind fun u m3 => match gCut x.v l u with
  | some z => .ok z m3
  | none => .stuck
theorem se_cut {e : Expr} {lo hi : Option Expr} {s : List Sl → Res EV} {sl sh : Option (List Sl → Res EV)} {p2 pos : Pos} (hk : X.K = p.K) (he : SE p X e s) (hl : SPo p X lo sl) (hu : SPo p X hi sh) : SE p X (.Subscript e (.Slice lo hi none p2) pos) (eCut s sl sh) := by
  obtain ⟨tl, pl, kl⟩ := hl
  obtain ⟨tu, pu, ku⟩ := hu
  refine pe_imp (pe_slice (hk ▸ sl_any) he pl pu) fun σ H Q ⟨m, L, st, h⟩ => ?_
  refine tE_then st h fun v m1 x H1 L1 t ev h1 => ?_
  refine kl m1 L1 σ H1 Q _ _ t.st h1 fun l m2 H2 L2 t2 h2 => ?_
  refine ku m2 L2 σ H2 Q _ _ t2.st h2 fun u m3 H3 L3 t3 h3 => ?_
  have ev' := ev.over st t (t2.trans t3)
  cases e : gCut v.v l u with
  | none => rw [e] at h3; exact h3.elim
  | some z => rw [e] at h3; exact cut_sound t3.st.wf ev'.rd e fun Z H' L' s wf r => RQ.new t3.st h3 s wf r
/-! ### built-ins of one, of two values -/
@[simp] def eCall1 (g : PV → Option EV) (s : List Sl → Res EV) (m : List Sl) : Res EV := (s m).bind fun x m1 => match g x.v with
  | some z => .ok z m1
  | none => .stuck
def Op1 (K : PySem.W.Frag) (r : List V → Hp → VK → Prop) (g : PV → Option EV) : Prop := ∀ H L x z X Q, (∀ a, L a → H a ≠ none) → RdR K H L x X → g x = some z → Kq K H L z Q → r [X] H Q
def Op1b (K : PySem.W.Frag) (r : List V → Hp → VK → Prop) (g : PV → PV → Option EV) : Prop := ∀ H L x y z X Y Q, (∀ a, L a → H a ≠ none) → RdR K H L x X → RdR K H L y Y → g x y = some z → Kq K H L z Q → r [X, Y] H Q
theorem se_call1 {e : Expr} {s : List Sl → Res EV} {r : List V → Hp → VK → Prop} {g : PV → Option EV} (h : PE X e (tCB r (tCons (tE p s) tNil))) (hr : Op1 p.K r g) : SE p X e (eCall1 g s) := pe_imp h fun σ H Q ⟨m, L, st, h⟩ => by
  refine tE_then st h fun v m1 x H1 L1 t ev h1 => ?_
  cases e : g v.v with
  | none => rw [e] at h1; exact h1.elim
  | some z => rw [e] at h1; exact hr H1 L1 v.v z x Q t.st.wf ev.rd e fun Z H' L' s wf r => RQ.new t.st h1 s wf r
/-- of a slot, looked at -/
@[simp] def eCallP (g : PV → Option EV) (i : Nat) (m : List Sl) : Res EV := match slotv m i with
  | some v => match g v with
    | some z => .ok z m
    | none => .stuck
  | none => .stuck
theorem se_callP {e : Expr} {i : Nat} {r : List V → Hp → VK → Prop} {g : PV → Option EV} (h : PE X e (tCB r (tCons (tVar i) tNil))) (hr : Op1 p.K r g) : SE p X e (eCallP g i) := pe_imp h fun σ H Q ⟨m, L, st, h⟩ => by
  unfold eCallP at h
  split at h
  next v e0 =>
    obtain ⟨x, ex, rx⟩ := st.slot e0
    cases e : g v with
    | none => rw [e] at h; exact h.elim
    | some z => rw [e] at h; exact ⟨x, ex, hr H L v z x Q st.wf rx e fun Z H' L' s wf r => RQ.new st h s wf r⟩
  next => exact h.elim
theorem se_call2 {e : Expr} {s t : List Sl → Res EV} {r : List V → Hp → VK → Prop} {g : PV → PV → Option EV} (h : PE X e (tCB r (tCons (tE p s) (tCons (tE p t) tNil)))) (hr : Op1b p.K r g) : SE p X e (eOp g s t) := pe_imp h fun σ H Q ⟨m, L, st, h⟩ => by
  refine tE_then st h fun v m1 x H1 L1 t ev h1 => ?_
  refine tE_then t.st h1 fun u m2 y H2 L2 t2 ev2 h2 => ?_
  have ev' := ev.over st t t2
  cases e : g v.v u.v with
  | none => rw [e] at h2; exact h2.elim
  | some z => rw [e] at h2; exact hr H2 L2 v.v u.v z x y Q t2.st.wf ev'.rd ev2.rd e fun Z H' L' s wf r => RQ.new t2.st h2 s wf r
end
end Sd
end
section
set_option Elab.async false
set_option linter.all false
set_option maxRecDepth 100000
namespace Sd
open PySem L2
open PyProof.Rows (envOfC)
/-! ### what a def promises -/
inductive SRes where
  | nx (m : List Sl) | brk (m : List Sl) | cnt (m : List Sl) | ret (v : EV) (m : List Sl) | exc (c : Ex) (m : List Sl) | stuck
def BOf (as : List Sl) (vs : List V) : Nat → Option Addr := fun i => match as[i]?, vs[i]? with
  | some (.bor _), some (.ref a) => some a
  | _, _ => none
@[simp] def lentOf (n : Nat) (m : List Sl) : List Sl := (m.take n).map fun s => match s with
  | .bor o => .bor o
  | _ => .un
def BoR (K : PySem.W.Frag) (B : Nat → Option Addr) (m : List Sl) (H : Hp) (L : Lv) : Prop := ∀ i a, B i = some a → ∃ o, m[i]? = some (.bor o) ∧ L a ∧ ObR K H L o a
def spG (K : PySem.W.Frag) (mg : Str → Option Value) (φ : List Sl → Res EV) : Sp := fun vs H Q E => ∃ as L, as.length = vs.length ∧ StR K (BOf as vs) as (vs.map some) H L ∧ match φ as with
  | .ok v m' => ∀ x H' L', Stp (Adr as (vs.map some)) H L H' L' → (∀ a, L' a → H' a ≠ none) → EvR K H H' L' v x → BoR K (BOf as vs) m' H' L' → Q x H'
  | .exc c m' => ∀ cls d H' L', Stp (Adr as (vs.map some)) H L H' L' → (∀ a, L' a → H' a ≠ none) → BoR K (BOf as vs) m' H' L' → ExR ⟨K, mg, fun _ _ _ _ => True, fun _ => none⟩ c cls d H' L' → E cls d H'
  | .stuck => False
structure FnG (P : Program) (w : World) (K : PySem.W.Frag) (mg : Str → Option Value) (base : Heap) (k : Nat) (f : Addr) (fd : FuncData) (ps : List Str) (φ : List Sl → Res EV) : Prop where
  run : ∀ (A : Around) (outer : List Env) (s : Shared) (H : Hp) (args : Args) (us : List Value) (vs : List V) (Q : VK) (E : XK), Room k A → A.guards = some [] → Env0 P w K mg base A outer s H → us.length = ps.length → BindsTo s fd args (ps.zip us) → Vals vs us → spG K mg φ vs H Q E →
    codeAny (model P w) A (.call (.ref f) args) (CR (L2.CX P w) outer P w H s Q E) s
theorem FnG.mono {P : Program} {w : World} {K : PySem.W.Frag} {mg : Str → Option Value} {base : Heap} {j k : Nat} {f : Addr} {fd : FuncData} {ps : List Str} {φ : List Sl → Res EV} (F : FnG P w K mg base j f fd ps φ) (h : j ≤ k) : FnG P w K mg base k f fd ps φ :=
  ⟨fun A outer s H args us vs Q E hr => F.run A outer s H args us vs Q E (hr.mono h)⟩
/-- the promise by a function that says more -/
theorem FnG.imp {P : Program} {w : World} {K : PySem.W.Frag} {mg : Str → Option Value} {base : Heap} {k : Nat} {f : Addr} {fd : FuncData} {ps : List Str} {φ ψ : List Sl → Res EV} (F : FnG P w K mg base k f fd ps φ) (h : ∀ as, ψ as = .stuck ∨ ψ as = φ as) : FnG P w K mg base k f fd ps ψ :=
  ⟨fun A outer s H args us vs Q E hr hg e0 hl hb r ⟨as, L, h1, h2, h3⟩ => F.run A outer s H args us vs Q E hr hg e0 hl hb r ⟨as, L, h1, h2, by
    rcases h as with e | e
    · rw [e] at h3; exact h3.elim
    · rw [← e]; exact h3⟩⟩
section
variable (p : Pm) (m : List Sl) (σ : L2.St) (H : Hp) (L : Lv)
def RS (r : SRes) (D : Ends) : Prop := match r with
  | .nx m' => ∀ σ' H' L', Tw p.K p.B m σ H L m' σ' H' L' → D.nx σ' H'
  | .brk m' => ∀ σ' H' L', Tw p.K p.B m σ H L m' σ' H' L' → D.bk σ' H'
  | .cnt m' => ∀ σ' H' L', Tw p.K p.B m σ H L m' σ' H' L' → D.ct σ' H'
  | .ret v m' => ∀ x σ' H' L', Tw p.K p.B m σ H L m' σ' H' L' → EvR p.K H H' L' v x → D.rt x H'
  | .exc c m' => ∀ cls d σ' H' L', Tw p.K p.B m σ H L m' σ' H' L' → ExR p c cls d H' L' → p.W cls d σ' H'
  | .stuck => False
end
def tS (p : Pm) (d : List Sl → SRes) : TS := fun D σ H => ∃ m L, StR p.K p.B m σ H L ∧ RS p m σ H L (d m) D
def SS (p : Pm) (X : Cx) (s : Stmt) (d : List Sl → SRes) : Prop := PS X s (tS p d)
def SSs (p : Pm) (X : Cx) (s : List Stmt) (d : List Sl → SRes) : Prop := PSs X s (tS p d)
@[simp] def runB (N : Nat) (d : List Sl → SRes) (as : List Sl) : Res EV := match d (as ++ List.replicate (N - as.length) .un) with
  | .nx m => .ok (.pv .non) (lentOf as.length m)
  | .ret v m => .ok v (lentOf as.length m)
  | .exc c m => .exc c (lentOf as.length m)
  | _ => .stuck
theorem adr_ext {as : List Sl} {vs : List V} {k : Nat} {a : Addr} (hl : as.length = vs.length) (z : Adr (as ++ List.replicate k .un) (vs.map some ++ List.replicate k none) a) : Adr as (vs.map some) a := by
  obtain ⟨i, c, e⟩ := z
  by_cases h : i < as.length
  · rw [List.getElem?_append_left h] at c
    rw [List.getElem?_append_left (by rw [List.length_map, ← hl]; exact h)] at e
    exact ⟨i, c, e⟩
  · rw [List.getElem?_append_right (by omega)] at c
    rw [List.getElem?_replicate] at c
    split at c
    · exact c.elim
    · exact c.elim
theorem StR.ext {K : PySem.W.Frag} {as : List Sl} {vs : List V} {H : Hp} {L : Lv} {k : Nat} (hl : as.length = vs.length) (st : StR K (BOf as vs) as (vs.map some) H L) : StR K (BOf as vs) (as ++ List.replicate k .un) (vs.map some ++ List.replicate k none) H L := by
  have cut : ∀ j, Cell (as ++ List.replicate k .un)[j]? → j < as.length := fun j c => by
    by_cases h : j < as.length
    · exact h
    · rw [List.getElem?_append_right (by omega), List.getElem?_replicate] at c
      split at c <;> exact c.elim
  refine ⟨by simp [hl], fun i s x e1 e2 => ?_, fun i j a n ci cj e1 e2 => ?_, st.wf, fun i a e => ?_⟩
  · by_cases h : i < as.length
    · rw [List.getElem?_append_left h] at e1
      rw [List.getElem?_append_left (by rw [List.length_map, ← hl]; exact h)] at e2
      exact st.ok i s x e1 e2
    · rw [List.getElem?_append_right (by omega), List.getElem?_replicate] at e1
      split at e1
      · cases e1; trivial
      · cases e1
  · have hi := cut i ci
    have hj := cut j cj
    rw [List.getElem?_append_left hi] at ci
    rw [List.getElem?_append_left hj] at cj
    rw [List.getElem?_append_left (by rw [List.length_map, ← hl]; exact hi)] at e1
    rw [List.getElem?_append_left (by rw [List.length_map, ← hl]; exact hj)] at e2
    exact st.ne i j a n ci cj e1 e2
  · obtain ⟨o, e1, e2⟩ := st.lent i a e
    have hi : i < as.length := (List.getElem?_eq_some_iff.mp e1).1
    exact ⟨o, by rw [List.getElem?_append_left hi]; exact e1, by rw [List.getElem?_append_left (by rw [List.length_map, ← hl]; exact hi)]; exact e2⟩
theorem BoR.of {K : PySem.W.Frag} {B : Nat → Option Addr} {m : List Sl} {σ : L2.St} {H : Hp} {L : Lv} {n : Nat} (st : StR K B m σ H L) (hB : ∀ i a, B i = some a → i < n) : BoR K B (lentOf n m) H L := fun i a e => by
  obtain ⟨o, e1, e2⟩ := st.lent i a e
  obtain ⟨b, eb, l, _, r⟩ := st.ok i _ _ e1 e2
  cases eb
  refine ⟨o, ?_, l, r⟩
  unfold lentOf
  rw [List.getElem?_map, List.getElem?_take_of_lt (hB i a e), e1]
  rfl
theorem lent_lt {as : List Sl} {vs : List V} (i : Nat) (a : Addr) (h : BOf as vs i = some a) : i < as.length := by
  unfold BOf at h
  split at h
  next e1 e2 => exact (List.getElem?_eq_some_iff.mp e1).1
  next => cases h
/-- A def keeps what its body's reading says -/
theorem fnG_of {P : Program} {w : World} {K : PySem.W.Frag} {mg : Str → Option Value} {base : Heap} {x qual : Str} {st : Stmt} {f : Addr} {fd : FuncData} {N ps : List Str} {k : Nat} {d : List Sl → SRes} (F : Fun K x qual st f fd) (S : FnScope N ps (defScope st))
    (der : ∀ (cdv : Value) (A : Around) (outer : List Env) (s : Shared) (H : Hp) (E : XK) (B : Nat → Option Addr), Room k (A.deeper (envOfC qual (defScope st) s.heap.objs.size f cdv)) → A.guards = some [] →
      SSs ⟨K, mg, fun cls d _ H' => E cls d H', B⟩ (cxOf (L2.CX P w) P w K mg base N qual (defScope st) f cdv A outer s H E) (defBody st) d) : FnG P w K mg base (k + 1) f fd ps (runB N.length d) := by
  obtain ⟨oc, od, kV, doc, pm, an, cdv, ct, osl, rfl, lk, hcd⟩ := F.ex
  refine ⟨fun A outer s H args us vs Q E hr hg e0 hlu hb r hsp => ?_⟩
  obtain ⟨as, L, hal, st0, hφ⟩ := hsp
  have hl : vs.length = ps.length := by rw [r.length]; exact hlu
  have KX : K.In s.heap := e0.mod.kin.keeps fun b o e => (e0.bs b o e).1
  have lim : s.heap.NoLimit := e0.mod.nolimit.keeps fun b o e => (e0.bs b o e).1
  have hkind : ∀ y ∈ ps.zip us, (defScope st).names.lookup y.1 = some .local ∨ ((defScope st).names.lookup y.1 = some .cell ∧ ((cellsFrom (s.heap.objs.size + 1) (defScope st).names []).lookup y.1).isSome = true) := fun ⟨n, v⟩ hy => by
    rcases S.par n (List.of_mem_zip hy).1 with q | q
    · exact .inl q
    · exact .inr ⟨q, PySem.W.cellsFrom_some _ _ _ (.inl q)⟩
  refine codeAny_call_function hr.depth (KX _ _ lk) rfl S.co S.gen rfl (PySem.W.codeRec_of KX hcd) (hb _ _ _ _ ?_)
  refine wpAny_newFunctionEnv_cells S.kind hkind fun env he s1 x => ?_
  subst he
  refine ⟨lim.keeps x.toInCall.keep, codeAny_func ?_⟩
  have hder := der cdv A outer s H E (BOf as vs) (hr.deeper _) hg
  have I : Inv (cxOf (L2.CX P w) P w K mg base N qual (defScope st) f cdv A outer s H E) [] (start N vs) H s1 := inv_start S hr.hd e0 hl r x
  have hN : N.length - as.length = N.length - vs.length := by rw [hal]
  have stE := StR.ext (k := N.length - vs.length) hal st0
  have fin : ∀ {σ' : L2.St} {H' : Hp} {v : V} {u : Value} {s' : Shared}, Inv (cxOf (L2.CX P w) P w K mg base N qual (defScope st) f cdv A outer s H E) [] σ' H' s' → RelV v u → Q v H' → CE outer P w H s Q u s' :=
    fun {σ' H' v u s'} J rv q => ⟨v, H', J.os, J.bare, J.base, J.hok, rv, q⟩
  have body : tS ⟨K, mg, fun cls d _ H' => E cls d H', BOf as vs⟩ d { nx := fun _ H' => Q .non H', rt := Q } (start N vs) H := by
    refine ⟨as ++ List.replicate (N.length - vs.length) .un, L, stE, ?_⟩
    unfold runB at hφ
    rw [hN] at hφ
    have stp : ∀ {σ' H' L' m'}, Tw K (BOf as vs) (as ++ List.replicate (N.length - vs.length) .un) (start N vs) H L m' σ' H' L' → Stp (Adr as (vs.map some)) H L H' L' := fun t => t.stp.wide fun a z => adr_ext hal z
    generalize d (as ++ List.replicate (N.length - vs.length) .un) = res at hφ ⊢
    cases res with
    | nx m' => exact fun σ' H' L' t => hφ _ H' L' (stp t) t.st.wf .non (BoR.of t.st lent_lt)
    | ret v m' => exact fun x σ' H' L' t ev => hφ x H' L' (stp t) t.st.wf ev (BoR.of t.st lent_lt)
    | exc c m' => exact fun cls d σ' H' L' t ev => hφ cls d H' L' (stp t) t.st.wf (BoR.of t.st lent_lt) ev
    | brk m' => exact hφ.elim
    | cnt m' => exact hφ.elim
    | stuck => exact hφ.elim
  refine wpAny_mono (PSs.run hder [] s1 (start N vs) H _ I body) (fun fl s' hs => ?_) fun e s' hs => hs
  cases fl with
  | ret u =>
    obtain ⟨v, σ', H', J, rv, q⟩ := hs
    exact fin J rv q
  | next =>
    obtain ⟨σ', H', J, q⟩ := hs
    exact fin (v := V.non) (u := Value.none) J rfl q
  | brk =>
    obtain ⟨_, _, _, q⟩ := hs
    exact q.elim
  | cont =>
    obtain ⟨_, _, _, q⟩ := hs
    exact q.elim
end Sd
end
section
set_option Elab.async false
set_option linter.all false
set_option maxRecDepth 100000
namespace Sd
open PySem L2
section
variable {p : Pm} {X : Cx} {m m1 : List Sl} {σ : L2.St} {H H1 : Hp} {L L1 : Lv}
def tCallG (n : Nat) (sp : Sp) (W : WX) (t : TA) : TE := fun σ H Q => t σ H fun vs H1 => vs.length = n ∧ sp vs H1 Q fun cls d H' => W cls d σ H'
theorem peG_call {k : Nat} {f : Addr} {fd : FuncData} {ps : List Str} {φ : List Sl → Res EV} {W : WX} {x : Str} {p pos : Pos} {e : Expr} {es : List Expr} {t : TA} (F : FnG X.prog X.w X.K X.mg X.base k f fd ps φ) (hr : Room k X.A) (hgd : X.A.guards = some []) (hg : Gl X x) (hm : X.mg x = some (.ref f))
    (hk : PySem.W.keepIn X.K (.ref f) = true) (hb : Binds X.K fd ps []) (tk : Takes X W) (ha : PA X (e :: es) t) (hdb : (x == ("__debug__" : Str)) = false) (he : starEach (e :: es) X.env = (false, eval e X.env) :: starEach es X.env)
    (hpl : (backTo pos (starEach es X.env)).any (·.1) = false) : PE X (.Call (.Name x p) (e :: es) [] pos) (tCallG ps.length (spG X.K X.mg φ) W t) := by
  refine ⟨fun pins s σ H Q I h => ?_⟩
  refine wpAny_Call_Name_kw (ld_glob I hg hm ?_ hdb)
  refine PySem.W.callWith_K (h₀ := X.base) I.ok.mod.kin hk (thn (ha.run pos pins s σ H _ I h) fun us s1 ⟨vs, H1, I1, r, hl, q⟩ => ⟨I1.kIn, ?_⟩) he hpl
  have hlu : us.length = ps.length := by rw [← r.length]; exact hl
  have b := hb s1 us I1.kIn (by rw [List.append_nil]; exact hlu)
  rw [List.append_nil] at b
  refine wpAny_call (codeAny_mono (F.run X.A X.stack s1 H1 ⟨us, []⟩ us vs Q _ hr hgd I1.env0 hlu b r q) fun r s' hq => ?_)
  cases r with
  | error e => exact passAt tk σ pins H1 s1 e s' I1 hq
  | ok fl =>
    cases fl with
    | ret u => exact I1.after hq
    | next => exact False.elim hq
    | brk => exact False.elim hq
    | cont => exact False.elim hq
@[simp] def aslOf (m : List Sl) : AV → Option Sl
  | .ev (.pv v) => some (.pv v)
  | .ev (.nw o) => some (.own o)
  | .io i => match m[i]? with
    | some (.own o) => some (.bor o)
    | some (.bor o) => some (.bor o)
    | _ => none
@[simp] def asOf (m : List Sl) : List AV → Option (List Sl)
  | [] => some []
  | v :: r => match aslOf m v, asOf m r with
    | some s, some ss => some (s :: ss)
    | _, _ => none
@[simp] def ios : List AV → List Nat
  | [] => []
  | .io i :: r => i :: ios r
  | .ev _ :: r => ios r
@[simp] def putB : List AV → List Sl → List Sl → List Sl
  | .io i :: r, .bor o :: as, m => putB r as (match m[i]? with
    | some (.own _) => m.set i (.own o)
    | some (.bor _) => m.set i (.bor o)
    | _ => m)
  | _ :: r, _ :: as, m => putB r as m
  | _, _, m => m
@[simp] def eUser (n : Nat) (φ : List Sl → Res EV) (args : List ArgD) (m : List Sl) : Res EV := (eArgs args m).bind fun avs m1 => if (decide (avs.length = n) && decide (ios avs).Nodup) = true then
    match asOf m1 avs with
    | none => .stuck
    | some as => match φ as with
      | .ok v as' => .ok v (putB avs as' m1)
      | .exc c as' => .exc c (putB avs as' m1)
      | .stuck => .stuck
  else .stuck
theorem asOf_get : ∀ {vs : List AV} {as : List Sl} {i : Nat} {v : AV}, asOf m vs = some as → vs[i]? = some v → ∃ s, as[i]? = some s ∧ aslOf m v = some s
  | [], _, _, _, _, e => by simp at e
  | v :: r, as, i, u, h, e => by
    unfold asOf at h
    split at h
    next s ss e1 e2 =>
      cases h
      cases i with
      | zero => simp at e; subst e; exact ⟨s, rfl, e1⟩
      | succ i => exact asOf_get (i := i) e2 (by simpa using e)
    next => cases h
theorem asOf_len : ∀ {vs : List AV} {as : List Sl}, asOf m vs = some as → as.length = vs.length
  | [], _, h => by cases h; rfl
  | v :: r, as, h => by
    unfold asOf at h
    split at h
    next s ss e1 e2 => cases h; simp [asOf_len e2]
    next => cases h
theorem AvRs.length {K : PySem.W.Frag} {H0 : Hp} : ∀ {vs : List AV} {xs : List V}, AvRs K σ H0 H L vs xs → vs.length = xs.length
  | _, _, .nil => rfl
  | _, _, .cons _ r _ => congrArg (· + 1) (AvRs.length r)
theorem AvRs.get {K : PySem.W.Frag} {H0 : Hp} : ∀ {vs : List AV} {xs : List V} {i : Nat} {v : AV}, AvRs K σ H0 H L vs xs → vs[i]? = some v → ∃ x, xs[i]? = some x ∧ AvR K σ H0 H L v x
  | _, _, _, _, .nil, e => by simp at e
  | _, _, 0, _, .cons h _ _, e => by simp at e; subst e; exact ⟨_, rfl, h⟩
  | _, _, i + 1, _, .cons _ t _, e => by
    obtain ⟨x, h1, h2⟩ := AvRs.get (i := i) t (by simpa using e)
    exact ⟨x, by simpa using h1, h2⟩
theorem AvRs.ne {K : PySem.W.Frag} {H0 : Hp} : ∀ {vs : List AV} {xs : List V} {i j : Nat} {v w : AV} {x : V}, AvRs K σ H0 H L vs xs → i < j → vs[i]? = some v → vs[j]? = some w → v.isNew → w.isNew → xs[i]? = some x → xs[j]? = some x → False
  | _, _, _, _, _, _, _, .nil, _, e, _, _, _, _, _ => by simp at e
  | _, _, 0, j + 1, v, w, x, .cons h r n, _, e1, e2, n1, n2, x1, x2 => by
    simp at e1 x1; subst e1; subst x1
    refine n n1 w n2 ?_
    have e2' := (show _ = some w by simpa using e2)
    have x2' := (show _ = some _ by simpa using x2)
    exact List.mem_iff_getElem?.mpr ⟨j, by rw [List.getElem?_zip_eq_some]; exact ⟨e2', x2'⟩⟩
  | _, _, i + 1, j + 1, v, w, x, .cons h r n, hij, e1, e2, n1, n2, x1, x2 => AvRs.ne r (Nat.lt_of_succ_lt_succ hij) (by simpa using e1) (by simpa using e2) n1 n2 (by simpa using x1) (by simpa using x2)
theorem mem_ios : ∀ {vs : List AV} {i k : Nat}, vs[k]? = some (.io i) → i ∈ ios vs
  | [], _, _, e => by simp at e
  | .io j :: r, i, 0, e => by simp at e; subst e; exact List.mem_cons_self
  | .ev _ :: r, i, 0, e => by simp at e
  | .io j :: r, i, k + 1, e => List.mem_cons_of_mem _ (mem_ios (k := k) (by simpa using e))
  | .ev _ :: r, i, k + 1, e => mem_ios (vs := r) (k := k) (by simpa using e)
theorem ios_inj : ∀ {vs : List AV} {i k l : Nat}, (ios vs).Nodup → vs[k]? = some (.io i) → vs[l]? = some (.io i) → k = l
  | [], _, _, _, _, e, _ => by simp at e
  | .ev _ :: r, i, 0, _, _, e, _ => by simp at e
  | .ev _ :: r, i, _, 0, _, _, e => by simp at e
  | .ev _ :: r, i, k + 1, l + 1, nd, e1, e2 => congrArg (· + 1) (ios_inj (vs := r) nd (by simpa using e1) (by simpa using e2))
  | .io j :: r, i, 0, 0, _, _, _ => rfl
  | .io j :: r, i, 0, l + 1, nd, e1, e2 => by
    simp at e1; subst e1
    exact absurd (mem_ios (vs := r) (k := l) (by simpa using e2)) (List.nodup_cons.mp nd).1
  | .io j :: r, i, k + 1, 0, nd, e1, e2 => by
    simp at e2; subst e2
    exact absurd (mem_ios (vs := r) (k := k) (by simpa using e1)) (List.nodup_cons.mp nd).1
  | .io j :: r, i, k + 1, l + 1, nd, e1, e2 => congrArg (· + 1) (ios_inj (vs := r) (List.nodup_cons.mp nd).2 (by simpa using e1) (by simpa using e2))
def reOb (o : Ob) : Sl → Sl
  | .own _ => .own o
  | .bor _ => .bor o
  | s => s
theorem putB_set (m : List Sl) (i : Nat) (o : Ob) : ∀ j, (match m[i]? with
    | some (.own _) => m.set i (.own o)
    | some (.bor _) => m.set i (.bor o)
    | _ => m)[j]? = if i = j then m[j]?.map (reOb o) else m[j]? := fun j => by
  by_cases e : i = j
  · subst e
    rw [if_pos rfl]
    cases q : m[i]? with
    | none => simp [q]
    | some s =>
      have hi : i < m.length := (List.getElem?_eq_some_iff.mp q).1
      cases s with
      | un => simp [q, reOb]
      | pv v => simp [q, reOb]
      | own o' => simp [List.getElem?_set_self hi, reOb]
      | bor o' => simp [List.getElem?_set_self hi, reOb]
      | lck kvs b => simp [q, reOb]
  · rw [if_neg e]
    split
    · exact List.getElem?_set_ne e
    · exact List.getElem?_set_ne e
    · rfl
theorem putB_out : ∀ {vs : List AV} {as : List Sl} {m : List Sl} {j : Nat}, j ∉ ios vs → (putB vs as m)[j]? = m[j]?
  | [], as, m, j, _ => by cases as <;> rfl
  | .ev _ :: r, [], m, j, _ => rfl
  | .ev _ :: r, s :: as, m, j, n => by
    show (putB r as m)[j]? = _
    exact putB_out (vs := r) n
  | .io i :: r, [], m, j, _ => rfl
  | .io i :: r, s :: as, m, j, n => by
    have n1 : i ≠ j := fun e => n (by subst e; exact List.mem_cons_self)
    have n2 : j ∉ ios r := fun e => n (List.mem_cons_of_mem _ e)
    cases s with
    | bor o =>
      show (putB r as _)[j]? = _
      rw [putB_out n2, putB_set, if_neg n1]
    | un => exact putB_out (vs := r) n2
    | pv v => exact putB_out (vs := r) n2
    | own o => exact putB_out (vs := r) n2
    | lck kvs b => exact putB_out (vs := r) n2
theorem putB_in : ∀ {vs : List AV} {as : List Sl} {m : List Sl} {i k : Nat} {o : Ob}, (ios vs).Nodup → vs[k]? = some (.io i) → as[k]? = some (.bor o) → (putB vs as m)[i]? = m[i]?.map (reOb o)
  | [], _, _, _, _, _, _, e, _ => by simp at e
  | _ :: _, [], _, _, _, _, _, _, e => by simp at e
  | .ev _ :: r, s :: as, m, i, 0, o, nd, e, _ => by simp at e
  | .ev _ :: r, s :: as, m, i, k + 1, o, nd, e1, e2 => putB_in (vs := r) (as := as) (k := k) nd (by simpa using e1) (by simpa using e2)
  | .io j :: r, s :: as, m, i, 0, o, nd, e1, e2 => by
    simp at e1 e2; subst e1; subst e2
    show (putB r as _)[j]? = _
    rw [putB_out (List.nodup_cons.mp nd).1, putB_set, if_pos rfl]
  | .io j :: r, s :: as, m, i, k + 1, o, nd, e1, e2 => by
    have nd' := List.nodup_cons.mp nd
    have e1' : r[k]? = some (.io i) := by simpa using e1
    have e2' : as[k]? = some (.bor o) := by simpa using e2
    have ne : j ≠ i := fun e => nd'.1 (by subst e; exact mem_ios e1')
    cases s with
    | bor o' =>
      show (putB r as _)[i]? = _
      rw [putB_in nd'.2 e1' e2', putB_set, if_neg ne]
    | un => exact putB_in (vs := r) nd'.2 e1' e2'
    | pv v => exact putB_in (vs := r) nd'.2 e1' e2'
    | own o => exact putB_in (vs := r) nd'.2 e1' e2'
    | lck kvs b => exact putB_in (vs := r) nd'.2 e1' e2'
theorem putB_len : ∀ {vs : List AV} {as : List Sl} {m : List Sl}, (putB vs as m).length = m.length
  | [], as, m => by cases as <;> rfl
  | .ev _ :: r, [], m => rfl
  | .ev _ :: r, s :: as, m => putB_len (vs := r) (as := as)
  | .io i :: r, [], m => rfl
  | .io i :: r, s :: as, m => by
    cases s with
    | bor o =>
      show (putB r as _).length = _
      rw [putB_len]
      split <;> first | rw [List.length_set] | rfl
    | un => exact putB_len (vs := r)
    | pv v => exact putB_len (vs := r)
    | own o => exact putB_len (vs := r)
    | lck kvs b => exact putB_len (vs := r)
end
end Sd
end
section
set_option Elab.async false
set_option linter.all false
set_option maxRecDepth 100000
namespace Sd
open PySem L2
section
variable {X : Cx} {W : WX} {B : Nat → Option Addr} {m m1 : List Sl} {σ : L2.St} {H H1 : Hp} {L L1 : Lv}
/-- the slots at a callee's entry -/
theorem callee_st {K : PySem.W.Frag} {avs : List AV} {as : List Sl} {xs : List V} (st : StR K B m σ H L) (t : Tr K B m σ H L m1 σ H1 L1) (r : AvRs K σ H H1 L1 avs xs) (nd : (ios avs).Nodup) (ea : asOf m1 avs = some as) :
    as.length = xs.length ∧ StR K (BOf as xs) as (xs.map some) H1 L1 ∧ (∀ a, Adr as (xs.map some) a → Adr m σ a ∨ H a = none) := by
  have hl : as.length = xs.length := (asOf_len ea).trans r.length
  -- what stands at place i
  have at_ : ∀ (i : Nat) (s : Sl), as[i]? = some s → ∃ v x, avs[i]? = some v ∧ xs[i]? = some x ∧ aslOf m1 v = some s ∧ AvR K σ H H1 L1 v x := fun i s e => by
    have hi : i < avs.length := by rw [← asOf_len ea]; exact (List.getElem?_eq_some_iff.mp e).1
    have ev : avs[i]? = some avs[i] := List.getElem?_eq_getElem hi
    obtain ⟨s', e1, e2⟩ := asOf_get ea ev
    rw [e] at e1; cases e1
    obtain ⟨x, ex, rx⟩ := r.get ev
    exact ⟨_, x, ev, ex, e2, rx⟩
  have cell : ∀ (i : Nat) (a : Addr), Cell as[i]? → (xs.map some)[i]? = some (some (.ref a)) → L1 a ∧ ((∃ o, avs[i]? = some (.ev (.nw o)) ∧ H a = none ∧ as[i]? = some (.own o) ∧ ObR K H1 L1 o a) ∨ ∃ (j : Nat) (o : Ob), avs[i]? = some (.io j) ∧ σ[j]? = some (some (.ref a)) ∧ Cell m1[j]? ∧ as[i]? = some (.bor o) ∧ ObR K H1 L1 o a) := fun i a c e => by
    cases q : as[i]? with
    | none => rw [q] at c; exact c.elim
    | some s =>
      obtain ⟨v, x, ev, ex, e2, rx⟩ := at_ i s q
      rw [List.getElem?_map, ex] at e
      cases e
      cases v with
      | ev v =>
        cases v with
        | pv v => cases e2; rw [q] at c; exact c.elim
        | nw o =>
          cases e2
          obtain ⟨b, eb, n, l, rb⟩ := rx
          cases eb
          exact ⟨l, .inl ⟨o, ev, n, rfl, rb⟩⟩
      | io j =>
        have e2' : (match m1[j]? with | some (.own o) => some (Sl.bor o) | some (.bor o) => some (Sl.bor o) | _ => none) = some s := e2
        have ej : σ[j]? = some (some (.ref a)) := rx
        split at e2'
        next o eo =>
          cases e2'
          obtain ⟨b, eb, l, _, rb⟩ := t.st.ok j _ _ eo ej
          cases eb
          exact ⟨l, .inr ⟨j, o, ev, ej, by rw [eo]; trivial, rfl, rb⟩⟩
        next o eo =>
          cases e2'
          obtain ⟨b, eb, l, _, rb⟩ := t.st.ok j _ _ eo ej
          cases eb
          exact ⟨l, .inr ⟨j, o, ev, ej, by rw [eo]; trivial, rfl, rb⟩⟩
        next => cases e2'
  refine ⟨hl, ⟨by rw [List.length_map, hl], fun i s x e1 e2 => ?_, fun i j a hij ci cj e1 e2 => ?_, t.st.wf, fun i a e => ?_⟩, fun a ⟨i, c, e⟩ => ?_⟩
  · obtain ⟨v, y, ev, ex, ea', rx⟩ := at_ i s e1
    rw [List.getElem?_map, ex] at e2
    cases e2
    cases s with
    | un => trivial
    | pv w =>
      cases v with
      | ev v =>
        cases v with
        | pv v => cases ea'; exact ⟨y, rfl, rx⟩
        | nw o => cases ea'
      | io j =>
        have ea2 : (match m1[j]? with | some (.own o) => some (Sl.bor o) | some (.bor o) => some (Sl.bor o) | _ => none) = _ := ea'
        split at ea2 <;> cases ea2
    | own o =>
      cases v with
      | ev v =>
        cases v with
        | pv v => cases ea'
        | nw o =>
          cases ea'
          obtain ⟨b, rfl, n, l, rb⟩ := rx
          exact ⟨b, rfl, l, by unfold BOf; rw [e1], rb⟩
      | io j =>
        have ea2 : (match m1[j]? with | some (.own o) => some (Sl.bor o) | some (.bor o) => some (Sl.bor o) | _ => none) = _ := ea'
        split at ea2 <;> cases ea2
    | lck kvs b =>
      cases v with
      | ev v =>
        cases v with
        | pv v => cases ea'
        | nw o => cases ea'
      | io j =>
        have ea2 : (match m1[j]? with | some (.own o) => some (Sl.bor o) | some (.bor o) => some (Sl.bor o) | _ => none) = _ := ea'
        split at ea2 <;> cases ea2
    | bor o =>
      have c : Cell as[i]? := by rw [e1]; trivial
      cases v with
      | ev v => cases v <;> cases ea'
      | io j =>
        have ej : σ[j]? = some (some y) := rx
        have ea2 : (match m1[j]? with | some (.own o) => some (Sl.bor o) | some (.bor o) => some (Sl.bor o) | _ => none) = _ := ea'
        have isref : ∃ a, y = .ref a := by
          split at ea2
          next o' eo => obtain ⟨b, eb, _⟩ := t.st.ok j _ _ eo ej; cases eb; exact ⟨b, rfl⟩
          next o' eo => obtain ⟨b, eb, _⟩ := t.st.ok j _ _ eo ej; cases eb; exact ⟨b, rfl⟩
          next => cases ea2
        obtain ⟨a, rfl⟩ := isref
        obtain ⟨l, h⟩ := cell i a c (by rw [List.getElem?_map, ex]; rfl)
        rcases h with ⟨_, _, _, e5, _⟩ | ⟨_, o2, _, _, _, e5, rb⟩
        · rw [e1] at e5; cases e5
        · rw [e1] at e5; cases e5
          exact ⟨a, rfl, l, by unfold BOf; rw [e1, ex], rb⟩
  · obtain ⟨_, h1⟩ := cell i a ci e1
    obtain ⟨_, h2⟩ := cell j a cj e2
    have x1 : xs[i]? = some (.ref a) := by
      rw [List.getElem?_map] at e1
      cases q : xs[i]? with
      | none => rw [q] at e1; cases e1
      | some y => rw [q] at e1; cases e1; rfl
    have x2 : xs[j]? = some (.ref a) := by
      rw [List.getElem?_map] at e2
      cases q : xs[j]? with
      | none => rw [q] at e2; cases e2
      | some y => rw [q] at e2; cases e2; rfl
    have old : ∀ k : Nat, σ[k]? = some (some (.ref a)) → Cell m1[k]? → H a ≠ none := fun k ek ck => (st.adr (t.sub a ⟨k, ck, ek⟩)).2
    rcases h1 with ⟨o, v1, n1, _⟩ | ⟨k, o, v1, s1, c1, _⟩ <;> rcases h2 with ⟨o', v2, n2, _⟩ | ⟨k', o', v2, s2, c2, _⟩
    · rcases Nat.lt_or_gt_of_ne hij with h | h
      · exact r.ne h v1 v2 trivial trivial x1 x2
      · exact r.ne h v2 v1 trivial trivial x2 x1
    · exact old k' s2 c2 n1
    · exact old k s1 c1 n2
    · by_cases hk : k = k'
      · subst hk; exact hij (ios_inj nd v1 v2)
      · exact t.st.ne k k' a hk c1 c2 s1 s2
  · unfold BOf at e
    split at e
    next o b e1 e2 => cases e; exact ⟨o, e1, by rw [List.getElem?_map, e2]; rfl⟩
    next => cases e
  · obtain ⟨_, h⟩ := cell i a c e
    rcases h with ⟨o, _, n, _⟩ | ⟨k, o, _, s1, c1, _⟩
    · exact .inr n
    · exact .inl (t.sub a ⟨k, c1, s1⟩)
/-- the caller's slots behind the call -/
theorem caller_st {K : PySem.W.Frag} {H' : Hp} {L' : Lv} {avs : List AV} {as as' : List Sl} {xs : List V} (st : StR K B m σ H L) (t : Tr K B m σ H L m1 σ H1 L1) (r : AvRs K σ H H1 L1 avs xs) (nd : (ios avs).Nodup) (ea : asOf m1 avs = some as)
    (stp : Stp (Adr as (xs.map some)) H1 L1 H' L') (wf : ∀ a, L' a → H' a ≠ none) (br : BoR K (BOf as xs) as' H' L') : Tr K B m σ H L (putB avs as' m1) σ H' L' := by
  obtain ⟨hl, sc, sub⟩ := callee_st st t r nd ea
  -- what a lent slot holds now
  have lent : ∀ (k i : Nat), avs[k]? = some (.io i) → ∃ (a : Addr) (o : Ob), σ[i]? = some (some (.ref a)) ∧ Cell m1[i]? ∧ L' a ∧ ObR K H' L' o a ∧ (putB avs as' m1)[i]? = m1[i]?.map (reOb o) := fun k i e => by
    obtain ⟨s, es, el⟩ := asOf_get ea e
    obtain ⟨x, ex, rx⟩ := r.get e
    have ej : σ[i]? = some (some x) := rx
    have el' : (match m1[i]? with | some (.own o) => some (Sl.bor o) | some (.bor o) => some (Sl.bor o) | _ => none) = some s := el
    have key : (∃ a, x = .ref a) ∧ Cell m1[i]? ∧ ∃ o, s = .bor o := by
      split at el'
      next o eo => cases el'; obtain ⟨b, eb, _⟩ := t.st.ok i _ _ eo ej; cases eb; exact ⟨⟨b, rfl⟩, by rw [eo]; trivial, o, rfl⟩
      next o eo => cases el'; obtain ⟨b, eb, _⟩ := t.st.ok i _ _ eo ej; cases eb; exact ⟨⟨b, rfl⟩, by rw [eo]; trivial, o, rfl⟩
      next => cases el'
    obtain ⟨⟨a, rfl⟩, c, o0, rfl⟩ := key
    obtain ⟨o, e1, l, rb⟩ := br k a (by unfold BOf; rw [es, ex])
    exact ⟨a, o, ej, c, l, rb, putB_in nd e e1⟩
  have cellEq : ∀ i : Nat, Cell (putB avs as' m1)[i]? → Cell m1[i]? := fun i c => by
    by_cases hi : i ∈ ios avs
    · have : ∃ k : Nat, avs[k]? = some (.io i) := by
        clear c lent nd ea r stp br sc sub
        induction avs with
        | nil => cases hi
        | cons v vs ih =>
          cases v with
          | ev v => obtain ⟨k, e⟩ := ih hi; exact ⟨k + 1, by simpa using e⟩
          | io j =>
            rcases List.mem_cons.mp hi with e | e
            · subst e; exact ⟨0, rfl⟩
            · obtain ⟨k, e⟩ := ih e; exact ⟨k + 1, by simpa using e⟩
      obtain ⟨k, e⟩ := this
      obtain ⟨_, _, _, c1, _⟩ := lent k i e
      exact c1
    · rw [putB_out hi] at c; exact c
  have notLent : ∀ i : Nat, i ∉ ios avs → ∀ a : Addr, Cell m1[i]? → σ[i]? = some (some (.ref a)) → ¬ Adr as (xs.map some) a := fun i hi a c e z => by
    obtain ⟨k, ck, ek⟩ := z
    -- a lent slot of the same address is the same slot
    have hx : xs[k]? = some (.ref a) := by
      rw [List.getElem?_map] at ek
      cases q : xs[k]? with
      | none => rw [q] at ek; cases ek
      | some y => rw [q] at ek; cases ek; rfl
    cases q : as[k]? with
    | none => rw [q] at ck; exact ck.elim
    | some s =>
      have hk : k < avs.length := by rw [← asOf_len ea]; exact (List.getElem?_eq_some_iff.mp q).1
      have ev : avs[k]? = some avs[k] := List.getElem?_eq_getElem hk
      obtain ⟨s', e1, e2⟩ := asOf_get ea ev
      obtain ⟨x, ex, rx⟩ := r.get ev
      rw [hx] at ex; cases ex
      have na := (st.adr (t.sub a ⟨i, c, e⟩)).2
      cases qv : avs[k] with
      | ev v =>
        rw [qv] at e2 rx
        cases v with
        | pv v => cases e2; rw [q] at e1; cases e1; rw [q] at ck; exact ck.elim
        | nw o => obtain ⟨b, eb, n, _⟩ := rx; cases eb; exact na n
      | io j =>
        rw [qv] at rx ev
        obtain ⟨a', o, s1, c1, _⟩ := lent k j ev
        have rx' : σ[j]? = some (some (.ref a)) := rx
        by_cases hij : i = j
        · subst hij; exact hi (mem_ios ev)
        · exact t.st.ne i j a hij c c1 e rx'
  refine ⟨t.stp.trans stp sub, ⟨by rw [putB_len]; exact t.st.len, fun i s x e1 e2 => ?_, fun i j a hij ci cj => t.st.ne i j a hij (cellEq i ci) (cellEq j cj), wf, fun i a e => ?_⟩, fun a ⟨i, c, e⟩ => t.sub a ⟨i, cellEq i c, e⟩⟩
  · by_cases hi : i ∈ ios avs
    · have : ∃ k : Nat, avs[k]? = some (.io i) := by
        clear lent nd ea r stp br sc sub e1 notLent cellEq
        induction avs with
        | nil => cases hi
        | cons v vs ih =>
          cases v with
          | ev v => obtain ⟨k, e⟩ := ih hi; exact ⟨k + 1, by simpa using e⟩
          | io j =>
            rcases List.mem_cons.mp hi with e | e
            · subst e; exact ⟨0, rfl⟩
            · obtain ⟨k, e⟩ := ih e; exact ⟨k + 1, by simpa using e⟩
      obtain ⟨k, ek⟩ := this
      obtain ⟨a, o, sa, c, l, rb, ep⟩ := lent k i ek
      rw [ep] at e1
      rw [sa] at e2
      cases e2
      cases q : m1[i]? with
      | none => rw [q] at e1; cases e1
      | some s0 =>
        rw [q] at e1 c
        have k0 := t.st.ok i s0 _ q sa
        cases s0 with
        | un => exact c.elim
        | pv v => exact c.elim
        | own o' => obtain ⟨b, eb, _, hb, _⟩ := k0; cases eb; cases e1; exact ⟨a, rfl, l, hb, rb⟩
        | bor o' => obtain ⟨b, eb, _, hb, _⟩ := k0; cases eb; cases e1; exact ⟨a, rfl, l, hb, rb⟩
        | lck kvs b => exact c.elim
    · rw [putB_out hi] at e1
      have k0 := t.st.ok i s x e1 e2
      cases s with
      | un => trivial
      | pv v => obtain ⟨y, ey, ry⟩ := k0; exact ⟨y, ey, ry.mono stp⟩
      | own o =>
        obtain ⟨a, ex, l, hb, rb⟩ := k0
        subst ex
        obtain ⟨rb', l'⟩ := rb.mono stp l (notLent i hi a (by rw [e1]; trivial) e2)
        exact ⟨a, rfl, l', hb, rb'⟩
      | bor o =>
        obtain ⟨a, ex, l, hb, rb⟩ := k0
        subst ex
        obtain ⟨rb', l'⟩ := rb.mono stp l (notLent i hi a (by rw [e1]; trivial) e2)
        exact ⟨a, rfl, l', hb, rb'⟩
      | lck kvs a =>
        obtain ⟨ex, l, hb, rb⟩ := k0
        obtain ⟨rb', l'⟩ := rb.mono stp l (sc.lckN rb)
        exact ⟨ex, l', hb, rb'⟩
  · obtain ⟨o, e1, e2⟩ := t.st.lent i a e
    by_cases hi : i ∈ ios avs
    · have : ∃ k : Nat, avs[k]? = some (.io i) := by
        clear lent nd ea r stp br sc sub notLent cellEq
        induction avs with
        | nil => cases hi
        | cons v vs ih =>
          cases v with
          | ev v => obtain ⟨k, e⟩ := ih hi; exact ⟨k + 1, by simpa using e⟩
          | io j =>
            rcases List.mem_cons.mp hi with e | e
            · subst e; exact ⟨0, rfl⟩
            · obtain ⟨k, e⟩ := ih e; exact ⟨k + 1, by simpa using e⟩
      obtain ⟨k, ek⟩ := this
      obtain ⟨a', o', _, _, _, _, ep⟩ := lent k i ek
      exact ⟨o', by rw [ep, e1]; rfl, e2⟩
    · exact ⟨o, by rw [putB_out hi]; exact e1, e2⟩
/-- the call of a def of one's own -/
theorem se_user {k : Nat} {f : Addr} {fd : FuncData} {ps : List Str} {φ : List Sl → Res EV} {x : Str} {px pos : Pos} {e : Expr} {es : List Expr} {ss : List ArgD} (F : FnG X.prog X.w X.K X.mg X.base k f fd ps φ) (hr : Room k X.A) (hgd : X.A.guards = some []) (hg : Gl X x) (hm : X.mg x = some (.ref f))
    (hk : PySem.W.keepIn X.K (.ref f) = true) (hb : Binds X.K fd ps []) (tk : Takes X W) (ha : SA ⟨X.K, X.mg, W, B⟩ X (e :: es) ss) (hdb : (x == ("__debug__" : Str)) = false) (he : starEach (e :: es) X.env = (false, eval e X.env) :: starEach es X.env)
    (hpl : (backTo pos (starEach es X.env)).any (·.1) = false) : SE ⟨X.K, X.mg, W, B⟩ X (.Call (.Name x px) (e :: es) [] pos) (eUser ps.length φ ss) :=
  pe_imp (peG_call F hr hgd hg hm hk hb tk ha hdb he hpl) fun σ H Q ⟨m, L, st, h⟩ => by
    refine tA_then st h fun avs m1 xs H1 L1 t r h1 => ?_
    split at h1
    next hc =>
      rw [Bool.and_eq_true, decide_eq_true_eq, decide_eq_true_eq] at hc
      refine ⟨by rw [← r.length]; exact hc.1, ?_⟩
      split at h1
      next => exact h1.elim
      next as ea =>
        obtain ⟨hl, sc, sub⟩ := callee_st st t r hc.2 ea
        refine ⟨as, L1, hl, sc, ?_⟩
        cases hφ : φ as with
        | stuck => rw [hφ] at h1; exact h1.elim
        | ok v as' =>
          rw [hφ] at h1
          exact fun y H' L' stp wf ev br => h1 y H' L' (caller_st st t r hc.2 ea stp wf br) (ev.back fun a => none_back t.stp)
        | exc c as' =>
          rw [hφ] at h1
          exact fun cls d H' L' stp wf br ex => h1 cls d H' L' (caller_st st t r hc.2 ea stp wf br) ex
    next => exact h1.elim
end
end Sd
end
section
set_option Elab.async false
set_option linter.all false
set_option maxRecDepth 100000
namespace Sd
open PySem L2
section
variable {p : Pm} {X : Cx} {m m1 : List Sl} {σ σ1 : L2.St} {H H1 : Hp} {L L1 : Lv}
theorem ps_imp {s : Stmt} {t t' : TS} (h : PS X s t) (i : ∀ D σ H, t' D σ H → t D σ H) : PS X s t' := ⟨fun pins s σ H D I hq => h.run pins s σ H D I (i D σ H hq)⟩
theorem pss_imp {s : List Stmt} {t t' : TS} (h : PSs X s t) (i : ∀ D σ H, t' D σ H → t D σ H) : PSs X s t' := ⟨fun pins s σ H D I hq => h.run pins s σ H D I (i D σ H hq)⟩
theorem RS.go {r : SRes} {D : Ends} (t : Tw p.K p.B m σ H L m1 σ1 H1 L1) (h : RS p m σ H L r D) : RS p m1 σ1 H1 L1 r D := by
  cases r with
  | nx m' => exact fun σ' H' L' t' => h σ' H' L' (t.trans t')
  | brk m' => exact fun σ' H' L' t' => h σ' H' L' (t.trans t')
  | cnt m' => exact fun σ' H' L' t' => h σ' H' L' (t.trans t')
  | ret v m' => exact fun x σ' H' L' t' e => h x σ' H' L' (t.trans t') (e.back fun a => none_back t.stp)
  | exc c m' => exact fun cls d σ' H' L' t' e => h cls d σ' H' L' (t.trans t') e
  | stuck => exact h
/-! ### small statements -/
@[simp] def dNil (m : List Sl) : SRes := .nx m
def SRes.thn (r : SRes) (e : List Sl → SRes) : SRes := match r with
  | .nx m' => e m'
  | r => r
@[simp] theorem SRes.thn_nx (m : List Sl) (e : List Sl → SRes) : (SRes.nx m).thn e = e m := rfl
@[simp] theorem SRes.thn_brk (m : List Sl) (e : List Sl → SRes) : (SRes.brk m).thn e = .brk m := rfl
@[simp] theorem SRes.thn_cnt (m : List Sl) (e : List Sl → SRes) : (SRes.cnt m).thn e = .cnt m := rfl
@[simp] theorem SRes.thn_ret (v : EV) (m : List Sl) (e : List Sl → SRes) : (SRes.ret v m).thn e = .ret v m := rfl
@[simp] theorem SRes.thn_exc (c : Ex) (m : List Sl) (e : List Sl → SRes) : (SRes.exc c m).thn e = .exc c m := rfl
@[simp] theorem SRes.thn_stuck (e : List Sl → SRes) : SRes.stuck.thn e = .stuck := rfl
theorem SRes.thn_congr {r r' : SRes} {e : List Sl → SRes} (h : r = r') : r.thn e = r'.thn e := by rw [h]
@[simp] def dSeq (d e : List Sl → SRes) (m : List Sl) : SRes := (d m).thn e
@[simp] def dStuck (_ : List Sl) : SRes := .stuck
@[simp] def dBrk (m : List Sl) : SRes := .brk m
@[simp] def dCnt (m : List Sl) : SRes := .cnt m
def dBind {α : Type} (r : Res α) (k : α → List Sl → SRes) : SRes := match r with
  | .ok v m => k v m
  | .exc c m => .exc c m
  | .stuck => .stuck
@[simp] theorem dBind_ok {α : Type} (a : α) (m : List Sl) (k : α → List Sl → SRes) : dBind (Res.ok a m) k = k a m := rfl
@[simp] theorem dBind_exc {α : Type} (c : Ex) (m : List Sl) (k : α → List Sl → SRes) : dBind (Res.exc c m) k = .exc c m := rfl
@[simp] theorem dBind_stuck {α : Type} (k : α → List Sl → SRes) : dBind Res.stuck k = .stuck := rfl
theorem dBind_congr {α : Type} {r r' : Res α} {k : α → List Sl → SRes} (h : r = r') : dBind r k = dBind r' k := by rw [h]
theorem sss_nil : SSs p X [] dNil := pss_imp pss_nil fun D σ H ⟨m, L, st, h⟩ => h σ H L (Tr.refl st).w
theorem sss_cons {s : Stmt} {r : List Stmt} {d e : List Sl → SRes} (h1 : SS p X s d) (h2 : SSs p X r e) : SSs p X (s :: r) (dSeq d e) := pss_imp (pss_cons h1 h2) fun D σ H ⟨m, L, st, h⟩ => by
  refine ⟨m, L, st, ?_⟩
  unfold dSeq at h
  cases q : d m with
  | nx m' => rw [q] at h; exact fun σ' H' L' t => ⟨m', L', t.st, RS.go t h⟩
  | brk m' => rw [q] at h; exact h
  | cnt m' => rw [q] at h; exact h
  | ret v m' => rw [q] at h; exact h
  | exc c m' => rw [q] at h; exact h
  | stuck => rw [q] at h; exact h
theorem ss_stuck {s : Stmt} : SS p X s dStuck := ps_imp ps_never fun D σ H ⟨m, L, st, h⟩ => h
theorem sss_stuck {s : List Stmt} : SSs p X s dStuck := pss_imp pss_never fun D σ H ⟨m, L, st, h⟩ => h
theorem ss_pass {pos} : SS p X (.Pass pos) dNil := ps_imp ps_pass fun D σ H ⟨m, L, st, h⟩ => h σ H L (Tr.refl st).w
theorem ss_brk {pos} : SS p X (.Break pos) dBrk := ps_imp ps_break fun D σ H ⟨m, L, st, h⟩ => h σ H L (Tr.refl st).w
theorem ss_cnt {pos} : SS p X (.Continue pos) dCnt := ps_imp ps_continue fun D σ H ⟨m, L, st, h⟩ => h σ H L (Tr.refl st).w
theorem ss_doc {x j pos pos'} : SS p X (.Expr (.Constant (.str x) j pos) pos') dNil := ps_imp ps_doc fun D σ H ⟨m, L, st, h⟩ => h σ H L (Tr.refl st).w
/-- first an expression, then a statement's rest -/
theorem tE_thenS {s : List Sl → Res EV} {k : EV → List Sl → SRes} {D : Ends} {Q1 : VK} (st : StR p.K p.B m σ H L) (h : RS p m σ H L (dBind (s m) k) D)
    (hk : ∀ v m1 x H1 L1, Tr p.K p.B m σ H L m1 σ H1 L1 → EvR p.K H H1 L1 v x → RS p m1 σ H1 L1 (k v m1) D → Q1 x H1)
    (hW : True := trivial) : tE p s σ H Q1 := by
  refine ⟨m, L, st, ?_⟩
  cases e : s m with
  | ok v m1 => rw [e] at h; exact fun x H1 L1 t ev => hk v m1 x H1 L1 t ev (RS.go t.w h)
  | exc c m1 => rw [e] at h; exact fun cls d H' L' t ex => h cls d σ H' L' t.w ex
  | stuck => rw [e] at h; exact h
theorem tT_thenS {s : List Sl → Res Bool} {k : Bool → List Sl → SRes} {D : Ends} {Q1 : Bool → Hp → Prop} (st : StR p.K p.B m σ H L) (h : RS p m σ H L (dBind (s m) k) D)
    (hk : ∀ v m1 H1 L1, Tr p.K p.B m σ H L m1 σ H1 L1 → RS p m1 σ H1 L1 (k v m1) D → Q1 v H1) : tT p s σ H Q1 := by
  refine ⟨m, L, st, ?_⟩
  cases e : s m with
  | ok v m1 => rw [e] at h; exact fun H1 L1 t => hk v m1 H1 L1 t (RS.go t.w h)
  | exc c m1 => rw [e] at h; exact fun cls d H' L' t ex => h cls d σ H' L' t.w ex
  | stuck => rw [e] at h; exact h
@[simp] def dDrop (s : List Sl → Res EV) (m : List Sl) : SRes := dBind (s m) fun _ m1 => .nx m1
theorem ss_expr {e : Expr} {s : List Sl → Res EV} {pos : Pos} (he : SE p X e s) (hs : swapsWith e none pos.line X.env = pure false) : SS p X (.Expr e pos) (dDrop s) := ps_imp (ps_expr he hs) fun D σ H ⟨m, L, st, h⟩ =>
  tE_thenS st h fun v m1 x H1 L1 t ev h1 => h1 σ H1 L1 (Tr.refl t.st).w
@[simp] def dRet (s : List Sl → Res EV) (m : List Sl) : SRes := dBind (s m) fun v m1 => .ret v m1
theorem ss_ret {e : Expr} {s : List Sl → Res EV} {pos : Pos} (he : SE p X e s) : SS p X (.Return (some e) pos) (dRet s) := ps_imp (ps_ret he) fun D σ H ⟨m, L, st, h⟩ => by
  refine ⟨m, L, st, ?_⟩
  unfold dRet at h
  cases e : s m with
  | ok v m1 => rw [e] at h; exact fun x H1 L1 t ev => h x σ H1 L1 t.w ev
  | exc c m1 => rw [e] at h; exact fun cls d H' L' t ex => h cls d σ H' L' t.w ex
  | stuck => rw [e] at h; exact h
@[simp] def dRetN (m : List Sl) : SRes := .ret (.pv .non) m
theorem ss_retN {pos : Pos} : SS p X (.Return none pos) dRetN := ps_imp ps_retN fun D σ H ⟨m, L, st, h⟩ => h .non σ H L (Tr.refl st).w .non
@[simp] def dIf (c : List Sl → Res Bool) (d e : List Sl → SRes) (m : List Sl) : SRes := dBind (c m) fun b m1 => if b then d m1 else e m1
theorem ss_if {c : Expr} {a b : List Stmt} {s : List Sl → Res Bool} {d e : List Sl → SRes} {pos : Pos} (hc : ST p X c s) (ha : SSs p X a d) (hb : SSs p X b e) : SS p X (.If c a b pos) (dIf s d e) := ps_imp (ps_if hc ha hb) fun D σ H ⟨m, L, st, h⟩ => by
  refine tT_thenS st h fun v m1 H1 L1 t h1 => ?_
  cases v with
  | true => exact ⟨m1, L1, t.st, h1⟩
  | false => exact ⟨m1, L1, t.st, h1⟩
/-! ### stores -/
@[simp] def slOf : EV → Sl
  | .pv v => .pv v
  | .nw o => .own o
/-- a value into a slot that is not lent -/
@[simp] def setSl (m : List Sl) (i : Nat) (s : Sl) : Option (List Sl) := match m[i]? with
  | some (.bor _) => none
  | some _ => some (m.set i s)
  | none => none
theorem Tw.put {K : PySem.W.Frag} {B : Nat → Option Addr} {i : Nat} {v : EV} {x : V} {m' : List Sl} (st0 : StR K B m σ H L) (t : Tr K B m σ H L m1 σ H1 L1) (ev : EvR K H H1 L1 v x) (e : setSl m1 i (slOf v) = some m') :
    Tw K B m σ H L m' (σ.set i (some x)) H1 L1 := by
  have st := t.st
  have old : ∀ a, Adr m1 σ a → H a ≠ none := fun a z => (st0.adr (t.sub a z)).2
  unfold setSl at e
  have key : ∀ s0, m1[i]? = some s0 → (∀ o, s0 ≠ .bor o) → some (m1.set i (slOf v)) = some m' → Tw K B m σ H L m' (σ.set i (some x)) H1 L1 := fun s0 es nb em => by
    cases em
    have hi : i < m1.length := (List.getElem?_eq_some_iff.mp es).1
    have hi' : i < σ.length := by rw [← st.len]; exact hi
    have cm : ∀ j : Nat, j ≠ i → (m1.set i (slOf v))[j]? = m1[j]? := fun j h => List.getElem?_set_ne (Ne.symm h)
    have cs : ∀ j : Nat, j ≠ i → (σ.set i (some x))[j]? = σ[j]? := fun j h => List.getElem?_set_ne (Ne.symm h)
    have newA : ∀ a, Cell (m1.set i (slOf v))[i]? → (σ.set i (some x))[i]? = some (some (.ref a)) → H a = none ∧ L1 a := fun a c ea => by
      rw [List.getElem?_set_self hi] at c
      rw [List.getElem?_set_self hi'] at ea
      cases ea
      cases v with
      | pv v => exact c.elim
      | nw o => obtain ⟨b, eb, n, l, _⟩ := ev; cases eb; exact ⟨n, l⟩
    have hB : B i = none := by
      cases q : B i with
      | none => rfl
      | some a => obtain ⟨o, e1, _⟩ := st.lent i a q; rw [es] at e1; cases e1; exact absurd rfl (nb o)
    refine ⟨t.stp, ⟨by rw [List.length_set, List.length_set]; exact st.len, fun j s y e1 e2 => ?_, fun j k a hjk cj ck e1 e2 => ?_, st.wf, fun j a e => ?_⟩, fun a ⟨j, c, ea⟩ => ?_⟩
    · by_cases hj : j = i
      · subst hj
        rw [List.getElem?_set_self hi] at e1
        rw [List.getElem?_set_self hi'] at e2
        cases e1; cases e2
        cases v with
        | pv v => exact ⟨x, rfl, ev⟩
        | nw o => obtain ⟨b, eb, n, l, r⟩ := ev; subst eb; exact ⟨b, rfl, l, hB, r⟩
      · rw [cm j hj] at e1
        rw [cs j hj] at e2
        exact st.ok j s y e1 e2
    · by_cases hj : j = i
      · subst hj
        have hk : k ≠ j := fun z => hjk z.symm
        obtain ⟨n, _⟩ := newA a cj e1
        rw [cm k hk] at ck
        rw [cs k hk] at e2
        exact old a ⟨k, ck, e2⟩ n
      · by_cases hk : k = i
        · subst hk
          obtain ⟨n, _⟩ := newA a ck e2
          rw [cm j hj] at cj
          rw [cs j hj] at e1
          exact old a ⟨j, cj, e1⟩ n
        · rw [cm j hj] at cj
          rw [cm k hk] at ck
          rw [cs j hj] at e1
          rw [cs k hk] at e2
          exact st.ne j k a hjk cj ck e1 e2
    · obtain ⟨o, e1, e2⟩ := st.lent j a e
      have hj : j ≠ i := fun z => by subst z; rw [es] at e1; cases e1; exact nb o rfl
      exact ⟨o, by rw [cm j hj]; exact e1, by rw [cs j hj]; exact e2⟩
    · by_cases hj : j = i
      · subst hj
        exact .inr (newA a c ea).1
      · rw [cm j hj] at c
        rw [cs j hj] at ea
        exact .inl (t.sub a ⟨j, c, ea⟩)
  cases es : m1[i]? with
  | none => rw [es] at e; cases e
  | some s0 =>
    rw [es] at e
    cases s0 with
    | bor o => cases e
    | un => exact key _ es (fun o z => by cases z) e
    | pv v => exact key _ es (fun o z => by cases z) e
    | own o => exact key _ es (fun o z => by cases z) e
    | lck kvs b => exact key _ es (fun o z => by cases z) e
@[simp] def dSet (i : Nat) (s : List Sl → Res EV) (m : List Sl) : SRes := dBind (s m) fun v m1 => match setSl m1 i (slOf v) with
  | some m2 => .nx m2
  | none => .stuck
theorem ss_set {st : Stmt} {i : Nat} {s : List Sl → Res EV} (h : PS X st (tAsg (tE p s) (gName i))) : SS p X st (dSet i s) := ps_imp h fun D σ H ⟨m, L, st, h⟩ => by
  refine ⟨m, L, st, ?_⟩
  unfold dSet at h
  cases e : s m with
  | exc c m1 => rw [e] at h; exact fun cls d H' L' t ex => h cls d σ H' L' t.w ex
  | stuck => rw [e] at h; exact h
  | ok v m1 =>
    rw [e, dBind_ok] at h
    intro x H1 L1 t ev
    cases e2 : setSl m1 i (slOf v) with
    | none => rw [e2] at h; exact h.elim
    | some m2 => rw [e2] at h; exact h _ H1 L1 (Tw.put st t ev e2)
/-- x += e, x -= e: ints -/
@[simp] def dAug (i : Nat) (f : Int → Int → Int) (s : List Sl → Res EV) (m : List Sl) : SRes := match m[i]? with
  | some (.pv (.int a)) => dBind (s m) fun v m1 => match v.v with
    | .int b => match setSl m1 i (.pv (.int (f a b))) with
      | some m2 => .nx m2
      | none => .stuck
    | _ => .stuck
  | _ => .stuck
theorem ss_aug {st : Stmt} {i : Nat} {f : Int → Int → Int} {s : List Sl → Res EV} (h : PS X st (tAug i (tE p s) (ipI f))) : SS p X st (dAug i f s) := ps_imp h fun D σ H ⟨m, L, st, h⟩ => by
  unfold dAug at h
  split at h
  next a ea =>
    obtain ⟨x, ex, y, rfl, ry⟩ := st.at ea
    cases ry
    refine ⟨.int a, ex, m, L, st, ?_⟩
    cases e : s m with
    | exc c m1 => rw [e] at h; exact fun cls d H' L' t ex => h cls d σ H' L' t.w ex
    | stuck => rw [e] at h; exact h
    | ok v m1 =>
      rw [e, dBind_ok] at h
      intro x H1 L1 t ev
      split at h
      next b eb =>
        have r := ev.rd
        rw [eb] at r
        rw [r.int]
        split at h
        next m2 e2 => exact ⟨a, b, rfl, rfl, h _ H1 L1 (Tw.put (v := .pv (.int (f a b))) st t (.int _) e2)⟩
        next => exact h.elim
      next => exact h.elim
  next => exact h.elim
/-! several targets -/
def putAll : List Nat → List AV → List Sl → Option (List Sl)
  | [], [], m => some m
  | i :: is, .ev v :: vs, m => match setSl m i (slOf v) with
    | some m1 => putAll is vs m1
    | none => none
  | _, _, _ => none
def setAll : List Nat → List V → L2.St → L2.St
  | i :: is, x :: xs, σ => setAll is xs (σ.set i (some x))
  | _, _, σ => σ
end
end Sd
end
section
set_option Elab.async false
set_option linter.all false
set_option maxRecDepth 100000
namespace Sd
open PySem L2
section
variable {p : Pm} {X : Cx} {m m1 : List Sl} {σ σ1 : L2.St} {H H1 : Hp} {L L1 : Lv}
/-! ### bounds that the kernel does not look into -/
theorem okR_ex : ∃ f : Int → Bool, ∀ j, f j = true ↔ -(2 ^ 62) ≤ j ∧ j < 2 ^ 62 := ⟨fun j => decide (-(2 ^ 62) ≤ j ∧ j < 2 ^ 62), fun j => decide_eq_true_iff⟩
noncomputable def okR : Int → Bool := okR_ex.choose
theorem okR_iff {j : Int} : okR j = true ↔ -(2 ^ 62) ≤ j ∧ j < 2 ^ 62 := okR_ex.choose_spec j
theorem okR_of {j : Int} (h0 : -1000000000000000000 ≤ j) (h : j ≤ 1000000000000000000) : okR j = true := okR_iff.mpr ⟨by omega, by omega⟩
@[simp] theorem okR_lit (n : Nat) (h : n ≤ 1000000000000000000) : okR (OfNat.ofNat n) = true := okR_of (by show -1000000000000000000 ≤ (n : Int); omega) (by show (n : Int) ≤ _; omega)
@[simp] theorem okR_0 : okR 0 = true := okR_of (by omega) (by omega)
@[simp] theorem okR_1 : okR 1 = true := okR_of (by omega) (by omega)
/-! ### what a slot owns, changed -/
@[simp] def upSl (m : List Sl) (k : Nat) (o : Ob) : List Sl := match m[k]? with
  | some (.own _) => m.set k (.own o)
  | some (.bor _) => m.set k (.bor o)
  | _ => m
@[simp] def cellv (m : List Sl) (k : Nat) : Option Ob := match m[k]? with
  | some (.own o) => some o
  | some (.bor o) => some o
  | _ => none
theorem StR.cell {K : PySem.W.Frag} {B : Nat → Option Addr} {k : Nat} {o : Ob} (st : StR K B m σ H L) (e : cellv m k = some o) : ∃ a, σ[k]? = some (some (.ref a)) ∧ Cell m[k]? ∧ L a ∧ ObR K H L o a := by
  unfold cellv at e
  split at e
  next q em => cases e; obtain ⟨x, ex, a, rfl, l, _, r⟩ := st.at em; exact ⟨a, ex, by rw [em]; trivial, l, r⟩
  next q em => cases e; obtain ⟨x, ex, a, rfl, l, _, r⟩ := st.at em; exact ⟨a, ex, by rw [em]; trivial, l, r⟩
  next => cases e
theorem stp_write {a : Addr} {ho : HO} (l : L a) : Stp (fun b => b = a) H L (upd H a ho) L := ⟨fun b n => by
    by_cases e : b = a
    · subst e; rw [upd_same]; simp
    · rw [upd_ne e]; exact n, fun b u e n => by
    have h : b ≠ a := fun z => n (by rw [z]; exact l)
    rw [upd_ne h]; exact ⟨e, n⟩, fun b u e l' n => by rw [upd_ne n]; exact ⟨e, l'⟩⟩
theorem Tr.write {K : PySem.W.Frag} {B : Nat → Option Addr} {k : Nat} {a : Addr} {o : Ob} {ho : HO} (t : Tr K B m σ H L m1 σ H1 L1) (c : Cell m1[k]?) (ea : σ[k]? = some (some (.ref a))) (l : L1 a) (ob : ObR K (upd H1 a ho) L1 o a) : Tr K B m σ H L (upSl m1 k o) σ (upd H1 a ho) L1 := by
  have st := t.st
  have s : Stp (fun b => b = a) H1 L1 (upd H1 a ho) L1 := stp_write l
  have hk : k < m1.length := by
    cases q : m1[k]? with
    | none => rw [q] at c; exact c.elim
    | some s => exact (List.getElem?_eq_some_iff.mp q).1
  have other : ∀ j : Nat, j ≠ k → (upSl m1 k o)[j]? = m1[j]? := fun j h => by
    unfold upSl
    split
    · exact List.getElem?_set_ne (Ne.symm h)
    · exact List.getElem?_set_ne (Ne.symm h)
    · rfl
  have self : (upSl m1 k o)[k]? = m1[k]?.map (reOb o) := by
    have z := putB_set m1 k o k
    rw [if_pos rfl] at z
    exact z
  have cellE : ∀ j : Nat, Cell (upSl m1 k o)[j]? → Cell m1[j]? := fun j cj => by
    by_cases h : j = k
    · subst h; exact c
    · rw [other j h] at cj; exact cj
  have len : (upSl m1 k o).length = m1.length := by
    unfold upSl
    split <;> first | rw [List.length_set] | rfl
  refine ⟨t.stp.trans s fun b z => .inl (by subst z; exact t.sub b ⟨k, c, ea⟩), ⟨by rw [len]; exact st.len, fun j sl x e1 e2 => ?_, fun i j b hij ci cj => st.ne i j b hij (cellE i ci) (cellE j cj), fun b lb => ?_, fun j b e => ?_⟩, fun b ⟨j, cj, e⟩ => t.sub b ⟨j, cellE j cj, e⟩⟩
  · by_cases h : j = k
    · subst h
      rw [self] at e1
      rw [ea] at e2
      cases e2
      cases q : m1[j]? with
      | none => rw [q] at e1; cases e1
      | some s0 =>
        rw [q] at e1 c
        have k0 := st.ok j s0 _ q ea
        cases s0 with
        | un => exact c.elim
        | pv v => exact c.elim
        | own o' => obtain ⟨b, eb, _, hb, _⟩ := k0; cases eb; cases e1; exact ⟨a, rfl, l, hb, ob⟩
        | bor o' => obtain ⟨b, eb, _, hb, _⟩ := k0; cases eb; cases e1; exact ⟨a, rfl, l, hb, ob⟩
        | lck kvs b => exact c.elim
    · rw [other j h] at e1
      have k0 := st.ok j sl x e1 e2
      cases sl with
      | un => trivial
      | pv v => obtain ⟨y, ey, ry⟩ := k0; exact ⟨y, ey, ry.mono s⟩
      | own o' =>
        obtain ⟨b, ex, lb, hb, rb⟩ := k0
        subst ex
        obtain ⟨rb', l'⟩ := rb.mono s lb fun z => st.ne j k a h (by rw [e1]; trivial) c (by rw [e2, z]) ea
        exact ⟨b, rfl, l', hb, rb'⟩
      | bor o' =>
        obtain ⟨b, ex, lb, hb, rb⟩ := k0
        subst ex
        obtain ⟨rb', l'⟩ := rb.mono s lb fun z => st.ne j k a h (by rw [e1]; trivial) c (by rw [e2, z]) ea
        exact ⟨b, rfl, l', hb, rb'⟩
      | lck kvs b =>
        obtain ⟨ex, lb, hb, rb⟩ := k0
        obtain ⟨rb', l'⟩ := rb.mono s lb fun z => st.lckN rb ⟨k, c, by rw [z]; exact ea⟩
        exact ⟨ex, l', hb, rb'⟩
  · exact s.old b (st.wf b lb)
  · obtain ⟨o', e1, e2⟩ := st.lent j b e
    by_cases h : j = k
    · subst h; exact ⟨o, by rw [self, e1]; rfl, e2⟩
    · exact ⟨o', by rw [other j h]; exact e1, e2⟩
/-! ### methods that change a slot's list -/
/-- the method's rule: on the items and the arguments what is handed back and what the list then holds -/
def MtS (K : PySem.W.Frag) (r : V → List V → Hp → VK → Prop) (g : List PV → List PV → Option (PV × List PV)) : Prop := ∀ (H : Hp) (L : Lv) (a : Addr) (vs : List V) (xs : List PV) (as : List PV) (us : List V) (z : PV) (ys : List PV) (Q : VK),
  H a = some (.lst vs) → VRs K H L xs vs → VRs K H L as us → g xs as = some (z, ys) → (∀ ws x, VRs K H L ys ws → VR K H L z x → Q x (upd H a (.lst ws))) → r (.ref a) us H Q
@[simp] def eMeth (k : Nat) (g : List PV → List PV → Option (PV × List PV)) (ss : List ArgD) (m : List Sl) : Res EV := match cellv m k with
  | some (.lst _) => (eArgs ss m).bind fun avs m1 => match cellv m1 k with
    | some (.lst xs) => if allEv avs = true then
        match g xs (avs.map AV.v) with
        | some (z, ys) => .ok (.pv z) (upSl m1 k (.lst ys))
        | none => .stuck
      else .stuck
    | _ => .stuck
  | _ => .stuck
theorem se_meth {e : Expr} {k : Nat} {ss : List ArgD} {r : V → List V → Hp → VK → Prop} {g : List PV → List PV → Option (PV × List PV)} (h : PE X e (tBM p.K "list" r (tVar k) (tA p (eArgs ss)))) (hr : MtS p.K r g) : SE p X e (eMeth k g ss) := pe_imp h fun σ H Q ⟨m, L, st, h⟩ => by
  unfold eMeth at h
  split at h
  next xs0 e0 =>
    obtain ⟨a, ea, c0, l0, r0⟩ := st.cell e0
    obtain ⟨vs0, ev0, _⟩ := r0
    refine ⟨.ref a, ea, .inl ⟨rfl, vs0, SqL.of ev0⟩, ?_⟩
    refine tA_then st h fun avs m1 us H1 L1 t r h1 => ?_
    split at h1
    next xs e1 =>
      split at h1
      next f =>
        obtain ⟨L', t', r'⟩ := r.froze st t f
        obtain ⟨b, eb, c1, l1, vs, evs, rv⟩ := t'.st.cell e1
        rw [ea] at eb
        cases eb
        split at h1
        next z ys eg =>
          refine hr H1 L' a vs xs _ us z ys Q evs rv r' eg fun ws x rw_ rx => ?_
          have s : Stp (fun b => b = a) H1 L' (upd H1 a (.lst ws)) L' := stp_write l1
          exact h1 x _ L' (t'.write c1 ea l1 ⟨ws, upd_same, rw_.mono s⟩) (rx.mono s)
        next => exact h1.elim
      next => exact h1.elim
    next => exact h1.elim
  next => exact h.elim
@[simp] def gAppend (xs as : List PV) : Option (PV × List PV) := match as with
  | [v] => if xs.length < big then some (.non, xs ++ [v]) else none
  | _ => none
theorem mts_append {K : PySem.W.Frag} : MtS K rAppend gAppend := by
  intro H L a vs xs as us z ys Q ha rx ra e q
  unfold gAppend at e
  split at e
  next v =>
    split at e
    next hz =>
      cases e
      cases ra with
      | cons r1 r2 =>
        cases r2
        exact ⟨a, vs, _, rfl, rfl, ha, by rw [big_eq, ← rx.length]; exact hz, q _ _ (rx.append (.cons r1 .nil)) .non⟩
    next => cases e
  next => cases e
@[simp] noncomputable def gPopAt (xs as : List PV) : Option (PV × List PV) := match as with
  | [.int i] => if okR i = true then match seqIndex? i xs.length with
    | some k => match xs[k]? with
      | some y => some (y, xs.eraseIdx k)
      | none => none
    | none => none
    else none
  | _ => none
theorem mts_popAt {K : PySem.W.Frag} : MtS K rPopAt gPopAt := by
  intro H L a vs xs as us z ys Q ha rx ra e q
  unfold gPopAt at e
  split at e
  next i =>
    split at e
    next hi =>
      split at e
      next k hk =>
        split at e
        next y hy =>
          cases e
          cases ra with
          | cons r1 r2 =>
            cases r2
            cases r1
            obtain ⟨x, hx, rx'⟩ := rx.get hy
            have hi' := okR_iff.mp hi
            exact ⟨a, vs, i, k, x, rfl, rfl, ha, by omega, by omega, by rw [← rx.length]; exact hk, hx, q _ _ (rx.eraseIdx k) rx'⟩
        next => cases e
      next => cases e
    next => cases e
  next => cases e
@[simp] noncomputable def gInsert (xs as : List PV) : Option (PV × List PV) := match as with
  | [.int i, v] => if xs.length < big ∧ 0 ≤ i ∧ okR i = true then some (.non, xs.take i.toNat ++ [v] ++ xs.drop i.toNat) else none
  | _ => none
def rInsertS : V → List V → Hp → VK → Prop := fun x vs H Q => ∃ (l : Addr) (xs : List V) (i : Int) (y : V), x = .ref l ∧ vs = [.int i, y] ∧ H l = some (.lst xs) ∧ xs.length < sizeLine ∧ 0 ≤ i ∧ i < 2 ^ 63 ∧ Q .non (upd H l (.lst (xs.take i.toNat ++ [y] ++ xs.drop i.toNat)))
theorem mts_insert {K : PySem.W.Frag} : MtS K rInsertS gInsert := by
  intro H L a vs xs as us z ys Q ha rx ra e q
  unfold gInsert at e
  split at e
  next i v =>
    split at e
    next hi =>
      cases e
      cases ra with
      | cons r1 r2 =>
        cases r2 with
        | cons r2 r3 =>
          cases r3
          cases r1
          exact ⟨a, vs, i, _, rfl, rfl, ha, by rw [big_eq, ← rx.length]; exact hi.1, hi.2.1, (by have := okR_iff.mp hi.2.2; omega), q _ _ (((rx.take _).append (.cons r2 .nil)).append (rx.drop _)) .non⟩
    next => cases e
  next => cases e
/-! ### xs[i] = e -/
@[simp] def dSetIx (k : Nat) (si sv : List Sl → Res EV) (m : List Sl) : SRes := dBind (sv m) fun v m1 => match cellv m1 k with
  | some (.lst _) => dBind (si m1) fun i m2 => match cellv m2 k, i.v with
    | some (.lst xs), .int i => match ixN xs.length i with
      | some j => .nx (upSl m2 k (.lst (xs.set j v.v)))
      | none => .stuck
    | _, _ => .stuck
  | _ => .stuck
theorem ss_setIx {st : Stmt} {k : Nat} {si sv : List Sl → Res EV} (h : PS X st (tAsg (tE p sv) (gSub (tVar k) (tE p si) rSetL))) : SS p X st (dSetIx k si sv) := ps_imp h fun D σ H ⟨m, L, st, h⟩ => by
  refine ⟨m, L, st, ?_⟩
  unfold dSetIx at h
  cases e : sv m with
  | exc c m1 => rw [e] at h; exact fun cls d H' L' t ex => h cls d σ H' L' t.w ex
  | stuck => rw [e] at h; exact h
  | ok v m1 =>
    rw [e, dBind_ok] at h
    intro x H1 L1 t ev
    split at h
    next xs0 e0 =>
      obtain ⟨a, ea, c0, l0, r0⟩ := t.st.cell e0
      refine ⟨.ref a, ea, m1, L1, t.st, ?_⟩
      cases e2 : si m1 with
      | exc c m2 => rw [e2] at h; exact fun cls d H' L' t2 ex => h cls d σ H' L' (t.trans t2).w ex
      | stuck => rw [e2] at h; exact h
      | ok i m2 =>
        rw [e2, dBind_ok] at h
        intro y H2 L2 t2 ev2
        have ev' := ev.over st t t2
        obtain ⟨L', t', rv⟩ := ev'.froze st (t.trans t2)
        have ri := ev2.rd
        split at h
        next xs j e3 e4 =>
          rw [e4] at ri
          obtain ⟨b, eb, c1, l1, vs, evs, rvs⟩ := t'.st.cell e3
          rw [ea] at eb
          cases eb
          split at h
          next n en =>
            refine ⟨a, vs, j, n, rfl, ri.int, evs, by rw [← rvs.length]; exact en, ?_⟩
            have s : Stp (fun b => b = a) H2 L' (upd H2 a (.lst (vs.set n x))) L' := stp_write l1
            exact h _ _ L' (t'.write (o := .lst (xs.set n v.v)) (ho := .lst (vs.set n x)) c1 ea l1 ⟨_, upd_same, (rvs.set rv n).mono s⟩).w
          next => exact h.elim
        next => exact h.elim
    next => exact h.elim
end
end Sd
end
section
set_option Elab.async false
set_option linter.all false
set_option maxRecDepth 100000
namespace Sd
open PySem L2
abbrev All' : Addr → Prop := fun _ => True
/-- the iterator yields these, whatever becomes of what may change -/
def JR (K : PySem.W.Frag) (J : It) (xs : List PV) (H0 : Hp) (L0 : Lv) : Prop := ∀ (H : Hp) (L : Lv), Stp All' H0 L0 H L → (∀ a, L a → H a ≠ none) →
  (∀ i v, xs[i]? = some v → J.go i H ∧ ∀ x H', J.yld i H x H' → Stp No H L H' L ∧ VR K H' L v x) ∧ ∀ i, xs.length ≤ i → J.stop i H
def RI (p : Pm) (m : List Sl) (σ : L2.St) (H : Hp) (L : Lv) (r : Res (List PV)) (R : It → Hp → Prop) : Prop := match r with
  | .ok xs m' => ∀ J H' L', Tr p.K p.B m σ H L m' σ H' L' → JR p.K J xs H' L' → R J H'
  | .exc c m' => RX p m σ H L c m'
  | .stuck => False
def tI (p : Pm) (s : List Sl → Res (List PV)) : TI := fun σ H R => ∃ m L, StR p.K p.B m σ H L ∧ RI p m σ H L (s m) R
def SI (p : Pm) (X : Cx) (tg iter : Expr) (s : List Sl → Res (List PV)) : Prop := PI X tg iter (tI p s)
/-- a target: what it makes of the slots -/
def TgG (p : Pm) (g : TG) (ids : List Nat) (f : PV → List Sl → Option (List Sl)) : Prop := ∀ v x m σ H L m' Q, StR p.K p.B m σ H L → VR p.K H L v x → f v m = some m' → (∀ σ', Tr p.K p.B m σ H L m' σ' H L → (∀ i, i ∉ ids → σ'[i]? = σ[i]? ∧ m'[i]? = m[i]?) → σ'.length = σ.length → Q σ' H) → g x σ H Q
def TgS (p : Pm) (X : Cx) (tg : Expr) (ids : List Nat) (f : PV → List Sl → Option (List Sl)) : Prop := ∃ g, PG X tg g ∧ TgG p g ids f
section
variable {p : Pm} {X : Cx} {m m1 : List Sl} {σ σ1 : L2.St} {H H1 : Hp} {L L1 : Lv}
theorem pi_imp {tg iter : Expr} {t t' : TI} (h : PI X tg iter t) (i : ∀ σ H R, t' σ H R → t σ H R) : PI X tg iter t' := ⟨fun pins s σ H R I hq => h.run pins s σ H R I (i σ H R hq)⟩
/-- a list or a tuple -/
theorem pi_seq {tg l : Expr} {tl : TE} (hl : PE X l tl) : PI X tg l (fun σ H R => tl σ H fun x H1 => ∃ a, x = .ref a ∧ (((∃ xs, SqL X.K H1 a xs) ∧ R (Itl X.K a) H1) ∨ ((∃ xs, SqT X.K H1 a xs) ∧ R (Itt X.K a) H1))) := by
  refine ⟨fun pins s σ H R I h => thn (hl.run pins s σ H _ I h) fun v s1 ⟨x, H1, I1, r1, a, e, q⟩ => ?_⟩
  subst e
  cases r1
  have frs : ∀ b ∈ [s1.heap.objs.size], FpOk X pins H1 b := fun b hb => by
    rw [List.mem_singleton] at hb; subst hb
    exact I1.fpOk (Nat.le_refl _) (I1.hok.fresh (Nat.le_refl _))
  rcases q with ⟨⟨xs, hq⟩, q⟩ | ⟨⟨xs, hq⟩, q⟩
  · obtain ⟨its, rv, pl, hz⟩ := I1.list hq
    exact wpAny_pyIter_list pl.isList ⟨s1.heap.objs.size, [s1.heap.objs.size], _, _, H1, rfl, I1.kept (t' := s1.toks) fun b o e => Heap.get?_push_of_some _ e, turn_list a _, ⟨_, Heap.get?_push_size _ rfl, rfl, rfl⟩, frs, q⟩
  · obtain ⟨its, rv, pl, hz⟩ := I1.tuple hq
    exact wpAny_pyIter_tuple (show s1.heap.IsTuple a its.toArray from pl) ⟨s1.heap.objs.size, [s1.heap.objs.size], _, _, H1, rfl, I1.kept (t' := s1.toks) fun b o e => Heap.get?_push_of_some _ e, turn_tuple a _, ⟨_, Heap.get?_push_size _ rfl, rfl, rfl⟩, frs, q⟩
@[simp] def sSeq (s : List Sl → Res EV) (m : List Sl) : Res (List PV) := (s m).bind fun v m1 => match v.v.seq? with
  | some xs => .ok xs m1
  | none => .stuck
theorem tE_thenI {s : List Sl → Res EV} {k : EV → List Sl → Res (List PV)} {R : It → Hp → Prop} {Q1 : VK} (st : StR p.K p.B m σ H L) (h : RI p m σ H L ((s m).bind k) R)
    (hk : ∀ v m1 x H1 L1, Tr p.K p.B m σ H L m1 σ H1 L1 → EvR p.K H H1 L1 v x → RI p m σ H L (k v m1) R → Q1 x H1) : tE p s σ H Q1 := by
  refine ⟨m, L, st, ?_⟩
  cases e : s m with
  | ok v m1 => rw [e] at h; exact fun x H1 L1 t ev => hk v m1 x H1 L1 t ev h
  | exc c m1 => rw [e] at h; exact h
  | stuck => rw [e] at h; exact h
theorem si_seq {tg l : Expr} {s : List Sl → Res EV} (hk : X.K = p.K) (hl : SE p X l s) : SI p X tg l (sSeq s) := pi_imp (pi_seq hl) fun σ H R ⟨m, L, st, h⟩ => by
  refine tE_thenI st h fun v m1 x H1 L1 t ev h1 => ?_
  obtain ⟨L', t', r⟩ := ev.froze st t
  rw [hk]
  cases ex : v.v.seq? with
  | none => rw [ex] at h1; exact h1.elim
  | some xs =>
    rw [ex] at h1
    cases ev' : v.v with
    | lst ys =>
      rw [ev'] at ex r; cases ex
      cases r with
      | lst e rs =>
        refine ⟨_, rfl, .inl ⟨⟨_, e.seq⟩, h1 _ H1 L' t' fun H2 L2 s wf => ⟨fun i v hv => ?_, fun i hi => ?_⟩⟩⟩
        · have rs' := rs.mono s
          obtain ⟨x, hx, rx⟩ := rs'.get hv
          refine ⟨⟨_, x, (e.mono s).seq, hx⟩, fun y H' ⟨e1, e2⟩ => ?_⟩
          subst e1
          have := e2 _ (e.mono s).seq
          rw [hx] at this; cases this
          exact ⟨.refl _ _ _, rx⟩
        · exact ⟨_, (e.mono s).seq, by rw [← rs.length]; exact hi⟩
    | tup ys =>
      rw [ev'] at ex r; cases ex
      cases r with
      | tup e n rs =>
        refine ⟨_, rfl, .inr ⟨⟨_, e.sq⟩, h1 _ H1 L' t' fun H2 L2 s wf => ⟨fun i v hv => ?_, fun i hi => ?_⟩⟩⟩
        · have rs' := rs.mono s
          obtain ⟨x, hx, rx⟩ := rs'.get hv
          refine ⟨⟨_, x, (e.mono s n).1.sq, hx⟩, fun y H' ⟨e1, e2⟩ => ?_⟩
          subst e1
          have := e2 _ ((e.mono s n).1.sq)
          rw [hx] at this; cases this
          exact ⟨.refl _ _ _, rx⟩
        · exact ⟨_, (e.mono s n).1.sq, by rw [← rs.length]; exact hi⟩
    | non => rw [ev'] at ex; cases ex
    | bl _ => rw [ev'] at ex; cases ex
    | int _ => rw [ev'] at ex; cases ex
    | str _ => rw [ev'] at ex; cases ex
    | ty _ => rw [ev'] at ex; cases ex
    | tpl _ => rw [ev'] at ex; cases ex
    | dct _ => rw [ev'] at ex; cases ex
    | exn _ _ _ => rw [ev'] at ex; cases ex
/-- range(n), range(a, b) -/
def rng (lo : Int) (n : Nat) : List PV := (List.range n).map fun (i : Nat) => PV.int (lo + i)
theorem jr_range {K : PySem.W.Frag} (lo : Int) (n : Nat) : JR K (Itr lo n) (rng lo n) H L := fun H2 L2 s wf => ⟨fun i v hv => by
    have hi : i < n := by
      have := (List.getElem?_eq_some_iff.mp hv).1
      simpa [rng] using this
    have ev : v = .int (lo + i) := by
      unfold rng at hv
      rw [List.getElem?_map, List.getElem?_range hi] at hv
      cases hv
      rfl
    subst ev
    exact ⟨hi, fun x H' ⟨e1, e2⟩ => by subst e1; subst e2; exact ⟨.refl _ _ _, .int _⟩⟩, fun i hi => by
    have : n ≤ i := by simpa [rng] using hi
    exact this⟩
@[simp] noncomputable def sRng1 (s : List Sl → Res EV) (m : List Sl) : Res (List PV) := (s m).bind fun v m1 => match v.v with
  | .int j => if okR j = true then .ok (rng 0 j.toNat) m1 else .stuck
  | _ => .stuck
theorem si_rng1 {tg a : Expr} {s : List Sl → Res EV} {px pos : Pos} (hg : Gl X "range") (hm : X.mg "range" = none) (ha : SE p X a s) (hs : starEach [a] X.env = [(false, eval a X.env)]) : SI p X tg (.Call (.Name "range" px) [a] [] pos) (sRng1 s) :=
  pi_imp (pi_range1 hg hm (pa_cons ha pa_nil hs) hs) fun σ H R ⟨m, L, st, h⟩ => by
    refine tE_thenI st h fun v m1 x H1 L1 t ev h1 => ?_
    split at h1
    next j ej =>
      split at h1
      next hj =>
        have r := ev.rd
        rw [ej] at r
        rw [r.int]
        have hj := okR_iff.mp hj
        exact ⟨j, rfl, hj.1, hj.2, h1 _ H1 L1 t (jr_range 0 _)⟩
      next => exact h1.elim
    next => exact h1.elim
@[simp] noncomputable def sRng2 (s u : List Sl → Res EV) (m : List Sl) : Res (List PV) := (s m).bind fun v m1 => (u m1).bind fun w m2 => match v.v, w.v with
  | .int i, .int j => if okR i = true ∧ okR j = true then .ok (rng i (j - i).toNat) m2 else .stuck
  | _, _ => .stuck
theorem RI.go {r : Res (List PV)} {R : It → Hp → Prop} (t : Tr p.K p.B m σ H L m1 σ H1 L1) (h : RI p m σ H L r R) : RI p m1 σ H1 L1 r R := by
  cases r with
  | ok v m' => exact fun J H' L' t' e => h J H' L' (t.trans t') e
  | exc c m' => exact RX.go t h
  | stuck => exact h
theorem si_rng2 {tg a b : Expr} {s u : List Sl → Res EV} {px pos : Pos} (hg : Gl X "range") (hm : X.mg "range" = none) (ha : SE p X a s) (hb : SE p X b u) (hs : starEach [a, b] X.env = [(false, eval a X.env), (false, eval b X.env)]) (hs2 : starEach [b] X.env = [(false, eval b X.env)]) :
    SI p X tg (.Call (.Name "range" px) [a, b] [] pos) (sRng2 s u) :=
  pi_imp (pi_range2 hg hm (pa_cons ha (pa_cons hb pa_nil hs2) (by rw [hs, hs2])) hs hs2) fun σ H R ⟨m, L, st, h⟩ => by
    refine tE_thenI st h fun v m1 x H1 L1 t ev h1 => ?_
    refine tE_thenI t.st (RI.go t h1) fun w m2 y H2 L2 t2 ev2 h2 => ?_
    have ev' := (ev.over st t t2).rd
    have r2 := ev2.rd
    split at h2
    next i j ei ej =>
      split at h2
      next hj =>
        rw [ei] at ev'
        rw [ej] at r2
        rw [ev'.int, r2.int]
        have h3 := okR_iff.mp hj.1
        have h4 := okR_iff.mp hj.2
        exact ⟨i, j, rfl, ⟨h3.1, h3.2, h4.1, h4.2⟩, h2 _ H2 L2 t2 (jr_range i _)⟩
      next => exact h2.elim
    next => exact h2.elim
/-! targets -/
@[simp] def gNm (i : Nat) (v : PV) (m : List Sl) : Option (List Sl) := setSl m i (.pv v)
theorem setSl_get {i : Nat} {s : Sl} {m' : List Sl} (e : setSl m i s = some m') : i < m.length ∧ m' = m.set i s := by
  unfold setSl at e
  cases q : m[i]? with
  | none => rw [q] at e; cases e
  | some s0 =>
    rw [q] at e
    refine ⟨(List.getElem?_eq_some_iff.mp q).1, ?_⟩
    cases s0 <;> first | (cases e; rfl) | cases e
theorem Tr.putv {K : PySem.W.Frag} {B : Nat → Option Addr} {i : Nat} {v : PV} {x : V} {m' : List Sl} (st : StR K B m σ H L) (r : VR K H L v x) (e : setSl m i (.pv v) = some m') : Tr K B m σ H L m' (σ.set i (some x)) H L := by
  have w := Tw.put (v := .pv v) st (Tr.refl st) r e
  obtain ⟨hi, rfl⟩ := setSl_get e
  refine ⟨w.stp, w.st, fun a ⟨j, c, ea⟩ => ?_⟩
  by_cases hj : j = i
  · subst hj
    rw [List.getElem?_set_self hi] at c
    exact c.elim
  · rw [List.getElem?_set_ne (Ne.symm hj)] at c ea
    exact ⟨j, c, ea⟩
theorem tgg_name {i : Nat} : TgG p (gName i) [i] (gNm i) := fun v x m σ H L m' Q st r e q => q _ (Tr.putv st r e) (fun j hj => by
  obtain ⟨hi, rfl⟩ := setSl_get e
  have h : i ≠ j := fun z => hj (by rw [z]; exact List.mem_singleton.mpr rfl)
  exact ⟨List.getElem?_set_ne h, List.getElem?_set_ne h⟩) (List.length_set ..)
theorem tg_name {e : Expr} {i : Nat} (h : PG X e (gName i)) : TgS p X e [i] (gNm i) := ⟨_, h, tgg_name⟩
@[simp] def pair? : PV → Option (PV × PV)
  | .tup [a, b] => some (a, b)
  | .tpl [a, b] => some (a, b)
  | _ => none
theorem VR.pair {K : PySem.W.Frag} {v a b : PV} {x : V} (r : VR K H L v x) (e : pair? v = some (a, b)) : ∃ q y z, x = .ref q ∧ SqT K H q [y, z] ∧ VR K H L a y ∧ VR K H L b z := by
  have fin : ∀ {vs : List V} {us : List PV}, us = [a, b] → VRs K H L us vs → ∃ y z, vs = [y, z] ∧ VR K H L a y ∧ VR K H L b z := fun {vs us} eu rs => by
    subst eu
    cases rs with
    | cons r1 rs => cases rs with
      | cons r2 rs => cases rs; exact ⟨_, _, rfl, r1, r2⟩
  cases r with
  | tup ea n rs =>
    unfold pair? at e
    split at e
    next u w eq =>
      cases e
      cases eq
      obtain ⟨y, z, rfl, r1, r2⟩ := fin rfl rs
      exact ⟨_, y, z, rfl, ea.sq, r1, r2⟩
    next u w eq => cases eq
    next => cases e
  | tpl ea n rs =>
    unfold pair? at e
    split at e
    next u w eq => cases eq
    next u w eq =>
      cases e
      cases eq
      obtain ⟨y, z, rfl, r1, r2⟩ := fin rfl rs
      exact ⟨_, y, z, rfl, SqT.of ea, r1, r2⟩
    next => cases e
  | _ => cases e
@[simp] def gPair (i j : Nat) (v : PV) (m : List Sl) : Option (List Sl) := match pair? v with
  | some (a, b) => match setSl m i (.pv a) with
    | some m1 => setSl m1 j (.pv b)
    | none => none
  | none => none
theorem tgg_pair {K : PySem.W.Frag} {i j : Nat} (hk : K = p.K) : TgG p (gTup K 2 (gCons (gName i) (gCons (gName j) gNil))) [i, j] (gPair i j) := fun v x m σ H L m' Q st r e q => by
  unfold gPair at e
  split at e
  next u w ew =>
    obtain ⟨a0, y, z, rfl, ea, r1, r2⟩ := r.pair ew
    cases e1 : setSl m i (.pv u) with
    | none => rw [e1] at e; cases e
    | some m1 =>
      rw [e1] at e
      dsimp only at e
      have t1 := Tr.putv (v := u) st r1 e1
      have t2 := Tr.putv (v := w) t1.st r2 e
      refine ⟨_, _, rfl, hk ▸ ea, rfl, _, _, rfl, _, _, rfl, rfl, q _ (t1.trans t2) (fun k hk => ?_) (by rw [List.length_set, List.length_set])⟩
      obtain ⟨_, rfl⟩ := setSl_get e1
      obtain ⟨_, rfl⟩ := setSl_get e
      have hi : i ≠ k := fun z => hk (by rw [z]; exact List.mem_cons_self)
      have hj : j ≠ k := fun z => hk (by rw [z]; exact List.mem_cons_of_mem _ List.mem_cons_self)
      exact ⟨by rw [List.getElem?_set_ne hj, List.getElem?_set_ne hi], by rw [List.getElem?_set_ne hj, List.getElem?_set_ne hi]⟩
  next => cases e
theorem tg_pair {a b : Expr} {i j : Nat} {kk : Nat} {pos : Pos} (hk : X.K = p.K) (h : PG X (.Tuple [a, b] kk pos) (gTup X.K 2 (gCons (gName i) (gCons (gName j) gNil)))) : TgS p X (.Tuple [a, b] kk pos) [i, j] (gPair i j) := ⟨_, h, tgg_pair hk⟩
/-! ### for -/
def forL (tgt : PV → List Sl → Option (List Sl)) (d : List Sl → SRes) : List PV → List Sl → SRes
  | [], m => .nx m
  | v :: r, m => match tgt v m with
    | none => .stuck
    | some m1 => match d m1 with
      | .nx m2 => forL tgt d r m2
      | .cnt m2 => forL tgt d r m2
      | .brk m2 => .nx m2
      | q => q
@[simp] def dFor (src : List Sl → Res (List PV)) (tgt : PV → List Sl → Option (List Sl)) (d : List Sl → SRes) (m : List Sl) : SRes := dBind (src m) fun xs m1 => forL tgt d xs m1
theorem ss_for {tg iter : Expr} {body : List Stmt} {src : List Sl → Res (List PV)} {tgt : PV → List Sl → Option (List Sl)} {d : List Sl → SRes} {pos : Pos} (hp : PassesOwn (model X.prog X.w) X.A X.env X.xe) (hc : X.calm = true) (hi : SI p X tg iter src) {ids : List Nat} (hg : TgS p X tg ids tgt) (hb : SSs p X body d)
    (hs : ∀ x, foldedSetIterable iter X.env x = pure x) : SS p X (.For tg iter body [] pos) (dFor src tgt d) := by
  obtain ⟨g, pg, kg⟩ := hg
  refine ps_imp (ps_for hp hc hi pg hb hs) fun D σ H ⟨m, L, st, h⟩ => ?_
  refine ⟨m, L, st, ?_⟩
  unfold dFor at h
  cases e : src m with
  | exc c m1 => rw [e] at h; exact fun cls d' H' L' t ex => h cls d' σ H' L' t.w ex
  | stuck => rw [e] at h; exact h
  | ok xs m1 =>
    rw [e, dBind_ok] at h
    intro J H1 L1 t jr
    have h1 := RS.go t.w h
    refine ⟨fun i k σ' H' => ∃ mm L', Tw p.K p.B m1 σ H1 L1 mm σ' H' L' ∧ Stp All' H1 L1 H' L' ∧ k = xs.length - i ∧ i ≤ xs.length ∧ RS p mm σ' H' L' (forL tgt d (xs.drop i) mm) D, ⟨xs.length, m1, L1, (Tr.refl t.st).w, .refl _ _ _, rfl, Nat.zero_le _, h1⟩, ?_⟩
    rintro i k σ' H' ⟨mm, L', tw, stp, rfl, hi', hq⟩
    obtain ⟨jgo, jst⟩ := jr H' L' stp tw.st.wf
    by_cases hlt : i < xs.length
    · right
      have hx : xs[i]? = some xs[i] := List.getElem?_eq_getElem hlt
      obtain ⟨go, yld⟩ := jgo i _ hx
      rw [List.drop_eq_getElem_cons hlt] at hq
      refine ⟨go, fun σ'' H'' => ∃ mm L'', Tw p.K p.B m1 σ H1 L1 mm σ'' H'' L'' ∧ Stp All' H1 L1 H'' L'' ∧ RS p mm σ'' H'' L'' (forL tgt d (xs.drop (i + 1)) mm) D, fun σ'' H'' ⟨mm', L'', a, b, c⟩ => ⟨xs.length - (i + 1), by omega, mm', L'', a, b, rfl, hlt, c⟩, fun x H2 hy => ?_⟩
      obtain ⟨sy, ry⟩ := yld x H2 hy
      have wf2 : ∀ a, L' a → H2 a ≠ none := fun a la => sy.old a (tw.st.wf a la)
      have t2 := Tr.grow tw.st sy wf2
      unfold forL at hq
      cases et : tgt xs[i] mm with
      | none => rw [et] at hq; exact hq.elim
      | some m2 =>
        rw [et] at hq
        dsimp only at hq
        refine kg _ x mm σ' H2 L' m2 _ t2.st ry et fun σ2 tg2 _ _ => ?_
        have tall := (t2.trans tg2).w
        refine ⟨m2, L', tg2.st, ?_⟩
        have hq2 := RS.go tall hq
        have twA := tw.trans tall
        have stpA : Stp All' H1 L1 H2 L' := stp.trans (A1 := All') (sy.of) fun a _ => .inl trivial
        have wide : ∀ {H3 : Hp} {L3 : Lv} {m3 : List Sl} {σ3 : L2.St}, Tw p.K p.B m2 σ2 H2 L' m3 σ3 H3 L3 → Stp All' H1 L1 H3 L3 := fun tw3 => stpA.trans (A1 := All') (tw3.stp.wide fun _ _ => trivial) fun a _ => .inl trivial
        show RS p m2 σ2 H2 L' (d m2) _
        cases ed : d m2 with
        | nx m3 => rw [ed] at hq2; exact fun σ3 H3 L3 tw3 => ⟨m3, L3, twA.trans tw3, wide tw3, RS.go tw3 hq2⟩
        | cnt m3 => rw [ed] at hq2; exact fun σ3 H3 L3 tw3 => ⟨m3, L3, twA.trans tw3, wide tw3, RS.go tw3 hq2⟩
        | brk m3 => rw [ed] at hq2; exact hq2
        | ret v m3 => rw [ed] at hq2; exact hq2
        | exc c m3 => rw [ed] at hq2; exact hq2
        | stuck => rw [ed] at hq2; exact hq2
    · left
      have ei : i = xs.length := by omega
      subst ei
      rw [List.drop_length] at hq
      exact ⟨jst _ (Nat.le_refl _), hq σ' H' L' (Tr.refl tw.st).w⟩
/-! ### while -/
def whileN (c : List Sl → Res Bool) (d : List Sl → SRes) : Nat → List Sl → SRes
  | 0, _ => .stuck
  | n + 1, m => dBind (c m) fun b m1 => if b then match d m1 with
      | .nx m2 => whileN c d n m2
      | .cnt m2 => whileN c d n m2
      | .brk m2 => .nx m2
      | q => q
    else .nx m1
theorem ss_while {c : Expr} {body : List Stmt} {s : List Sl → Res Bool} {d : List Sl → SRes} {n : Nat} {pos : Pos} (hp : PassesOwn (model X.prog X.w) X.A X.env X.xe) (hc : ST p X c s) (hb : SSs p X body d) : SS p X (.While c body [] pos) (whileN s d n) := by
  refine ps_imp (ps_while hp hc hb) fun D σ H ⟨m, L, st, h⟩ => ?_
  refine ⟨fun k σ' H' => ∃ mm L', StR p.K p.B mm σ' H' L' ∧ RS p mm σ' H' L' (whileN s d k mm) D, ⟨n, m, L, st, h⟩, ?_⟩
  rintro k σ' H' ⟨mm, L', st', hq⟩
  cases k with
  | zero => exact hq.elim
  | succ k =>
    unfold whileN at hq
    refine tT_thenS st' hq fun b m1 H1 L1 t h1 => ?_
    cases b with
    | false =>
      rw [if_neg Bool.false_ne_true]
      exact h1 σ' H1 L1 (Tr.refl t.st).w
    | true =>
      rw [if_pos rfl]
      refine ⟨fun σ2 H2 => ∃ mm L2, StR p.K p.B mm σ2 H2 L2 ∧ RS p mm σ2 H2 L2 (whileN s d k mm) D, fun σ2 H2 ⟨mm, L2, a, b⟩ => ⟨k, Nat.lt_succ_self k, mm, L2, a, b⟩, m1, L1, t.st, ?_⟩
      simp only [if_true] at h1
      cases ed : d m1 with
      | nx m3 => rw [ed] at h1; exact fun σ3 H3 L3 tw3 => ⟨m3, L3, tw3.st, RS.go tw3 h1⟩
      | cnt m3 => rw [ed] at h1; exact fun σ3 H3 L3 tw3 => ⟨m3, L3, tw3.st, RS.go tw3 h1⟩
      | brk m3 => rw [ed] at h1; exact h1
      | ret v m3 => rw [ed] at h1; exact h1
      | exc c m3 => rw [ed] at h1; exact h1
      | stuck => rw [ed] at h1; exact h1
end
end Sd
end
section
set_option Elab.async false
set_option linter.all false
set_option maxRecDepth 100000
namespace Sd
open PySem L2
/-! ### list comprehensions -/
@[simp] def wipeM (m : List Sl) : List Nat → List Sl
  | [] => m
  | v :: vs => (wipeM m vs).set v .un
@[simp] def restM (m1 m : List Sl) : List Nat → List Sl
  | [] => m
  | v :: vs => match m1[v]? with
    | some s => (restM m1 m vs).set v s
    | none => restM m1 m vs
@[simp] def noBor (m : List Sl) (vs : List Nat) : Bool := vs.all fun v => match m[v]? with
  | some (.bor _) => false
  | _ => true
def lcL (vs : List Nat) (tgt : PV → List Sl → Option (List Sl)) (c : List Sl → Res Bool) (e : List Sl → Res EV) : List PV → List PV → List Sl → Res (List PV)
  | [], acc, m => .ok acc m
  | v :: r, acc, m => match tgt v m with
    | none => .stuck
    | some m1 => match c m1 with
      | .ok true m2 => match e m2 with
        | .ok y m3 => if acc.length < big then lcL vs tgt c e r (acc ++ [y.v]) (wipeM m3 vs) else .stuck
        | _ => .stuck
      | .ok false m2 => lcL vs tgt c e r acc (wipeM m2 vs)
      | _ => .stuck
@[simp] def eLc (vs : List Nat) (src : List Sl → Res (List PV)) (tgt : PV → List Sl → Option (List Sl)) (c : List Sl → Res Bool) (e : List Sl → Res EV) (m : List Sl) : Res EV := (src m).bind fun xs m1 => if noBor m1 vs = true then
    match lcL vs tgt c e xs [] (wipeM m1 vs) with
    | .ok acc m2 => .ok (.nw (.lst acc)) (restM m1 m2 vs)
    | _ => .stuck
  else .stuck
section
variable {K : PySem.W.Frag} {B : Nat → Option Addr} {m m1 : List Sl} {σ σ1 : L2.St} {H H1 : Hp} {L L1 : Lv}
theorem wipeM_len : ∀ vs : List Nat, (wipeM m vs).length = m.length
  | [] => rfl
  | v :: vs => by unfold wipeM; rw [List.length_set, wipeM_len vs]
theorem wipeM_out {i : Nat} : ∀ {vs : List Nat}, i ∉ vs → (wipeM m vs)[i]? = m[i]?
  | [], _ => rfl
  | v :: vs, h => by
    unfold wipeM
    rw [List.getElem?_set_ne (fun e => h (by rw [e]; exact List.mem_cons_self))]
    exact wipeM_out fun z => h (List.mem_cons_of_mem _ z)
theorem wipeM_in {i : Nat} : ∀ {vs : List Nat}, i ∈ vs → (wipeM m vs)[i]? = none ∨ (wipeM m vs)[i]? = some .un
  | [], h => by cases h
  | v :: vs, h => by
    unfold wipeM
    by_cases e : v = i
    · subst e
      by_cases hl : v < (wipeM m vs).length
      · exact .inr (List.getElem?_set_self hl)
      · exact .inl (List.getElem?_eq_none (by rw [List.length_set]; omega))
    · rw [List.getElem?_set_ne e]
      exact wipeM_in ((List.mem_cons.mp h).resolve_left fun z => e z.symm)
theorem restM_len : ∀ vs : List Nat, (restM m1 m vs).length = m.length
  | [] => rfl
  | v :: vs => by
    unfold restM
    split
    · rw [List.length_set, restM_len vs]
    · exact restM_len vs
theorem restM_out {i : Nat} : ∀ {vs : List Nat}, i ∉ vs → (restM m1 m vs)[i]? = m[i]?
  | [], _ => rfl
  | v :: vs, h => by
    have h1 : v ≠ i := fun e => h (by rw [e]; exact List.mem_cons_self)
    have h2 : (restM m1 m vs)[i]? = m[i]? := restM_out fun z => h (List.mem_cons_of_mem _ z)
    unfold restM
    split
    · rw [List.getElem?_set_ne h1]; exact h2
    · exact h2
theorem restM_in {i : Nat} (hl : m1.length = m.length) : ∀ {vs : List Nat}, i ∈ vs → (restM m1 m vs)[i]? = m1[i]?
  | [], h => by cases h
  | v :: vs, h => by
    unfold restM
    by_cases e : v = i
    · subst e
      cases q : m1[v]? with
      | none =>
        have : m1.length ≤ v := List.getElem?_eq_none_iff.mp q
        dsimp only
        exact List.getElem?_eq_none (by rw [restM_len]; omega)
      | some s =>
        have : v < m1.length := (List.getElem?_eq_some_iff.mp q).1
        dsimp only
        exact List.getElem?_set_self (by rw [restM_len]; omega)
    · have h' := (List.mem_cons.mp h).resolve_left fun z => e z.symm
      split
      · rw [List.getElem?_set_ne e]; exact restM_in hl h'
      · exact restM_in hl h'
theorem wipe_ext {σ σ' : L2.St} {vs : List Nat} (hl : σ'.length = σ.length) (h : ∀ i, i ∉ vs → σ'[i]? = σ[i]?) : wipe σ' vs = wipe σ vs := by
  apply List.ext_getElem?
  intro i
  by_cases hi : i ∈ vs
  · have key : ∀ (τ : L2.St) {ws : List Nat}, i ∈ ws → (wipe τ ws)[i]? = if i < τ.length then some none else none := fun τ ws => by
      induction ws with
      | nil => intro h; cases h
      | cons v ws ih =>
        intro h
        unfold wipe
        by_cases e : v = i
        · subst e
          by_cases hv : v < τ.length
          · rw [if_pos hv, List.getElem?_set_self (by rw [wipe_length]; exact hv)]
          · rw [if_neg hv]; exact List.getElem?_eq_none (by rw [List.length_set, wipe_length]; omega)
        · rw [List.getElem?_set_ne e]; exact ih ((List.mem_cons.mp h).resolve_left fun z => e z.symm)
    rw [key σ' hi, key σ hi, hl]
  · rw [wipe_out hi, wipe_out hi]; exact h i hi
theorem StR.wiped {vs : List Nat} (st : StR K B m σ H L) (nb : ∀ v ∈ vs, B v = none) : StR K B (wipeM m vs) (wipe σ vs) H L := by
  have cellE : ∀ j : Nat, Cell (wipeM m vs)[j]? → j ∉ vs := fun j c hj => by
    rcases wipeM_in (m := m) hj with e | e <;> rw [e] at c <;> exact c.elim
  refine ⟨by rw [wipeM_len, wipe_length]; exact st.len, fun i s x e1 e2 => ?_, fun i j a hij ci cj e1 e2 => ?_, st.wf, fun i a e => ?_⟩
  · by_cases hi : i ∈ vs
    · rcases wipeM_in (m := m) hi with e | e
      · rw [e] at e1; cases e1
      · rw [e] at e1; cases e1; trivial
    · rw [wipeM_out hi] at e1
      rw [wipe_out hi] at e2
      exact st.ok i s x e1 e2
  · have hi := cellE i ci
    have hj := cellE j cj
    rw [wipeM_out hi] at ci
    rw [wipeM_out hj] at cj
    rw [wipe_out hi] at e1
    rw [wipe_out hj] at e2
    exact st.ne i j a hij ci cj e1 e2
  · have hi : i ∉ vs := fun z => by rw [nb i z] at e; cases e
    rw [wipeM_out hi, wipe_out hi]
    exact st.lent i a e
theorem adr_wipe {vs : List Nat} {a : Addr} (z : Adr (wipeM m vs) (wipe σ vs) a) : ∃ i : Nat, i ∉ vs ∧ Cell m[i]? ∧ σ[i]? = some (some (.ref a)) := by
  obtain ⟨i, c, e⟩ := z
  have hi : i ∉ vs := fun hj => by
    rcases wipeM_in (m := m) hj with q | q <;> rw [q] at c <;> exact c.elim
  rw [wipeM_out hi] at c
  rw [wipe_out hi] at e
  exact ⟨i, hi, c, e⟩
/-- behind the block -/
theorem StR.rest {vs : List Nat} {mF : List Sl} {H' : Hp} {L' : Lv} {A : Addr → Prop} (t : StR K B m1 σ H1 L1) (nb : ∀ v ∈ vs, B v = none) (stF : StR K B mF (wipe σ vs) H' L') (sub : ∀ a, Adr mF (wipe σ vs) a → Adr (wipeM m1 vs) (wipe σ vs) a)
    (stp : Stp A H1 L1 H' L') (hA : ∀ a, A a → Adr (wipeM m1 vs) (wipe σ vs) a ∨ H1 a = none) : Tr K B m1 σ H1 L1 (restM m1 mF vs) σ H' L' := by
  have hl : m1.length = mF.length := by rw [t.len, stF.len, wipe_length]
  have cellO : ∀ j : Nat, j ∉ vs → Cell (restM m1 mF vs)[j]? → Cell mF[j]? := fun j hj c => by rw [restM_out hj] at c; exact c
  have cellI : ∀ j : Nat, j ∈ vs → Cell (restM m1 mF vs)[j]? → Cell m1[j]? := fun j hj c => by rw [restM_in hl hj] at c; exact c
  have mixed : ∀ (i j : Nat) (a : Addr), i ∈ vs → j ∉ vs → Cell m1[i]? → Cell mF[j]? → σ[i]? = some (some (.ref a)) → σ[j]? = some (some (.ref a)) → False := fun i j a hi hj ci cj e1 e2 => by
    obtain ⟨k, hk, ck, ek⟩ := adr_wipe (sub a ⟨j, cj, by rw [wipe_out hj]; exact e2⟩)
    exact t.ne i k a (fun z => hk (by rw [← z]; exact hi)) ci ck e1 ek
  refine ⟨⟨stp.old, stp.stay, fun a o e l n => stp.live a o e l ?_⟩, ⟨by rw [restM_len, ← hl]; exact t.len, fun i s x e1 e2 => ?_, fun i j a hij ci cj e1 e2 => ?_, stF.wf, fun i a e => ?_⟩, fun a ⟨i, c, e⟩ => ?_⟩
  · intro z
    rcases hA a z with z | z
    · obtain ⟨k, _, ck, ek⟩ := adr_wipe z
      exact n ⟨k, ck, ek⟩
    · rw [e] at z; cases z
  · by_cases hi : i ∈ vs
    · rw [restM_in hl hi] at e1
      have k := t.ok i s x e1 e2
      cases s with
      | un => trivial
      | pv v => obtain ⟨y, ey, r⟩ := k; exact ⟨y, ey, r.mono stp⟩
      | own o =>
        obtain ⟨a, ex, l, b, r⟩ := k
        subst ex
        have hn : ¬ A a := fun z => by
          rcases hA a z with z | z
          · obtain ⟨k, hk, ck, ek⟩ := adr_wipe z
            exact t.ne i k a (fun q => hk (by rw [← q]; exact hi)) (by rw [e1]; trivial) ck e2 ek
          · exact r.some z
        obtain ⟨r', l'⟩ := r.mono stp l hn
        exact ⟨a, rfl, l', b, r'⟩
      | bor o => obtain ⟨a, ex, l, b, r⟩ := k; rw [nb i hi] at b; cases b
      | lck kvs a =>
        obtain ⟨ex, l, b, r⟩ := k
        have hn : ¬ A a := fun z => by
          rcases hA a z with z | z
          · obtain ⟨k, hk, ck, ek⟩ := adr_wipe z
            exact t.lckN r ⟨k, ck, ek⟩
          · obtain ⟨_, _, e, _⟩ := r; rw [e] at z; cases z
        obtain ⟨r', l'⟩ := r.mono stp l hn
        exact ⟨ex, l', b, r'⟩
    · rw [restM_out hi] at e1
      exact stF.ok i s x e1 (by rw [wipe_out hi]; exact e2)
  · by_cases hi : i ∈ vs <;> by_cases hj : j ∈ vs
    · exact t.ne i j a hij (cellI i hi ci) (cellI j hj cj) e1 e2
    · exact mixed i j a hi hj (cellI i hi ci) (cellO j hj cj) e1 e2
    · exact mixed j i a hj hi (cellI j hj cj) (cellO i hi ci) e2 e1
    · exact stF.ne i j a hij (cellO i hi ci) (cellO j hj cj) (by rw [wipe_out hi]; exact e1) (by rw [wipe_out hj]; exact e2)
  · have hi : i ∉ vs := fun z => by rw [nb i z] at e; cases e
    obtain ⟨o, e1, e2⟩ := stF.lent i a e
    rw [wipe_out hi] at e2
    exact ⟨o, by rw [restM_out hi]; exact e1, e2⟩
  · by_cases hi : i ∈ vs
    · exact ⟨i, cellI i hi c, e⟩
    · obtain ⟨k, _, ck, ek⟩ := adr_wipe (sub a ⟨i, cellO i hi c, by rw [wipe_out hi]; exact e⟩)
      exact ⟨k, ck, ek⟩
end
section
variable {p : Pm} {X : Cx} {m m1 : List Sl} {σ σ1 : L2.St} {H H1 : Hp} {L L1 : Lv}
abbrev Pm.no (p : Pm) : Pm := { p with W := fun _ _ _ _ => False }
theorem lc_sound {vs ids : List Nat} {g : TG} {tt : TT} {src : List Sl → Res (List PV)} {tgt : PV → List Sl → Option (List Sl)} {c : List Sl → Res Bool} {e : List Sl → Res EV} (kg : TgG p.no g ids tgt) (hids : ∀ i ∈ ids, i ∈ vs)
    (kt : ∀ σ H Q, tT p.no c σ H Q → tt σ H Q) : ∀ σ H Q, tE p (eLc vs src tgt c e) σ H Q → tLc (tI p src) g tt (tE p.no e) vs σ H Q := fun σ H Q ⟨m, L, st, h⟩ => by
  refine ⟨m, L, st, ?_⟩
  unfold eLc at h
  cases es : src m with
  | exc c m1 => rw [es] at h; exact h
  | stuck => rw [es] at h; exact h
  | ok xs m1 =>
    rw [es, Res.bind_ok] at h
    intro J H1 L1 t jr D hD
    split at h
    next hnb =>
      have nb : ∀ v ∈ vs, p.B v = none := fun v hv => by
        cases q : p.B v with
        | none => rfl
        | some a =>
          obtain ⟨o, e1, _⟩ := t.st.lent v a q
          have z := List.all_eq_true.mp hnb v hv
          rw [e1] at z
          cases z
      cases er : lcL vs tgt c e xs [] (wipeM m1 vs) with
      | exc c m2 => rw [er] at h; exact h.elim
      | stuck => rw [er] at h; exact h.elim
      | ok accF mF =>
        rw [er] at h
        dsimp only at h
        have hR := RQ.go t h
        have sD : Stp No H1 L1 (upd H1 D (.lst [])) fun a => L1 a ∨ a = D := stp_new hD
        have wfD : ∀ a, (L1 a ∨ a = D) → upd H1 D (.lst []) a ≠ none := wf_new t.st.wf
        have tD := Tr.grow t.st sD wfD
        have stW := tD.st.wiped nb
        -- what holds ahead of each turn
        refine ⟨fun i k H' => ∃ mm L' acc ws, StR p.K p.B mm (wipe σ vs) H' L' ∧ Stp (fun a => Adr (wipeM m1 vs) (wipe σ vs) a ∨ a = D) (upd H1 D (.lst [])) (fun a => L1 a ∨ a = D) H' L' ∧ (∀ a, Adr mm (wipe σ vs) a → Adr (wipeM m1 vs) (wipe σ vs) a) ∧
          k = xs.length - i ∧ i ≤ xs.length ∧ H' D = some (.lst ws) ∧ VRs p.K H' L' acc ws ∧ L' D ∧ lcL vs tgt c e (xs.drop i) acc mm = .ok accF mF, ⟨xs.length, wipeM m1 vs, _, [], [], stW, .refl _ _ _, fun _ z => z, rfl, Nat.zero_le _, upd_same, .nil, .inr rfl, er⟩, ?_⟩
        rintro i k H' ⟨mm, L', acc, ws, sm, stp, sub, rfl, hi, eD, rv, lD, hl⟩
        have dA : ∀ a, Adr (wipeM m1 vs) (wipe σ vs) a → a ≠ D := fun a z q => by
          obtain ⟨k, _, ck, ek⟩ := adr_wipe z
          subst q
          exact (t.st.adr ⟨k, ck, ek⟩).2 hD
        have stpA : Stp All' H1 L1 H' L' := sD.of.trans (A1 := All') (stp.wide fun _ _ => trivial) fun _ _ => .inl trivial
        obtain ⟨jgo, jst⟩ := jr H' L' stpA sm.wf
        by_cases hlt : i < xs.length
        · right
          obtain ⟨go, yld⟩ := jgo i _ (List.getElem?_eq_getElem hlt)
          rw [List.drop_eq_getElem_cons hlt] at hl
          refine ⟨go, fun H' => ∃ mm L' acc ws, StR p.K p.B mm (wipe σ vs) H' L' ∧ Stp (fun a => Adr (wipeM m1 vs) (wipe σ vs) a ∨ a = D) (upd H1 D (.lst [])) (fun a => L1 a ∨ a = D) H' L' ∧ (∀ a, Adr mm (wipe σ vs) a → Adr (wipeM m1 vs) (wipe σ vs) a) ∧
            H' D = some (.lst ws) ∧ VRs p.K H' L' acc ws ∧ L' D ∧ lcL vs tgt c e (xs.drop (i + 1)) acc mm = .ok accF mF, fun H' ⟨mm, L', acc, ws, a1, a2, a3, a4, a5, a6, a7⟩ => ⟨xs.length - (i + 1), by omega, mm, L', acc, ws, a1, a2, a3, rfl, hlt, a4, a5, a6, a7⟩, fun x H2 hy => ?_⟩
          obtain ⟨sy, ry⟩ := yld x H2 hy
          have t2 := Tr.grow sm sy fun a la => sy.old a (sm.wf a la)
          unfold lcL at hl
          cases et : tgt xs[i] mm with
          | none => rw [et] at hl; cases hl
          | some m2 =>
            rw [et] at hl
            dsimp only at hl
            refine kg _ x mm (wipe σ vs) H2 L' m2 _ t2.st ry et fun σ2 tg2 same hlen => ?_
            have ew : wipe σ2 vs = wipe σ vs := wipe_ext (by rw [hlen, wipe_length]) fun j hj => by rw [(same j fun q => hj (hids j q)).1, wipe_out hj]
            refine ⟨ew, kt _ _ _ ⟨m2, L', tg2.st, ?_⟩⟩
            -- what every way through the turn keeps
            have chain : ∀ {mk : List Sl} {Hk : Hp} {Lk : Lv}, Tr p.K p.B mm (wipe σ vs) H' L' mk σ2 Hk Lk → StR p.K p.B (wipeM mk vs) (wipe σ vs) Hk Lk ∧ Stp (fun a => Adr (wipeM m1 vs) (wipe σ vs) a ∨ a = D) (upd H1 D (.lst [])) (fun a => L1 a ∨ a = D) Hk Lk ∧
                (∀ a, Adr (wipeM mk vs) (wipe σ vs) a → Adr (wipeM m1 vs) (wipe σ vs) a) ∧ Hk D = some (.lst ws) ∧ VRs p.K Hk Lk acc ws ∧ Lk D := fun {mk Hk Lk} tc => by
              have s1 := tc.st.wiped nb
              rw [ew] at s1
              obtain ⟨d1, d2⟩ := tc.stp.live D _ eD lD fun z => dA D (sub D z) rfl
              refine ⟨s1, stp.trans tc.stp fun a z => .inl (.inl (sub a z)), fun a z => ?_, d1, rv.mono tc.stp, d2⟩
              rw [← ew] at z
              obtain ⟨k, _, ck, ek⟩ := adr_wipe z
              exact sub a (tc.sub a ⟨k, ck, ek⟩)
            cases ec : c m2 with
            | stuck => rw [ec] at hl; cases hl
            | exc x m3 => rw [ec] at hl; cases hl
            | ok b m3 =>
              rw [ec] at hl
              intro H3 L3 t3
              have tc := (t2.trans tg2).trans t3
              cases b with
              | false =>
                rw [if_neg Bool.false_ne_true]
                dsimp only at hl
                obtain ⟨a1, a2, a3, a4, a5, a6⟩ := chain tc
                exact ⟨wipeM m3 vs, L3, acc, ws, a1, a2, a3, a4, a5, a6, hl⟩
              | true =>
                rw [if_pos rfl]
                dsimp only at hl
                refine ⟨m3, L3, t3.st, ?_⟩
                cases ee : e m3 with
                | stuck => rw [ee] at hl; cases hl
                | exc x m4 => rw [ee] at hl; cases hl
                | ok y m4 =>
                  rw [ee] at hl
                  dsimp only at hl
                  intro Y H4 L4 t4 ev
                  obtain ⟨L5, t5, ry5⟩ := ev.froze t3.st t4
                  obtain ⟨a1, a2, a3, a4, a5, a6⟩ := chain (tc.trans t5)
                  split at hl
                  next hz =>
                    have sw : Stp (fun b => b = D) H4 L5 (upd H4 D (.lst (ws ++ [Y]))) L5 := stp_write a6
                    have nD : ¬ Adr (wipeM m4 vs) (wipe σ vs) D := fun z => dA D (a3 D z) rfl
                    refine ⟨ws, a4, by rw [big_eq, ← a5.length]; exact hz, wipeM m4 vs, L5, acc ++ [y.v], ws ++ [Y], ⟨a1.len, fun j s' x' e1 e2 => ?_, a1.ne, fun a la => sw.old a (a1.wf a la), a1.lent⟩, a2.trans sw fun a z => .inl (.inr z), a3, upd_same, (a5.append (.cons ry5 .nil)).mono sw, a6, hl⟩
                    have k := a1.ok j s' x' e1 e2
                    cases s' with
                    | un => trivial
                    | pv v => obtain ⟨q, eq, rq⟩ := k; exact ⟨q, eq, rq.mono sw⟩
                    | own o =>
                      obtain ⟨q, eq, lq, bq, rq⟩ := k
                      subst eq
                      obtain ⟨rq', lq'⟩ := rq.mono sw lq fun z => nD (by rw [← z]; exact ⟨j, by rw [e1]; trivial, e2⟩)
                      exact ⟨q, rfl, lq', bq, rq'⟩
                    | bor o =>
                      obtain ⟨q, eq, lq, bq, rq⟩ := k
                      subst eq
                      obtain ⟨rq', lq'⟩ := rq.mono sw lq fun z => nD (by rw [← z]; exact ⟨j, by rw [e1]; trivial, e2⟩)
                      exact ⟨q, rfl, lq', bq, rq'⟩
                    | lck kvs q =>
                      obtain ⟨eq, lq, bq, rq⟩ := k
                      obtain ⟨rq', lq'⟩ := rq.mono sw lq fun z => by obtain ⟨_, _, e, _⟩ := rq; rw [z, a4] at e; cases e
                      exact ⟨eq, lq', bq, rq'⟩
                  next => cases hl
        · left
          have ei : i = xs.length := by omega
          subst ei
          rw [List.drop_length] at hl
          unfold lcL at hl
          cases hl
          have hAl : ∀ a, (Adr (wipeM m1 vs) (wipe σ vs) a ∨ a = D) → Adr (wipeM m1 vs) (wipe σ vs) a ∨ H1 a = none := fun a z => z.imp id fun q => by rw [q]; exact hD
          have sall : Stp (fun a => Adr (wipeM m1 vs) (wipe σ vs) a ∨ a = D) H1 L1 H' L' := sD.of.trans stp fun a z => .inl z
          exact ⟨jst _ (Nat.le_refl _), hR _ H' L' (StR.rest t.st nb sm sub sall hAl) ⟨D, rfl, hD, lD, ws, eD, rv⟩⟩
    next => exact h.elim
end
end Sd
end
section
set_option Elab.async false
set_option linter.all false
set_option maxRecDepth 100000
namespace Sd
open PySem L2
section
variable {p : Pm} {X : Cx} {m m1 : List Sl} {σ σ1 : L2.St} {H H1 : Hp} {L L1 : Lv}
/-! ### comprehensions as rules -/
section
variable {elt tg iter : Expr} {ifs : List Expr} {scope : Scope} {own : List (Str × Nat)} {pos : Pos} {g : TG} {ids : List Nat} {src : List Sl → Res (List PV)} {tgt : PV → List Sl → Option (List Sl)} {c : List Sl → Res Bool} {e : List Sl → Res EV}
@[simp] def sYes (m : List Sl) : Res Bool := .ok true m
theorem se_lc (hc : X.calm = true) (hN : X.N.Nodup) (hi : SI p X tg iter src) (ok : BlkOk X.N X.env.scope scope own) (kg : TgG p.no g ids tgt) (hids : ∀ i ∈ ids, i ∈ own.map (·.2))
    (hg : ∀ (s : Shared) (H : Hp) (C : Addr) (cl : List (Str × Addr)) (fp : List Addr), PG (X.blk s H scope (compEnvC scope cl C X.env) fp) tg g)
    (he : ∀ (s : Shared) (H : Hp) (C : Addr) (cl : List (Str × Addr)) (fp : List Addr), SE p.no (X.blk s H scope (compEnvC scope cl C X.env) fp) elt e) (hs : ∀ x, foldedSetIterable iter X.env x = pure x) :
    SE p X (.ListComp elt [⟨tg, iter, [], 0⟩] scope pos) (eLc (own.map (·.2)) src tgt sYes e) :=
  pe_imp (pe_lc hc hN hi ok hg (fun _ _ _ _ _ => pts_nil) he hs) (lc_sound kg hids fun σ H Q ⟨m, L, st, h⟩ => h H L (.refl st))
theorem se_lcIf {cond : Expr} (hc : X.calm = true) (hN : X.N.Nodup) (hi : SI p X tg iter src) (ok : BlkOk X.N X.env.scope scope own) (kg : TgG p.no g ids tgt) (hids : ∀ i ∈ ids, i ∈ own.map (·.2))
    (hg : ∀ (s : Shared) (H : Hp) (C : Addr) (cl : List (Str × Addr)) (fp : List Addr), PG (X.blk s H scope (compEnvC scope cl C X.env) fp) tg g)
    (ht : ∀ (s : Shared) (H : Hp) (C : Addr) (cl : List (Str × Addr)) (fp : List Addr), ST p.no (X.blk s H scope (compEnvC scope cl C X.env) fp) cond c)
    (he : ∀ (s : Shared) (H : Hp) (C : Addr) (cl : List (Str × Addr)) (fp : List Addr), SE p.no (X.blk s H scope (compEnvC scope cl C X.env) fp) elt e) (hs : ∀ x, foldedSetIterable iter X.env x = pure x) :
    SE p X (.ListComp elt [⟨tg, iter, [cond], 0⟩] scope pos) (eLc (own.map (·.2)) src tgt c e) :=
  pe_imp (pe_lc hc hN hi ok hg (fun s H C cl fp => pts_one (ht s H C cl fp)) he hs) (lc_sound kg hids fun σ H Q h => h)
theorem ss_setLc {i : Nat} {y : Str} {py spos : Pos} (hc : X.calm = true) (hN : X.N.Nodup) (hy : X.N[i]? = some y) (hyl : X.env.scope.names.lookup y = some .local) (hsw : swapsWith (.ListComp elt [⟨tg, iter, [], 0⟩] scope pos) (some (.Name y py)) spos.line X.env = pure true)
    (hi : SI p X tg iter src) (ok : BlkOk X.N X.env.scope scope own) (kg : TgG p.no g ids tgt) (hids : ∀ i ∈ ids, i ∈ own.map (·.2))
    (hg : ∀ (s : Shared) (H : Hp) (C : Addr) (cl : List (Str × Addr)) (fp : List Addr), PG (X.blk s H scope (compEnvC scope cl C X.env) fp) tg g)
    (he : ∀ (s : Shared) (H : Hp) (C : Addr) (cl : List (Str × Addr)) (fp : List Addr), SE p.no (X.blk s H scope (compEnvC scope cl C X.env) fp) elt e) (hs : ∀ x, foldedSetIterable iter X.env x = pure x) :
    SS p X (.Assign [.Name y py] (.ListComp elt [⟨tg, iter, [], 0⟩] scope pos) spos) (dSet i (eLc (own.map (·.2)) src tgt sYes e)) :=
  ss_set (ps_imp (ps_setLc hc hN hy hyl hsw hi ok hg (fun _ _ _ _ _ => pts_nil) he hs) fun D σ H h => lc_sound kg hids (fun σ H Q ⟨m, L, st, h⟩ => h H L (.refl st)) _ _ _ h)
theorem ss_setLcIf {cond : Expr} {i : Nat} {y : Str} {py spos : Pos} (hc : X.calm = true) (hN : X.N.Nodup) (hy : X.N[i]? = some y) (hyl : X.env.scope.names.lookup y = some .local) (hsw : swapsWith (.ListComp elt [⟨tg, iter, [cond], 0⟩] scope pos) (some (.Name y py)) spos.line X.env = pure true)
    (hi : SI p X tg iter src) (ok : BlkOk X.N X.env.scope scope own) (kg : TgG p.no g ids tgt) (hids : ∀ i ∈ ids, i ∈ own.map (·.2))
    (hg : ∀ (s : Shared) (H : Hp) (C : Addr) (cl : List (Str × Addr)) (fp : List Addr), PG (X.blk s H scope (compEnvC scope cl C X.env) fp) tg g)
    (ht : ∀ (s : Shared) (H : Hp) (C : Addr) (cl : List (Str × Addr)) (fp : List Addr), ST p.no (X.blk s H scope (compEnvC scope cl C X.env) fp) cond c)
    (he : ∀ (s : Shared) (H : Hp) (C : Addr) (cl : List (Str × Addr)) (fp : List Addr), SE p.no (X.blk s H scope (compEnvC scope cl C X.env) fp) elt e) (hs : ∀ x, foldedSetIterable iter X.env x = pure x) :
    SS p X (.Assign [.Name y py] (.ListComp elt [⟨tg, iter, [cond], 0⟩] scope pos) spos) (dSet i (eLc (own.map (·.2)) src tgt c e)) :=
  ss_set (ps_imp (ps_setLc hc hN hy hyl hsw hi ok hg (fun s H C cl fp => pts_one (ht s H C cl fp)) he hs) fun D σ H h => lc_sound kg hids (fun σ H Q h => h) _ _ _ h)
end
/-! ### built-ins -/
@[simp] def gLen (v : PV) : Option EV := match v with
  | .str y => if y.length ≤ big then some (.pv (.int y.length)) else none
  | .lst xs => some (.pv (.int xs.length))
  | .tup xs => some (.pv (.int xs.length))
  | _ => none
theorem op1_len {K : PySem.W.Frag} : Op1 K (fun xs H Q => ∃ x n, xs = [x] ∧ LenV K x H n ∧ Q (.int n) H) gLen := by
  intro H L x z X Q wf hx e q
  cases x <;> first | cases e | skip
  · next y =>
    have e' : (if y.length ≤ big then some (EV.pv (.int y.length)) else none) = some z := e
    split at e'
    next hz => cases e'; rw [hx.str]; exact ⟨_, y.length, rfl, ⟨by rw [big_eq]; exact hz, rfl⟩, Kq.pv wf (.int _) q⟩
    next => cases e'
  · next xs => obtain ⟨a, vs, rfl, e1, _, r⟩ := hx.tup; exact ⟨_, vs.length, rfl, .inr ⟨vs, e1.sq, rfl⟩, Kq.pv wf (.int _) (by rw [r.length] at q; exact q)⟩
  · next xs => obtain ⟨a, vs, rfl, e1, r⟩ := hx.lst; exact ⟨_, vs.length, rfl, .inl ⟨vs, e1, rfl⟩, Kq.pv wf (.int _) (by rw [r.length] at q; exact q)⟩
@[simp] def gMax2 (x y : PV) : Option EV := gI (fun i j => some (.int (if j > i then j else i))) x y
@[simp] def gMin2 (x y : PV) : Option EV := gI (fun i j => some (.int (if j < i then j else i))) x y
theorem op1b_I {K : PySem.W.Frag} {r : List V → Hp → VK → Prop} {f : Int → Int → Option PV} (h : ∀ H i j v Q, f i j = some v → (∀ x, (∀ L, VR K H L v x) → Q x H) → r [.int i, .int j] H Q) : Op1b K r (gI f) := by
  intro H L x y z X Y Q wf hx hy e q
  unfold gI at e
  split at e
  next i j =>
    obtain ⟨v, ev, rfl⟩ := Option.map_eq_some_iff.mp e
    rw [hx.int, hy.int]
    exact h H i j v Q ev fun x r => Kq.pv wf (r L) q
  next => cases e
theorem op1b_max2 {K : PySem.W.Frag} : Op1b K (fun xs H Q => ∃ i j, xs = [.int i, .int j] ∧ Q (.int (if j > i then j else i)) H) gMax2 := op1b_I fun H i j v Q e q => by cases e; exact ⟨i, j, rfl, q _ fun L => .int _⟩
theorem op1b_min2 {K : PySem.W.Frag} : Op1b K (fun xs H Q => ∃ i j, xs = [.int i, .int j] ∧ Q (.int (if j < i then j else i)) H) gMin2 := op1b_I fun H i j v Q e q => by cases e; exact ⟨i, j, rfl, q _ fun L => .int _⟩
@[simp] def gAbs (v : PV) : Option EV := match v with
  | .int i => some (.pv (.int (if i < 0 then -i else i)))
  | _ => none
theorem op1_abs {K : PySem.W.Frag} : Op1 K (fun xs H Q => ∃ i, xs = [.int i] ∧ Q (.int (if i < 0 then -i else i)) H) gAbs := by
  intro H L x z X Q wf hx e q
  cases x <;> first | cases e | skip
  rw [hx.int]; exact ⟨_, rfl, Kq.pv wf (.int _) q⟩
@[simp] def gInt (v : PV) : Option EV := match v with
  | .int i => some (.pv (.int i))
  | .bl k => some (.pv (.int (if k then 1 else 0)))
  | _ => none
theorem op1_int {K : PySem.W.Frag} : Op1 K (fun xs H Q => (∃ i, xs = [.int i] ∧ Q (.int i) H) ∨ ∃ k, xs = [.bl k] ∧ Q (.int (if k then 1 else 0)) H) gInt := by
  intro H L x z X Q wf hx e q
  cases x <;> first | cases e | skip
  · rw [hx.bl]; exact .inr ⟨_, rfl, Kq.pv wf (.int _) q⟩
  · rw [hx.int]; exact .inl ⟨_, rfl, Kq.pv wf (.int _) q⟩
@[simp] def gList (v : PV) : Option EV := match v with
  | .lst xs => some (.nw (.lst xs))
  | .tup xs => some (.nw (.lst xs))
  | _ => none
theorem op1_list {K : PySem.W.Frag} : Op1 K (fun xs H Q => ∃ p ys, xs = [.ref p] ∧ (SqL K H p ys ∨ SqT K H p ys) ∧ ∀ l, H l = none → Q (.ref l) (upd H l (.lst ys))) gList := by
  intro H L x z X Q wf hx e q
  cases x <;> first | cases e | skip
  · obtain ⟨a, vs, rfl, e1, _, r⟩ := hx.tup; exact ⟨a, vs, rfl, .inr (e1.sq), Kq.lst wf r q⟩
  · obtain ⟨a, vs, rfl, e1, r⟩ := hx.lst; exact ⟨a, vs, rfl, .inl e1, Kq.lst wf r q⟩
@[simp] def gTuple (v : PV) : Option EV := match v with
  | .lst xs => some (.pv (.tup xs))
  | .tup xs => some (.pv (.tup xs))
  | _ => none
theorem op1_tuple {K : PySem.W.Frag} : Op1 K (fun xs H Q => ∃ p ys, xs = [.ref p] ∧ ((SqL K H p ys ∧ NewT H ys Q) ∨ (SqT K H p ys ∧ Q (.ref p) H))) gTuple := by
  intro H L x z X Q wf hx e q
  cases x <;> first | cases e | skip
  · obtain ⟨a, vs, rfl, e1, n, r⟩ := hx.tup; exact ⟨a, vs, rfl, .inr ⟨e1.sq, Kq.pv wf (.tup e1 n r) q⟩⟩
  · obtain ⟨a, vs, rfl, e1, r⟩ := hx.lst; exact ⟨a, vs, rfl, .inl ⟨e1, Kq.tup wf r q⟩⟩
@[simp] def gRepr (v : PV) : Option EV := if v.shows = true then some (.pv (.str v.dat.shown)) else none
theorem op1_repr : Op1 X.K (rRepr X) gRepr := by
  intro H L x z Y Q wf hx e q
  unfold gRepr at e
  split at e
  next h => cases e; exact ⟨Y, L, x, rfl, hx, h, Kq.pv wf (.str _) q⟩
  next => cases e
/-- xs[::-1] -/
@[simp] def eRev (s : List Sl → Res EV) (m : List Sl) : Res EV := (s m).bind fun x m1 => match x.v with
  | .lst xs => .ok (.nw (.lst xs.reverse)) m1
  | _ => .stuck
theorem se_revL {e : Expr} {s : List Sl → Res EV} {k : Nat} {p1 p2 p3 pos : Pos} (hk : X.K = p.K) (he : SE p X e s) : SE p X (.Subscript e (.Slice none none (some (.UnaryOp .USub (.Constant (.int 1) k p1) p2)) p3) pos) (eRev s) := pe_imp (pe_revL he) fun σ H Q ⟨m, L, st, h⟩ => by
  refine tE_then st h fun v m1 x H1 L1 t ev h1 => ?_
  rw [hk]
  split at h1
  next xs e =>
    have r := ev.rd
    rw [e] at r
    obtain ⟨a, vs, rfl, e1, rr⟩ := r.lst
    exact ⟨a, vs, rfl, e1, Kq.lst t.st.wf rr.reverse fun Z H' L' s wf r => RQ.new t.st h1 s wf r⟩
  next => exact h1.elim
/-- all, any, sum, max, min of lists -/
def bls? : List PV → Option (List Bool)
  | [] => some []
  | .bl b :: r => (bls? r).map (b :: ·)
  | _ :: _ => none
theorem bls?_eq : ∀ {vs : List PV} {bs : List Bool}, bls? vs = some bs → vs = bs.map PV.bl
  | [], _, h => by cases h; rfl
  | v :: r, bs, h => by
    cases v <;> first | cases h | skip
    next b =>
      obtain ⟨cs, hc, rfl⟩ := Option.map_eq_some_iff.mp (show (bls? r).map (b :: ·) = some bs from h)
      rw [bls?_eq hc]; rfl
@[simp] theorem bls?_map : ∀ bs : List Bool, bls? (bs.map PV.bl) = some bs
  | [] => rfl
  | b :: bs => by show (bls? (bs.map PV.bl)).map (b :: ·) = _; rw [bls?_map bs]; rfl
theorem VRs.bls {K : PySem.W.Frag} : ∀ {bs : List Bool} {xs : List V}, VRs K H L (bs.map PV.bl) xs → xs = bs.map V.bl
  | [], _, h => by cases h; rfl
  | n :: ns, _, h => by
    cases h with
    | cons h t => cases h; rw [VRs.bls t]; rfl
@[simp] def gAll (v : PV) : Option EV := match v with
  | .lst xs => (bls? xs).map fun bs => .pv (.bl (bs.all id))
  | _ => none
theorem op1_all {K : PySem.W.Frag} : Op1 K (rAll K) gAll := by
  intro H L x z X Q wf hx e q
  cases x <;> first | cases e | skip
  next xs =>
    obtain ⟨bs, hb, rfl⟩ := Option.map_eq_some_iff.mp (show (bls? xs).map (fun bs => EV.pv (.bl (bs.all id))) = some z from e)
    obtain ⟨a, vs, rfl, e1, r⟩ := hx.lst
    rw [bls?_eq hb] at r
    rw [r.bls] at e1
    exact ⟨a, bs, rfl, e1, Kq.pv wf (.bl _) q⟩
@[simp] def gSum (v : PV) : Option EV := match v with
  | .lst xs => (ints? xs).map fun ns => .pv (.int ns.sum)
  | _ => none
theorem op1_sum {K : PySem.W.Frag} : Op1 K (rSum K) gSum := by
  intro H L x z X Q wf hx e q
  cases x <;> first | cases e | skip
  next xs =>
    obtain ⟨ns, hb, rfl⟩ := Option.map_eq_some_iff.mp (show (ints? xs).map (fun ns => EV.pv (.int ns.sum)) = some z from e)
    obtain ⟨a, vs, rfl, e1, r⟩ := hx.lst
    rw [ints?_eq hb] at r
    rw [r.ints] at e1
    exact ⟨a, ns, rfl, e1, Kq.pv wf (.int _) q⟩
end
end Sd
end
section
set_option Elab.async false
set_option linter.all false
set_option maxRecDepth 100000
namespace Sd
open PySem L2
section
variable {p : Pm} {X : Cx} {a b : Expr} {sa sb : List Sl → Res EV} {pos : Pos}
theorem op2_lt {K : PySem.W.Frag} : Op2 K (rI0 fun i j => .bl (decide (i < j))) gLt := op2_I fun H i j v Q e q => ⟨i, j, rfl, rfl, q _ fun L => by cases e; exact .bl _⟩
theorem op2_le {K : PySem.W.Frag} : Op2 K (rI0 fun i j => .bl (decide (i ≤ j))) gLe := op2_I fun H i j v Q e q => ⟨i, j, rfl, rfl, q _ fun L => by cases e; exact .bl _⟩
theorem op2_gt {K : PySem.W.Frag} : Op2 K (rI0 fun i j => .bl (decide (j < i))) gGt := op2_I fun H i j v Q e q => ⟨i, j, rfl, rfl, q _ fun L => by cases e; exact .bl _⟩
theorem op2_ge {K : PySem.W.Frag} : Op2 K (rI0 fun i j => .bl (decide (j ≤ i))) gGe := op2_I fun H i j v Q e q => ⟨i, j, rfl, rfl, q _ fun L => by cases e; exact .bl _⟩
theorem op_eqA {k : Nat} (hr : Room k X.A) : OpR X (compareOp .Eq) (rEqA X.K) := OpR.or op_eq (op_eqD hr.units)
theorem op_neA {k : Nat} (hr : Room k X.A) : OpR X (compareOp .NotEq) (rNeA X.K) := OpR.or op_ne (op_neD hr.units)
/-- a def of one's own, as callers know it -/
def FnB (P : Program) (w : World) (K : PySem.W.Frag) (mg : Str → Option Value) (base : Heap) (x : Str) (k : Nat) (ps : List Str) (φ : List Sl → Res EV) : Prop :=
  ∃ f fd, FnG P w K mg base k f fd ps φ ∧ mg x = some (.ref f) ∧ PySem.W.keepIn K (.ref f) = true ∧ Binds K fd ps []
theorem se_userB {n : Nat} {W : WX} {B : Nat → Option Addr} {k : Nat} {ps : List Str} {φ : List Sl → Res EV} {x : Str} {px pos : Pos} {e : Expr} {es : List Expr} {ss : List ArgD} (F : FnB X.prog X.w X.K X.mg X.base x k ps φ) (hr : Room k X.A) (hgd : X.A.guards = some []) (hg : Gl X x)
    (tk : Takes X W) (ha : SA ⟨X.K, X.mg, W, B⟩ X (e :: es) ss) (hdb : (x == ("__debug__" : Str)) = false) (he : starEach (e :: es) X.env = (false, eval e X.env) :: starEach es X.env)
    (hpl : (backTo pos (starEach es X.env)).any (·.1) = false) (hn : ps.length = n) : SE ⟨X.K, X.mg, W, B⟩ X (.Call (.Name x px) (e :: es) [] pos) (eUser n φ ss) := by
  obtain ⟨f, fd, F, hm, hk, hb⟩ := F
  subst hn
  exact se_user F hr hgd hg hm hk hb tk ha hdb he hpl
theorem bb_len : bootBuiltins "len" = some (.builtin "len") := by decide +kernel
theorem bb_abs : bootBuiltins "abs" = some (.builtin "abs") := by decide +kernel
theorem bb_max : bootBuiltins "max" = some (.builtin "max") := by decide +kernel
theorem bb_min : bootBuiltins "min" = some (.builtin "min") := by decide +kernel
theorem bb_all : bootBuiltins "all" = some (.builtin "all") := by decide +kernel
theorem bb_sum : bootBuiltins "sum" = some (.builtin "sum") := by decide +kernel
theorem bb_sorted : bootBuiltins "sorted" = some (.builtin "sorted") := by decide +kernel
theorem bb_repr : bootBuiltins "repr" = some (.builtin "repr") := by decide +kernel
theorem bb_isinstance : bootBuiltins "isinstance" = some (.builtin "isinstance") := by decide +kernel
theorem bb_int : bootBuiltins "int" = some (.type "int") := by decide +kernel
theorem bb_list : bootBuiltins "list" = some (.type "list") := by decide +kernel
theorem bb_tuple : bootBuiltins "tuple" = some (.type "tuple") := by decide +kernel
theorem bb_str : bootBuiltins "str" = some (.type "str") := by decide +kernel
theorem bb_set : bootBuiltins "set" = some (.type "set") := by decide +kernel
/-- built-ins by name -/
theorem se_blt1 {x : Str} {bid : String} {px : Pos} {r : List V → Hp → VK → Prop} {g : PV → Option EV} (hc : CallR X (.builtin bid) r) (hr : Op1 p.K r g) (hg : Gl X x) (hm : X.mg x = none) (hv : bootBuiltins x = some (.builtin bid)) (ha : SE p X a sa) (hn : x ≠ "__name__") (hdb : (x == ("__debug__" : Str)) = false)
    (hs : starEach [a] X.env = (false, eval a X.env) :: starEach [] X.env) : SE p X (.Call (.Name x px) [a] [] pos) (eCall1 g sa) := se_call1 (pe_callB hc hg hm hv (pa_cons ha pa_nil hs) hn hdb hs) hr
theorem se_blt1P {x : Str} {bid : String} {i : Nat} {px : Pos} {r : List V → Hp → VK → Prop} {g : PV → Option EV} (hc : CallR X (.builtin bid) r) (hr : Op1 p.K r g) (hg : Gl X x) (hm : X.mg x = none) (hv : bootBuiltins x = some (.builtin bid)) (ha : PE X a (tVar i)) (hn : x ≠ "__name__") (hdb : (x == ("__debug__" : Str)) = false)
    (hs : starEach [a] X.env = (false, eval a X.env) :: starEach [] X.env) : SE p X (.Call (.Name x px) [a] [] pos) (eCallP g i) := se_callP (pe_callB hc hg hm hv (pa_cons ha pa_nil hs) hn hdb hs) hr
theorem se_ty1 {x : Str} {T : String} {px : Pos} {r : List V → Hp → VK → Prop} {g : PV → Option EV} (hc : CallR X (.type T) r) (hr : Op1 p.K r g) (hg : Gl X x) (hm : X.mg x = none) (hv : bootBuiltins x = some (.type T)) (ha : SE p X a sa) (hn : x ≠ "__name__") (hdb : (x == ("__debug__" : Str)) = false)
    (hs : starEach [a] X.env = (false, eval a X.env) :: starEach [] X.env) : SE p X (.Call (.Name x px) [a] [] pos) (eCall1 g sa) := se_call1 (pe_callTy hc hg hm hv (pa_cons ha pa_nil hs) hn hdb hs) hr
theorem se_blt2 {x : Str} {bid : String} {px : Pos} {r : List V → Hp → VK → Prop} {g : PV → PV → Option EV} (hc : CallR X (.builtin bid) r) (hr : Op1b p.K r g) (hg : Gl X x) (hm : X.mg x = none) (hv : bootBuiltins x = some (.builtin bid)) (ha : SE p X a sa) (hb : SE p X b sb) (hn : x ≠ "__name__") (hdb : (x == ("__debug__" : Str)) = false)
    (hs : starEach [a, b] X.env = (false, eval a X.env) :: starEach [b] X.env) (hs2 : starEach [b] X.env = (false, eval b X.env) :: starEach [] X.env) (hpl : (backTo pos (starEach [b] X.env)).any (·.1) = false) : SE p X (.Call (.Name x px) [a, b] [] pos) (eOp g sa sb) :=
  se_call2 (pe_callB hc hg hm hv (pa_cons ha (pa_cons hb pa_nil hs2) hs) hn hdb hs hpl) hr
end
end Sd
end
section
set_option Elab.async false
set_option linter.all false
set_option maxRecDepth 100000
/-! the end: a law's row from what its def keeps, where it is known that no repr is under way -/
namespace Sd
open PySem PySem.Spec PyProof.Rows L2
section
variable {P : Program} {w : World} {K : PySem.W.Frag} {mg mb : Str → Option Value} {k : Nat} {fa a : Addr} {fd : FuncData} {x : Str} {φ : List Sl → Res EV} {s₁ : Shared} {vs : List Value} {ns : List Int}
def Done (s₁ : Shared) (r : Result) (s' : Shared) : Prop := r = .ok (.ret (.bool true)) ∧ OldK s₁.heap s'.heap ∧ s'.os = s₁.os ∧ AllBare s'.gens
/-- over an abstract heap that tracks the script at most -/
theorem law_over {H : Hp} (KX : K.In s₁.heap) (n1 : s₁.heap.Ns mainGlobals mg) (n2 : s₁.heap.Ns builtinsNs mb) (n3 : ∀ x : Str, x ≠ "__name__" → mb x = bootBuiltins x) (n4 : s₁.heap.NoLimit) (n5 : s₁.gens = #[])
    (ha : s₁.heap.get? a = some { cls := .type "list", data := .seq vs.toArray }) (hr : Room k callerA) (F : ∀ base : Heap, K.In base → base.Ns mainGlobals mg → FnG P w K mg base k fa fd [x] φ)
    (hbind : ∀ (s : Shared) (u : Value), BindsTo s fd ⟨[u], []⟩ [(x, u)]) (hφ : ∃ m', φ [.pv (.lst (ns.map PV.int))] = .ok (.pv (.bl true)) m')
    (only : Only H) (seq : SqL K H a (ns.map V.int)) (ok : HOk P w H s₁.heap) (at_a : ∀ b, H b ≠ none → b = a) (outK : H a ≠ none → K.lookup a = none) :
    codeAny (model P w) callerA (.call (.ref fa) ⟨[.ref a], []⟩) (Done s₁) s₁ := by
  have keepB : ∀ {b : Addr} {o : Obj}, s₁.heap.get? b = some o → (H b ≠ none → False) → (hidT s₁.heap H).get? b = some o := fun e n => hidT_get e (Classical.byContradiction n)
  have keepN : ∀ {b : Addr} {q : Str → Option Value}, s₁.heap.Ns b q → (hidT s₁.heap H).Ns b q := fun {b q} ⟨o, es, ep, e, d, r⟩ => by
    refine ⟨o, es, ep, keepB e fun n => ?_, d, r⟩
    rw [at_a _ n, ha] at e
    cases e
    cases (show Data.seq vs.toArray _ = Data.dict es ep from d)
  have keepK : K.In (hidT s₁.heap H) := fun b o e => keepB (KX b o e) fun n => by
    have z := at_a b n
    subst z
    rw [outK n] at e
    cases e
  have md : Mod K mg (hidT s₁.heap H) := ⟨keepK, keepN n1, ⟨mb, keepN n2, n3⟩, let ⟨mc, q1, q2⟩ := n4; ⟨mc, keepN q1, q2⟩⟩
  have env : Env0 P w K mg (hidT s₁.heap H) callerA [] s₁ H := { frames := rfl, mod := md, bs := fun b o e => of_hidT e, bsz := Nat.le_of_eq (hidT_size _ _), funs := trivial, frf := fun b hb => (by cases hb), hok := ok, bare := .of_eq n5 }
  obtain ⟨m', e⟩ := hφ
  have at0 : ∀ (i : Nat) (s : Sl), ([Sl.pv (.lst (ns.map PV.int))] : List Sl)[i]? = some s → i = 0 ∧ s = .pv (.lst (ns.map PV.int)) := fun i s h => by
    cases i with
    | zero => exact ⟨rfl, by simpa using h.symm⟩
    | succ i => simp at h
  have noCell : ∀ i : Nat, ¬ Cell ([Sl.pv (.lst (ns.map PV.int))] : List Sl)[i]? := fun i c => by
    cases q : ([Sl.pv (.lst (ns.map PV.int))] : List Sl)[i]? with
    | none => rw [q] at c; exact c
    | some s => rw [q, (at0 i s q).2] at c; exact c
  have noB : ∀ i b, BOf [Sl.pv (.lst (ns.map PV.int))] [V.ref a] i = some b → False := fun i b h => by
    unfold BOf at h
    split at h
    next o c e1 e2 => cases (at0 i _ e1).2
    next => cases h
  have script : VR K H (fun _ => False) (.lst (ns.map PV.int)) (.ref a) := by
    refine .lst ?_ (VRs.ofInts ns)
    rcases seq with h | h
    · exact .inl ⟨h, id⟩
    · exact .inr (.inr h)
  have st : StR K (BOf [Sl.pv (.lst (ns.map PV.int))] [V.ref a]) [Sl.pv (.lst (ns.map PV.int))] ([V.ref a].map some) H fun _ => False := ⟨rfl, fun i s y e1 e2 => by
    obtain ⟨rfl, rfl⟩ := at0 i s e1
    cases (show some (V.ref a) = y by simpa using e2)
    exact ⟨_, rfl, script⟩, fun i j b _ c => (noCell i c).elim, fun b z => z.elim, fun i b h => (noB i b h).elim⟩
  have sp : spG K mg φ [V.ref a] H (fun v _ => v = .bl true) fun _ _ _ => False := by
    refine ⟨_, _, rfl, st, ?_⟩
    rw [e]
    intro y H' L' _ _ ev _
    cases (show VR K H' L' (.bl true) y from ev)
    rfl
  refine codeAny_mono ((F _ keepK (keepN n1)).run callerA [] s₁ H ⟨[.ref a], []⟩ [.ref a] [.ref a] _ _ hr rfl env rfl (hbind s₁ (.ref a)) (.cons rfl .nil) sp) fun r s' h => ?_
  cases r with
  | error u => obtain ⟨_, _, _, _, _, _, _, _, _, _, _, _, z⟩ := h; exact z.elim
  | ok fl =>
    cases fl with
    | next => exact h.elim
    | brk => exact h.elim
    | cont => exact h.elim
    | ret u =>
      obtain ⟨v, H', os, bare, un, ok', r', q⟩ := h
      cases (show v = .bl true from q)
      cases (show u = Value.bool true from r')
      refine ⟨rfl, OldK.of_keep fun b o e => ?_, os, bare⟩
      cases q : H b with
      | none => exact un.keep b o e q (fun z => nomatch z) (by simp)
      | some u =>
        rcases only b with z | ⟨ob, xs, z⟩
        · rw [q] at z; cases z
        · obtain ⟨f1, _⟩ := ok b _ z
          obtain ⟨f2, _⟩ := ok' b _ (un.frzs b ob _ z)
          rw [e] at f1
          cases f1
          exact f2
theorem law_done (KX : K.In s₁.heap) (n1 : s₁.heap.Ns mainGlobals mg) (n2 : s₁.heap.Ns builtinsNs mb) (n3 : ∀ x : Str, x ≠ "__name__" → mb x = bootBuiltins x) (n4 : s₁.heap.NoLimit) (n5 : s₁.gens = #[])
    (ha : s₁.heap.get? a = some { cls := .type "list", data := .seq vs.toArray }) (hi : IntsAre vs ns) (hl : ns.length ≤ sizeLine) (hr : Room k callerA) (F : ∀ base : Heap, K.In base → base.Ns mainGlobals mg → FnG P w K mg base k fa fd [x] φ)
    (hbind : ∀ (s : Shared) (u : Value), BindsTo s fd ⟨[u], []⟩ [(x, u)]) (hφ : ∃ m', φ [.pv (.lst (ns.map PV.int))] = .ok (.pv (.bl true)) m') : codeAny (model P w) callerA (.call (.ref fa) ⟨[.ref a], []⟩) (Done s₁) s₁ := by
  have rv := vals_ints hi
  by_cases hk : ∃ o, K.lookup a = some o
  · obtain ⟨o, hk⟩ := hk
    have e := KX a o hk
    rw [ha] at e
    cases e
    have seq : SqL K (fun _ => none) a (ns.map V.int) := .inr ⟨_, vs.toArray, _, hk, rfl, rfl, rfl, by rw [List.size_toArray, hi.length]; exact hl, by simpa using rv⟩
    exact law_over (H := fun _ => none) KX n1 n2 n3 n4 n5 ha hr F hbind hφ (fun _ => .inl rfl) seq (fun b u z => by cases z) (fun b z => (z rfl).elim) (fun z => (z rfl).elim)
  · have hk' : K.lookup a = none := by
      cases q : K.lookup a with
      | none => rfl
      | some o => exact absurd ⟨o, q⟩ hk
    have at1 : ∀ b, upd (fun _ => none) a (.frz { cls := .type "list", data := .seq vs.toArray } (.lst (ns.map V.int))) b ≠ none → b = a := fun b z => Classical.byContradiction fun n => z (upd_ne n)
    refine law_over (H := upd (fun _ => none) a (.frz { cls := .type "list", data := .seq vs.toArray } (.lst (ns.map V.int)))) KX n1 n2 n3 n4 n5 ha hr F hbind hφ (fun b => ?_) (.inl (.inr ⟨_, upd_same⟩)) (fun b u z => ?_) at1 fun _ => hk'
    · by_cases n : b = a
      · exact .inr ⟨_, _, by rw [n]; exact upd_same⟩
      · exact .inl (upd_ne n)
    · have n := at1 b (by rw [z]; simp)
      subst n
      rw [upd_same] at z
      cases z
      exact ⟨ha, by rw [List.length_map]; exact hl, vs, _, rv, ha⟩
end
open PySem PySem.W PyProof.Rows
/-- a law of ours: its row -/
theorem walk_ofG {l : PySem.W.OpenLaw} {n k : Nat} {q : Program} {loose : List Str} {XP : (Str → Option Value) → Heap → Prop} {YP : World → Heap → Prop} {d : DefRec} {K : Params → PySem.W.Frag} {x : Str} {φ : List Sl → Res EV}
    (hn : l.most = some n) (hn2 : n ≤ sizeLine) (hdf : d.params.defaults = []) (hr : Room k callerA) (hY : ∀ (w : World) (h : Heap), YP w h → (K w.params).In h)
    (F : ∀ (w : World) (mg : Str → Option Value) (fa : Addr) (h : Heap), (K w.params).In h → h.Ns mainGlobals mg → XP mg h → mg d.name = some (.ref fa) →
      ∃ fd : FuncData, (∀ (s : Shared) (u : Value), BindsTo s fd ⟨[u], []⟩ [(x, u)]) ∧ ∀ base : Heap, (K w.params).In base → base.Ns mainGlobals mg → FnG l.prog w (K w.params) mg base k fa fd [x] φ)
    (hφ : ∀ ns : List Int, ns.length ≤ n → (∀ z ∈ ns, Builtin.Int.intBits z ≤ 1048576) → ∃ m', φ [.pv (.lst (ns.map PV.int))] = .ok (.pv (.bl true)) m') :
    PySem.W.WalkO q loose XP YP l.row.toRowW d [] (fun f vs => PySem.call f vs) := by
  refine Att.attach_callB hn hdf fun w s₀ s₁ mg mb fa o pm cd doc a vs ns G Y ho hd hcd hmg hobj hints hlen hbits hg => ?_
  obtain ⟨fd, hb, hF⟩ := F w mg fa _ (hY w _ Y) G.T.g G.X hmg
  exact law_done (hY w _ Y) G.T.g G.T.b G.T.builtins G.T.nolimit hg hobj hints (Nat.le_trans hlen hn2) hr hF hb (hφ ns hlen hbits)
end Sd
end
section
set_option Elab.async false
set_option linter.all false
set_option maxRecDepth 100000
set_option maxHeartbeats 4000000
/-! sorted, max, min over tuples and lists of ints -/
namespace Sd
open PySem PySem.Spec PyProof.Rows L2 SrtO SrtR
section
variable {prog : Program} {w : World} {A : Around} {E : Value → Shared → Prop} {s : Shared}
theorem sorted_seq {l : Addr} {T : String} {o : Obj} {n : Nat} {vs : List Value} {b : Bool} {kw : List (Str × Value)} {ltv : Value → Value → Bool} {Q : Value → Shared → Prop} (hk : ∀ a, Builtin.«list.sort» ⟨[.ref a], kw⟩ = Builtin.«list.sort» ⟨[.ref a], [(Str.ofString "reverse", .bool b)]⟩)
    (ha1 : argsOk "sorted" ⟨[.ref l], kw⟩) (ha2 : ∀ a, argsOk "list.sort" ⟨[a], kw⟩) (O : Swo ltv) (hT : T = "list" ∨ T = "tuple") (ho : s.heap.get? l = some o) (hc : o.cls = .type T) (hd : o.data = .seq vs.toArray n) (hz : vs.length ≤ sizeLine)
    (hS : 2 ≤ vs.length → ∀ (h₁ : Heap) (a : Addr), SortableO prog w A.in1.in1 { s with heap := h₁ } a vs ltv)
    (h : ∀ (out : List Value) (h1 h' : Heap) (e : Nat), Srtd ltv out → Stb ltv out (if b = true then vs.reverse else vs) → (∀ c ob, s.heap.get? c = some ob → h1.get? c = some ob) → (∀ c ob, h1.get? c = some ob → h'.get? c = some ob) →
      h'.get? h1.objs.size = some (seqObj "list" (if b = true then out.toArray.reverse else out.toArray) e) → Q (.ref h1.objs.size) { s with heap := h' }) :
    wpAny (model prog w) A (call (.builtin "sorted") [.ref l] kw) Q E s := by
  refine call_function_entry_kw kind_sorted plain_sorted entry_sorted ha1 ?_
  unfold Builtin.«sorted»
  refine wpAny_bind (m := checkCount "sorted" 1 1 _) (wpAny_pure ?_)
  refine wpAny_bind (wpAny_collect_seq l hT ho hc hd (fun h1 k1 => ?_) (by rw [List.size_toArray]; exact hz))
  rw [show vs.toArray.toList = vs by simp]
  refine wpAny_bind (wpAny_newList ?_ hz)
  have hoL : (h1.push (seqObj "list" vs.toArray 0)).get? h1.objs.size = some (seqObj "list" vs.toArray 0) := Heap.get?_push_size _ rfl
  refine wpAny_bind (wpAny_holding (wpAny_call_entry_kw slot_list_sort ⟨_, hoL, rfl⟩ entry_list_sort ?_ (ha2 _)))
  rw [hk]
  refine list_sort_ordR O hoL hz (fun h2 => hS h2 _ _) fun out hs hb => ⟨_, rfl, ?_⟩
  obtain ⟨e, he⟩ := sortedHeap_at (vs := vs) (out := if b = true then out.toArray.reverse else out.toArray) hoL
  refine wpAny_pure ⟨_, rfl, h out h1 _ e hs hb k1 (fun c ob q => ?_) he⟩
  have lt := Heap.lt_size q
  rw [sortedHeap_old (Nat.ne_of_lt lt) (by rw [size_push']; exact Nat.lt_succ_of_lt lt), Heap.get?_push_ne _ _ _ (Nat.ne_of_lt lt)]
  exact q
theorem ints_sortable' {a : Addr} {vs : List Value} {ns : List Int} (hI : IntsAre vs ns) (h2 : 2 ≤ vs.length) : SortableO prog w A s a vs ltIv := ints_sortable hI h2
end
section
variable {X : Cx}
/-- a list or a tuple, to be read -/
def SqA (K : PySem.W.Frag) (H : Hp) (a : Addr) (vs : List V) : Prop := SqL K H a vs ∨ SqT K H a vs
theorem seq_of {pins : List (Addr × Obj)} {σ : L2.St} {H : Hp} {s : Shared} {a : Addr} {vs : List V} (I : Inv X pins σ H s) (h : SqA X.K H a vs) :
    ∃ its T o n, Vals vs its ∧ (T = "list" ∨ T = "tuple") ∧ s.heap.get? a = some o ∧ o.cls = .type T ∧ o.data = .seq its.toArray n ∧ vs.length ≤ sizeLine := by
  rcases h with h | h
  · obtain ⟨its, r, pl, hz⟩ := I.list h
    obtain ⟨o, ho, hc, n, hd⟩ := pl.isList
    exact ⟨its, _, o, n, r, .inl rfl, ho, hc, hd, hz⟩
  · obtain ⟨its, r, pl, hz⟩ := I.tuple h
    obtain ⟨o, ho, hc, n, hd⟩ := pl
    exact ⟨its, _, o, n, r, .inr rfl, ho, hc, hd, hz⟩
def rSrt (K : PySem.W.Frag) (b : Bool) : List V → Hp → VK → Prop := fun vs H Q => ∃ (a : Addr) (ns : List Int), vs = [V.ref a] ∧ SqA K H a (ns.map V.int) ∧
  ∀ (ns' : List Int) (p : Addr), ns'.Perm ns → OrdB b ns' → H p = none → Q (.ref p) (upd H p (.lst (ns'.map V.int)))
theorem srt_run {b : Bool} {kw : List (Str × Value)} {pins : List (Addr × Obj)} {s : Shared} {σ : L2.St} {H : Hp} {vs : List V} {us : List Value} {Q : VK} (I : Inv X pins σ H s) (r : Vals vs us) (h : rSrt X.K b vs H Q)
    (hk : ∀ a, Builtin.«list.sort» ⟨[.ref a], kw⟩ = Builtin.«list.sort» ⟨[.ref a], [(Str.ofString "reverse", .bool b)]⟩) (ha1 : ∀ a, argsOk "sorted" ⟨[.ref a], kw⟩) (ha2 : ∀ a, argsOk "list.sort" ⟨[a], kw⟩) :
    wpAny (model X.prog X.w) X.A (call (.builtin "sorted") us kw) (EP X pins σ Q) X.xe s := by
  obtain ⟨a, ns, rfl, hs, q⟩ := h
  obtain rfl := Vals.ref1 r
  obtain ⟨its, T, o, n, rv, hT, ho, hc, hd, hz⟩ := seq_of I hs
  have hi := rv.ints
  refine sorted_seq hk (ha1 _) ha2 swo_int hT ho hc hd (by rw [← rv.length]; exact hz) (fun h2 _ _ => ints_sortable' hi h2) fun out h1 h' e k1 k2 k3 k4 k5 => ?_
  obtain ⟨ns', l1, l2, l3⟩ := ints_outR hi k1 k2
  have hlen : (ns'.map V.int).length ≤ sizeLine := by
    rw [List.length_map, l2.length_eq]
    rw [List.length_map] at hz
    exact hz
  have e0 : ((if b = true then out.toArray.reverse else out.toArray).toList).toArray = (if b = true then out.toArray.reverse else out.toArray) := by rw [Array.toArray_toList]
  have I1 : Inv X pins σ H { s with heap := h1 } := I.kept (t' := s.toks) k3
  exact ⟨.ref _, upd H h1.objs.size (.lst (ns'.map V.int)), I1.laid (t' := s.toks) k4 (Nat.le_refl _) ⟨hlen, _, e, vals_of_ints l1, by rw [e0]; exact k5⟩, rfl, q _ _ l2 l3 (I1.hok.fresh (Nat.le_refl _))⟩
theorem cr_srt : CallR X (.builtin "sorted") (rSrt X.K false) := fun pins s σ H vs us Q I r h => srt_run I r h PySem.W.plain_is_rev (fun _ => args_sorted1 _) fun _ => args_list_sort _
theorem cr_srtRev {b : Bool} : CallRK X (.builtin "sorted") [Str.ofString "reverse"] (fun vs zs H Q => zs = [.bl b] ∧ rSrt X.K b vs H Q) := by
  intro pins s σ H vs zs us ws Q I r rz h
  obtain ⟨rfl, h⟩ := h
  obtain ⟨w1, rfl, e1⟩ := vals1 rz
  obtain rfl : w1 = Value.bool b := e1
  exact srt_run I r h (fun _ => rfl) (fun _ => args_sorted_rev _ _) fun _ => args_list_sort_rev _ _
end
end Sd
end
section
set_option Elab.async false
set_option linter.all false
set_option maxRecDepth 100000
set_option maxHeartbeats 4000000
/-! max, min, sorted of tuples and lists of ints as operations on values; powers; isinstance -/
namespace Sd
open PySem PySem.Spec PyProof.Rows L2 SrtO SrtR
section
variable {prog : Program} {w : World} {A : Around} {E : Value → Shared → Prop} {s : Shared} {t : Addr} {xs : Array (Int × Tok)} {Q : Value → Shared → Prop}
theorem tup_iter (ht : s.heap.IsTuple t (intItems xs)) : (s.heap.push { cls := .type "tuple_iterator", data := .fields #[.ref t, .int 0 0] }).IsTupleIter s.heap.objs.size t 0 ∧ (s.heap.push { cls := .type "tuple_iterator", data := .fields #[.ref t, .int 0 0] }).IsTuple t (intItems xs) :=
  ⟨⟨_, Heap.get?_push_size _ rfl, rfl, rfl⟩, ht.at fun o e => Heap.get?_push_of_some _ e⟩
theorem tup_old {h' : Heap} (hk : ∀ b o, b ∉ [s.heap.objs.size] → (s.heap.push { cls := .type "tuple_iterator", data := .fields #[.ref t, .int 0 0] }).get? b = some o → h'.get? b = some o) : ∀ b o, s.heap.get? b = some o → h'.get? b = some o := fun b o e =>
  hk b o (fun hm => absurd (List.mem_singleton.mp hm ▸ Heap.lt_size e) (Nat.lt_irrefl _)) (Heap.get?_push_of_some _ e)
theorem tup_fp (ht : s.heap.IsTuple t (intItems xs)) : ∀ b ∈ [s.heap.objs.size, t], b < (s.heap.push { cls := .type "tuple_iterator", data := .fields #[.ref t, .int 0 0] }).objs.size := fun b hb => by
  obtain ⟨o, ho, _⟩ := ht
  rcases List.mem_cons.mp hb with rfl | hb
  · exact Heap.lt_size (Heap.get?_push_size _ rfl)
  · obtain rfl := List.mem_singleton.mp hb
    exact Heap.lt_size (Heap.get?_push_of_some _ ho)
theorem tup_ne (ht : s.heap.IsTuple t (intItems xs)) : t ≠ s.heap.objs.size := by
  obtain ⟨o, ho, _⟩ := ht
  exact Nat.ne_of_lt (Heap.lt_size ho)
theorem max_tup (hh : A.handled = none) (ht : s.heap.IsTuple t (intItems xs)) (hne : 0 < xs.size)
    (h : ∀ v h' tk, (intItems xs)[argBest (fun i j => decide (numAt xs i > numAt xs j)) (xs.size - 1)]? = some v → (∀ b o, s.heap.get? b = some o → h'.get? b = some o) → Q v { s with heap := h', toks := tk }) :
    wpAny (model prog w) A (call (.builtin "max") [.ref t]) Q E s :=
  call_max_walk (wpAny_pyIter_tuple ht ⟨_, _, _, _, _, _, _, rfl, Walks.tuple (A := A.in1) hh _ t (tup_ne ht) (intItems xs), tup_iter ht, tup_fp ht, by simpa [intItems] using hne, CmpOf.ints_gt (numAt xs) (fun _ _ => intItems_at), fun v h' tk hP hk => h v h' tk (by simpa [intItems] using hP) (tup_old hk)⟩)
theorem min_tup (hh : A.handled = none) (ht : s.heap.IsTuple t (intItems xs)) (hne : 0 < xs.size)
    (h : ∀ v h' tk, (intItems xs)[argBest (fun i j => decide (numAt xs i < numAt xs j)) (xs.size - 1)]? = some v → (∀ b o, s.heap.get? b = some o → h'.get? b = some o) → Q v { s with heap := h', toks := tk }) :
    wpAny (model prog w) A (call (.builtin "min") [.ref t]) Q E s :=
  call_min_walk (wpAny_pyIter_tuple ht ⟨_, _, _, _, _, _, _, rfl, Walks.tuple (A := A.in1) hh _ t (tup_ne ht) (intItems xs), tup_iter ht, tup_fp ht, by simpa [intItems] using hne, CmpOf.ints_lt (numAt xs) (fun _ _ => intItems_at), fun v h' tk hP hk => h v h' tk (by simpa [intItems] using hP) (tup_old hk)⟩)
end
section
variable {X : Cx}
def rMx (K : PySem.W.Frag) : List V → Hp → VK → Prop := fun vs H Q => ∃ (a : Addr) (ns : List Int), vs = [V.ref a] ∧ SqA K H a (ns.map V.int) ∧ 0 < ns.length ∧ ∀ m, m ∈ ns → (∀ y, y ∈ ns → y ≤ m) → Q (.int m) H
def rMn (K : PySem.W.Frag) : List V → Hp → VK → Prop := fun vs H Q => ∃ (a : Addr) (ns : List Int), vs = [V.ref a] ∧ SqA K H a (ns.map V.int) ∧ 0 < ns.length ∧ ∀ m, m ∈ ns → (∀ y, y ∈ ns → m ≤ y) → Q (.int m) H
theorem cr_mx (hc : X.calm = true) : CallR X (.builtin "max") (rMx X.K) := by
  intro pins s σ H vs us Q I r h
  obtain ⟨a, ns, rfl, hs | hs, hne, q⟩ := h
  · exact cr_max hc pins s σ H _ us Q I r ⟨a, ns, rfl, hs, hne, q⟩
  · obtain rfl := Vals.ref1 r
    obtain ⟨its, rv, ht, _⟩ := I.tuple hs
    obtain ⟨xs, e⟩ := rv.ints.allInts.items
    have hn : numsOf (intItems xs).toList = ns := by rw [← e]; exact rv.ints.numsOf
    rw [nums_intItems] at hn
    subst hn
    rw [e] at ht
    have hsz : 0 < xs.size := by simpa using hne
    refine max_tup (I.ok.hd hc) ht hsz fun v h' tk hv hk => ?_
    obtain ⟨t, rfl⟩ := intItems_at hv
    obtain ⟨h1, h2⟩ := argBest_gt (numAt xs) (xs.size - 1)
    refine ⟨.int _, H, I.kept hk, ⟨_, rfl⟩, q _ ?_ fun a ha => ?_⟩
    · rw [numAt_eq]; exact PySem.getD_mem (by rw [List.length_map, Array.length_toList]; omega)
    · obtain ⟨j, hj, rfl⟩ := mem_getD ha
      rw [List.length_map, Array.length_toList] at hj
      rw [← numAt_eq]; exact h2 j (by omega)
theorem cr_mn (hc : X.calm = true) : CallR X (.builtin "min") (rMn X.K) := by
  intro pins s σ H vs us Q I r h
  obtain ⟨a, ns, rfl, hs | hs, hne, q⟩ := h
  · exact cr_min hc pins s σ H _ us Q I r ⟨a, ns, rfl, hs, hne, q⟩
  · obtain rfl := Vals.ref1 r
    obtain ⟨its, rv, ht, _⟩ := I.tuple hs
    obtain ⟨xs, e⟩ := rv.ints.allInts.items
    have hn : numsOf (intItems xs).toList = ns := by rw [← e]; exact rv.ints.numsOf
    rw [nums_intItems] at hn
    subst hn
    rw [e] at ht
    have hsz : 0 < xs.size := by simpa using hne
    refine min_tup (I.ok.hd hc) ht hsz fun v h' tk hv hk => ?_
    obtain ⟨t, rfl⟩ := intItems_at hv
    obtain ⟨h1, h2⟩ := argBest_lt (numAt xs) (xs.size - 1)
    refine ⟨.int _, H, I.kept hk, ⟨_, rfl⟩, q _ ?_ fun a ha => ?_⟩
    · rw [numAt_eq]; exact PySem.getD_mem (by rw [List.length_map, Array.length_toList]; omega)
    · obtain ⟨j, hj, rfl⟩ := mem_getD ha
      rw [List.length_map, Array.length_toList] at hj
      rw [← numAt_eq]; exact h2 j (by omega)
theorem op_powB : OpR X (binaryOp .Pow) (rI (fun i j => 0 ≤ j ∧ j ≤ 1000 ∧ fits i = true) fun i j => .int (i ^ j.toNat)) := opI fun i j _ _ _ _ _ hc q => pow_int hc.1 (by
  have h := fits_lt hc.2.2
  have e : Builtin.Int.intBits i ≤ 500 := by
    unfold Builtin.Int.intBits
    split
    · omega
    · next h0 =>
      have : i.natAbs ≠ 0 := by intro z; apply h0; simp [Int.natAbs_eq_zero.mp z]
      have := (Nat.log2_lt this).mpr h
      omega
  have : ((Builtin.Int.intBits i : Nat) : Int) * j ≤ 500 * 1000 := Int.mul_le_mul (by omega) hc.2.1 hc.1 (by omega)
  omega) q
end
end Sd
end
section
set_option Elab.async false
set_option linter.all false
set_option maxRecDepth 100000
set_option maxHeartbeats 4000000
namespace Sd
open PySem PySem.Spec PyProof.Rows L2
section
variable {p : Pm} {X : Cx} {a b : Expr} {sa sb : List Sl → Res EV} {pos : Pos}
/-! ### sorted -/
def srt (ns : List Int) : List Int := ns.mergeSort fun a b => decide (a ≤ b)
def srtR (ns : List Int) : List Int := ns.mergeSort fun a b => decide (b ≤ a)
theorem srt_perm (ns : List Int) : (srt ns).Perm ns := List.mergeSort_perm ..
theorem srtR_perm (ns : List Int) : (srtR ns).Perm ns := List.mergeSort_perm ..
theorem srt_sorted (ns : List Int) : (srt ns).Pairwise (· ≤ ·) := by
  have h := List.pairwise_mergeSort (le := fun a b : Int => decide (a ≤ b)) (fun a b c h1 h2 => by simp at *; omega) (fun a b => by simp; omega) ns
  exact h.imp fun h => by simpa using h
theorem srtR_sorted (ns : List Int) : (srtR ns).Pairwise (· ≥ ·) := by
  have h := List.pairwise_mergeSort (le := fun a b : Int => decide (b ≤ a)) (fun a b c h1 h2 => by simp at *; omega) (fun a b => by simp; omega) ns
  exact h.imp fun h => by simpa using h
theorem srt_eq {ns out : List Int} (hp : out.Perm ns) (ho : out.Pairwise (· ≤ ·)) : out = srt ns := (hp.trans (srt_perm ns).symm).eq_of_pairwise (fun a b _ _ h1 h2 => Int.le_antisymm h1 h2) ho (srt_sorted ns)
theorem srtR_eq {ns out : List Int} (hp : out.Perm ns) (ho : out.Pairwise (· ≥ ·)) : out = srtR ns := (hp.trans (srtR_perm ns).symm).eq_of_pairwise (fun a b _ _ h1 h2 => Int.le_antisymm h2 h1) ho (srtR_sorted ns)
/-- the ints of a list or a tuple -/
def seqI? (v : PV) : Option (List Int) := match v with
  | .lst xs => ints? xs
  | .tup xs => ints? xs
  | _ => none
@[simp] theorem seqI_lst (ns : List Int) : seqI? (.lst (ns.map PV.int)) = some ns := ints?_map ns
@[simp] theorem seqI_tup (ns : List Int) : seqI? (.tup (ns.map PV.int)) = some ns := ints?_map ns
theorem seqI_rd {K : PySem.W.Frag} {H : Hp} {L : Lv} {v : PV} {x : V} {ns : List Int} (h : RdR K H L v x) (e : seqI? v = some ns) : ∃ a, x = .ref a ∧ SqA K H a (ns.map V.int) := by
  cases v <;> first | cases e | skip
  · next xs =>
    have e' : ints? xs = some ns := e
    obtain ⟨a, vs, rfl, e1, _, r⟩ := h.tup
    rw [ints?_eq e'] at r
    rw [r.ints] at e1
    exact ⟨a, rfl, .inr e1.sq⟩
  · next xs =>
    have e' : ints? xs = some ns := e
    obtain ⟨a, vs, rfl, e1, r⟩ := h.lst
    rw [ints?_eq e'] at r
    rw [r.ints] at e1
    exact ⟨a, rfl, .inl e1⟩
@[simp] def gSrt (v : PV) : Option EV := (seqI? v).map fun ns => .nw (.lst ((srt ns).map PV.int))
@[simp] def gSrtR (v : PV) : Option EV := (seqI? v).map fun ns => .nw (.lst ((srtR ns).map PV.int))
theorem op1_srt {K : PySem.W.Frag} : Op1 K (rSrt K false) gSrt := by
  intro H L x z X Q wf hx e q
  obtain ⟨ns, hb, rfl⟩ := Option.map_eq_some_iff.mp e
  obtain ⟨a, rfl, h⟩ := seqI_rd hx hb
  exact ⟨a, ns, rfl, h, fun ns' p h1 h2 hp => by rw [srt_eq h1 h2]; exact Kq.lst wf (VRs.ofInts _) q p hp⟩
theorem op1_srtR {K : PySem.W.Frag} : Op1 K (rSrt K true) gSrtR := by
  intro H L x z X Q wf hx e q
  obtain ⟨ns, hb, rfl⟩ := Option.map_eq_some_iff.mp e
  obtain ⟨a, rfl, h⟩ := seqI_rd hx hb
  exact ⟨a, ns, rfl, h, fun ns' p h1 h2 hp => by rw [srtR_eq h1 h2]; exact Kq.lst wf (VRs.ofInts _) q p hp⟩
/-- sorted(xs, reverse=True) -/
theorem se_sortedR {px : Pos} {kws : List Keyword} (hg : Gl X "sorted") (hm : X.mg "sorted" = none) (hK : X.K = p.K) (ha : SE p X a sa) (hk : PK X kws (tCons (tC (.bl true)) tNil)) (hs : starEach [a] X.env = (false, eval a X.env) :: starEach [] X.env)
    (he : backTo pos (starEach [a] X.env) = (false, eval a X.env) :: backTo pos (starEach [] X.env)) (hpl : (backTo pos (starEach [a] X.env)).any (·.1) = false)
    (hall : (backToKw pos (keywordEach kws X.env)).all (·.1.isSome) = true) (hnone : (backToKw pos (keywordEach kws X.env)).any (·.1.isNone) = false)
    (hks : (backToKw pos (keywordEach kws X.env)).filterMap (·.1) = [Str.ofString "reverse"]) : SE p X (.Call (.Name "sorted" px) [a] kws pos) (eCall1 gSrtR sa) :=
  pe_imp (pe_callBK (cr_srtRev (b := true)) hg hm bb_sorted (pa_cons ha pa_nil hs) hk (by decide) (by decide) he hpl hall hnone hks) fun σ H Q ⟨m, L, st, h⟩ => by
    refine tE_then st h fun v m1 x H1 L1 t ev h1 => ?_
    rw [hK]
    cases e : gSrtR v.v with
    | none => rw [e] at h1; exact h1.elim
    | some z => rw [e] at h1; exact ⟨rfl, op1_srtR H1 L1 v.v z x Q t.st.wf ev.rd e fun Z H' L' s wf r => RQ.new t.st h1 s wf r⟩
/-! ### max, min -/
def mxI : List Int → Int
  | [] => 0
  | x :: xs => xs.foldl max x
def mnI : List Int → Int
  | [] => 0
  | x :: xs => xs.foldl min x
theorem foldl_max_ge (xs : List Int) : ∀ x, x ≤ xs.foldl max x ∧ (∀ y ∈ xs, y ≤ xs.foldl max x) ∧ (xs.foldl max x = x ∨ xs.foldl max x ∈ xs) := by
  induction xs with
  | nil => intro x; simp
  | cons y ys ih =>
    intro x
    obtain ⟨h1, h2, h3⟩ := ih (max x y)
    refine ⟨?_, ?_, ?_⟩
    · exact Int.le_trans (Int.le_max_left x y) h1
    · intro z hz
      rcases List.mem_cons.mp hz with rfl | hz
      · exact Int.le_trans (Int.le_max_right x z) h1
      · exact h2 z hz
    · rw [List.foldl_cons]
      rcases h3 with h3 | h3
      · rw [h3]
        rcases Int.le_total x y with q | q
        · right; rw [Int.max_eq_right q]; exact List.mem_cons_self
        · left; exact Int.max_eq_left q
      · exact .inr (List.mem_cons_of_mem _ h3)
theorem foldl_min_le (xs : List Int) : ∀ x, xs.foldl min x ≤ x ∧ (∀ y ∈ xs, xs.foldl min x ≤ y) ∧ (xs.foldl min x = x ∨ xs.foldl min x ∈ xs) := by
  induction xs with
  | nil => intro x; simp
  | cons y ys ih =>
    intro x
    obtain ⟨h1, h2, h3⟩ := ih (min x y)
    refine ⟨?_, ?_, ?_⟩
    · exact Int.le_trans h1 (Int.min_le_left x y)
    · intro z hz
      rcases List.mem_cons.mp hz with rfl | hz
      · exact Int.le_trans h1 (Int.min_le_right x z)
      · exact h2 z hz
    · rw [List.foldl_cons]
      rcases h3 with h3 | h3
      · rw [h3]
        rcases Int.le_total x y with q | q
        · left; exact Int.min_eq_left q
        · right; rw [Int.min_eq_right q]; exact List.mem_cons_self
      · exact .inr (List.mem_cons_of_mem _ h3)
theorem mxI_ge {ns : List Int} {y : Int} (h : y ∈ ns) : y ≤ mxI ns := by
  cases ns with
  | nil => cases h
  | cons x xs =>
    obtain ⟨h1, h2, _⟩ := foldl_max_ge xs x
    rcases List.mem_cons.mp h with rfl | h
    · exact h1
    · exact h2 y h
theorem mnI_le {ns : List Int} {y : Int} (h : y ∈ ns) : mnI ns ≤ y := by
  cases ns with
  | nil => cases h
  | cons x xs =>
    obtain ⟨h1, h2, _⟩ := foldl_min_le xs x
    rcases List.mem_cons.mp h with rfl | h
    · exact h1
    · exact h2 y h
theorem mxI_mem {ns : List Int} (h : ns ≠ []) : mxI ns ∈ ns := by
  cases ns with
  | nil => exact absurd rfl h
  | cons x xs =>
    rcases (foldl_max_ge xs x).2.2 with h | h
    · show xs.foldl max x ∈ _; rw [h]; exact List.mem_cons_self
    · exact List.mem_cons_of_mem _ h
theorem mnI_mem {ns : List Int} (h : ns ≠ []) : mnI ns ∈ ns := by
  cases ns with
  | nil => exact absurd rfl h
  | cons x xs =>
    rcases (foldl_min_le xs x).2.2 with h | h
    · show xs.foldl min x ∈ _; rw [h]; exact List.mem_cons_self
    · exact List.mem_cons_of_mem _ h
@[simp] def gMax1 (v : PV) : Option EV := match seqI? v with
  | some ns => if ns = [] then none else some (.pv (.int (mxI ns)))
  | none => none
@[simp] def gMin1 (v : PV) : Option EV := match seqI? v with
  | some ns => if ns = [] then none else some (.pv (.int (mnI ns)))
  | none => none
theorem op1_max1 {K : PySem.W.Frag} : Op1 K (rMx K) gMax1 := by
  intro H L x z X Q wf hx e q
  unfold gMax1 at e
  split at e
  next ns hb =>
    split at e
    next => cases e
    next hne =>
      cases e
      obtain ⟨a, rfl, h⟩ := seqI_rd hx hb
      refine ⟨a, ns, rfl, h, List.length_pos_iff.mpr hne, fun m h1 h2 => ?_⟩
      have e : m = mxI ns := Int.le_antisymm (mxI_ge h1) (h2 _ (mxI_mem hne))
      rw [e]; exact Kq.pv wf (.int _) q
  next => cases e
theorem op1_min1 {K : PySem.W.Frag} : Op1 K (rMn K) gMin1 := by
  intro H L x z X Q wf hx e q
  unfold gMin1 at e
  split at e
  next ns hb =>
    split at e
    next => cases e
    next hne =>
      cases e
      obtain ⟨a, rfl, h⟩ := seqI_rd hx hb
      refine ⟨a, ns, rfl, h, List.length_pos_iff.mpr hne, fun m h1 h2 => ?_⟩
      have e : m = mnI ns := Int.le_antisymm (h2 _ (mnI_mem hne)) (mnI_le h1)
      rw [e]; exact Kq.pv wf (.int _) q
  next => cases e
/-! ### powers of great numbers -/
@[simp] def gPowB (x y : PV) : Option EV := gI (fun i j => if 0 ≤ j ∧ j ≤ 1000 ∧ fits i = true then some (.int (i ^ j.toNat)) else none) x y
theorem se_powB (ha : SE p X a sa) (hb : SE p X b sb) : SE p X (.BinOp a .Pow b pos) (eOp gPowB sa sb) := se_op (pe_op op_powB ha hb) (op2_I fun H i j v Q e q => by
  split at e
  next h => cases e; exact ⟨i, j, rfl, rfl, h, q _ fun L => .int _⟩
  next => cases e)
/-! ### isinstance -/
@[simp] def PV.tn : PV → Option String
  | .non => some "NoneType"
  | .bl _ => some "bool"
  | .int _ => some "int"
  | .str _ => some "str"
  | .tup _ => some "tuple"
  | .lst _ => some "list"
  | .dct _ => some "dict"
  | _ => none
@[simp] def isiV (v : PV) (n : String) : Option Bool := match v.tn with
  | some t => if n = "int" ∨ n = "bool" ∨ n = "tuple" ∨ n = "list" ∨ n = "str" ∨ n = "dict" then some (decide (t = n) || (decide (t = "bool") && decide (n = "int"))) else none
  | none => none
@[simp] def gIsi (v c : PV) : Option EV := match c with
  | .ty n => (isiV v n).map fun b => .pv (.bl b)
  | _ => none
theorem isi_kit {v : PV} {n : String} {r : Bool} (e : isiV v n = some r) : ∃ t, v.tn = some t ∧ kitB t n = some r := by
  unfold isiV at e
  split at e
  next t ht =>
    refine ⟨t, ht, ?_⟩
    split at e
    next hn =>
      cases e
      have h : t = "NoneType" ∨ t = "bool" ∨ t = "int" ∨ t = "str" ∨ t = "tuple" ∨ t = "list" ∨ t = "dict" := by
        cases v <;> simp at ht <;> subst ht <;> simp
      rcases h with rfl | rfl | rfl | rfl | rfl | rfl | rfl <;> rcases hn with rfl | rfl | rfl | rfl | rfl | rfl <;> decide +kernel
    next => cases e
  next => cases e
theorem tyx_of {K : PySem.W.Frag} {H : Hp} {L : Lv} {v : PV} {x : V} {t : String} (h : RdR K H L v x) (e : v.tn = some t) : TyX K H x (.type t) := by
  cases v <;> first | cases e | skip
  · cases h; exact .base .non
  · cases h; exact .base (.bl _)
  · cases h; exact .base (.int _)
  · cases h; exact .base (.str _)
  · obtain ⟨a, vs, rfl, e1, _, r⟩ := h.tup; let ⟨ob, e1, _⟩ := e1; exact .fTuple e1
  · obtain ⟨a, vs, rfl, e1, r⟩ := h.lst
    rcases e1 with (e1 | ⟨o, e1⟩) | e1
    · exact .base (.lst e1)
    · exact .base (.frz e1)
    · obtain ⟨o, its, n, hk, hc, _⟩ := e1; exact .kList hk hc
  · obtain ⟨a, kws, rfl, e1, r⟩ := h
    rcases e1 with e1 | ⟨o, e1⟩
    · exact .base (.dK e1)
    · exact .fDict e1
theorem op1b_isi {K : PySem.W.Frag} : Op1b K (rIsi K) gIsi := by
  intro H L x y z X Y Q wf hx hy e q
  cases y <;> first | cases e | skip
  next n =>
    obtain ⟨r, hr, rfl⟩ := Option.map_eq_some_iff.mp (show (isiV x n).map (fun b => EV.pv (.bl b)) = some z from e)
    obtain ⟨t, ht, hk⟩ := isi_kit hr
    cases hy
    exact ⟨X, .ty n, .type t, .type n, r, rfl, .ty n, tyx_of hx ht, kit_ty hk, Kq.pv wf (.bl _) q⟩
theorem se_tyN {x : Str} {n : String} (hg : Gl X x) (hm : X.mg x = none) (hv : bootBuiltins x = some (.type n)) (hn : x ≠ "__name__") (hd : (x == ("__debug__" : Str)) = false) : SE p X (.Name x pos) (eC (.ty n)) := se_glob (pe_bltn hg hm hv (v := .ty n) rfl hn hd) fun _ _ => .ty _
end
end Sd
end
section
set_option Elab.async false
set_option linter.all false
set_option maxRecDepth 100000
set_option maxHeartbeats 4000000
namespace Sd
open PySem PySem.Spec PyProof.Rows L2
/-! ### xs[a:b:k], a list -/
/-- the places that a slice takes -/
def pickN (n : Nat) (lo hi st : Option Int) : List Nat := sliceRange (sliceBounds lo hi st n).1 (sliceBounds lo hi st n).2.1 (sliceBounds lo hi st n).2.2
def pickL {α : Type} (xs : List α) (lo hi st : Option Int) : List α := (pickN xs.length lo hi st).filterMap (xs[·]?)
theorem slicePick_eq (its : List Value) (lo hi st : Option Int) : slicePick its.toArray lo hi st = (pickL its lo hi st).toArray := by
  unfold slicePick pickL pickN
  simp
theorem pickL_length {α : Type} (xs : List α) (lo hi st : Option Int) : (pickL xs lo hi st).length ≤ (pickN xs.length lo hi st).length := List.length_filterMap_le ..
theorem filterMap_len {α β : Type} {xs : List α} {ys : List β} (h : xs.length = ys.length) : ∀ ks : List Nat, (ks.filterMap (xs[·]?)).length = (ks.filterMap (ys[·]?)).length
  | [] => rfl
  | k :: ks => by
    have ih := filterMap_len h ks
    by_cases q : k < xs.length
    · rw [List.filterMap_cons, List.filterMap_cons, List.getElem?_eq_getElem q, List.getElem?_eq_getElem (h ▸ q)]
      simp only [List.length_cons, ih]
    · rw [List.filterMap_cons, List.filterMap_cons, List.getElem?_eq_none (by omega), List.getElem?_eq_none (by omega)]
      exact ih
theorem pickL_le (xs : List V) (its : List Value) (h : xs.length = its.length) (lo hi st : Option Int) : (pickL xs lo hi st).length ≤ xs.length := by
  have h1 := slicePick_size_le its.toArray lo hi st
  rw [slicePick_eq, List.size_toArray, List.size_toArray] at h1
  have h2 := filterMap_len h (pickN xs.length lo hi st)
  unfold pickL at h1 ⊢
  rw [h2, h]
  exact h1
theorem vals_pick {xs : List V} {us : List Value} (h : Vals xs us) : ∀ ks : List Nat, Vals (ks.filterMap (xs[·]?)) (ks.filterMap (us[·]?))
  | [] => .nil
  | k :: ks => by
    by_cases q : k < xs.length
    · obtain ⟨u, hu, r⟩ := h.get (List.getElem?_eq_getElem q)
      rw [List.filterMap_cons, List.filterMap_cons, List.getElem?_eq_getElem q, hu]
      exact .cons r (vals_pick h ks)
    · have hl := h.length
      rw [List.filterMap_cons, List.filterMap_cons, List.getElem?_eq_none (by omega), List.getElem?_eq_none (by omega)]
      exact vals_pick h ks
theorem VRs.pick {K : PySem.W.Frag} {H : Hp} {L : Lv} {xs : List PV} {us : List V} (h : VRs K H L xs us) : ∀ ks : List Nat, VRs K H L (ks.filterMap (xs[·]?)) (ks.filterMap (us[·]?))
  | [] => .nil
  | k :: ks => by
    by_cases q : k < xs.length
    · obtain ⟨u, hu, r⟩ := h.get (List.getElem?_eq_getElem q)
      rw [List.filterMap_cons, List.filterMap_cons, List.getElem?_eq_getElem q, hu]
      exact .cons r (VRs.pick h ks)
    · have hl := h.length
      rw [List.filterMap_cons, List.filterMap_cons, List.getElem?_eq_none (by omega), List.getElem?_eq_none (by omega)]
      exact VRs.pick h ks
section
variable {p : Pm} {X : Cx} {e : Expr} {lo hi st : Option Expr} {te : TE} {tl th ts : TO} {pos p3 : Pos}
def tSl3 (K : PySem.W.Frag) (te : TE) (tl th ts : TO) : TE := fun σ H Q => te σ H fun x H1 => tl σ H1 fun l H2 => th σ H2 fun u H3 => ts σ H3 fun k H4 => ∃ a xs, x = .ref a ∧ SqL K H4 a xs ∧ k ≠ some 0 ∧ ∀ p, H4 p = none → Q (.ref p) (upd H4 p (.lst (pickL xs l u k)))
theorem pe_slice3 {ops : Value → Value → List Value} (he : PE X e te) (hl : PO X lo tl) (hu : PO X hi th) (hs : PO X st ts)
    (ht : ∀ o i : Value, subscripted (.Slice lo hi st p3) false o i = operate (ops o i) (getItem o i)) : PE X (.Subscript e (.Slice lo hi st p3) pos) (tSl3 X.K te tl th ts) := by
  refine ⟨fun pins s σ H Q I h => ?_⟩
  refine Subscript_ (thn (he.run pins s σ H _ I h) fun v s1 ⟨x, H1, I1, r1, q1⟩ => ?_)
  refine wpAny_Slice (thn (hl.run pins s1 σ H1 _ I1 q1) fun vl s2 ⟨l, H2, I2, pl, q2⟩ => thn (hu.run pins s2 σ H2 _ I2 q2) fun vu s3 ⟨u, H3, I3, pu, q3⟩ => thn (hs.run pins s3 σ H3 _ I3 q3) fun vs s4 ⟨k, H4, I4, ps, q4⟩ => ?_)
  obtain ⟨a, xs, rfl, hx, h0, q⟩ := q4
  cases r1
  have I5 : Inv X pins σ H4 { s4 with heap := s4.heap.push { cls := .type "slice", data := .fields #[vl, vu, vs] } } := I4.kept (t' := s4.toks) fun b ob q => Heap.get?_push_of_some _ q
  obtain ⟨its, r, hit, hz⟩ := I5.list hx
  have hlen := r.length
  refine tail_any hit.isList.typeIs (PySem.slot_list_getitem.lookup) ?_ (ht _ _)
  refine wpAny_getItem_list_slice hit.isList (Heap.IsSliceOf.new _ vl vu vs) pl pu ps h0 ?_ (by rw [List.size_toArray]; omega)
  rw [slicePick_eq]
  refine ⟨.ref _, _, I5.laid (t' := s4.toks) (o := .lst (pickL xs l u k)) (fun b ob q => Heap.get?_push_of_some _ q) (Nat.le_refl _) ?_, rfl, q _ (I5.hok.fresh (Nat.le_refl _))⟩
  refine ⟨Nat.le_trans (pickL_le xs its hlen l u k) hz, _, 0, ?_, Heap.get?_push_size _ rfl⟩
  unfold pickL
  rw [hlen]
  exact vals_pick r _
@[simp] def eCut3 (s : List Sl → Res EV) (lo hi st : Option (List Sl → Res EV)) (m : List Sl) : Res EV := (s m).bind fun x m1 => (ePart lo m1).bind fun l m2 => (ePart hi m2).bind fun u m3 => (ePart st m3).bind fun k m4 => match x.v with
  | .lst xs => if k = some 0 then .stuck else .ok (.nw (.lst (pickL xs l u k))) m4
  | _ => .stuck
theorem se_cut3 {s : List Sl → Res EV} {sl sh ss : Option (List Sl → Res EV)} {ops : Value → Value → List Value} (hk : X.K = p.K) (he : SE p X e s) (hl : SPo p X lo sl) (hu : SPo p X hi sh) (hs : SPo p X st ss)
    (ht : ∀ o i : Value, subscripted (.Slice lo hi st p3) false o i = operate (ops o i) (getItem o i)) : SE p X (.Subscript e (.Slice lo hi st p3) pos) (eCut3 s sl sh ss) := by
  obtain ⟨tl, pl, kl⟩ := hl
  obtain ⟨tu, pu, ku⟩ := hu
  obtain ⟨ts, ps, ks⟩ := hs
  refine pe_imp (pe_slice3 he pl pu ps ht) fun σ H Q ⟨m, L, st, h⟩ => ?_
  refine tE_then st h fun v m1 x H1 L1 t ev h1 => ?_
  refine kl m1 L1 σ H1 Q _ _ t.st h1 fun l m2 H2 L2 t2 h2 => ?_
  refine ku m2 L2 σ H2 Q _ _ t2.st h2 fun u m3 H3 L3 t3 h3 => ?_
  refine ks m3 L3 σ H3 Q _ _ t3.st h3 fun k m4 H4 L4 t4 h4 => ?_
  have ev' := (ev.over st t (t2.trans (t3.trans t4))).rd
  split at h4
  next xs e =>
    split at h4
    next => exact h4.elim
    next h0 =>
      rw [e] at ev'
      obtain ⟨a, vs, rfl, e1, rr⟩ := ev'.lst
      rw [hk]
      refine ⟨a, vs, rfl, e1, h0, Kq.lst t4.st.wf ?_ fun Z H' L' s wf r => RQ.new t4.st h4 s wf r⟩
      unfold pickL
      rw [← rr.length]
      exact rr.pick _
  next => exact h4.elim
end
end Sd
end
section
set_option Elab.async false
set_option linter.all false
set_option maxRecDepth 100000
set_option maxHeartbeats 4000000
namespace Sd
open PySem PySem.Spec PyProof.Rows L2
/-! ### dicts -/
@[simp] def keyP : PV → Option Key
  | .int i => some (.inl i)
  | .str x => some (.inr x)
  | _ => none
@[simp] def pvK : Key → PV
  | .inl i => .int i
  | .inr x => .str x
def valP : List (Key × PV) → Key → Option PV
  | [], _ => none
  | (j, v) :: r, k => if j = k then some v else valP r k
def setP : List (Key × PV) → Key → PV → List (Key × PV)
  | [], _, _ => []
  | (j, u) :: r, k, v => if j = k then (j, v) :: setP r k v else (j, u) :: setP r k v
def putP (kvs : List (Key × PV)) (k : Key) (v : PV) : List (Key × PV) := if (valP kvs k).isSome then setP kvs k v else kvs ++ [(k, v)]
section
variable {K : PySem.W.Frag} {H : Hp} {L : Lv}
theorem VRk.length : ∀ {kvs : List (Key × PV)} {kws : List (Key × V)}, VRk K H L kvs kws → kvs.length = kws.length
  | _, _, .nil => rfl
  | _, _, .cons _ t => congrArg (· + 1) (VRk.length t)
theorem VRk.some {k : Key} : ∀ {kvs : List (Key × PV)} {kws : List (Key × V)} {v : PV}, VRk K H L kvs kws → valP kvs k = some v → ∃ x, valV kws k = some x ∧ VR K H L v x
  | _, _, _, .nil, e => by cases e
  | (j, u) :: r, (_, y) :: s, v, .cons h t, e => by
    unfold valP at e
    split at e
    next q => cases e; exact ⟨y, valV_pos q, h⟩
    next q =>
      obtain ⟨x, e1, e2⟩ := VRk.some t e
      exact ⟨x, by rw [valV_neg (p := (j, y)) q]; exact e1, e2⟩
theorem VRk.none {k : Key} : ∀ {kvs : List (Key × PV)} {kws : List (Key × V)}, VRk K H L kvs kws → valP kvs k = none → valV kws k = none
  | _, _, .nil, e => rfl
  | (j, u) :: r, (_, y) :: s, .cons h t, e => by
    unfold valP at e
    split at e
    next q => cases e
    next q => rw [valV_neg (p := (j, y)) q]; exact VRk.none t e
theorem VRk.isSome {k : Key} {kvs : List (Key × PV)} {kws : List (Key × V)} (h : VRk K H L kvs kws) : (valV kws k).isSome = (valP kvs k).isSome := by
  cases e : valP kvs k with
  | none => rw [h.none e]; rfl
  | some v => obtain ⟨x, e1, _⟩ := h.some e; rw [e1]; rfl
theorem VRk.set {k : Key} {v : PV} {x : V} (r : VR K H L v x) : ∀ {kvs : List (Key × PV)} {kws : List (Key × V)}, VRk K H L kvs kws → VRk K H L (setP kvs k v) (kws.map fun kv => if kv.1 = k then (kv.1, x) else kv)
  | _, _, .nil => .nil
  | (j, u) :: q, (_, y) :: s, .cons h t => by
    unfold setP
    rw [List.map_cons]
    by_cases e : j = k
    · simp only [e, if_true]; exact .cons r (VRk.set r t)
    · simp only [e, if_false]; exact .cons h (VRk.set r t)
theorem VRk.append : ∀ {a b : List (Key × PV)} {x y : List (Key × V)}, VRk K H L a x → VRk K H L b y → VRk K H L (a ++ b) (x ++ y)
  | _, _, _, _, .nil, s => s
  | _, _, _, _, .cons h t, s => .cons h (VRk.append t s)
theorem VRk.put {k : Key} {v : PV} {x : V} {kvs : List (Key × PV)} {kws : List (Key × V)} (h : VRk K H L kvs kws) (r : VR K H L v x) : VRk K H L (putP kvs k v) (putK kws k x) := by
  unfold putP putK
  rw [valV_any, h.isSome]
  split
  · exact h.set r
  · exact h.append (.cons r .nil)
theorem VR.key {v : PV} {x : V} {k : Key} (h : RdR K H L v x) (e : keyP v = some k) : x = kV k := by
  cases v <;> first | cases e | skip
  · cases h; rfl
  · cases h; rfl
theorem VR.ofKey (k : Key) : VR K H L (pvK k) (kV k) := by
  cases k with
  | inl i => exact .int i
  | inr x => exact .str x
end
section
variable {p : Pm} {X : Cx} {a b o i value : Expr} {sa sb : List Sl → Res EV} {pos pos' : Pos} {m m1 : List Sl} {σ σ1 : L2.St} {H H1 : Hp} {L L1 : Lv}
/-- {} -/
@[simp] def eDnew (m : List Sl) : Res EV := .ok (.nw (.dct [])) m
theorem Kq.dct {K : PySem.W.Frag} {H : Hp} {L : Lv} {kvs : List (Key × PV)} {kws : List (Key × V)} {Q : VK} (wf : ∀ a, L a → H a ≠ none) (r : VRk K H L kvs kws) (q : Kq K H L (.nw (.dct kvs)) Q) : ∀ p, H p = none → Q (.ref p) (upd H p (.dK kws)) := fun p hp => by
  refine q _ _ _ (stp_new hp) (wf_new wf) ?_
  exact ⟨p, rfl, hp, .inr rfl, kws, upd_same, r.mono (stp_new hp)⟩
theorem se_dnew : SE p X (.Dict [] [] pos) eDnew := pe_imp pe_dnewK fun σ H Q ⟨m, L, st, h⟩ => Kq.dct st.wf .nil fun Z H' L' s wf r => RQ.new st h s wf r
/-- d[k], d in a slot -/
@[simp] def gDGet (x y : PV) : Option EV := match x, keyP y with
  | .dct kvs, some k => (valP kvs k).map .pv
  | _, _ => none
def rDGet : R2 := fun x y H Q => ∃ a v, x = .ref a ∧ DGet H a y (some v) ∧ Q v H
theorem op2_dget {K : PySem.W.Frag} : Op2 K rDGet gDGet := by
  intro H L x y z X Y Q wf hx hy e q
  unfold gDGet at e
  split at e
  next kvs k ek =>
    obtain ⟨v, ev, rfl⟩ := Option.map_eq_some_iff.mp e
    obtain ⟨a, kws, rfl, e1, r⟩ := hx
    obtain ⟨u, eu, ru⟩ := r.some ev
    exact ⟨a, u, rfl, .inl ⟨kws, k, e1, VR.key hy ek, eu.symm⟩, Kq.pv wf ru q⟩
  next => cases e
theorem se_dgetP {k : Nat} (hu : X.A.units + 1 < cLine) (ho : PE X o (tVar k)) (hi : SE p X i sb) (hs : NoSl i) : SE p X (.Subscript o i pos) (eOpP gDGet k sb) := se_opP (r := rDGet) (pe_dget hu ho hi hs) op2_dget
theorem se_dget (hu : X.A.units + 1 < cLine) (ho : SE p X o sa) (hi : SE p X i sb) (hs : NoSl i) : SE p X (.Subscript o i pos) (eOp gDGet sa sb) := se_op (r := rDGet) (pe_dget hu ho hi hs) op2_dget
/-- k in d -/
@[simp] def gDIn (neg : Bool) (y x : PV) : Option EV := match x, keyP y with
  | .dct kvs, some k => some (.pv (.bl (neg ^^ (valP kvs k).isSome)))
  | _, _ => none
/-- an expression, then a slot looked at -/
@[simp] def eInP (g : PV → PV → Option EV) (sa : List Sl → Res EV) (k : Nat) (m : List Sl) : Res EV := (sa m).bind fun v m1 => match slotv m1 k with
  | some w => match g v.v w with
    | some z => .ok z m1
    | none => .stuck
  | none => .stuck
theorem tE_din {neg : Bool} {k : Nat} {t : TE} (ht : t = if neg then tDNotIn (tE p sa) (tVar k) else tDIn (tE p sa) (tVar k)) : ∀ σ H Q, tE p (eInP (gDIn neg) sa k) σ H Q → t σ H Q := fun σ H Q ⟨m, L, st, h⟩ => by
  have key : ∀ (R : VK), (∀ y H1, (∃ x, σ[k]? = some (some x) ∧ ∃ a o, x = .ref a ∧ DGet H1 a y o ∧ Q (.bl (neg ^^ o.isSome)) H1) → R y H1) → tE p sa σ H R := fun R hR => by
    refine tE_then st h fun v m1 y H1 L1 t ev h1 => hR y H1 ?_
    split at h1
    next w ew =>
      obtain ⟨x, ex, rx⟩ := t.st.slot ew
      cases e : gDIn neg v.v w with
      | none => rw [e] at h1; exact h1.elim
      | some z =>
        rw [e] at h1
        unfold gDIn at e
        split at e
        next kvs k' ek =>
          cases e
          obtain ⟨a, kws, rfl, e1, r⟩ := rx
          refine ⟨_, ex, a, valV kws k', rfl, .inl ⟨kws, k', e1, VR.key ev.rd ek, rfl⟩, ?_⟩
          rw [r.isSome]
          exact RQ.pv t.st h1 (.bl _)
        next => cases e
    next => exact h1.elim
  subst ht
  cases neg with
  | true => exact key _ fun y H1 ⟨x, ex, a, o, e1, e2, e3⟩ => ⟨x, ex, a, o, e1, e2, by simpa using e3⟩
  | false => exact key _ fun y H1 ⟨x, ex, a, o, e1, e2, e3⟩ => ⟨x, ex, a, o, e1, e2, by simpa using e3⟩
theorem se_din {k : Nat} (hu : X.A.units + 1 < cLine) (hi : SE p X i sa) (ho : PE X o (tVar k)) (hm : behindInMarks .In o = false) : SE p X (.Compare i [.In] [o] pos) (eInP (gDIn false) sa k) := pe_imp (pe_cmp (pc_din hu hi ho) hm) (tE_din rfl)
theorem se_dnotin {k : Nat} (hu : X.A.units + 1 < cLine) (hi : SE p X i sa) (ho : PE X o (tVar k)) (hm : behindInMarks .NotIn o = false) : SE p X (.Compare i [.NotIn] [o] pos) (eInP (gDIn true) sa k) := pe_imp (pe_cmp (pc_dnotin hu hi ho) hm) (tE_din rfl)
theorem st_din {k : Nat} (hu : X.A.units + 1 < cLine) (hi : SE p X i sa) (ho : PE X o (tVar k)) (hm : behindInMarks .In o = false) : ST p X (.Compare i [.In] [o] pos) (sBool (eInP (gDIn false) sa k)) := st_bool (te := tDIn (tE p sa) (tVar k)) (pt_cmp (pc_din hu hi ho) hm) (tE_din rfl)
theorem st_dnotin {k : Nat} (hu : X.A.units + 1 < cLine) (hi : SE p X i sa) (ho : PE X o (tVar k)) (hm : behindInMarks .NotIn o = false) : ST p X (.Compare i [.NotIn] [o] pos) (sBool (eInP (gDIn true) sa k)) := st_bool (te := tDNotIn (tE p sa) (tVar k)) (pt_cmp (pc_dnotin hu hi ho) hm) (tE_din rfl)
/-- d[k] = v -/
@[simp] def dDPut (k : Nat) (si sv : List Sl → Res EV) (m : List Sl) : SRes := dBind (sv m) fun v m1 => match cellv m1 k with
  | some (.dct _) => dBind (si m1) fun i m2 => match cellv m2 k, keyP i.v with
    | some (.dct kvs), some j => if kvs.length < big then .nx (upSl m2 k (.dct (putP kvs j v.v))) else .stuck
    | _, _ => .stuck
  | _ => .stuck
theorem ss_dput {k : Nat} {si sv : List Sl → Res EV} (hu : X.A.units + 1 < cLine) (ho : PE X o (tVar k)) (hi : SE p X i si) (hv : SE p X value sv) (hs : swapsWith value (some (.Subscript o i pos')) pos.line X.env = pure false) :
    SS p X (.Assign [.Subscript o i pos'] value pos) (dDPut k si sv) := ps_imp (ps_dput hu ho hi hv hs) fun D σ H ⟨m, L, st, h⟩ => by
  refine ⟨m, L, st, ?_⟩
  unfold dDPut at h
  cases e : sv m with
  | exc c m1 => rw [e] at h; exact fun cls d H' L' t ex => h cls d σ H' L' t.w ex
  | stuck => rw [e] at h; exact h
  | ok v m1 =>
    rw [e, dBind_ok] at h
    intro x H1 L1 t ev
    split at h
    next kvs0 e0 =>
      obtain ⟨a, ea, c0, l0, r0⟩ := t.st.cell e0
      refine ⟨.ref a, ea, m1, L1, t.st, ?_⟩
      cases e2 : si m1 with
      | exc c m2 => rw [e2] at h; exact fun cls d H' L' t2 ex => h cls d σ H' L' (t.trans t2).w ex
      | stuck => rw [e2] at h; exact h
      | ok i m2 =>
        rw [e2, dBind_ok] at h
        intro y H2 L2 t2 ev2
        have ev' := ev.over st t t2
        obtain ⟨L', t', rv⟩ := ev'.froze st (t.trans t2)
        have ri := ev2.rd
        split at h
        next kvs j e3 e4 =>
          obtain ⟨b, eb, c1, l1, kws, evs, rvs⟩ := t'.st.cell e3
          rw [ea] at eb
          cases eb
          split at h
          next hz =>
            refine ⟨a, _, rfl, .inl ⟨kws, j, evs, VR.key ri e4, by rw [big_eq, ← rvs.length]; exact hz, rfl⟩, ?_⟩
            have s : Stp (fun b => b = a) H2 L' (upd H2 a (.dK (putK kws j x))) L' := stp_write l1
            exact h _ _ L' (t'.write (o := .dct (putP kvs j v.v)) (ho := .dK (putK kws j x)) c1 ea l1 ⟨_, upd_same, (rvs.put rv).mono s⟩).w
          next => exact h.elim
        next => exact h.elim
    next => exact h.elim
/-- dict([(k, v), ..]) -/
def pairP : PV → Option (Key × PV)
  | .tup [k, v] => (keyP k).map fun k => (k, v)
  | _ => none
def pairsP : List PV → Option (List (Key × PV))
  | [] => some []
  | x :: xs => match pairP x, pairsP xs with
    | some y, some ys => some (y :: ys)
    | _, _ => none
def mergeP (kvs more : List (Key × PV)) : List (Key × PV) := more.foldl (fun acc kv => putP acc kv.1 kv.2) kvs
@[simp] def gDict (x : PV) : Option EV := match x with
  | .lst xs => (pairsP xs).map fun kvs => .nw (.dct (mergeP [] kvs))
  | _ => none
theorem VRk.merge {K : PySem.W.Frag} {H : Hp} {L : Lv} : ∀ {more : List (Key × PV)} {mw : List (Key × V)} {kvs : List (Key × PV)} {kws : List (Key × V)}, VRk K H L more mw → VRk K H L kvs kws → VRk K H L (mergeP kvs more) (mergeK kws mw)
  | _, _, _, _, .nil, s => s
  | (k, v) :: r, (_, x) :: q, kvs, kws, .cons h t, s => by
    unfold mergeP mergeK
    rw [List.foldl_cons, List.foldl_cons]
    exact VRk.merge t (s.put h)
theorem pairs_rel {K : PySem.W.Frag} {H : Hp} {L : Lv} : ∀ {xs : List PV} {vs : List V} {kvs : List (Key × PV)}, VRs K H L xs vs → pairsP xs = some kvs → ∃ (ps : List Addr) (kws : List (Key × V)), vs = ps.map V.ref ∧ Paired (fun p kv => SqT K H p [kV kv.1, kv.2]) ps kws ∧ VRk K H L kvs kws
  | _, _, _, .nil, e => by cases e; exact ⟨[], [], rfl, .nil, .nil⟩
  | x :: xs, _, kvs, .cons h t, e => by
    unfold pairsP at e
    split at e
    next y ys e1 e2 =>
      cases e
      obtain ⟨ps, kws, rfl, hp, hr⟩ := pairs_rel t e2
      unfold pairP at e1
      split at e1
      next k v =>
        obtain ⟨k', ek, rfl⟩ := Option.map_eq_some_iff.mp e1
        cases h with
        | tup ea n rs =>
          cases rs with
          | cons r1 rs =>
            cases rs with
            | cons r2 rs =>
              cases rs
              have := VR.key r1.rd ek
              subst this
              exact ⟨_ :: ps, (k', _) :: kws, rfl, .cons (ea.sq) hp, .cons r2 hr⟩
      next => cases e1
    next => cases e
theorem op1_dict {K : PySem.W.Frag} : Op1 K (fun xs H Q => ∃ (a : Addr) (ps : List Addr) (kvs : List (Key × V)), xs = [.ref a] ∧ SqL K H a (ps.map V.ref) ∧ Paired (fun p kv => SqT K H p [kV kv.1, kv.2]) ps kvs ∧
    ∀ p, H p = none → Q (.ref p) (upd H p (.dK (mergeK [] kvs)))) gDict := by
  intro H L x z X Q wf hx e q
  cases x <;> first | cases e | skip
  next xs =>
    obtain ⟨kvs, hb, rfl⟩ := Option.map_eq_some_iff.mp (show (pairsP xs).map (fun kvs => EV.nw (.dct (mergeP [] kvs))) = some z from e)
    obtain ⟨a, vs, rfl, e1, r⟩ := hx.lst
    obtain ⟨ps, kws, rfl, hp, hr⟩ := pairs_rel r hb
    exact ⟨a, ps, kws, rfl, e1, hp, Kq.dct wf (hr.merge .nil) q⟩
theorem bb_dict : bootBuiltins "dict" = some (.type "dict") := by decide +kernel
theorem bb_enumerate : bootBuiltins "enumerate" = some (.type "enumerate") := by decide +kernel
end
end Sd
end
section
set_option Elab.async false
set_option linter.all false
set_option maxRecDepth 100000
set_option maxHeartbeats 4000000
namespace Sd
open PySem PySem.Spec PyProof.Rows L2
/-! ### a dict that is gone through stands still meanwhile -/
def LkEq (d : Addr) (H H1 : Hp) : Prop := (∀ a, a ≠ d → H1 a = H a) ∧ ∃ kws od, (H d = some (.dK kws) ∧ H1 d = some (.frz od (.dK kws))) ∨ (H d = some (.frz od (.dK kws)) ∧ H1 d = some (.dK kws))
section
variable {K : PySem.W.Frag} {H H1 : Hp} {L : Lv} {d : Addr}
theorem LkEq.rd {a : Addr} {u : HO} (h : LkEq d H H1) (hu : ∀ o w, u ≠ .frz o w) (r : Rd H a u) : Rd H1 a u := by
  by_cases e : a = d
  · subst e
    obtain ⟨_, kws, od, h | h⟩ := h
    · rcases r with r | ⟨o, r⟩
      · rw [h.1] at r; cases r; exact .inr ⟨od, h.2⟩
      · rw [h.1] at r; cases r
    · rcases r with r | ⟨o, r⟩
      · rw [h.1] at r; cases r; exact absurd rfl (hu _ _)
      · rw [h.1] at r; cases r; exact .inl h.2
  · rcases r with r | ⟨o, r⟩
    · exact .inl (by rw [h.1 a e]; exact r)
    · exact .inr ⟨o, by rw [h.1 a e]; exact r⟩
theorem LkEq.ne {a : Addr} {vs : List V} (h : LkEq d H H1) (e : H a = some (.tup vs)) : a ≠ d := fun z => by
  subst z
  obtain ⟨_, kws, od, h | h⟩ := h <;> (rw [h.1] at e; cases e)
theorem SqN.lk {a : Addr} {vs : List V} (h : LkEq d H H1) (e : SqN K H L a vs) : SqN K H1 L a vs := by
  rcases e with ⟨e, n⟩ | e
  · exact .inl ⟨h.rd (fun _ _ z => nomatch z) e, n⟩
  · exact .inr e
theorem LkEq.rdK {a : Addr} {kws : List (Key × V)} (h : LkEq d H H1) (e : Rd H a (.dK kws)) : Rd H1 a (.dK kws) := h.rd (fun _ _ z => nomatch z) e
theorem LkEq.tf {a : Addr} {vs : List V} (h : LkEq d H H1) (e : TupF H a vs) : TupF H1 a vs := by
  obtain ⟨ob, e, hd⟩ := e
  have n : a ≠ d := fun z => by
    subst z
    obtain ⟨_, kws, od, h | h⟩ := h <;> (rw [h.1] at e; cases e)
  exact ⟨ob, by rw [h.1 a n]; exact e, hd⟩
theorem LkEq.tp {a : Addr} {vs : List V} (h : LkEq d H H1) (e : H a = some (.tup vs)) : H1 a = some (.tup vs) := by rw [h.1 _ (h.ne e)]; exact e
mutual
theorem VR.lk (h : LkEq d H H1) : ∀ {v : PV} {x : V}, VR K H L v x → VR K H1 L v x
  | _, _, .non => .non
  | _, _, .bl b => .bl b
  | _, _, .int i => .int i
  | _, _, .str x => .str x
  | _, _, .ty n => .ty n
  | _, _, .tup e n r => .tup (h.tf e) n (VRs.lk h r)
  | _, _, .tpl e n r => .tpl (h.tp e) n (VRs.lk h r)
  | _, _, .lst e r => .lst (SqN.lk h e) (VRs.lk h r)
  | _, _, .dct e n r => .dct (h.rdK e) n (VRk.lk h r)
theorem VRs.lk (h : LkEq d H H1) : ∀ {vs : List PV} {xs : List V}, VRs K H L vs xs → VRs K H1 L vs xs
  | _, _, .nil => .nil
  | _, _, .cons r t => .cons (VR.lk h r) (VRs.lk h t)
theorem VRk.lk (h : LkEq d H H1) : ∀ {vs : List (Key × PV)} {xs : List (Key × V)}, VRk K H L vs xs → VRk K H1 L vs xs
  | _, _, .nil => .nil
  | _, _, .cons r t => .cons (VR.lk h r) (VRk.lk h t)
end
theorem ObR.lk {o : Ob} {a : Addr} (h : LkEq d H H1) (n : a ≠ d) (r : ObR K H L o a) : ObR K H1 L o a := by
  cases o with
  | lst xs => obtain ⟨vs, e, r⟩ := r; exact ⟨vs, by rw [h.1 a n]; exact e, r.lk h⟩
  | dct xs => obtain ⟨vs, e, r⟩ := r; exact ⟨vs, by rw [h.1 a n]; exact e, r.lk h⟩
theorem LkEq.some {a : Addr} (h : LkEq d H H1) (e : H a ≠ none) : H1 a ≠ none := by
  by_cases q : a = d
  · subst q; obtain ⟨_, kws, od, h | h⟩ := h <;> (rw [h.2]; simp)
  · rw [h.1 a q]; exact e
theorem StR.lk {B : Nat → Option Addr} {m : List Sl} {σ : L2.St} (h : LkEq d H H1) (n : ¬ L d) (st : StR K B m σ H L) : StR K B m σ H1 L := by
  refine ⟨st.len, fun i sl x e1 e2 => ?_, st.ne, fun a la => h.some (st.wf a la), st.lent⟩
  have k := st.ok i sl x e1 e2
  cases sl with
  | un => trivial
  | pv v => obtain ⟨y, e, r⟩ := k; exact ⟨y, e, r.lk h⟩
  | own o => obtain ⟨a, e, l, b, r⟩ := k; exact ⟨a, e, l, b, r.lk h fun z => n (z ▸ l)⟩
  | bor o => obtain ⟨a, e, l, b, r⟩ := k; exact ⟨a, e, l, b, r.lk h fun z => n (z ▸ l)⟩
  | lck kvs a =>
    obtain ⟨e, l, b, od, kws, r, rk⟩ := k
    exact ⟨e, l, b, od, kws, by rw [h.1 a fun z => n (z ▸ l)]; exact r, VRk.lk h rk⟩
theorem jr_keys {od : Obj} {kvs : List (Key × PV)} {kws : List (Key × V)} (e : H d = some (.frz od (.dK kws))) (n : ¬ L d) (r : VRk K H L kvs kws) : JR K (Itk d od kws) (kvs.map fun kv => pvK kv.1) H L := fun H2 L2 s wf => by
  have hd := (s.stay _ _ e n).1
  have keys : ∀ {kvs : List (Key × PV)} {kws : List (Key × V)} (i : Nat) (k : Key) (v : V), VRk K H L kvs kws → kws[i]? = some (k, v) → ∃ w, kvs[i]? = some (k, w) := fun {kvs kws} i k v r hk => by
    induction i generalizing kvs kws with
    | zero => cases r with
      | nil => simp at hk
      | cons h t => simp at hk; obtain ⟨rfl, rfl⟩ := hk; exact ⟨_, rfl⟩
    | succ i ih => cases r with
      | nil => simp at hk
      | cons h t => simp at hk; obtain ⟨w, hw⟩ := ih t hk; exact ⟨w, by simpa using hw⟩
  refine ⟨fun i v hv => ?_, fun i hi => ⟨hd, by rw [← r.length]; simpa using hi⟩⟩
  have hi : i < kvs.length := by simpa using (List.getElem?_eq_some_iff.mp hv).1
  refine ⟨⟨hd, by rw [← r.length]; exact hi⟩, fun x H' ⟨e1, k, w, hk, ex⟩ => ?_⟩
  subst e1 ex
  refine ⟨.refl _ _ _, ?_⟩
  obtain ⟨w', hw⟩ := keys i k w r hk
  rw [List.getElem?_map, hw] at hv
  cases hv
  exact VR.ofKey k
theorem jr_items {od : Obj} {kvs : List (Key × PV)} {kws : List (Key × V)} (e : H d = some (.frz od (.dK kws))) (n : ¬ L d) (r : VRk K H L kvs kws) : JR K (Iti d od kws) (kvs.map fun kv => .tpl [pvK kv.1, kv.2]) H L := fun H2 L2 s wf => by
  have hd := (s.stay _ _ e n).1
  have keys : ∀ {kvs : List (Key × PV)} {kws : List (Key × V)} (i : Nat) (k : Key) (v : V), VRk K H2 L2 kvs kws → kws[i]? = some (k, v) → ∃ w, kvs[i]? = some (k, w) ∧ VR K H2 L2 w v := fun {kvs kws} i k v r hk => by
    induction i generalizing kvs kws with
    | zero => cases r with
      | nil => simp at hk
      | cons h t => simp at hk; obtain ⟨rfl, rfl⟩ := hk; exact ⟨_, rfl, h⟩
    | succ i ih => cases r with
      | nil => simp at hk
      | cons h t => simp at hk; obtain ⟨w, hw, q⟩ := ih t hk; exact ⟨w, by simpa using hw, q⟩
  refine ⟨fun i v hv => ?_, fun i hi => ⟨hd, by rw [← r.length]; simpa using hi⟩⟩
  have hi : i < kvs.length := by simpa using (List.getElem?_eq_some_iff.mp hv).1
  refine ⟨⟨hd, by rw [← r.length]; exact hi⟩, fun x H' ⟨T, k, w, hk, ex, hT, eH⟩ => ?_⟩
  subst ex eH
  obtain ⟨w', hw, rw'⟩ := keys i k w (r.mono s) hk
  rw [List.getElem?_map, hw] at hv
  cases hv
  have sT := stp_newT (L := L2) (o := .tup [kV k, w]) hT
  exact ⟨sT, vr_tup wf hT (.cons (VR.ofKey k) (.cons rw' .nil))⟩
end
section
variable {p : Pm} {X : Cx} {m m1 : List Sl} {σ σ1 : L2.St} {H H1 : Hp} {L L1 : Lv}
theorem for_core {g : TG} {ids : List Nat} {tgt : PV → List Sl → Option (List Sl)} {d : List Sl → SRes} {D : Ends} {J : It} {xs : List PV} (kg : TgG p g ids tgt) (st : StR p.K p.B m1 σ H1 L1) (jr : JR p.K J xs H1 L1) (h1 : RS p m1 σ H1 L1 (forL tgt d xs m1) D) :
    ∃ W : Nat → Nat → L2.St → Hp → Prop, (∃ k, W 0 k σ H1) ∧ ∀ i k σ H, W i k σ H → (J.stop i H ∧ D.nx σ H) ∨ (J.go i H ∧ ∃ N : L2.St → Hp → Prop, (∀ σ' H', N σ' H' → ∃ k', k' < k ∧ W (i + 1) k' σ' H') ∧ ∀ x H', J.yld i H x H' → g x σ H' fun σ2 H2 => tS p d { D with nx := N, ct := N, bk := D.nx } σ2 H2) := by
    refine ⟨fun i k σ' H' => ∃ mm L', Tw p.K p.B m1 σ H1 L1 mm σ' H' L' ∧ Stp All' H1 L1 H' L' ∧ k = xs.length - i ∧ i ≤ xs.length ∧ RS p mm σ' H' L' (forL tgt d (xs.drop i) mm) D, ⟨xs.length, m1, L1, (Tr.refl st).w, .refl _ _ _, rfl, Nat.zero_le _, h1⟩, ?_⟩
    rintro i k σ' H' ⟨mm, L', tw, stp, rfl, hi', hq⟩
    obtain ⟨jgo, jst⟩ := jr H' L' stp tw.st.wf
    by_cases hlt : i < xs.length
    · right
      have hx : xs[i]? = some xs[i] := List.getElem?_eq_getElem hlt
      obtain ⟨go, yld⟩ := jgo i _ hx
      rw [List.drop_eq_getElem_cons hlt] at hq
      refine ⟨go, fun σ'' H'' => ∃ mm L'', Tw p.K p.B m1 σ H1 L1 mm σ'' H'' L'' ∧ Stp All' H1 L1 H'' L'' ∧ RS p mm σ'' H'' L'' (forL tgt d (xs.drop (i + 1)) mm) D, fun σ'' H'' ⟨mm', L'', a, b, c⟩ => ⟨xs.length - (i + 1), by omega, mm', L'', a, b, rfl, hlt, c⟩, fun x H2 hy => ?_⟩
      obtain ⟨sy, ry⟩ := yld x H2 hy
      have wf2 : ∀ a, L' a → H2 a ≠ none := fun a la => sy.old a (tw.st.wf a la)
      have t2 := Tr.grow tw.st sy wf2
      unfold forL at hq
      cases et : tgt xs[i] mm with
      | none => rw [et] at hq; exact hq.elim
      | some m2 =>
        rw [et] at hq
        dsimp only at hq
        refine kg _ x mm σ' H2 L' m2 _ t2.st ry et fun σ2 tg2 _ _ => ?_
        have tall := (t2.trans tg2).w
        refine ⟨m2, L', tg2.st, ?_⟩
        have hq2 := RS.go tall hq
        have twA := tw.trans tall
        have stpA : Stp All' H1 L1 H2 L' := stp.trans (A1 := All') (sy.of) fun a _ => .inl trivial
        have wide : ∀ {H3 : Hp} {L3 : Lv} {m3 : List Sl} {σ3 : L2.St}, Tw p.K p.B m2 σ2 H2 L' m3 σ3 H3 L3 → Stp All' H1 L1 H3 L3 := fun tw3 => stpA.trans (A1 := All') (tw3.stp.wide fun _ _ => trivial) fun a _ => .inl trivial
        show RS p m2 σ2 H2 L' (d m2) _
        cases ed : d m2 with
        | nx m3 => rw [ed] at hq2; exact fun σ3 H3 L3 tw3 => ⟨m3, L3, twA.trans tw3, wide tw3, RS.go tw3 hq2⟩
        | cnt m3 => rw [ed] at hq2; exact fun σ3 H3 L3 tw3 => ⟨m3, L3, twA.trans tw3, wide tw3, RS.go tw3 hq2⟩
        | brk m3 => rw [ed] at hq2; exact hq2
        | ret v m3 => rw [ed] at hq2; exact hq2
        | exc c m3 => rw [ed] at hq2; exact hq2
        | stuck => rw [ed] at hq2; exact hq2
    · left
      have ei : i = xs.length := by omega
      subst ei
      rw [List.drop_length] at hq
      exact ⟨jst _ (Nat.le_refl _), hq σ' H' L' (Tr.refl tw.st).w⟩
end
end Sd
end
section
set_option Elab.async false
set_option linter.all false
set_option maxRecDepth 100000
set_option maxHeartbeats 4000000
namespace Sd
open PySem PySem.Spec PyProof.Rows L2
@[simp] def noExc : SRes → SRes
  | .exc _ _ => .stuck
  | .nx m => .nx m
  | .brk m => .brk m
  | .cnt m => .cnt m
  | .ret v m => .ret v m
  | .stuck => .stuck
@[simp] def dForD (src : List (Key × PV) → List PV) (k : Nat) (tgt : PV → List Sl → Option (List Sl)) (d : List Sl → SRes) (m : List Sl) : SRes := match m[k]? with
  | some (.pv (.dct kvs)) => noExc (forL tgt d (src kvs) m)
  | some (.own (.dct kvs)) => noExc (forL tgt d (src kvs) (m.set k (.pv (.dct kvs))))
  | _ => .stuck
section
variable {p : Pm} {X : Cx} {m m1 : List Sl} {σ σ1 : L2.St} {H H1 : Hp} {L L1 : Lv}
/-- the ends of a locked loop -/
def lkEnds (d : Addr) (od : Obj) (u : HO) (D : Ends) : Ends := ⟨fun σ' H' => H' d = some (.frz od u) ∧ D.nx σ' (upd H' d u), fun v H' => H' d = some (.frz od u) ∧ D.rt v (upd H' d u), fun σ' H' => H' d = some (.frz od u) ∧ D.bk σ' (upd H' d u), fun σ' H' => H' d = some (.frz od u) ∧ D.ct σ' (upd H' d u)⟩
theorem lk_upd {d : Addr} {od : Obj} {kws : List (Key × V)} (e : H d = some (.dK kws)) : LkEq d H (upd H d (.frz od (.dK kws))) := ⟨fun a n => upd_ne n, kws, od, .inl ⟨e, upd_same⟩⟩
theorem lk_back {d : Addr} {od : Obj} {kws : List (Key × V)} (e : H d = some (.frz od (.dK kws))) : LkEq d H (upd H d (.dK kws)) := ⟨fun a n => upd_ne n, kws, od, .inr ⟨e, upd_same⟩⟩
/-- a locked run, seen from outside -/
theorem Tw.unlock {d : Addr} {od : Obj} {kws : List (Key × V)} {m' : List Sl} {σ' : L2.St} {H' : Hp} {L' : Lv} (e : H d = some (.dK kws)) (n : ¬ L1 d) (t0 : Tr p.K p.B m σ H L m1 σ H L1) (t : Tw p.K p.B m1 σ (upd H d (.frz od (.dK kws))) L1 m' σ' H' L') :
    H' d = some (.frz od (.dK kws)) ∧ ¬ L' d ∧ Tw p.K p.B m σ H L m' σ' (upd H' d (.dK kws)) L' := by
  obtain ⟨h1, h2⟩ := t.stp.stay d _ upd_same n
  have hs : Stp (Adr m1 σ) H L1 (upd H' d (.dK kws)) L' := ⟨fun a h => by
      by_cases q : a = d
      · subst q; rw [upd_same]; simp
      · rw [upd_ne q]; exact t.stp.old a (by rw [upd_ne q]; exact h), fun a o ea na => by
      by_cases q : a = d
      · subst q; rw [e] at ea; cases ea; exact ⟨upd_same, h2⟩
      · rw [upd_ne q]; exact t.stp.stay a o (by rw [upd_ne q]; exact ea) na, fun a o ea la na => by
      have q : a ≠ d := fun z => n (z ▸ la)
      rw [upd_ne q]; exact t.stp.live a o (by rw [upd_ne q]; exact ea) la na⟩
  have tw : Tw p.K p.B m1 σ H L1 m' σ' (upd H' d (.dK kws)) L' := ⟨hs, t.st.lk (lk_back h1) h2, fun a z => by
    rcases t.sub a z with z | z
    · exact .inl z
    · right
      by_cases q : a = d
      · subst q; rw [upd_same] at z; cases z
      · rw [upd_ne q] at z; exact z⟩
  exact ⟨h1, h2, t0.w.trans tw⟩
theorem EvR.unlock {d : Addr} {od : Obj} {kws : List (Key × V)} {H' : Hp} {L' : Lv} {v : EV} {x : V} (e : H d = some (.dK kws)) (h1 : H' d = some (.frz od (.dK kws))) (n : ¬ L' d) (r : EvR p.K (upd H d (.frz od (.dK kws))) H' L' v x) : EvR p.K H (upd H' d (.dK kws)) L' v x := by
  cases v with
  | pv v => exact VR.lk (lk_back h1) r
  | nw o =>
    obtain ⟨a, rfl, na, l, r⟩ := r
    have q : a ≠ d := fun z => n (z ▸ l)
    rw [upd_ne q] at na
    exact ⟨a, rfl, na, l, r.lk (lk_back h1) q⟩
theorem RS.lock {d : Addr} {od : Obj} {kws : List (Key × V)} {r : SRes} {D : Ends} (e : H d = some (.dK kws)) (n : ¬ L1 d) (t0 : Tr p.K p.B m σ H L m1 σ H L1) (h : RS p m σ H L (noExc r) D) : RS p m1 σ (upd H d (.frz od (.dK kws))) L1 r (lkEnds d od (.dK kws) D) := by
  cases r with
  | nx m' => exact fun σ' H' L' t => let ⟨h1, _, t'⟩ := t.unlock e n t0; ⟨h1, h σ' _ L' t'⟩
  | brk m' => exact fun σ' H' L' t => let ⟨h1, _, t'⟩ := t.unlock e n t0; ⟨h1, h σ' _ L' t'⟩
  | cnt m' => exact fun σ' H' L' t => let ⟨h1, _, t'⟩ := t.unlock e n t0; ⟨h1, h σ' _ L' t'⟩
  | ret v m' => exact fun x σ' H' L' t ev => let ⟨h1, h2, t'⟩ := t.unlock e n t0; ⟨h1, h x σ' _ L' t' (ev.unlock e h1 h2)⟩
  | exc c m' => exact h.elim
  | stuck => exact h.elim
theorem ps_or {s : Stmt} {t1 t2 : TS} (h1 : PS X s t1) (h2 : PS X s t2) : PS X s (fun D σ H => t1 D σ H ∨ t2 D σ H) := ⟨fun pins s σ H D I hw => hw.elim (h1.run pins s σ H D I) (h2.run pins s σ H D I)⟩
/-- a walk over a dict in a slot: how its iterator is read -/
def SrcD (X : Cx) (tg iter : Expr) (k : Nat) (src : List (Key × PV) → List PV) : Prop := ∃ (wi : TI) (J : Addr → Obj → List (Key × V) → It), PI X tg iter wi ∧
  (∀ σ H R d od kws, σ[k]? = some (some (.ref d)) → H d = some (.frz od (.dK kws)) → R (J d od kws) H → wi σ H R) ∧
  ∀ K H L d od kvs kws, H d = some (.frz od (.dK kws)) → ¬ L d → VRk K H L kvs kws → JR K (J d od kws) (src kvs) H L
theorem ss_forD {tg iter : Expr} {body : List Stmt} {k : Nat} {src : List (Key × PV) → List PV} {tgt : PV → List Sl → Option (List Sl)} {d : List Sl → SRes} {pos : Pos} (hp : PassesOwn (model X.prog X.w) X.A X.env X.xe) (hc : X.calm = true) (hi : SrcD X tg iter k src) {ids : List Nat} (hg : TgS p X tg ids tgt) (hb : SSs p X body d)
    (hs : ∀ x, foldedSetIterable iter X.env x = pure x) : SS p X (.For tg iter body [] pos) (dForD src k tgt d) := by
  obtain ⟨g, pg, kg⟩ := hg
  obtain ⟨wi, J, pi, hwi, hjr⟩ := hi
  have base := ps_for (pos := pos) hp hc pi pg hb hs
  refine ps_imp (ps_or (ps_lock base) base) fun D σ H ⟨m, L, st, h⟩ => ?_
  -- the dict as a value
  have main : ∀ m1 L1 kvs, Tr p.K p.B m σ H L m1 σ H L1 → (∃ x, σ[k]? = some (some x) ∧ VR p.K H L1 (.dct kvs) x) → RS p m σ H L (noExc (forL tgt d (src kvs) m1)) D → tLock (tFor wi g (tS p d)) D σ H ∨ tFor wi g (tS p d) D σ H := fun m1 L1 kvs t0 ⟨x, ex, r⟩ h => by
    cases r with
    | @dct a kws _ e n rk =>
      rcases e with e | ⟨od, e⟩
      · left
        refine ⟨a, _, e, trivial, fun od => ?_⟩
        show tFor wi g (tS p d) (lkEnds a od (.dK kws) D) σ (upd H a (.frz od (.dK kws)))
        have lk := lk_upd (od := od) e
        refine hwi _ _ _ a od kws ex upd_same ?_
        exact for_core kg (t0.st.lk lk n) (hjr _ _ _ a od kvs kws upd_same n (VRk.lk lk rk)) (RS.lock e n t0 h)
      · right
        refine hwi _ _ _ a od kws ex e ?_
        have h' : RS p m1 σ H L1 (forL tgt d (src kvs) m1) D := by
          have h2 := RS.go t0.w h
          generalize forL tgt d (src kvs) m1 = q at h2 ⊢
          cases q <;> first | exact h2 | exact h2.elim
        exact for_core kg t0.st (hjr _ _ _ a od kvs kws e n rk) h'
  unfold dForD at h
  split at h
  next kvs e => obtain ⟨x, ex, y, rfl, r⟩ := st.at e; exact main m L kvs (.refl st) ⟨y, ex, r⟩ h
  next kvs e => obtain ⟨a, L', ex, t, r⟩ := st.freeze e; exact main _ L' kvs t ⟨_, ex, r⟩ h
  next => exact h.elim
theorem src_keys {tg e : Expr} {k : Nat} (he : PE X e (tVar k)) : SrcD X tg e k (fun kvs => kvs.map fun kv => pvK kv.1) :=
  ⟨_, Itk, pi_keys he, fun σ H R d od kws ex e q => ⟨_, ex, d, od, rfl, .inl ⟨kws, e, q⟩⟩, fun K H L d od kvs kws e n r => jr_keys e n r⟩
theorem src_items {e : Expr} {k : Nat} {elts : List Expr} {kk : Nat} {tpos apos cpos : Pos} (he : PE X e (tVar k)) (hbase : attributeBase e "items" X.env (eval e X.env) = eval e X.env) (hline : (apos.endLine == cpos.line) = true) : SrcD X (.Tuple elts kk tpos) (.Call (.Attribute e "items" apos) [] [] cpos) k (fun kvs => kvs.map fun kv => .tpl [pvK kv.1, kv.2]) :=
  ⟨_, Iti, pi_items he hbase hline, fun σ H R d od kws ex e q => ⟨_, ex, d, od, kws, rfl, e, q⟩, fun K H L d od kvs kws e n r => jr_items e n r⟩
/-! ### len of a dict -/
def rLenD : List V → Hp → VK → Prop := fun xs H Q => ∃ a kvs, xs = [V.ref a] ∧ Rd H a (.dK kvs) ∧ Q (.int kvs.length) H
theorem call_lenDA : CallR X (.builtin "len") rLenD := by
  intro pins s σ H xs us Q I r h
  obtain ⟨a, kvs, rfl, ha, q⟩ := h
  obtain ⟨u, rfl, ru⟩ := vals1 r
  cases ru
  exact d_len I ha fun t s' I' => ⟨.int kvs.length, H, I', ⟨t, rfl⟩, q⟩
@[simp] def gLenD (v : PV) : Option EV := match v with
  | .dct kvs => some (.pv (.int kvs.length))
  | _ => none
theorem op1_lenD {K : PySem.W.Frag} : Op1 K rLenD gLenD := by
  intro H L x z X Q wf hx e q
  cases x <;> first | cases e | skip
  obtain ⟨a, kws, rfl, e1, r⟩ := hx
  exact ⟨a, kws, rfl, e1, by rw [← r.length]; exact Kq.pv wf (.int _) q⟩
end
end Sd
end
section
set_option Elab.async false
set_option linter.all false
set_option maxRecDepth 100000
set_option maxHeartbeats 4000000
namespace Sd
open PySem PySem.Spec PyProof.Rows L2
section
variable {p : Pm} {X : Cx} {m m1 m2 m3 : List Sl} {σ σ1 σ2 : L2.St} {H H1 : Hp} {L L1 : Lv}
theorem put_st {K : PySem.W.Frag} {B : Nat → Option Addr} {i : Nat} {v : EV} {x : V} (st : StR K B m2 σ2 H1 L1) (hv : ∀ w, v = .pv w → VR K H1 L1 w x) (hn : ∀ o, v = .nw o → ∃ b, x = .ref b ∧ L1 b ∧ ¬ Adr m2 σ2 b ∧ ObR K H1 L1 o b) (e : setSl m2 i (slOf v) = some m3) :
    StR K B m3 (σ2.set i (some x)) H1 L1 ∧ ∀ a, Adr m3 (σ2.set i (some x)) a → Adr m2 σ2 a ∨ ((∃ o, v = .nw o) ∧ x = .ref a) := by
  unfold setSl at e
  have key : ∀ s0, m2[i]? = some s0 → (∀ o, s0 ≠ .bor o) → some (m2.set i (slOf v)) = some m3 → StR K B m3 (σ2.set i (some x)) H1 L1 ∧ ∀ a, Adr m3 (σ2.set i (some x)) a → Adr m2 σ2 a ∨ ((∃ o, v = .nw o) ∧ x = .ref a) := fun s0 es nb em => by
    cases em
    have hi : i < m2.length := (List.getElem?_eq_some_iff.mp es).1
    have hi' : i < σ2.length := by rw [← st.len]; exact hi
    have cm : ∀ j : Nat, j ≠ i → (m2.set i (slOf v))[j]? = m2[j]? := fun j h => List.getElem?_set_ne (Ne.symm h)
    have cs : ∀ j : Nat, j ≠ i → (σ2.set i (some x))[j]? = σ2[j]? := fun j h => List.getElem?_set_ne (Ne.symm h)
    have newA : ∀ a, Cell (m2.set i (slOf v))[i]? → (σ2.set i (some x))[i]? = some (some (.ref a)) → (∃ o, v = .nw o) ∧ x = .ref a ∧ ¬ Adr m2 σ2 a := fun a c ea => by
      rw [List.getElem?_set_self hi] at c
      rw [List.getElem?_set_self hi'] at ea
      cases ea
      cases v with
      | pv v => exact c.elim
      | nw o => obtain ⟨b, eb, _, n, _⟩ := hn o rfl; cases eb; exact ⟨⟨o, rfl⟩, rfl, n⟩
    have hB : B i = none := by
      cases q : B i with
      | none => rfl
      | some a => obtain ⟨o, e1, _⟩ := st.lent i a q; rw [es] at e1; cases e1; exact absurd rfl (nb o)
    refine ⟨⟨by rw [List.length_set, List.length_set]; exact st.len, fun j s y e1 e2 => ?_, fun j k a hjk cj ck e1 e2 => ?_, st.wf, fun j a e => ?_⟩, fun a ⟨j, c, ea⟩ => ?_⟩
    · by_cases hj : j = i
      · subst hj
        rw [List.getElem?_set_self hi] at e1
        rw [List.getElem?_set_self hi'] at e2
        cases e1; cases e2
        cases v with
        | pv v => exact ⟨x, rfl, hv v rfl⟩
        | nw o => obtain ⟨b, eb, l, _, r⟩ := hn o rfl; subst eb; exact ⟨b, rfl, l, hB, r⟩
      · rw [cm j hj] at e1
        rw [cs j hj] at e2
        exact st.ok j s y e1 e2
    · by_cases hj : j = i
      · subst hj
        have hk : k ≠ j := fun z => hjk z.symm
        obtain ⟨_, _, n⟩ := newA a cj e1
        rw [cm k hk] at ck
        rw [cs k hk] at e2
        exact n ⟨k, ck, e2⟩
      · by_cases hk : k = i
        · subst hk
          obtain ⟨_, _, n⟩ := newA a ck e2
          rw [cm j hj] at cj
          rw [cs j hj] at e1
          exact n ⟨j, cj, e1⟩
        · rw [cm j hj] at cj
          rw [cm k hk] at ck
          rw [cs j hj] at e1
          rw [cs k hk] at e2
          exact st.ne j k a hjk cj ck e1 e2
    · obtain ⟨o, e1, e2⟩ := st.lent j a e
      have hj : j ≠ i := fun z => by subst z; rw [es] at e1; cases e1; exact nb o rfl
      exact ⟨o, by rw [cm j hj]; exact e1, by rw [cs j hj]; exact e2⟩
    · by_cases hj : j = i
      · subst hj
        obtain ⟨h1, h2, _⟩ := newA a c ea
        exact .inr ⟨h1, h2⟩
      · rw [cm j hj] at c
        rw [cs j hj] at ea
        exact .inl ⟨j, c, ea⟩
  cases es : m2[i]? with
  | none => rw [es] at e; cases e
  | some s0 =>
    rw [es] at e
    cases s0 with
    | bor o => cases e
    | un => exact key _ es (fun o z => by cases z) e
    | pv v => exact key _ es (fun o z => by cases z) e
    | own o => exact key _ es (fun o z => by cases z) e
    | lck kvs b => exact key _ es (fun o z => by cases z) e
theorem putAll_st {K : PySem.W.Frag} {B : Nat → Option Addr} {σ0 : L2.St} {H0 : Hp} : ∀ {is : List Nat} {vs : List AV} {xs : List V} {m2 m3 : List Sl} {σ2 : L2.St}, StR K B m2 σ2 H1 L1 → AvRs K σ0 H0 H1 L1 vs xs →
    (∀ w b, w.isNew → (w, V.ref b) ∈ vs.zip xs → ¬ Adr m2 σ2 b) → putAll is vs m2 = some m3 → StR K B m3 (setAll is xs σ2) H1 L1 ∧ ∀ a, Adr m3 (setAll is xs σ2) a → Adr m2 σ2 a ∨ H0 a = none
  | [], [], _, m2, m3, σ2, st, .nil, hd, e => by
    cases e
    exact ⟨st, fun a z => .inl z⟩
  | [], .io _ :: _, _, m2, m3, σ2, st, r, hd, e => by cases e
  | [], .ev _ :: _, _, m2, m3, σ2, st, r, hd, e => by cases e
  | i :: is, [], _, m2, m3, σ2, st, r, hd, e => by cases e
  | i :: is, .io _ :: vs, _, m2, m3, σ2, st, r, hd, e => by cases e
  | i :: is, .ev v :: vs, _, m2, m3, σ2, st, .cons (x := x) (xs := xs) h t n, hd, e => by
    unfold putAll at e
    cases e1 : setSl m2 i (slOf v) with
    | none => rw [e1] at e; cases e
    | some m4 =>
      rw [e1] at e
      have h' : EvR K H0 H1 L1 v x := h
      have hnew : ∀ o, v = .nw o → ∃ b, x = .ref b ∧ H0 b = none ∧ L1 b ∧ ¬ Adr m2 σ2 b ∧ ObR K H1 L1 o b := fun o eo => by
        subst eo
        obtain ⟨b, rfl, nb, l, ro⟩ := h'
        exact ⟨b, rfl, nb, l, hd (.ev (.nw o)) b trivial (by rw [List.zip_cons_cons]; exact List.mem_cons_self), ro⟩
      obtain ⟨s1, s2⟩ := put_st (v := v) (x := x) st (fun w ew => by subst ew; exact h') (fun o eo => let ⟨b, q1, _, q3, q4, q5⟩ := hnew o eo; ⟨b, q1, q3, q4, q5⟩) e1
      obtain ⟨s3, s4⟩ := putAll_st (H0 := H0) s1 t (fun w b hw hm z => by
        rcases s2 b z with z | ⟨⟨o, rfl⟩, ex⟩
        · exact hd w b hw (by rw [List.zip_cons_cons]; exact List.mem_cons_of_mem _ hm) z
        · subst ex
          exact n trivial w hw hm) e
      refine ⟨s3, fun a z => ?_⟩
      rcases s4 a z with z | z
      · rcases s2 a z with z | ⟨⟨o, rfl⟩, ex⟩
        · exact .inl z
        · obtain ⟨b, q1, q2, _⟩ := hnew o rfl
          rw [ex] at q1
          cases q1
          exact .inr q2
      · exact .inr z
theorem putAll_sound {is : List Nat} {vs : List AV} {xs : List V} {m' : List Sl} (st : StR p.K p.B m σ H L) (t : Tr p.K p.B m σ H L m1 σ H1 L1) (r : AvRs p.K σ H H1 L1 vs xs) (e : putAll is vs m1 = some m') : Tw p.K p.B m σ H L m' (setAll is xs σ) H1 L1 := by
  obtain ⟨s1, s2⟩ := putAll_st (H0 := H) t.st r (fun w b hw hm z => (st.adr (t.sub b z)).2 (r.newNone hw hm)) e
  refine ⟨t.stp, s1, fun a z => ?_⟩
  rcases s2 a z with z | z
  · exact .inl (t.sub a z)
  · exact .inr z
def dBindA (r : Res (List AV)) (k : List AV → List Sl → SRes) : SRes := match r with
  | .ok vs m => k vs m
  | .exc c m => .exc c m
  | .stuck => .stuck
@[simp] theorem dBindA_ok (vs : List AV) (m : List Sl) (k : List AV → List Sl → SRes) : dBindA (.ok vs m) k = k vs m := rfl
@[simp] theorem dBindA_exc (c : Ex) (m : List Sl) (k : List AV → List Sl → SRes) : dBindA (.exc c m) k = .exc c m := rfl
@[simp] theorem dBindA_stuck (k : List AV → List Sl → SRes) : dBindA .stuck k = .stuck := rfl
theorem dBindA_congr {r r' : Res (List AV)} {k : List AV → List Sl → SRes} (h : r = r') : dBindA r k = dBindA r' k := by rw [h]
/-- a, b, .. = x, y, .. -/
@[simp] def dPar (is : List Nat) (ss : List ArgD) (m : List Sl) : SRes := dBindA (eArgs ss m) fun vs m1 => match putAll is vs m1 with
  | some m2 => .nx m2
  | none => .stuck
theorem putAll_len : ∀ {is : List Nat} {vs : List AV} {m m' : List Sl}, putAll is vs m = some m' → vs.length = is.length
  | [], [], _, _, _ => rfl
  | [], .io _ :: _, _, _, e => by cases e
  | [], .ev _ :: _, _, _, e => by cases e
  | i :: is, [], _, _, e => by cases e
  | i :: is, .io _ :: vs, _, _, e => by cases e
  | i :: is, .ev v :: vs, m, _, e => by
    unfold putAll at e
    cases e1 : setSl m i (slOf v) with
    | none => rw [e1] at e; cases e
    | some m4 => rw [e1] at e; rw [List.length_cons, List.length_cons, putAll_len e]
theorem AvRs.len {K : PySem.W.Frag} {H0 : Hp} : ∀ {vs : List AV} {xs : List V}, AvRs K σ H0 H1 L1 vs xs → vs.length = xs.length
  | _, _, .nil => rfl
  | _, _, .cons _ r _ => by rw [List.length_cons, List.length_cons, AvRs.len r]
theorem tA_par {is : List Nat} {ss : List ArgD} {D : Ends} (st : StR p.K p.B m σ H L) (h : RS p m σ H L (dPar is ss m) D) : tA p (eArgs ss) σ H fun xs H1 => xs.length = is.length ∧ ∃ (m' : List Sl) (L' : Lv), Tw p.K p.B m σ H L m' (setAll is xs σ) H1 L' ∧ ∀ T, Tw p.K p.B m σ H L m' (setAll is xs σ) T L' → D.nx (setAll is xs σ) T := by
  refine ⟨m, L, st, ?_⟩
  unfold dPar at h
  cases e : eArgs ss m with
  | exc c m1 => rw [e] at h; exact fun cls d H' L' t ex => h cls d σ H' L' t.w ex
  | stuck => rw [e] at h; exact h
  | ok vs m1 =>
    rw [e, dBindA_ok] at h
    intro xs H1 L1 t r
    cases e2 : putAll is vs m1 with
    | none => rw [e2] at h; exact h.elim
    | some m' =>
      rw [e2] at h
      exact ⟨by rw [← r.len, putAll_len e2], m', L1, putAll_sound st t r e2, fun T tw => h _ T L1 tw⟩
theorem tA_mono {s : List Sl → Res (List AV)} {Q R : List V → Hp → Prop} (h : tA p s σ H R) (i : ∀ xs H1, R xs H1 → Q xs H1) : tA p s σ H Q := by
  obtain ⟨m, L, st, h⟩ := h
  refine ⟨m, L, st, ?_⟩
  cases e : s m with
  | ok vs m1 => rw [e] at h; exact fun xs H' L' t r => i _ _ (h xs H' L' t r)
  | exc c m1 => rw [e] at h; exact h
  | stuck => rw [e] at h; exact h
theorem ss_par2 {i j : Nat} {x y : Str} {a b : Expr} {ss : List ArgD} {px py pt pos : Pos} {kt k2 pt2} (hc : X.calm = true) (hN : X.N.Nodup) (hi : X.N[i]? = some x) (hj : X.N[j]? = some y) (hij : i ≠ j)
    (hx : X.env.scope.names.lookup x = some .local) (hy : X.env.scope.names.lookup y = some .local) (ha : SA p X [a, b] ss)
    (hw : swappedStores [.Tuple [.Name x px, .Name y py] kt pt] (.Tuple [a, b] k2 pt2) X.env = pure (some [x, y]))
    (hs : swapsWithSole [.Tuple [.Name x px, .Name y py] kt pt] (.Tuple [a, b] k2 pt2) pos.line X.env = pure false) :
    SS p X (.Assign [.Tuple [.Name x px, .Name y py] kt pt] (.Tuple [a, b] k2 pt2) pos) (dPar [i, j] ss) := ps_imp (ps_par hc hN hi hj hij hx hy ha hw hs) fun D σ H ⟨m, L, st, h⟩ =>
  tA_mono (tA_par st h) fun xs H1 ⟨hl, m', L', tw, q⟩ => by
    match xs, hl with
    | [u, v], _ => exact ⟨u, v, rfl, q _ tw⟩
theorem ss_par3 {i j l : Nat} {x y z : Str} {a b c : Expr} {ss : List ArgD} {px py pz pt pos : Pos} {kt k2 pt2} (hc : X.calm = true) (hN : X.N.Nodup) (hi : X.N[i]? = some x) (hj : X.N[j]? = some y) (hl : X.N[l]? = some z) (hij : i ≠ j) (hil : i ≠ l) (hjl : j ≠ l)
    (hx : X.env.scope.names.lookup x = some .local) (hy : X.env.scope.names.lookup y = some .local) (hz : X.env.scope.names.lookup z = some .local) (ha : SA p X [a, b, c] ss)
    (hw : swappedStores [.Tuple [.Name x px, .Name y py, .Name z pz] kt pt] (.Tuple [a, b, c] k2 pt2) X.env = pure (some [x, y, z]))
    (hs : swapsWithSole [.Tuple [.Name x px, .Name y py, .Name z pz] kt pt] (.Tuple [a, b, c] k2 pt2) pos.line X.env = pure false) :
    SS p X (.Assign [.Tuple [.Name x px, .Name y py, .Name z pz] kt pt] (.Tuple [a, b, c] k2 pt2) pos) (dPar [i, j, l] ss) := ps_imp (ps_par3 hc hN hi hj hl hij hil hjl hx hy hz ha hw hs) fun D σ H ⟨m, L, st, h⟩ =>
  tA_mono (tA_par st h) fun xs H1 ⟨hl, m', L', tw, q⟩ => by
    match xs, hl with
    | [u, v, w], _ => exact ⟨u, v, w, rfl, q _ tw⟩
def gNames : List Nat → TGs
  | [] => gNil
  | i :: is => gCons (gName i) (gNames is)
theorem gNames_ok {Q : L2.St → Hp → Prop} : ∀ {is : List Nat} {xs : List V} {σ : L2.St}, xs.length = is.length → Q (setAll is xs σ) H → gNames is xs σ H Q
  | [], [], σ, _, q => ⟨rfl, q⟩
  | [], _ :: _, σ, h, q => by cases h
  | i :: is, [], σ, h, q => by cases h
  | i :: is, x :: xs, σ, h, q => ⟨x, xs, rfl, gNames_ok (by simpa using h) q⟩
theorem Tw.grow {m' : List Sl} {σ' : L2.St} {H2 : Hp} (t : Tw p.K p.B m σ H L m' σ' H1 L1) (s : Stp No H1 L1 H2 L1) (wf : ∀ a, L1 a → H2 a ≠ none) : Tw p.K p.B m σ H L m' σ' H2 L1 := t.trans (Tr.grow t.st s wf).w
/-- by way of a tuple -/
theorem ss_parN {is : List Nat} {es ts : List Expr} {ss : List ArgD} {x1 : Nat} {k : Nat} {ptu pte pos : Pos} (hz : is.length ≤ 15) (ha : SA p X es ss) (hg : PG X (.Tuple ts k ptu) (gTup X.K is.length (gNames is))) (h : PS X (.Assign [.Tuple ts k ptu] (.Tuple es x1 pte) pos) (tAsg (tTup (tA p (eArgs ss))) (gTup X.K is.length (gNames is)))) :
    SS p X (.Assign [.Tuple ts k ptu] (.Tuple es x1 pte) pos) (dPar is ss) := ps_imp h fun D σ H ⟨m, L, st, h⟩ =>
  tA_mono (tA_par st h) fun xs H1 ⟨hl, m', L', tw, q⟩ => by
    refine ⟨by rw [hl]; exact Nat.le_trans hz (by decide), fun T hT => ⟨T, xs, rfl, SqT.of upd_same, hl, gNames_ok hl (q _ (tw.grow (stp_newT hT) (wf_newT tw.st.wf)))⟩⟩
/-- a, b, .. = e, a tuple -/
@[simp] def dUnp (is : List Nat) (s : List Sl → Res EV) (m : List Sl) : SRes := dBind (s m) fun v m1 => match v with
  | .pv (.tup xs) => match putAll is (xs.map fun x => .ev (.pv x)) m1 with
    | some m2 => .nx m2
    | none => .stuck
  | _ => .stuck
theorem VRs.avs {K : PySem.W.Frag} {H0 : Hp} : ∀ {vs : List PV} {xs : List V}, VRs K H1 L1 vs xs → AvRs K σ H0 H1 L1 (vs.map fun x => .ev (.pv x)) xs
  | _, _, .nil => .nil
  | _, _, .cons h t => .cons (v := .ev (.pv _)) h (VRs.avs t) fun z => z.elim
theorem ss_unp {is : List Nat} {ts : List Expr} {e : Expr} {s : List Sl → Res EV} {k : Nat} {ptu pos : Pos} (hk : X.K = p.K) (h : PS X (.Assign [.Tuple ts k ptu] e pos) (tAsg (tE p s) (gTup X.K is.length (gNames is)))) : SS p X (.Assign [.Tuple ts k ptu] e pos) (dUnp is s) := ps_imp h fun D σ H ⟨m, L, st, h⟩ => by
  refine ⟨m, L, st, ?_⟩
  unfold dUnp at h
  cases e : s m with
  | exc c m1 => rw [e] at h; exact fun cls d H' L' t ex => h cls d σ H' L' t.w ex
  | stuck => rw [e] at h; exact h
  | ok v m1 =>
    rw [e, dBind_ok] at h
    intro x H1 L1 t ev
    split at h
    next xs =>
      have ev' : VR p.K H1 L1 (.tup xs) x := ev
      cases ev' with
      | tup ea n rs =>
        split at h
        next m2 e2 =>
          have hl := putAll_len e2
          rw [List.length_map] at hl
          exact ⟨_, _, rfl, ea.sq, by rw [← rs.length, hl], gNames_ok (by rw [← rs.length, hl]) (h _ H1 L1 (putAll_sound st t rs.avs e2))⟩
        next => exact h.elim
    next => exact h.elim
end
end Sd
end
section
set_option Elab.async false
set_option linter.all false
set_option maxRecDepth 100000
set_option maxHeartbeats 4000000
namespace Sd
open PySem PySem.Spec PyProof.Rows L2
/-! ### len(set(xs)), ints -/
/-- how many different ones -/
def card : List Int → Nat
  | [] => 0
  | x :: xs => if x ∈ xs then card xs else card xs + 1
theorem nodup_le : ∀ {a b : List Int}, a.Nodup → (∀ x ∈ a, x ∈ b) → a.length ≤ b.length
  | [], _, _, _ => Nat.zero_le _
  | x :: a, b, h, s => by
    have hx := s x List.mem_cons_self
    obtain ⟨h1, h2⟩ := List.nodup_cons.mp h
    have := nodup_le (a := a) (b := b.erase x) h2 (fun y hy => by
      have hne : y ≠ x := fun z => h1 (z ▸ hy)
      exact (List.mem_erase_of_ne hne).mpr (s y (List.mem_cons_of_mem _ hy)))
    rw [List.length_erase_of_mem hx] at this
    have hb := List.length_pos_of_mem hx
    rw [List.length_cons]
    omega
theorem card_of : ∀ (ns : List Int), ∃ d : List Int, d.Nodup ∧ (∀ x, x ∈ d ↔ x ∈ ns) ∧ d.length = card ns
  | [] => ⟨[], List.nodup_nil, fun _ => Iff.rfl, rfl⟩
  | x :: xs => by
    obtain ⟨d, h1, h2, h3⟩ := card_of xs
    unfold card
    by_cases e : x ∈ xs
    · rw [if_pos e]
      exact ⟨d, h1, fun y => by rw [h2 y]; exact ⟨List.mem_cons_of_mem _, fun h => (List.mem_cons.mp h).elim (fun z => z ▸ e) id⟩, h3⟩
    · rw [if_neg e]
      exact ⟨x :: d, List.nodup_cons.mpr ⟨fun z => e ((h2 x).mp z), h1⟩, fun y => by rw [List.mem_cons, List.mem_cons, h2 y], by rw [List.length_cons, h3]⟩
theorem card_eq {ns d : List Int} (h1 : d.Nodup) (h2 : ∀ x, x ∈ d ↔ x ∈ ns) : d.length = card ns := by
  obtain ⟨e, k1, k2, k3⟩ := card_of ns
  have a := nodup_le h1 (b := e) fun x hx => (k2 x).mpr ((h2 x).mp hx)
  have b := nodup_le k1 (b := d) fun x hx => (h2 x).mpr ((k2 x).mp hx)
  omega
theorem card_nodup {ns : List Int} (h : ns.Nodup) : card ns = ns.length := (card_eq h fun _ => Iff.rfl).symm
theorem card_le : ∀ (ns : List Int), card ns ≤ ns.length
  | [] => Nat.le_refl _
  | x :: xs => by
    have := card_le xs
    unfold card
    rw [List.length_cons]
    split <;> omega
theorem card_lt : ∀ {ns : List Int}, ¬ ns.Nodup → card ns < ns.length
  | [], h => absurd List.nodup_nil h
  | x :: xs, h => by
    unfold card
    rw [List.length_cons]
    split
    · have := card_le xs; omega
    · next e =>
      have := card_lt (ns := xs) fun z => h (List.nodup_cons.mpr ⟨e, z⟩)
      omega
theorem card_iff (ns : List Int) : card ns = ns.length ↔ ns.Nodup := ⟨fun h => Classical.byContradiction fun n => by have := card_lt n; omega, card_nodup⟩
theorem firstMet_card (ns : List Int) : (firstMet (fun i => ns.getD i 0) ns.length).length = card ns := by
  have key : ∀ i, i ≤ ns.length → (firstMet (fun i => ns.getD i 0) i).Nodup ∧ ∀ x, x ∈ firstMet (fun i => ns.getD i 0) i ↔ x ∈ ns.take i := fun i => by
    induction i with
    | zero => intro _; exact ⟨List.nodup_nil, fun x => by simp [firstMet]⟩
    | succ i ih =>
      intro hi
      obtain ⟨h1, h2⟩ := ih (by omega)
      have hlt : i < ns.length := hi
      have e : ns.getD i 0 = ns[i] := by rw [List.getD_eq_getElem?_getD, List.getElem?_eq_getElem hlt] <;> rfl
      have et : ns.take (i + 1) = ns.take i ++ [ns[i]] := by rw [List.take_add_one, List.getElem?_eq_getElem hlt] <;> rfl
      rw [firstMet_succ]
      unfold step_dedup
      by_cases c : (firstMet (fun i => ns.getD i 0) i).any (· == ns.getD i 0) = true
      · rw [if_pos c]
        refine ⟨h1, fun x => ?_⟩
        obtain ⟨y, hy, ey⟩ := List.any_eq_true.mp c
        have ey' : y = ns[i] := by rw [← e]; exact beq_iff_eq.mp ey
        rw [h2 x, et, List.mem_append, List.mem_singleton]
        constructor
        · exact .inl
        · rintro (h | rfl)
          · exact h
          · rw [← ey']; exact (h2 y).mp hy
      · rw [if_neg c]
        have no : ¬ ns[i] ∈ firstMet (fun i => ns.getD i 0) i := fun z => c (List.any_eq_true.mpr ⟨_, z, by rw [e]; exact beq_self_eq_true _⟩)
        refine ⟨?_, fun x => ?_⟩
        · rw [List.nodup_append]
          refine ⟨h1, List.nodup_cons.mpr ⟨by simp, List.nodup_nil⟩, fun a ha b hb z => ?_⟩
          rw [List.mem_singleton] at hb
          subst z
          rw [hb, e] at ha
          exact no ha
        · rw [List.mem_append, h2 x, List.mem_singleton, et, List.mem_append, List.mem_singleton, e]
  obtain ⟨h1, h2⟩ := key ns.length (Nat.le_refl _)
  exact card_eq h1 fun x => by rw [h2 x, List.take_length]
section
variable {p : Pm} {X : Cx} {a : Expr} {sa : List Sl → Res EV}
def tLenSetA (K : PySem.W.Frag) (ta : TE) : TE := fun σ H Q => ta σ H fun x H1 => ∃ (l : Addr) (ns : List Int), x = .ref l ∧ SqA K H1 l (ns.map V.int) ∧ ns.length ≤ 4000 ∧ Q (.int (card ns : Nat)) H1
theorem pe_lenSetA {ta : TE} {p p2 q pos : Pos} (hc : X.calm = true) (hg : Gl X "len") (hm : X.mg "len" = none) (hg2 : Gl X "set") (hm2 : X.mg "set" = none) (ha : PE X a ta) (na : starEach [a] X.env = (false, eval a X.env) :: starEach [] X.env)
    (nb : starEach [.Call (.Name "set" p2) [a] [] q] X.env = (false, eval (.Call (.Name "set" p2) [a] [] q) X.env) :: starEach [] X.env) : PE X (.Call (.Name "len" p) [.Call (.Name "set" p2) [a] [] q] [] pos) (tLenSetA X.K ta) := by
  refine ⟨fun pins s σ H Q I h => ?_⟩
  refine Call_ (ld_blt I hg hm boot_len ?_)
  refine PyProof.Rows.callWith_builtin1 (PyProof.Rows.args_cons ?_ nb) nb rfl
  refine Call_ (ld_blt I hg2 hm2 boot_set ?_)
  refine PyProof.Rows.callWith_type1 (PyProof.Rows.args_cons (thn (ha.run pins s σ H _ I h) fun v s1 ⟨x, H1, I1, r1, q1⟩ => PyProof.Rows.args_nil ?_) na) na rfl
  obtain ⟨l, ns, rfl, hq, hl, q1⟩ := q1
  cases r1
  rcases hq with hq | hq
  · obtain ⟨its, r, pl, hz⟩ := I1.list hq
    have hlen : its.toArray.size = ns.length := by rw [List.size_toArray, ← r.length, List.length_map]
    refine call_set_list (I1.ok.hd hc) pl.isList (by simpa using r.ints) (by rw [hlen]; unfold scanBound; omega) fun h' tk hS hk => ?_
    refine PyProof.Rows.args_nil ?_
    rw [hlen, firstMet_card] at hS
    obtain ⟨o, es, ep, t, ho, hex, hd, _, _, _, hf, hn⟩ := hS
    have I2 : Inv X pins σ H1 { s1 with heap := h', toks := tk } := I1.kept fun b o e => hk b o (Heap.lt_size e) e
    have := card_le ns
    exact call_len_set ho hex hd hf (by rw [hn]; omega) ⟨.int (card ns : Nat), H1, I2.tok _, ⟨_, by rw [hn]⟩, q1⟩
  · obtain ⟨its, r, pl, hz⟩ := I1.tuple hq
    have hlen : its.toArray.size = ns.length := by rw [List.size_toArray, ← r.length, List.length_map]
    refine call_set_tupI ns (I1.ok.hd hc) pl (by simpa using r.ints) (by unfold scanBound; omega) fun h' tk c hS hc' hk => ?_
    refine PyProof.Rows.args_nil ?_
    obtain ⟨o, es, ep, t, ho, hex, hd, _, hnd, hmem, _, hf, hn, _⟩ := hS
    have I2 : Inv X pins σ H1 { s1 with heap := h', toks := tk } := I1.kept fun b o e => hk b o e
    have hcard : es.size = card ns := by
      have := card_eq (ns := ns) hnd fun x => by rw [← hmem x]; simp
      rw [List.length_map, Array.length_toList] at this
      exact this
    exact call_len_set ho hex hd hf (by omega) ⟨.int (card ns : Nat), H1, I2.tok _, ⟨_, by rw [hcard]⟩, q1⟩
@[simp] def gLenSet (v : PV) : Option EV := match seqI? v with
  | some ns => if ns.length ≤ 4000 then some (.pv (.int (card ns : Nat))) else none
  | none => none
theorem se_lenSet {p1 p2 q pos : Pos} (hk : X.K = p.K) (hc : X.calm = true) (hg : Gl X "len") (hm : X.mg "len" = none) (hg2 : Gl X "set") (hm2 : X.mg "set" = none) (ha : SE p X a sa) (na : starEach [a] X.env = (false, eval a X.env) :: starEach [] X.env)
    (nb : starEach [.Call (.Name "set" p2) [a] [] q] X.env = (false, eval (.Call (.Name "set" p2) [a] [] q) X.env) :: starEach [] X.env) : SE p X (.Call (.Name "len" p1) [.Call (.Name "set" p2) [a] [] q] [] pos) (eCall1 gLenSet sa) := pe_imp (pe_lenSetA hc hg hm hg2 hm2 ha na nb) fun σ H Q ⟨m, L, st, h⟩ => by
  refine tE_then st h fun v m1 x H1 L1 t ev h1 => ?_
  cases e : gLenSet v.v with
  | none => rw [e] at h1; exact h1.elim
  | some z =>
    rw [e] at h1
    unfold gLenSet at e
    split at e
    next ns en =>
      split at e
      next hl =>
        cases e
        obtain ⟨a, rfl, hs⟩ := seqI_rd ev.rd en
        exact ⟨a, ns, rfl, hk ▸ hs, hl, RQ.pv t.st h1 (.int _)⟩
      next => cases e
    next => cases e
end
end Sd
end
section
set_option Elab.async false
set_option linter.all false
set_option maxRecDepth 100000
namespace Sd
open PySem PySem.Spec PyProof.Rows L2
theorem op1_reprK {X : Cx} {K : PySem.W.Frag} (hk : X.K = K) : Op1 K (rRepr X) gRepr := by subst hk; exact op1_repr
theorem bb_bool : bootBuiltins "bool" = some (.type "bool") := by decide +kernel
end Sd
end
section
set_option Elab.async false
set_option linter.all false
set_option maxRecDepth 100000
namespace Sd
open PySem PySem.Spec PyProof.Rows L2
@[simp] theorem gEqB_int (a b : Int) : gEqB (.int a) (.int b) = some (decide (a = b)) := by
  have h : ((PV.int a).flat && (PV.int b).flat && SeqAt.shaped (PV.int a).dat && SeqAt.shaped (PV.int b).dat) = true := by
    simp [PV.flat, PV.dat, SeqAt.shaped, PyData.canLay0, PyData.depth]
  have e : gEqB (.int a) (.int b) = if ((PV.int a).flat && (PV.int b).flat && SeqAt.shaped (PV.int a).dat && SeqAt.shaped (PV.int b).dat) = true then some (PyData.eqv (PV.int a).dat (PV.int b).dat) else none := rfl
  rw [e, if_pos h]
  simp [PV.dat, PyData.eqv, Bool.beq_eq_decide_eq]
@[simp] theorem gEqB_str (a b : Str) : gEqB (.str a) (.str b) = some (decide (a = b)) := rfl
end Sd
end
section
set_option Elab.async false
set_option linter.all false
set_option maxRecDepth 100000
namespace Sd
open PySem PySem.W PyProof.Rows
theorem loose_int {lv : List (Str × WData)} {mg : Str → Option Value} {h : Heap} {x : Str} {n : Int} (X : LooseAre lv mg h) (hm : (x, WData.int n) ∈ lv) : ∃ t, mg x = some (.int n t) := by
  obtain ⟨v, e, r⟩ := X.val _ hm
  cases r
  exact ⟨_, e⟩
end Sd
end
section
set_option Elab.async false
set_option linter.all false
set_option maxRecDepth 100000
set_option maxHeartbeats 4000000
namespace Sd
open PySem PySem.Spec PyProof.Rows L2
/-! ### type(x) -/
def rTypX (K : PySem.W.Frag) : List V → Hp → VK → Prop := fun xs H Q => ∃ x T, xs = [x] ∧ (TyB K H x T ∨ (T = "dict" ∧ ∃ a kvs, x = .ref a ∧ Rd H a (.dK kvs))) ∧ Q (.ty T) H
theorem call_typeX {X : Cx} : CallR X (.type "type") (rTypX X.K) := fun pins s σ H xs us Q I r ⟨x, T, e, t, q⟩ => by
  subst e
  rcases t with t | ⟨rfl, a, kvs, rfl, hr⟩
  · exact call_type1 pins s σ H [x] us Q I r ⟨x, T, rfl, t, q⟩
  · obtain ⟨u, rfl, rx⟩ := vals1 r
    cases rx
    obtain ⟨_, _, _, _, o, _, _, ho, ex, _⟩ := hr.ok I.hok
    exact call_type_of (Tx := "dict") (show s.TypeIs (.ref a) "dict" from ⟨o, ho, ex.1⟩) (by decide +kernel) ⟨.ty "dict", H, I, rfl, q⟩
@[simp] def gTyp (v : PV) : Option EV := v.tn.map fun n => .pv (.ty n)
theorem op1_typ {K : PySem.W.Frag} : Op1 K (rTypX K) gTyp := by
  intro H L x z X Q wf hx e q
  unfold gTyp at e
  obtain ⟨n, en, rfl⟩ := Option.map_eq_some_iff.mp e
  refine ⟨X, n, rfl, ?_, Kq.pv wf (.ty _) q⟩
  cases x <;> first | cases en | skip
  · rw [hx.non]; exact .inl .non
  · rw [hx.bl]; exact .inl (.bl _)
  · rw [hx.int]; exact .inl (.int _)
  · rw [hx.str]; exact .inl (.str _)
  · obtain ⟨a, vs, rfl, e1, _, r⟩ := hx.tup; exact .inl (.tup e1.sq)
  · obtain ⟨a, vs, rfl, e1, r⟩ := hx.lst; exact .inl (.lst e1)
  · obtain ⟨a, kws, rfl, e1, r⟩ := hx.dct; exact .inr ⟨rfl, a, kws, rfl, e1⟩
/-! ### t.index(x), a tuple of ints -/
section
variable {X : Cx} {p : Pm}
theorem ixI_ns {ns : List Int} {its : List Value} {z : Int} (r : Vals (ns.map V.int) its) (m : Nat) (hm : m < its.toArray.size) : ∃ (y : Int) (t : Tok), ns[m]? = some y ∧ its.toArray[m] = Value.int y t := by
  have hl := r.length
  rw [List.length_map] at hl
  have hm' : m < ns.length := by rw [hl]; simpa using hm
  obtain ⟨w, hw, t, hw'⟩ := r.get (i := m) (x := .int ns[m]) (by simp [hm'])
  refine ⟨ns[m], t, List.getElem?_eq_getElem hm', ?_⟩
  have e := (List.getElem?_eq_some_iff.mp hw).2
  rw [← hw', ← e]; simp
/-- the place of the first -/
theorem tupIx_call {pins : List (Addr × Obj)} {s : Shared} {σ : L2.St} {H : Hp} {q : Addr} {ns : List Int} {z : Int} {j : Nat} {us : List Value} {Q : VK} (I : Inv X pins σ H s) (rs : Vals [V.int z] us) (hq : SqT X.K H q (ns.map V.int)) (hy : ns[j]? = some z) (hno : ∀ m, m < j → ns[m]? ≠ some z) (w : Q (.int (j : Nat)) H) :
    wpAny (model X.prog X.w) X.A (call (.builtin "tuple.index") (.ref q :: us)) (EP X pins σ Q) X.xe s := by
  obtain ⟨u, rfl, t, rfl⟩ := vals1 rs
  obtain ⟨its, r, ⟨⟨cls, dd, dt, sl⟩, ho, hc, n, hd⟩, hz⟩ := I.tuple hq
  simp only at hc hd
  subst hc hd
  have hl := r.length
  rw [List.length_map] at hl
  have hj : j < its.toArray.size := by rw [List.size_toArray, ← hl]; exact (List.getElem?_eq_some_iff.mp hy).1
  refine call_meets PySem.F.slot_tuple_index ⟨_, ho, rfl⟩ PySem.F.entry_tuple_index (PySem.F.args_tuple_index_2 _ _) (TI.tuple_indexAt q its.toArray n dd sl (.int z t) (eqU (.int z)) j hj ?_ ?_) ⟨ho, fun w hw => mem_eqAt (x := .int z) ⟨t, rfl⟩ rfl r (flat_ints ns) w (by simpa using hw), ⟨.int (j : Nat), H, I.tok _, ⟨_, rfl⟩, w⟩⟩
  · obtain ⟨y, t', h1, h2⟩ := ixI_ns (z := z) r j hj
    rw [hy] at h1
    cases h1
    rw [h2]
    exact beq_self_eq_true z
  · intro m hm hmj
    obtain ⟨y, t', h1, h2⟩ := ixI_ns (z := z) r m hm
    rw [h2]
    exact beq_eq_false_iff_ne.mpr fun e => hno m hmj (e ▸ h1)
theorem pe_tupIx {o b : Expr} {to tb : TE} {apos cpos : Pos} (ho : PE X o to) (hb : PA X [b] (tCons tb tNil))
    (hbase : attributeBase o "index" X.env (eval o X.env) = eval o X.env := by rfl)
    (hfew : ((backTo cpos (starEach [b] X.env)).all (fun x => !x.1) && (backToKw cpos (keywordEach [] X.env)).all (fun x => x.1.isSome) && decide ([b].length + ([] : List Keyword).length + (if ([] : List Keyword).isEmpty then 0 else 1) < 30)) = true := by rfl)
    (hline : (apos.endLine == cpos.line) = true := by rfl) (hs : starEach [b] X.env = (false, eval b X.env) :: starEach [] X.env := by rfl) :
    PE X (.Call (.Attribute o "index" apos) [b] [] cpos) (fun σ H Q => to σ H fun x H1 => (∃ q vs, x = .ref q ∧ TupF H1 q vs) ∧ tCons tb tNil σ H1 fun ys H2 => ∃ (y : V), ys = [y] ∧ ∃ (q : Addr) (ns : List Int) (z : Int) (j : Nat), x = .ref q ∧ y = .int z ∧ SqT X.K H2 q (ns.map V.int) ∧ ns[j]? = some z ∧ (∀ m, m < j → ns[m]? ≠ some z) ∧ Q (.int (j : Nat)) H2) := ⟨fun pins s σ H Q I h => by
  refine wpAny_Call_method_late hbase hfew hline rfl (thn (ho.run pins s σ H _ I h) fun v s1 ⟨x, H1, I1, r1, ⟨q0, vs0, ex, ob, e0, hd0⟩, q1⟩ => ?_)
  subst ex
  cases r1
  obtain ⟨g1, _, its, rv, ⟨ob', g2, c2, _⟩⟩ := I1.hok q0 _ e0
  have hty : s1.TypeIs (.ref q0) "tuple" := ⟨ob', g2, c2⟩
  refine ⟨"tuple", "tuple.index", PySem.F.plainAttrs_tuple, PySem.F.slot_tuple_index, PySem.F.type_tuple_index, hty, fun a e => by cases e; exact ⟨ob, g1, hd0⟩, ?_⟩
  have hA := hb.run cpos pins s1 σ H1 _ I1 (show tCons tb tNil σ H1 (fun ys H2 => ∃ y, ys = [y] ∧ ∃ (q : Addr) (ns : List Int) (z : Int) (j : Nat), V.ref q0 = .ref q ∧ y = .int z ∧ SqT X.K H2 q (ns.map V.int) ∧ ns[j]? = some z ∧ (∀ m, m < j → ns[m]? ≠ some z) ∧ Q (.int (j : Nat)) H2) from q1)
  rw [hs] at hA ⊢
  refine Calls.callWith_builtin (by rfl) (Calls.evalArgs_plain ?_)
  exact thn hA fun us s2 ⟨ys, H2, I2, r2, y, ey, q, ns, z, j, eq, ez, hq, hy, hno, w⟩ => by
    subst ey ez
    cases eq
    exact tupIx_call I2 r2 hq hy hno w⟩
/-- the place of the first of these ints -/
def ixOf : List PV → Int → Option Nat
  | [], _ => none
  | .int n :: r, z => if n = z then some 0 else (ixOf r z).map (· + 1)
  | _ :: _, _ => none
theorem ixOf_ints {xs : List PV} {ns : List Int} (e : ints? xs = some ns) : ∀ {z : Int} {j : Nat}, ixOf xs z = some j → ns[j]? = some z ∧ ∀ m, m < j → ns[m]? ≠ some z := by
  induction xs generalizing ns with
  | nil => intro z j h; cases h
  | cons x xs ih =>
    intro z j h
    cases x with
    | int n =>
      simp only [ints?] at e
      cases q : ints? xs with
      | none => rw [q] at e; cases e
      | some ms =>
        rw [q] at e
        cases e
        unfold ixOf at h
        split at h
        next hn => cases h; exact ⟨by rw [hn]; rfl, fun m hm => absurd hm (Nat.not_lt_zero m)⟩
        next hn =>
          obtain ⟨k, hk, rfl⟩ := Option.map_eq_some_iff.mp h
          obtain ⟨h1, h2⟩ := ih q hk
          exact ⟨by simpa using h1, fun m hm => by
            cases m with
            | zero => exact fun z => hn (by simpa using z)
            | succ m => simpa using h2 m (by omega)⟩
    | _ => cases h
@[simp] def eTix (sa sb : List Sl → Res EV) (m : List Sl) : Res EV := (sa m).bind fun x m1 => match x.v with
  | .tup xs => (sb m1).bind fun y m2 => match y.v, ints? xs with
    | .int z, some _ => match ixOf xs z with
      | some j => .ok (.pv (.int j)) m2
      | none => .stuck
    | _, _ => .stuck
  | _ => .stuck
theorem se_tix {o b : Expr} {sa sb : List Sl → Res EV} {apos cpos : Pos} (hk : X.K = p.K) (ha : SE p X o sa) (hb : SE p X b sb)
    (hbase : attributeBase o "index" X.env (eval o X.env) = eval o X.env := by rfl)
    (hfew : ((backTo cpos (starEach [b] X.env)).all (fun x => !x.1) && (backToKw cpos (keywordEach [] X.env)).all (fun x => x.1.isSome) && decide ([b].length + ([] : List Keyword).length + (if ([] : List Keyword).isEmpty then 0 else 1) < 30)) = true := by rfl)
    (hline : (apos.endLine == cpos.line) = true := by rfl) (hs : starEach [b] X.env = (false, eval b X.env) :: starEach [] X.env := by rfl) : SE p X (.Call (.Attribute o "index" apos) [b] [] cpos) (eTix sa sb) :=
  pe_imp (pe_tupIx ha (pa_cons hb pa_nil hs) hbase hfew hline hs) fun σ H Q ⟨m, L, st, h⟩ => by
    refine tE_then st h fun v m1 x H1 L1 t ev h1 => ?_
    split at h1
    next xs e1 =>
      have rv := ev.rd
      rw [e1] at rv
      obtain ⟨q, vs, rfl, tf, n, rs⟩ := rv.tup
      refine ⟨⟨q, vs, rfl, tf⟩, ?_⟩
      show tE p sb σ H1 _
      refine tE_then t.st h1 fun u m2 y H2 L2 t2 ev2 h2 => ?_
      split at h2
      next z ns e2 e3 =>
        split at h2
        next j e4 =>
          have ry := ev2.rd
          rw [e2] at ry
          obtain ⟨tf2, n2⟩ := tf.mono t2.stp n
          have rs2 := rs.mono t2.stp
          have evs : vs = ns.map V.int := by
            rw [ints?_eq e3] at rs2
            exact rs2.ints
          obtain ⟨i1, i2⟩ := ixOf_ints e3 e4
          refine ⟨y, rfl, q, ns, z, j, rfl, ry.int, by rw [hk, ← evs]; exact tf2.sq, i1, i2, RQ.pv t2.st h2 (.int _)⟩
        next => exact h2.elim
      next => exact h2.elim
    next => exact h1.elim
end
end Sd
end
section
set_option Elab.async false
set_option linter.all false
set_option maxRecDepth 100000
set_option maxHeartbeats 4000000
namespace Sd
open PySem PySem.Spec PyProof.Rows L2
theorem bb_type : bootBuiltins "type" = some (.type "type") := by decide +kernel
/-! ### a list of one's own that is gone through stays one's own -/
def lendB (B : Nat → Option Addr) (k : Nat) (a : Addr) : Nat → Option Addr := fun i => if i = k then some a else B i
def unl (k : Nat) (m : List Sl) : List Sl := match m[k]? with
  | some (.bor o) => m.set k (.own o)
  | _ => m
def unlR (k : Nat) : SRes → SRes
  | .nx m => .nx (unl k m)
  | .brk m => .brk (unl k m)
  | .cnt m => .cnt (unl k m)
  | .ret v m => .ret v (unl k m)
  | .exc c m => .exc c (unl k m)
  | .stuck => .stuck
@[simp] theorem unlR_nx (k : Nat) (m : List Sl) : unlR k (.nx m) = .nx (unl k m) := rfl
@[simp] theorem unlR_brk (k : Nat) (m : List Sl) : unlR k (.brk m) = .brk (unl k m) := rfl
@[simp] theorem unlR_cnt (k : Nat) (m : List Sl) : unlR k (.cnt m) = .cnt (unl k m) := rfl
@[simp] theorem unlR_ret (k : Nat) (v : EV) (m : List Sl) : unlR k (.ret v m) = .ret v (unl k m) := rfl
@[simp] theorem unlR_exc (k : Nat) (c : Ex) (m : List Sl) : unlR k (.exc c m) = .exc c (unl k m) := rfl
@[simp] theorem unlR_stuck (k : Nat) : unlR k .stuck = .stuck := rfl
/-- the loop over what stands in slot k, place by place -/
def forLO (k : Nat) (tgt : PV → List Sl → Option (List Sl)) (d : List Sl → SRes) : Nat → Nat → List Sl → SRes
  | 0, _, _ => .stuck
  | n + 1, j, m => match m[k]? with
    | some (.bor (.lst xs)) => match xs[j]? with
      | none => .nx m
      | some v => match tgt v m with
        | none => .stuck
        | some m1 => match d m1 with
          | .nx m2 => forLO k tgt d n (j + 1) m2
          | .cnt m2 => forLO k tgt d n (j + 1) m2
          | .brk m2 => .nx m2
          | q => q
    | _ => .stuck
/-- reversed(a list or a tuple) -/
@[simp] def sRevd (s : List Sl → Res EV) (m : List Sl) : Res (List PV) := (s m).bind fun v m1 => match v.v with
  | .lst xs => .ok xs.reverse m1
  | .tup xs => .ok xs.reverse m1
  | _ => .stuck
@[simp] def dForO (k : Nat) (tgt : PV → List Sl → Option (List Sl)) (d : List Sl → SRes) (m : List Sl) : SRes := match m[k]? with
  | some (.own (.lst xs)) => unlR k (forLO k tgt d (xs.length + 1) 0 (m.set k (.bor (.lst xs))))
  | some (.bor (.lst xs)) => forLO k tgt d (xs.length + 1) 0 m
  | _ => .stuck
section
variable {K : PySem.W.Frag} {B : Nat → Option Addr} {m m' : List Sl} {σ σ' : L2.St} {H H' : Hp} {L L' : Lv} {k : Nat} {o : Ob} {a : Addr}
theorem cell_lend (e : m[k]? = some (.own o)) (i : Nat) : Cell (m.set k (.bor o))[i]? ↔ Cell m[i]? := by
  have hk : k < m.length := (List.getElem?_eq_some_iff.mp e).1
  by_cases h : k = i
  · subst h; rw [List.getElem?_set_self hk, e]; exact ⟨fun _ => trivial, fun _ => trivial⟩
  · rw [List.getElem?_set_ne h]
theorem adr_lend (e : m[k]? = some (.own o)) (b : Addr) : Adr (m.set k (.bor o)) σ b ↔ Adr m σ b :=
  ⟨fun ⟨i, c, ei⟩ => ⟨i, (cell_lend e i).mp c, ei⟩, fun ⟨i, c, ei⟩ => ⟨i, (cell_lend e i).mpr c, ei⟩⟩
theorem StR.lend (st : StR K B m σ H L) (e : m[k]? = some (.own o)) (ea : σ[k]? = some (some (.ref a))) : StR K (lendB B k a) (m.set k (.bor o)) σ H L := by
  have hk : k < m.length := (List.getElem?_eq_some_iff.mp e).1
  obtain ⟨b, eb, l, hB, r⟩ := st.ok k _ _ e ea
  cases eb
  refine ⟨by rw [List.length_set]; exact st.len, fun i s x e1 e2 => ?_, fun i j c hij ci cj => st.ne i j c hij ((cell_lend e i).mp ci) ((cell_lend e j).mp cj), st.wf, fun i c hc => ?_⟩
  · by_cases h : k = i
    · subst h
      rw [List.getElem?_set_self hk] at e1
      cases e1
      rw [ea] at e2
      cases e2
      exact ⟨a, rfl, l, if_pos rfl, r⟩
    · rw [List.getElem?_set_ne h] at e1
      have q := st.ok i s x e1 e2
      have hb : lendB B k a i = B i := if_neg (Ne.symm h)
      rw [hb]
      exact q
  · by_cases h : k = i
    · subst h
      have : lendB B k a k = some a := if_pos rfl
      rw [this] at hc
      cases hc
      exact ⟨o, List.getElem?_set_self hk, ea⟩
    · have hb : lendB B k a i = B i := if_neg (Ne.symm h)
      rw [hb] at hc
      obtain ⟨o', e1, e2⟩ := st.lent i c hc
      exact ⟨o', by rw [List.getElem?_set_ne h]; exact e1, e2⟩
theorem unl_eq (e : m[k]? = some (.bor o)) : unl k m = m.set k (.own o) := by unfold unl; rw [e]
theorem cell_back (e : m[k]? = some (.bor o)) (i : Nat) : Cell (m.set k (.own o))[i]? ↔ Cell m[i]? := by
  have hk : k < m.length := (List.getElem?_eq_some_iff.mp e).1
  by_cases h : k = i
  · subst h; rw [List.getElem?_set_self hk, e]; exact ⟨fun _ => trivial, fun _ => trivial⟩
  · rw [List.getElem?_set_ne h]
theorem StR.back (st : StR K (lendB B k a) m σ H L) (hB : B k = none) : ∃ o, m[k]? = some (.bor o) ∧ σ[k]? = some (some (.ref a)) ∧ StR K B (m.set k (.own o)) σ H L := by
  obtain ⟨o, e, ea⟩ := st.lent k a (if_pos rfl)
  have hk : k < m.length := (List.getElem?_eq_some_iff.mp e).1
  obtain ⟨b, eb, l, _, r⟩ := st.ok k _ _ e ea
  cases eb
  refine ⟨o, e, ea, by rw [List.length_set]; exact st.len, fun i s x e1 e2 => ?_, fun i j c hij ci cj => st.ne i j c hij ((cell_back e i).mp ci) ((cell_back e j).mp cj), st.wf, fun i c hc => ?_⟩
  · by_cases h : k = i
    · subst h
      rw [List.getElem?_set_self hk] at e1
      cases e1
      rw [ea] at e2
      cases e2
      exact ⟨a, rfl, l, hB, r⟩
    · rw [List.getElem?_set_ne h] at e1
      have q := st.ok i s x e1 e2
      have hb : lendB B k a i = B i := if_neg (Ne.symm h)
      rw [hb] at q
      exact q
  · have h : k ≠ i := fun z => by subst z; rw [hB] at hc; cases hc
    have hb : lendB B k a i = B i := if_neg (Ne.symm h)
    obtain ⟨o', e1, e2⟩ := st.lent i c (by rw [hb]; exact hc)
    exact ⟨o', by rw [List.getElem?_set_ne h]; exact e1, e2⟩
theorem Tw.back (e : m[k]? = some (.own o)) (hB : B k = none) (t : Tw K (lendB B k a) (m.set k (.bor o)) σ H L m' σ' H' L') : Tw K B m σ H L (unl k m') σ' H' L' := by
  obtain ⟨o', e', ea', st'⟩ := t.st.back hB
  rw [unl_eq e']
  exact ⟨t.stp.wide fun b z => (adr_lend e b).mp z, st', fun b ⟨i, c, ei⟩ => (t.sub b ⟨i, (cell_back e' i).mp c, ei⟩).imp (adr_lend e b).mp id⟩
end
section
variable {p : Pm} {X : Cx} {m m1 : List Sl} {σ σ1 : L2.St} {H H1 : Hp} {L L1 : Lv}
abbrev Pm.lend (p : Pm) (k : Nat) (a : Addr) : Pm := ⟨p.K, p.mg, p.W, lendB p.B k a⟩
theorem RS.lend {k : Nat} {o : Ob} {a : Addr} {r : SRes} {D : Ends} (e : m[k]? = some (.own o)) (hB : p.B k = none) (h : RS p m σ H L (unlR k r) D) : RS (p.lend k a) (m.set k (.bor o)) σ H L r D := by
  cases r with
  | nx m' => exact fun σ' H' L' t => h σ' H' L' (t.back e hB)
  | brk m' => exact fun σ' H' L' t => h σ' H' L' (t.back e hB)
  | cnt m' => exact fun σ' H' L' t => h σ' H' L' (t.back e hB)
  | ret v m' => exact fun x σ' H' L' t ev => h x σ' H' L' (t.back e hB) ev
  | exc c m' => exact fun cls d σ' H' L' t ev => h cls d σ' H' L' (t.back e hB) ev
  | stuck => exact h.elim
/-- the turns of such a loop -/
theorem forO_core {g : TG} {ids : List Nat} {tgt : PV → List Sl → Option (List Sl)} {d : List Sl → SRes} {D : Ends} {k : Nat} {a : Addr} {n : Nat} {K : PySem.W.Frag} (hK : K = p.K) (kg : ∀ B, TgG ⟨p.K, p.mg, p.W, B⟩ g ids tgt) (hB : p.B k = some a) (st : StR p.K p.B m σ H L) (h : RS p m σ H L (forLO k tgt d n 0 m) D) :
    ∃ W : Nat → Nat → L2.St → Hp → Prop, (∃ q, W 0 q σ H) ∧ ∀ i q σ H, W i q σ H → ((Itl K a).stop i H ∧ D.nx σ H) ∨ ((Itl K a).go i H ∧ ∃ N : L2.St → Hp → Prop, (∀ σ' H', N σ' H' → ∃ q', q' < q ∧ W (i + 1) q' σ' H') ∧
      ∀ x H', (Itl K a).yld i H x H' → g x σ H' fun σ2 H2 => (fun D σ H => ∃ B, tS ⟨p.K, p.mg, p.W, B⟩ d D σ H) { D with nx := N, ct := N, bk := D.nx } σ2 H2) := by
  subst hK
  refine ⟨fun i q σ' H' => ∃ mm L', StR p.K p.B mm σ' H' L' ∧ RS p mm σ' H' L' (forLO k tgt d q i mm) D, ⟨n, m, L, st, h⟩, ?_⟩
  rintro i q σ' H' ⟨mm, L', st', hq⟩
  obtain ⟨o, eo, ea⟩ := st'.lent k a hB
  cases q with
  | zero => exact hq.elim
  | succ q =>
    unfold forLO at hq
    rw [eo] at hq
    obtain ⟨b, eb, l, _, r⟩ := st'.ok k _ _ eo ea
    cases eb
    cases o with
    | dct kvs => exact hq.elim
    | lst xs =>
      obtain ⟨vs, ev, rs⟩ := r
      dsimp only at hq
      cases ex : xs[i]? with
      | none =>
        left
        rw [ex] at hq
        have hl : vs.length ≤ i := by rw [← rs.length]; exact List.getElem?_eq_none_iff.mp ex
        exact ⟨⟨vs, SqL.of ev, hl⟩, hq σ' H' L' (Tr.refl st').w⟩
      | some v =>
        right
        rw [ex] at hq
        dsimp only at hq
        obtain ⟨x, hx, rx⟩ := rs.get ex
        cases et : tgt v mm with
        | none => rw [et] at hq; exact hq.elim
        | some m2 =>
          rw [et] at hq
          dsimp only at hq
          refine ⟨⟨vs, x, SqL.of ev, hx⟩, fun σ2 H2 => ∃ mm L2, StR p.K p.B mm σ2 H2 L2 ∧ RS p mm σ2 H2 L2 (forLO k tgt d q (i + 1) mm) D, fun σ2 H2 ⟨mm', L2, z1, z2⟩ => ⟨q, Nat.lt_succ_self q, mm', L2, z1, z2⟩, fun y H2 ⟨e1, e2⟩ => ?_⟩
          subst e1
          have := e2 vs (SqL.of ev)
          rw [hx] at this
          cases this
          refine kg p.B v x mm σ' H2 L' m2 _ st' rx et fun σ2 tg _ _ => ⟨p.B, m2, L', tg.st, ?_⟩
          have hq2 := RS.go tg.w hq
          cases ed : d m2 with
          | nx m3 => rw [ed] at hq2; exact fun σ3 H3 L3 tw3 => ⟨m3, L3, tw3.st, RS.go tw3 hq2⟩
          | cnt m3 => rw [ed] at hq2; exact fun σ3 H3 L3 tw3 => ⟨m3, L3, tw3.st, RS.go tw3 hq2⟩
          | brk m3 => rw [ed] at hq2; exact hq2
          | ret v m3 => rw [ed] at hq2; exact hq2
          | exc c m3 => rw [ed] at hq2; exact hq2
          | stuck => rw [ed] at hq2; exact hq2
theorem pss_ex {α : Type} {s : List Stmt} {t : α → TS} (h : ∀ a, PSs X s (t a)) : PSs X s (fun D σ H => ∃ a, t a D σ H) := ⟨fun pins s σ H D I ⟨a, hw⟩ => (h a).run pins s σ H D I hw⟩
theorem ss_forO {tg iter : Expr} {body : List Stmt} {k : Nat} {tgt : PV → List Sl → Option (List Sl)} {d : List Sl → SRes} {pos : Pos} (hk : X.K = p.K) (hp : PassesOwn (model X.prog X.w) X.A X.env X.xe) (hc : X.calm = true) (hi : PE X iter (tVar k)) {ids : List Nat} {g : TG} (pg : PG X tg g) (kg : ∀ B, TgG ⟨p.K, p.mg, p.W, B⟩ g ids tgt)
    (hb : ∀ B, SSs ⟨p.K, p.mg, p.W, B⟩ X body d) (hs : ∀ x, foldedSetIterable iter X.env x = pure x) : SS p X (.For tg iter body [] pos) (dForO k tgt d) := by
  refine ps_imp (ps_for hp hc (pi_seq hi) pg (pss_ex hb) hs) fun D σ H ⟨m, L, st, h⟩ => ?_
  unfold dForO at h
  split at h
  next xs e =>
    obtain ⟨x, ex, a, rfl, l, hB, vs, ev, rs⟩ := st.at e
    have st' := st.lend e ex
    have h' := RS.lend (a := a) e hB h
    exact ⟨.ref a, ex, a, rfl, .inl ⟨⟨vs, SqL.of ev⟩, forO_core (p := p.lend k a) hk kg (if_pos rfl) st' h'⟩⟩
  next xs e =>
    obtain ⟨x, ex, a, rfl, l, hB, vs, ev, rs⟩ := st.at e
    exact ⟨.ref a, ex, a, rfl, .inl ⟨⟨vs, SqL.of ev⟩, forO_core hk kg hB st h⟩⟩
  next => exact h.elim
theorem si_revd {tg e : Expr} {s : List Sl → Res EV} {px pos : Pos} (hk : X.K = p.K) (hg : Gl X "reversed") (hm : X.mg "reversed" = none) (ha : SE p X e s)
    (na : starEach [e] X.env = (false, eval e X.env) :: starEach [] X.env) : SI p X tg (.Call (.Name "reversed" px) [e] [] pos) (sRevd s) := pi_imp (RT.pi_revA hg hm ha na) fun σ H R ⟨m, L, st, h⟩ => by
  refine tE_thenI st h fun v m1 x H1 L1 t ev h1 => ?_
  obtain ⟨L', t', r⟩ := ev.froze st t
  rw [hk]
  split at h1
  next ys ev' =>
    rw [ev'] at r
    cases r with
    | lst e rs =>
      refine ⟨_, _, rfl, .inl ⟨e.seq, h1 _ H1 L' t' fun H2 L2 s wf => ⟨fun i v hv => ?_, fun i hi => by rw [List.length_reverse, rs.length] at hi; exact hi⟩⟩⟩
      have rs' := rs.mono s
      have hi : i < ys.length := by simpa using (List.getElem?_eq_some_iff.mp hv).1
      rw [List.getElem?_reverse hi] at hv
      obtain ⟨x, hx, rx⟩ := rs'.get hv
      rw [rs.length] at hx hi
      refine ⟨⟨hi, _, x, (e.mono s).seq, hx⟩, fun y H' ⟨e1, e2⟩ => ?_⟩
      subst e1
      have := e2 _ (e.mono s).seq
      rw [hx] at this; cases this
      exact ⟨.refl _ _ _, rx⟩
  next ys ev' =>
    rw [ev'] at r
    cases r with
    | tup e n rs =>
      refine ⟨_, _, rfl, .inr ⟨e.sq, h1 _ H1 L' t' fun H2 L2 s wf => ⟨fun i v hv => ?_, fun i hi => by rw [List.length_reverse, rs.length] at hi; exact hi⟩⟩⟩
      have rs' := rs.mono s
      have hi : i < ys.length := by simpa using (List.getElem?_eq_some_iff.mp hv).1
      rw [List.getElem?_reverse hi] at hv
      obtain ⟨x, hx, rx⟩ := rs'.get hv
      rw [rs.length] at hx hi
      refine ⟨⟨hi, _, x, (e.mono s n).1.sq, hx⟩, fun y H' ⟨e1, e2⟩ => ?_⟩
      subst e1
      have := e2 _ (e.mono s n).1.sq
      rw [hx] at this; cases this
      exact ⟨.refl _ _ _, rx⟩
  next => exact h1.elim
end
end Sd
end
section
set_option Elab.async false
set_option linter.all false
set_option maxRecDepth 100000
set_option maxHeartbeats 4000000
namespace Sd
open PySem PySem.Spec PyProof.Rows L2
/-! ### defs with defaults, calls with defaults and by keyword -/
theorem fnG_ofD {P : Program} {w : World} {K : PySem.W.Frag} {mg : Str → Option Value} {base : Heap} {x qual : Str} {st : Stmt} {dvs : List V} {kws : List (Str × V)} {f : Addr} {fd : FuncData} {N ps : List Str} {k : Nat} {d : List Sl → SRes} (F : FunD K x qual (defArgs st) (defBody st) (defScope st) dvs kws f fd) (S : FnScope N ps (defScope st))
    (der : ∀ (cdv : Value) (A : Around) (outer : List Env) (s : Shared) (H : Hp) (E : XK) (B : Nat → Option Addr), Room k (A.deeper (envOfC qual (defScope st) s.heap.objs.size f cdv)) → A.guards = some [] →
      SSs ⟨K, mg, fun cls d _ H' => E cls d H', B⟩ (cxOf (L2.CX P w) P w K mg base N qual (defScope st) f cdv A outer s H E) (defBody st) d) : FnG P w K mg base (k + 1) f fd ps (runB N.length d) := by
  obtain ⟨oc, od, dV, kV, doc, pm, an, cdv, ct, osl, rfl, lk, hcd, _, _⟩ := F.ex
  refine ⟨fun A outer s H args us vs Q E hr hg e0 hlu hb r hsp => ?_⟩
  obtain ⟨as, L, hal, st0, hφ⟩ := hsp
  have hl : vs.length = ps.length := by rw [r.length]; exact hlu
  have KX : K.In s.heap := e0.mod.kin.keeps fun b o e => (e0.bs b o e).1
  have lim : s.heap.NoLimit := e0.mod.nolimit.keeps fun b o e => (e0.bs b o e).1
  have hkind : ∀ y ∈ ps.zip us, (defScope st).names.lookup y.1 = some .local ∨ ((defScope st).names.lookup y.1 = some .cell ∧ ((cellsFrom (s.heap.objs.size + 1) (defScope st).names []).lookup y.1).isSome = true) := fun ⟨n, v⟩ hy => by
    rcases S.par n (List.of_mem_zip hy).1 with q | q
    · exact .inl q
    · exact .inr ⟨q, PySem.W.cellsFrom_some _ _ _ (.inl q)⟩
  refine codeAny_call_function hr.depth (KX _ _ lk) rfl S.co S.gen rfl (PySem.W.codeRec_of KX hcd) (hb _ _ _ _ ?_)
  refine wpAny_newFunctionEnv_cells S.kind hkind fun env he s1 x => ?_
  subst he
  refine ⟨lim.keeps x.toInCall.keep, codeAny_func ?_⟩
  have hder := der cdv A outer s H E (BOf as vs) (hr.deeper _) hg
  have I : Inv (cxOf (L2.CX P w) P w K mg base N qual (defScope st) f cdv A outer s H E) [] (start N vs) H s1 := inv_start S hr.hd e0 hl r x
  have hN : N.length - as.length = N.length - vs.length := by rw [hal]
  have stE := StR.ext (k := N.length - vs.length) hal st0
  have fin : ∀ {σ' : L2.St} {H' : Hp} {v : V} {u : Value} {s' : Shared}, Inv (cxOf (L2.CX P w) P w K mg base N qual (defScope st) f cdv A outer s H E) [] σ' H' s' → RelV v u → Q v H' → CE outer P w H s Q u s' :=
    fun {σ' H' v u s'} J rv q => ⟨v, H', J.os, J.bare, J.base, J.hok, rv, q⟩
  have body : tS ⟨K, mg, fun cls d _ H' => E cls d H', BOf as vs⟩ d { nx := fun _ H' => Q .non H', rt := Q } (start N vs) H := by
    refine ⟨as ++ List.replicate (N.length - vs.length) .un, L, stE, ?_⟩
    unfold runB at hφ
    rw [hN] at hφ
    have stp : ∀ {σ' H' L' m'}, Tw K (BOf as vs) (as ++ List.replicate (N.length - vs.length) .un) (start N vs) H L m' σ' H' L' → Stp (Adr as (vs.map some)) H L H' L' := fun t => t.stp.wide fun a z => adr_ext hal z
    generalize d (as ++ List.replicate (N.length - vs.length) .un) = res at hφ ⊢
    cases res with
    | nx m' => exact fun σ' H' L' t => hφ _ H' L' (stp t) t.st.wf .non (BoR.of t.st lent_lt)
    | ret v m' => exact fun x σ' H' L' t ev => hφ x H' L' (stp t) t.st.wf ev (BoR.of t.st lent_lt)
    | exc c m' => exact fun cls d σ' H' L' t ev => hφ cls d H' L' (stp t) t.st.wf (BoR.of t.st lent_lt) ev
    | brk m' => exact hφ.elim
    | cnt m' => exact hφ.elim
    | stuck => exact hφ.elim
  refine wpAny_mono (PSs.run hder [] s1 (start N vs) H _ I body) (fun fl s' hs => ?_) fun e s' hs => hs
  cases fl with
  | ret u =>
    obtain ⟨v, σ', H', J, rv, q⟩ := hs
    exact fin J rv q
  | next =>
    obtain ⟨σ', H', J, q⟩ := hs
    exact fin (v := V.non) (u := Value.none) J rfl q
  | brk =>
    obtain ⟨_, _, _, q⟩ := hs
    exact q.elim
  | cont =>
    obtain ⟨_, _, _, q⟩ := hs
    exact q.elim
@[simp] def uCall (n : Nat) (φ : List Sl → Res EV) (avs : List AV) (m1 : List Sl) : Res EV := if (decide (avs.length = n) && decide (ios avs).Nodup) = true then
    match asOf m1 avs with
    | none => .stuck
    | some as => match φ as with
      | .ok v as' => .ok v (putB avs as' m1)
      | .exc c as' => .exc c (putB avs as' m1)
      | .stuck => .stuck
  else .stuck
/-- the last ones by their defaults, ints -/
@[simp] def eUserD (n : Nat) (φ : List Sl → Res EV) (ss : List ArgD) (dfl : List Int) (m : List Sl) : Res EV := (eArgs ss m).bind fun avs m1 => uCall n φ (avs ++ dfl.map fun d => .ev (.pv (.int d))) m1
/-- the last one by keyword -/
@[simp] def eUserK (n : Nat) (φ : List Sl → Res EV) (ss : List ArgD) (sk : List Sl → Res EV) (m : List Sl) : Res EV := (eArgs ss m).bind fun avs m1 => (sk m1).bind fun w m2 => match w with
  | .pv v => uCall n φ (avs ++ [.ev (.pv v)]) m2
  | _ => .stuck
def FnBD (P : Program) (w : World) (K : PySem.W.Frag) (mg : Str → Option Value) (base : Heap) (x : Str) (k : Nat) (ps : List Str) (dfl : List Int) (φ : List Sl → Res EV) : Prop :=
  ∃ f fd, FnG P w K mg base k f fd ps φ ∧ mg x = some (.ref f) ∧ PySem.W.keepIn K (.ref f) = true ∧ ∃ ds, Vals (dfl.map V.int) ds ∧ Binds K fd ps ds
/-- n positional ones, the last by the keyword y -/
def FnBK (P : Program) (w : World) (K : PySem.W.Frag) (mg : Str → Option Value) (base : Heap) (x : Str) (k : Nat) (ps : List Str) (n : Nat) (y : Str) (φ : List Sl → Res EV) : Prop :=
  ∃ f fd, FnG P w K mg base k f fd ps φ ∧ mg x = some (.ref f) ∧ PySem.W.keepIn K (.ref f) = true ∧ ∀ (s : Shared) (us : List Value) (u : Value), K.In s.heap → us.length = n → BindsTo s fd ⟨us, [(y, u)]⟩ (ps.zip (us ++ [u]))
section
variable {X : Cx} {W : WX} {B : Nat → Option Addr} {m m1 : List Sl} {σ : L2.St} {H H1 : Hp} {L L1 : Lv}
theorem uCall_sound {n : Nat} {φ : List Sl → Res EV} {avs : List AV} {xs : List V} {Q : VK} (st : StR X.K B m σ H L) (t : Tr X.K B m σ H L m1 σ H1 L1) (r : AvRs X.K σ H H1 L1 avs xs) (h : RQ ⟨X.K, X.mg, W, B⟩ m σ H L (uCall n φ avs m1) Q) :
    xs.length = n ∧ spG X.K X.mg φ xs H1 Q fun cls d H' => W cls d σ H' := by
  unfold uCall at h
  split at h
  next hc =>
    rw [Bool.and_eq_true, decide_eq_true_eq, decide_eq_true_eq] at hc
    refine ⟨by rw [← r.length]; exact hc.1, ?_⟩
    split at h
    next => exact h.elim
    next as ea =>
      obtain ⟨hl, sc, sub⟩ := callee_st st t r hc.2 ea
      refine ⟨as, L1, hl, sc, ?_⟩
      cases hφ : φ as with
      | stuck => rw [hφ] at h; exact h.elim
      | ok v as' =>
        rw [hφ] at h
        exact fun y H' L' stp wf ev br => h y H' L' (caller_st st t r hc.2 ea stp wf br) (ev.back fun a => none_back t.stp)
      | exc c as' =>
        rw [hφ] at h
        exact fun cls d H' L' stp wf br ex => h cls d H' L' (caller_st st t r hc.2 ea stp wf br) ex
  next => exact h.elim
theorem AvRs.snoc {K : PySem.W.Frag} {H0 : Hp} {v : PV} {x : V} (rv : VR K H1 L1 v x) : ∀ {vs : List AV} {xs : List V}, AvRs K σ H0 H1 L1 vs xs → AvRs K σ H0 H1 L1 (vs ++ [.ev (.pv v)]) (xs ++ [x])
  | _, _, .nil => .cons (v := .ev (.pv v)) rv .nil fun z => z.elim
  | _, _, .cons (vs := vs) (xs := xs) h r n => .cons h (AvRs.snoc rv r) fun hv w hw hm => by
    have hz := List.zip_append (r₁ := [AV.ev (EV.pv v)]) (r₂ := [x]) r.length
    rw [show (vs.append [AV.ev (EV.pv v)]).zip (xs.append [x]) = _ from hz, List.mem_append] at hm
    rcases hm with hm | hm
    · exact n hv w hw hm
    · have e := List.mem_singleton.mp hm
      injection e with e1 e2
      subst e1
      exact hw.elim
theorem AvRs.snocs {K : PySem.W.Frag} {H0 : Hp} : ∀ {ds : List Int} {vs : List AV} {xs : List V}, AvRs K σ H0 H1 L1 vs xs → AvRs K σ H0 H1 L1 (vs ++ ds.map fun d => .ev (.pv (.int d))) (xs ++ ds.map V.int)
  | [], vs, xs, r => by simpa using r
  | d :: ds, vs, xs, r => by
    have := AvRs.snocs (ds := ds) (AvRs.snoc (v := .int d) (.int d) r)
    simpa using this
theorem run_ret {Q : VK} {pins : List (Addr × Obj)} {s1 : Shared} {k : Nat} {f : Addr} {fd : FuncData} {ps : List Str} {φ : List Sl → Res EV} {args : Args} {us : List Value} {vs : List V} (F : FnG X.prog X.w X.K X.mg X.base k f fd ps φ) (hr : Room k X.A) (hgd : X.A.guards = some []) (tk : Takes X W) (I1 : Inv X pins σ H1 s1) (r : Vals vs us) (hl : vs.length = ps.length)
    (b : BindsTo s1 fd args (ps.zip us)) (q : spG X.K X.mg φ vs H1 Q fun cls d H' => W cls d σ H') : wpAny (model X.prog X.w) X.A (call (.ref f) args.pos args.kw) (EP X pins σ Q) X.xe s1 := by
  refine wpAny_call (codeAny_mono (F.run X.A X.stack s1 H1 args us vs Q _ hr hgd I1.env0 (by rw [← r.length]; exact hl) b r q) fun r s' hq => ?_)
  cases r with
  | error e => exact passAt tk σ pins H1 s1 e s' I1 hq
  | ok fl =>
    cases fl with
    | ret u => exact I1.after hq
    | next => exact False.elim hq
    | brk => exact False.elim hq
    | cont => exact False.elim hq
theorem se_userD {n : Nat} {k : Nat} {ps : List Str} {dfl : List Int} {φ : List Sl → Res EV} {x : Str} {px pos : Pos} {e : Expr} {es : List Expr} {ss : List ArgD} (F : FnBD X.prog X.w X.K X.mg X.base x k ps dfl φ) (hr : Room k X.A) (hgd : X.A.guards = some []) (hg : Gl X x)
    (tk : Takes X W) (ha : SA ⟨X.K, X.mg, W, B⟩ X (e :: es) ss) (hdb : (x == ("__debug__" : Str)) = false) (he : starEach (e :: es) X.env = (false, eval e X.env) :: starEach es X.env)
    (hpl : (backTo pos (starEach es X.env)).any (·.1) = false) (hn : ps.length = n) : SE ⟨X.K, X.mg, W, B⟩ X (.Call (.Name x px) (e :: es) [] pos) (eUserD n φ ss dfl) := by
  obtain ⟨f, fd, F, hm, hk, ds, rd, hb⟩ := F
  subst hn
  refine ⟨fun pins s σ H Q I ⟨m, L, st, h⟩ => ?_⟩
  have hA : tA ⟨X.K, X.mg, W, B⟩ (eArgs ss) σ H fun xs H1 => (xs ++ dfl.map V.int).length = ps.length ∧ spG X.K X.mg φ (xs ++ dfl.map V.int) H1 Q fun cls d H' => W cls d σ H' :=
    tA_then st h fun avs m1 xs H1 L1 t r h1 => uCall_sound st t r.snocs h1
  refine wpAny_Call_Name_kw (ld_glob I hg hm ?_ hdb)
  refine PySem.W.callWith_K (h₀ := X.base) I.ok.mod.kin hk (thn (ha.run pos pins s σ H _ I hA) fun us s1 ⟨vs, H1, I1, r, hl, q⟩ => ⟨I1.kIn, ?_⟩) he hpl
  have r2 := r.append rd
  exact run_ret (args := ⟨us, []⟩) F hr hgd tk I1 r2 hl (hb s1 us I1.kIn (by rw [← r2.length]; exact hl)) q
theorem se_userK {n : Nat} {k : Nat} {ps : List Str} {y : Str} {φ : List Sl → Res EV} {x : Str} {px pos kpos : Pos} {e e2 : Expr} {es : List Expr} {ss : List ArgD} {sk : List Sl → Res EV} (F : FnBK X.prog X.w X.K X.mg X.base x k ps (e :: es).length y φ) (hr : Room k X.A) (hgd : X.A.guards = some []) (hg : Gl X x)
    (tk : Takes X W) (ha : SA ⟨X.K, X.mg, W, B⟩ X (e :: es) ss) (hkw : SE ⟨X.K, X.mg, W, B⟩ X e2 sk) (hdb : (x == ("__debug__" : Str)) = false) (he : starEach (e :: es) X.env = (false, eval e X.env) :: starEach es X.env)
    (hall : (backToKw pos (keywordEach [⟨some y, e2, kpos⟩] X.env)).all (·.1.isSome) = true) (hks : (backToKw pos (keywordEach [⟨some y, e2, kpos⟩] X.env)).filterMap (·.1) = [y])
    (hpl : ((backTo pos (starEach (e :: es) X.env)).any (·.1) || (backToKw pos (keywordEach [⟨some y, e2, kpos⟩] X.env)).any (·.1.isNone)) = false) (hn : ps.length = n) (hn2 : ps.length = (e :: es).length + 1) : SE ⟨X.K, X.mg, W, B⟩ X (.Call (.Name x px) (e :: es) [⟨some y, e2, kpos⟩] pos) (eUserK n φ ss sk) := by
  obtain ⟨f, fd, F, hm, hk, hb⟩ := F
  subst hn
  refine ⟨fun pins s σ H Q I ⟨m, L, st, h⟩ => ?_⟩
  have hA : tA ⟨X.K, X.mg, W, B⟩ (eArgs ss) σ H fun xs H1 => tE ⟨X.K, X.mg, W, B⟩ sk σ H1 fun z' H2 => ∃ z, [z'] = [z] ∧ (xs ++ [z]).length = ps.length ∧ spG X.K X.mg φ (xs ++ [z]) H2 Q fun cls d H' => W cls d σ H' :=
    tA_then st h fun avs m1 xs H1 L1 t r h1 => by
      refine ⟨m1, L1, t.st, ?_⟩
      cases es : sk m1 with
      | stuck => rw [es] at h1; exact h1.elim
      | exc c m2 => rw [es] at h1; exact RX.go t h1
      | ok v m2 =>
        rw [es] at h1
        intro z H2 L2 t2 ev
        cases v with
        | nw o => exact h1.elim
        | pv v => exact ⟨z, rfl, uCall_sound st (t.trans t2) ((AvRs.over (H0 := H) st t t2 r).snoc (v := v) ev) h1⟩
  refine wpAny_Call_Name_kw (ld_glob I hg hm ?_ hdb)
  refine PySem.W.callWith_KW (h₀ := X.base) I.ok.mod.kin hk hall (thn (ha.run pos pins s σ H _ I hA) fun us s1 ⟨vs, H1, I1, r, q⟩ => ?_) hpl he
  refine thn ((pk_cons hkw pk_nil).run pos pins s1 σ H1 (fun zs H2 => ∃ z, zs = [z] ∧ (vs ++ [z]).length = ps.length ∧ spG X.K X.mg φ (vs ++ [z]) H2 Q fun cls d H' => W cls d σ H') I1 q) fun ws s2 ⟨zs, H2, I2, rz, z, ez, hl, q2⟩ => ⟨I2.kIn, ?_⟩
  · subst ez
    obtain ⟨u, rfl, rz'⟩ := vals1 rz
    rw [hks]
    have hlu : us.length = (e :: es).length := by
      have := r.length
      rw [List.length_append] at hl
      simp only [List.length_cons, List.length_nil] at hl hn2 ⊢
      omega
    exact run_ret (args := ⟨us, [(y, u)]⟩) F hr hgd tk I2 (r.append (.cons rz' .nil)) hl (hb s2 us u I2.kIn hlu) q2
end
end Sd
end
section
set_option Elab.async false
set_option linter.all false
set_option maxRecDepth 100000
namespace Sd
open PySem PySem.W PySem.Spec PyProof.Rows L2
/-- a law of ours over a head by facts -/
theorem walk_ofGE {l : PySem.W.OpenLaw} {n k : Nat} {q : Program} {loose : List Str} {XP : (Str → Option Value) → Heap → Prop} {YP : World → Heap → Prop} {d : DefRec} {x : Str} {φ : List Sl → Res EV}
    (hn : l.most = some n) (hn2 : n ≤ sizeLine) (hdf : d.params.defaults = []) (hr : Room k callerA)
    (F : ∀ (w : World) (mg : Str → Option Value) (fa : Addr) (h : Heap), YP w h → h.Ns mainGlobals mg → mg d.name = some (.ref fa) →
      ∃ (K : PySem.W.Frag) (fd : FuncData), K.In h ∧ (∀ (s : Shared) (u : Value), BindsTo s fd ⟨[u], []⟩ [(x, u)]) ∧ ∀ base : Heap, K.In base → base.Ns mainGlobals mg → FnG l.prog w K mg base k fa fd [x] φ)
    (hφ : ∀ ns : List Int, ns.length ≤ n → (∀ z ∈ ns, Builtin.Int.intBits z ≤ 1048576) → ∃ m', φ [.pv (.lst (ns.map PV.int))] = .ok (.pv (.bl true)) m') :
    PySem.W.WalkO q loose XP YP l.row.toRowW d [] (fun f vs => PySem.call f vs) := by
  refine Att.attach_callB hn hdf fun w s₀ s₁ mg mb fa o pm cd doc a vs ns G Y ho hd hcd hmg hobj hints hlen hbits hg => ?_
  obtain ⟨K, fd, KX, hb, hF⟩ := F w mg fa _ Y G.T.g hmg
  exact law_done KX G.T.g G.T.b G.T.builtins G.T.nolimit hg hobj hints (Nat.le_trans hlen hn2) hr hF hb (hφ ns hlen hbits)
end Sd
end
section
set_option Elab.async false
set_option linter.all false
set_option maxRecDepth 100000
set_option exponentiation.threshold 3000
namespace Sd
open PySem L2
/-! ### what can be shown -/
structure Shw (n d : Nat) (v : PV) : Prop where
  able : v.dat.showable = true
  len : v.dat.shown.length ≤ n
  dep : v.dat.depth ≤ d
  fl : v.flat = true
theorem shows_of {n d : Nat} {v : PV} (h : Shw n d v) (hn : n ≤ big) (hd : d ≤ 50) : v.shows = true := by
  unfold PV.shows
  rw [h.able, h.fl, decide_eq_true (Nat.le_trans h.len hn), decide_eq_true (Nat.le_trans h.dep hd)]
  rfl
theorem ofString_len (s : String) : (Str.ofString s).length = s.length := by
  rw [Str.ofString_eq_toList]
  unfold Str.length
  rw [List.size_toArray, List.length_map, String.length_toList]
theorem natText_len {n k : Nat} (hk : 0 < k) (h : n < 10 ^ k) : (toString n : String).length ≤ k := by
  show (Nat.repr n).length ≤ k
  unfold Nat.repr
  rw [String.length_ofList]
  exact (Nat.length_toDigits_le_iff (by decide) hk).mpr h
theorem intText_len {i : Int} {k : Nat} (hk : 0 < k) (h : i.natAbs < 10 ^ k) : (toString i : String).length ≤ k + 1 := by
  cases i with
  | ofNat n =>
    have : (toString (Int.ofNat n) : String) = toString n := rfl
    rw [this]
    exact Nat.le_succ_of_le (natText_len hk h)
  | negSucc n =>
    have : (toString (Int.negSucc n) : String) = "-" ++ toString (n + 1) := rfl
    rw [this, String.length_append]
    have := natText_len hk (show n + 1 < 10 ^ k from h)
    have e1 : ("-" : String).length = 1 := rfl
    omega
/-- ints of at most 570 digits -/
theorem Shw.int {i : Int} (h : i.natAbs < 10 ^ 570) : Shw 571 1 (.int i) := by
  refine ⟨?_, ?_, ?_, rfl⟩
  · show PyData.showable (.int i) = true
    unfold PyData.showable
    rw [decide_eq_true_eq]
    by_cases h0 : i.natAbs = 0
    · rw [h0]; decide
    · exact (Nat.log2_lt h0).mpr (Nat.lt_of_lt_of_le h (by decide +kernel))
  · show (Str.ofString (toString i)).length ≤ 571
    rw [ofString_len]
    exact intText_len (by decide) h
  · show PyData.depth (.int i) ≤ 1
    simp [PyData.depth]
theorem Shw.non : Shw 571 1 .non := ⟨rfl, by decide, by decide, rfl⟩
theorem Shw.bl (b : Bool) : Shw 571 1 (.bl b) := by cases b <;> exact ⟨rfl, by decide, by decide, rfl⟩
theorem Shw.wide {n d n' d' : Nat} {v : PV} (h : Shw n d v) (hn : n ≤ n') (hd : d ≤ d') : Shw n' d' v := ⟨h.able, Nat.le_trans h.len hn, Nat.le_trans h.dep hd, h.fl⟩
theorem all_facts {n d : Nat} : ∀ {xs : List PV}, (∀ x ∈ xs, Shw n d x) → PyData.showableAll (PV.dats xs) = true ∧ piled (PyData.shownAll (PV.dats xs)) ≤ xs.length * (n + 2) ∧ PyData.depthAll (PV.dats xs) ≤ d ∧ PV.flats xs = true ∧ (PyData.shownAll (PV.dats xs)).length = xs.length
  | [], _ => by simp [PV.dats, PyData.showableAll, PyData.shownAll, PyData.depthAll, PV.flats, piled]
  | x :: xs, h => by
    obtain ⟨h1, h2, h3, h4, h5⟩ := all_facts fun y hy => h y (List.mem_cons_of_mem _ hy)
    have hx := h x List.mem_cons_self
    refine ⟨?_, ?_, ?_, ?_, ?_⟩
    · rw [PV.dats, PyData.showableAll, hx.able, h1]; rfl
    · rw [PV.dats, PyData.shownAll, piled_cons, List.length_cons, Nat.succ_mul]
      have := hx.len
      omega
    · rw [PV.dats, PyData.depthAll]
      have := hx.dep
      omega
    · rw [PV.flats, hx.fl, h4]; rfl
    · rw [PV.dats, PyData.shownAll, List.length_cons, List.length_cons, h5]
theorem Shw.lst {n d : Nat} {xs : List PV} (h : ∀ x ∈ xs, Shw n d x) : Shw (xs.length * (n + 2) + 3) (d + 1) (.lst xs) := by
  obtain ⟨h1, h2, h3, h4, h5⟩ := all_facts h
  refine ⟨?_, ?_, ?_, ?_⟩
  · rw [PV.dat, PyData.showable]; exact h1
  · rw [PV.dat, PyData.shown]
    unfold listText
    rw [strLen_append]
    have e1 : (("]" : String) : Str).length = 1 := rfl
    rw [e1]
    generalize PyData.shownAll (PV.dats xs) = ts at h2
    cases ts with
    | nil =>
      show (textFrom 0 ("[" : String) []).length + 1 ≤ _
      have : (textFrom 0 (("[" : String) : Str) []).length = 1 := rfl
      rw [this]; omega
    | cons t r =>
      show (textFrom 1 ((("[" : String) : Str) ++ (("" : String) : Str) ++ t) r).length + 1 ≤ _
      rw [textFrom_length_pos r 1 _ (by decide), strLen_append, strLen_append]
      rw [piled_cons] at h2
      have e2 : (("[" : String) : Str).length = 1 := rfl
      have e3 : (("" : String) : Str).length = 0 := rfl
      rw [e2, e3]; omega
  · rw [PV.dat, PyData.depth]; omega
  · rw [PV.flat]; exact h4
theorem Shw.tup {n d : Nat} {xs : List PV} (h : ∀ x ∈ xs, Shw n d x) : Shw (xs.length * (n + 2) + 3) (d + 1) (.tup xs) := by
  obtain ⟨h1, h2, h3, h4, h5⟩ := all_facts h
  refine ⟨?_, ?_, ?_, ?_⟩
  · rw [PV.dat, PyData.showable]; exact h1
  · rw [PV.dat, PyData.shown]
    unfold tupleText
    rw [strLen_append, strLen_append]
    have e1 : (("(" : String) : Str).length = 1 := rfl
    have e2 : (((if (PyData.shownAll (PV.dats xs)).length == 1 then ",)" else ")" : String) : Str)).length ≤ 2 := by split <;> decide
    rw [e1]
    generalize PyData.shownAll (PV.dats xs) = ts at h2 e2
    by_cases h0 : ts = []
    · subst h0
      have : (Str.join (", " : String) ([] : List Str)).length = 0 := rfl
      rw [this]; omega
    · have := join_length_add ts h0
      omega
  · rw [PV.dat, PyData.depth]; omega
  · rw [PV.flat]; exact h4
/-- a tuple, a list of ints -/
theorem shows_tup {xs : List Int} (hl : xs.length ≤ 1000) (h : ∀ x ∈ xs, x.natAbs < 10 ^ 570) : (PV.tup (xs.map PV.int)).shows = true :=
  shows_of (Shw.tup (n := 571) (d := 1) fun x hx => by obtain ⟨i, hi, rfl⟩ := List.mem_map.mp hx; exact .int (h i hi)) (by rw [List.length_map]; unfold big; omega) (by decide)
theorem shows_lst {xs : List Int} (hl : xs.length ≤ 1000) (h : ∀ x ∈ xs, x.natAbs < 10 ^ 570) : (PV.lst (xs.map PV.int)).shows = true :=
  shows_of (Shw.lst (n := 571) (d := 1) fun x hx => by obtain ⟨i, hi, rfl⟩ := List.mem_map.mp hx; exact .int (h i hi)) (by rw [List.length_map]; unfold big; omega) (by decide)
theorem shows_int {i : Int} (h : i.natAbs < 10 ^ 570) : (PV.int i).shows = true := shows_of (Shw.int h) (by unfold big; omega) (by decide)
end Sd
end
section
set_option Elab.async false
set_option linter.all false
set_option maxRecDepth 100000
namespace Sd
open PySem L2
/-! ### loops by invariants, comprehensions as wholes -/
theorem forL_inv {tgt : PV → List Sl → Option (List Sl)} {d : List Sl → SRes} {xs : List PV} (I : Nat → List Sl → Prop)
    (h : ∀ i x m, xs[i]? = some x → I i m → ∃ m1 m2, tgt x m = some m1 ∧ (d m1 = .nx m2 ∨ d m1 = .cnt m2) ∧ I (i + 1) m2) : ∀ m, I 0 m → ∃ m', forL tgt d xs m = .nx m' ∧ I xs.length m' := by
  have key : ∀ (k i : Nat) (m : List Sl), xs.length - i = k → i ≤ xs.length → I i m → ∃ m', forL tgt d (xs.drop i) m = .nx m' ∧ I xs.length m' := by
    intro k
    induction k with
    | zero =>
      intro i m hk hi hI
      have : i = xs.length := by omega
      subst this
      exact ⟨m, by rw [List.drop_length]; rfl, hI⟩
    | succ k ih =>
      intro i m hk hi hI
      have hlt : i < xs.length := by omega
      obtain ⟨m1, m2, e1, e2, hI2⟩ := h i _ m (List.getElem?_eq_getElem hlt) hI
      obtain ⟨m', e3, hI3⟩ := ih (i + 1) m2 (by omega) hlt hI2
      refine ⟨m', ?_, hI3⟩
      rw [List.drop_eq_getElem_cons hlt]
      unfold forL
      rw [e1]
      rcases e2 with e2 | e2
      · simp only [e2, e3]
      · simp only [e2, e3]
  intro m hI
  have := key xs.length 0 m (by omega) (Nat.zero_le _) hI
  rwa [List.drop_zero] at this
theorem lc_gen {vs : List Nat} {tgt : PV → List Sl → Option (List Sl)} {c : List Sl → Res Bool} {e : List Sl → Res EV} {m : List Sl} (C : PV → Bool) (F : PV → PV) : ∀ (xs acc : List PV),
    (∀ x ∈ xs, ∃ m1, tgt x m = some m1 ∧ ∃ m2, c m1 = .ok (C x) m2 ∧ (C x = false → wipeM m2 vs = m) ∧ (C x = true → ∃ u m3, e m2 = .ok u m3 ∧ u.v = F x ∧ wipeM m3 vs = m)) → acc.length + xs.length ≤ 100000 →
    lcL vs tgt c e xs acc m = .ok (acc ++ (xs.filter C).map F) m
  | [], acc, _, _ => by simp [lcL]
  | x :: xs, acc, h, hl => by
    obtain ⟨m1, e1, m2, e2, h0, h1⟩ := h x List.mem_cons_self
    have hz : acc.length < big := by unfold big; simp at hl; omega
    unfold lcL
    simp only [e1, e2]
    cases q : C x with
    | false =>
      simp only [h0 q]
      rw [lc_gen C F xs acc (fun y hy => h y (List.mem_cons_of_mem _ hy)) (by simp at hl ⊢; omega), List.filter_cons, q]
      rfl
    | true =>
      obtain ⟨u, m3, e3, e4, e5⟩ := h1 q
      simp only [e3, hz, if_true, e4, e5]
      rw [lc_gen C F xs (acc ++ [F x]) (fun y hy => h y (List.mem_cons_of_mem _ hy)) (by simp at hl ⊢; omega), List.filter_cons, q]
      simp
/-- all of them -/
theorem lc_all {vs : List Nat} {tgt : PV → List Sl → Option (List Sl)} {e : List Sl → Res EV} {m : List Sl} (F : PV → PV) (xs acc : List PV)
    (h : ∀ x ∈ xs, ∃ m1, tgt x m = some m1 ∧ ∃ u m3, e m1 = .ok u m3 ∧ u.v = F x ∧ wipeM m3 vs = m) (hl : acc.length + xs.length ≤ 100000) : lcL vs tgt sYes e xs acc m = .ok (acc ++ xs.map F) m := by
  have := lc_gen (c := sYes) (fun _ => true) F xs acc (fun x hx => by
    obtain ⟨m1, e1, u, m3, e2, e3, e4⟩ := h x hx
    exact ⟨m1, e1, m1, rfl, (fun z => by cases z), fun _ => ⟨u, m3, e2, e3, e4⟩⟩) hl
  rw [this]
  congr 2
  rw [List.filter_eq_self.mpr fun _ _ => rfl]
/-- .. whose elements change the slots: an invariant -/
theorem lc_inv {vs : List Nat} {tgt : PV → List Sl → Option (List Sl)} {e : List Sl → Res EV} (I : Nat → List PV → List Sl → Prop) (xs : List PV)
    (h : ∀ i x acc m, xs[i]? = some x → I i acc m → ∃ m1, tgt x m = some m1 ∧ ∃ u m3, e m1 = .ok u m3 ∧ I (i + 1) (acc ++ [u.v]) (wipeM m3 vs)) (hl : xs.length ≤ 100000) : ∀ m, I 0 [] m → ∃ acc m', lcL vs tgt sYes e xs [] m = .ok acc m' ∧ I xs.length acc m' ∧ acc.length = xs.length := by
  have key : ∀ (k i : Nat) (acc : List PV) (m : List Sl), xs.length - i = k → i ≤ xs.length → acc.length = i → I i acc m → ∃ acc' m', lcL vs tgt sYes e (xs.drop i) acc m = .ok acc' m' ∧ I xs.length acc' m' ∧ acc'.length = xs.length := by
    intro k
    induction k with
    | zero =>
      intro i acc m hk hi ha hI
      have : i = xs.length := by omega
      subst this
      exact ⟨acc, m, by rw [List.drop_length]; rfl, hI, ha⟩
    | succ k ih =>
      intro i acc m hk hi ha hI
      have hlt : i < xs.length := by omega
      obtain ⟨m1, e1, u, m3, e2, hI2⟩ := h i _ acc m (List.getElem?_eq_getElem hlt) hI
      obtain ⟨acc', m', e3, hI3, e4⟩ := ih (i + 1) (acc ++ [u.v]) _ (by omega) hlt (by simp [ha]) hI2
      refine ⟨acc', m', ?_, hI3, e4⟩
      rw [List.drop_eq_getElem_cons hlt]
      have hz : acc.length < big := by unfold big; omega
      unfold lcL
      simp only [e1, sYes, e2, hz, if_true]
      exact e3
  intro m hI
  have := key xs.length 0 [] m (by omega) (Nat.zero_le _) rfl hI
  rwa [List.drop_zero] at this
/-! ### dicts of persons -/
def dV (l : List Int) (g : Int → PV) : List (Key × PV) := l.map fun p => (Sum.inl p, g p)
def upV (g : Int → PV) (q : Int) (v : PV) : Int → PV := fun p => if p = q then v else g p
theorem dV_congr {l : List Int} {g k : Int → PV} (h : ∀ p ∈ l, g p = k p) : dV l g = dV l k := List.map_congr_left fun p hp => by rw [h p hp]
theorem dV_length (l : List Int) (g : Int → PV) : (dV l g).length = l.length := by unfold dV; rw [List.length_map]
theorem valV_in {q : Int} {g : Int → PV} : ∀ {l : List Int}, q ∈ l → valP (dV l g) (.inl q) = some (g q)
  | p :: l, h => by
    show (if (Sum.inl p : Key) = .inl q then some (g p) else valP (dV l g) (.inl q)) = _
    by_cases e : p = q
    · subst e; rw [if_pos rfl]
    · rw [if_neg fun z => e (Sum.inl.inj z)]
      exact valV_in ((List.mem_cons.mp h).resolve_left fun z => e z.symm)
theorem valV_out {q : Int} {g : Int → PV} : ∀ {l : List Int}, q ∉ l → valP (dV l g) (.inl q) = none
  | [], _ => rfl
  | p :: l, h => by
    show (if (Sum.inl p : Key) = .inl q then some (g p) else valP (dV l g) (.inl q)) = _
    rw [if_neg fun z => h (by rw [Sum.inl.inj z]; exact List.mem_cons_self)]
    exact valV_out fun z => h (List.mem_cons_of_mem _ z)
theorem setV {q : Int} {v : PV} {g : Int → PV} : ∀ {l : List Int}, setP (dV l g) (.inl q) v = dV l (upV g q v)
  | [] => rfl
  | p :: l => by
    have ih := setV (q := q) (v := v) (g := g) (l := l)
    show (if (Sum.inl p : Key) = .inl q then (Sum.inl p, v) :: setP (dV l g) (.inl q) v else (Sum.inl p, g p) :: setP (dV l g) (.inl q) v) = (Sum.inl p, upV g q v p) :: dV l (upV g q v)
    unfold upV at ih ⊢
    by_cases e : p = q
    · rw [if_pos (by rw [e]), if_pos e, ih]
    · rw [if_neg fun z => e (Sum.inl.inj z), if_neg e, ih]
theorem putV_in {q : Int} {v : PV} {g : Int → PV} {l : List Int} (h : q ∈ l) : putP (dV l g) (.inl q) v = dV l (upV g q v) := by
  unfold putP
  rw [valV_in h]
  exact setV
theorem putV_out {q : Int} {v : PV} {g : Int → PV} {l : List Int} (h : q ∉ l) : putP (dV l g) (.inl q) v = dV (l ++ [q]) (upV g q v) := by
  unfold putP
  rw [valV_out h]
  show dV l g ++ [(.inl q, v)] = _
  unfold dV upV
  rw [List.map_append]
  congr 1
  · exact List.map_congr_left fun p hp => by
      have : p ≠ q := fun e => h (e ▸ hp)
      rw [if_neg this]
  · simp
theorem pairsV (g : Int → PV) : ∀ xs : List Int, pairsP (xs.map fun y => PV.tup [.int y, g y]) = some (dV xs g)
  | [] => rfl
  | x :: xs => by
    rw [List.map_cons]
    unfold pairsP
    rw [pairsV g xs]
    rfl
theorem mergeV (g : Int → PV) : ∀ (ys acc : List Int), (acc ++ ys).Nodup → mergeP (dV acc g) (dV ys g) = dV (acc ++ ys) g
  | [], acc, _ => by simp [mergeP, dV]
  | y :: ys, acc, h => by
    have hy : y ∉ acc := fun z => (List.nodup_append.mp h).2.2 y z y List.mem_cons_self rfl
    have e : putP (dV acc g) (.inl y) (g y) = dV (acc ++ [y]) g := by
      rw [putV_out hy]
      refine dV_congr fun p _ => ?_
      unfold upV
      split
      next e => rw [e]
      next => rfl
    show mergeP (putP (dV acc g) (.inl y) (g y)) (dV ys g) = _
    rw [e, mergeV g ys (acc ++ [y]) (by rw [List.append_assoc]; exact h), List.append_assoc]
    rfl
end Sd
end
section
set_option Elab.async false
set_option linter.all false
set_option maxRecDepth 100000
set_option maxHeartbeats 4000000
namespace Sd
open PySem PySem.Spec PyProof.Rows L2
/-! ### methods without arguments -/
section
variable {p : Pm} {X : Cx} {m m1 : List Sl} {σ σ1 : L2.St} {H H1 : Hp} {L L1 : Lv}
@[simp] def eMeth0 (k : Nat) (g : List PV → List PV → Option (PV × List PV)) (m : List Sl) : Res EV := match cellv m k with
  | some (.lst xs) => match g xs [] with
    | some (z, ys) => .ok (.pv z) (upSl m k (.lst ys))
    | none => .stuck
  | _ => .stuck
theorem se_meth0 {e : Expr} {k : Nat} {r : V → List V → Hp → VK → Prop} {g : List PV → List PV → Option (PV × List PV)} (h : PE X e (tBM0 p.K "list" r (tVar k))) (hr : MtS p.K r g) : SE p X e (eMeth0 k g) := pe_imp h fun σ H Q ⟨m, L, st, h⟩ => by
  unfold eMeth0 at h
  split at h
  next xs e0 =>
    obtain ⟨a, ea, c0, l0, vs0, ev0, rv⟩ := st.cell e0
    refine ⟨.ref a, ea, .inl ⟨rfl, vs0, SqL.of ev0⟩, ?_⟩
    split at h
    next z ys eg =>
      refine hr H L a vs0 xs [] [] z ys Q ev0 rv .nil eg fun ws x rws rx => ?_
      have s : Stp (fun b => b = a) H L (upd H a (.lst ws)) L := stp_write l0
      exact h x _ L ((Tr.refl st).write (o := .lst ys) (ho := .lst ws) c0 ea l0 ⟨_, upd_same, rws.mono s⟩) (rx.mono s)
    next => exact h.elim
  next => exact h.elim
@[simp] def gReverse (xs as : List PV) : Option (PV × List PV) := match as with
  | [] => some (.non, xs.reverse)
  | _ => none
theorem mts_reverse {K : PySem.W.Frag} : MtS K rReverse gReverse := by
  intro H L a vs xs as us z ys Q ha rx ra e q
  unfold gReverse at e
  split at e
  next => cases e; cases ra; exact ⟨a, vs, rfl, rfl, ha, q _ _ rx.reverse .non⟩
  next => cases e
@[simp] def gPop (xs as : List PV) : Option (PV × List PV) := match as with
  | [] => xs[xs.length - 1]?.map fun v => (v, xs.dropLast)
  | _ => none
theorem VRs.dropLast {K : PySem.W.Frag} {xs : List PV} {vs : List V} (r : VRs K H L xs vs) : VRs K H L xs.dropLast vs.dropLast := by
  rw [List.dropLast_eq_take, List.dropLast_eq_take, r.length]
  exact r.take _
theorem mts_pop {K : PySem.W.Frag} : MtS K rPop gPop := by
  intro H L a vs xs as us z ys Q ha rx ra e q
  unfold gPop at e
  split at e
  next =>
    obtain ⟨v, ev, ez⟩ := Option.map_eq_some_iff.mp e
    cases ez
    cases ra
    obtain ⟨x, hx, rv⟩ := rx.get ev
    exact ⟨a, vs, x, rfl, rfl, ha, by rw [← rx.length]; exact hx, q _ _ rx.dropLast rv⟩
  next => cases e
/-! ### xs[i] += e, a list of one's own -/
def rGetL (K : PySem.W.Frag) : V → V → Hp → VK → Prop := fun o i H Q => ∃ (q : Addr) (xs : List V) (k : Nat) (v : V), o = .ref q ∧ i = .int k ∧ SqL K H q xs ∧ xs[k]? = some v ∧ Q v H
theorem pget_list : PGet X (rGetL X.K) := by
  intro pins s σ H o i ov iv Q I ro ri h
  obtain ⟨q, xs, k, v, rfl, rfl, hs, hv, w⟩ := h
  cases ro
  obtain ⟨t, rfl⟩ := ri
  obtain ⟨its, r, pl, hz⟩ := I.list hs
  obtain ⟨u, hu, ru⟩ := r.get hv
  have hk : k < xs.length := (List.getElem?_eq_some_iff.mp hv).1
  have hn := line63
  exact wpAny_getItem_list pl.isList (by omega) (by omega) (by simpa using hu) ⟨v, H, I, ru, w⟩
@[simp] def dAugIx (k : Nat) (f : Int → Int → Int) (si sv : List Sl → Res EV) (m : List Sl) : SRes := match cellv m k with
  | some (.lst _) => dBind (si m) fun i m1 => match i.v, cellv m1 k with
    | .int j, some (.lst xs) => if 0 ≤ j then match xs[j.toNat]? with
      | some (.int a) => dBind (sv m1) fun v m2 => match v.v, cellv m2 k with
        | .int b, some (.lst ys) => if j.toNat < ys.length then .nx (upSl m2 k (.lst (ys.set j.toNat (.int (f a b))))) else .stuck
        | _, _ => .stuck
      | _ => .stuck
      else .stuck
    | _, _ => .stuck
  | _ => .stuck
theorem ss_augIx {st : Stmt} {k : Nat} {f : Int → Int → Int} {si sv : List Sl → Res EV} (h : PS X st (tAugS (tVar k) (tE p si) (tE p sv) (rGetL p.K) (ipI f) rSetL)) : SS p X st (dAugIx k f si sv) := ps_imp h fun D σ H ⟨m, L, st, h⟩ => by
  unfold dAugIx at h
  split at h
  next xs0 e0 =>
    obtain ⟨a, ea, c0, l0, r0⟩ := st.cell e0
    refine ⟨.ref a, ea, m, L, st, ?_⟩
    cases e1 : si m with
    | exc c m1 => rw [e1] at h; exact fun cls d H' L' t ex => h cls d σ H' L' t.w ex
    | stuck => rw [e1] at h; exact h
    | ok i m1 =>
      rw [e1, dBind_ok] at h
      intro y H1 L1 t1 ev1
      have ri := ev1.rd
      split at h
      next j xs ej ex =>
        rw [ej] at ri
        split at h
        next hj0 =>
          split at h
          next va eva =>
            obtain ⟨b, eb, c1, l1, vs, evs, rvs⟩ := t1.st.cell ex
            rw [ea] at eb
            cases eb
            obtain ⟨u, hu, ru⟩ := rvs.get eva
            cases ru
            obtain ⟨n, rfl⟩ : ∃ n : Nat, j = n := ⟨j.toNat, by omega⟩
            refine ⟨a, vs, n, .int va, rfl, ri.int, SqL.of evs, by simpa using hu, m1, L1, t1.st, ?_⟩
            cases e2 : sv m1 with
            | exc c m2 => rw [e2] at h; exact fun cls d H' L' t2 ex => h cls d σ H' L' (t1.trans t2).w ex
            | stuck => rw [e2] at h; exact h
            | ok v m2 =>
              rw [e2, dBind_ok] at h
              intro x H2 L2 t2 ev2
              have rx := ev2.rd
              split at h
              next vb ys e3 e4 =>
                rw [e3] at rx
                split at h
                next hlt =>
                  have t := t1.trans t2
                  obtain ⟨b', eb', c2, l2, ws, ews, rws⟩ := t.st.cell e4
                  rw [ea] at eb'
                  cases eb'
                  have hn : n < ws.length := by rw [← rws.length]; simpa using hlt
                  refine ⟨va, vb, rfl, rx.int, a, ws, n, n, rfl, ri.int, ews, ?_, ?_⟩
                  · unfold ixN
                    rw [if_pos (by omega), if_pos (by omega)]; simp
                  · have s : Stp (fun b => b = a) H2 L2 (upd H2 a (.lst (ws.set n (.int (f va vb))))) L2 := stp_write l2
                    exact h _ _ L2 (t.write (o := .lst (ys.set n (.int (f va vb)))) (ho := .lst (ws.set n (.int (f va vb)))) c2 ea l2 ⟨_, upd_same, (rws.set (.int _) n).mono s⟩).w
                next => exact h.elim
              next => exact h.elim
          next => exact h.elim
        next => exact h.elim
      next => exact h.elim
  next => exact h.elim
/-! ### while, by an invariant with a measure -/
theorem while_inv {c : List Sl → Res Bool} {d : List Sl → SRes} (I : Nat → List Sl → Prop) (P : List Sl → Prop)
    (h : ∀ k m, I k m → (∃ m1, c m = .ok false m1 ∧ P m1) ∨ ∃ m1 m2 j, c m = .ok true m1 ∧ (d m1 = .nx m2 ∨ d m1 = .cnt m2) ∧ j < k ∧ I j m2) : ∀ (n k : Nat) (m : List Sl), I k m → k < n → ∃ m', whileN c d n m = .nx m' ∧ P m' := by
  intro n
  induction n with
  | zero => intro k m _ hk; exact absurd hk (Nat.not_lt_zero k)
  | succ n ih =>
    intro k m hI hk
    unfold whileN
    rcases h k m hI with ⟨m1, e1, hP⟩ | ⟨m1, m2, j, e1, e2, hj, hI2⟩
    · exact ⟨m1, by simp only [e1, dBind_ok]; simp, hP⟩
    · obtain ⟨m', e3, hP⟩ := ih j m2 hI2 (by omega)
      refine ⟨m', ?_, hP⟩
      simp only [e1, dBind_ok, if_true]
      rcases e2 with e2 | e2
      · simp only [e2, e3]
      · simp only [e2, e3]
/-! ### keywords -/
theorem kw_none {K : PySem.W.Frag} {x qual : Str} {params : Arguments} {body : List Stmt} {scope : Scope} {kws : List (Str × V)} {f : Addr} {fd : FuncData} {ps : List Str} {y : Str} {n : Nat} (F : FunD K x qual params body scope [] kws f fd)
    (h : ∀ (kV doc pm : Value) (an : Option Addr) (cdv ct : Value) (us : List Value) (u : Value), us.length = n → bindArgs (PySem.W.fnOf x qual params body scope .none kV doc pm an cdv ct) ⟨us, [(y, u)]⟩ = pure (ps.zip (us ++ [u]))) :
    ∀ (s : Shared) (us : List Value) (u : Value), K.In s.heap → us.length = n → BindsTo s fd ⟨us, [(y, u)]⟩ (ps.zip (us ++ [u])) := by
  obtain ⟨oc, od, dV, kV, doc, pm, an, cdv, ct, osl, rfl, lk, hcd, hD, hK⟩ := F.ex
  rcases hD with ⟨_, rfl⟩ | ⟨e, _⟩
  · exact fun s us u _ hl => .of_eq (h kV doc pm an cdv ct us u hl)
  · exact absurd rfl e
theorem kw_dfl {K : PySem.W.Frag} {x qual : Str} {params : Arguments} {body : List Stmt} {scope : Scope} {dvs : List V} {kws : List (Str × V)} {f : Addr} {fd : FuncData} {ps : List Str} {y : Str} {n : Nat} (F : FunD K x qual params body scope dvs kws f fd) (hd : dvs ≠ [])
    (h : ∀ (T : Addr) (kV doc pm : Value) (an : Option Addr) (cdv ct : Value) (us its : List Value) (u : Value), us.length = n → its.length = dvs.length →
      ∃ k, bindArgs (PySem.W.fnOf x qual params body scope (.ref T) kV doc pm an cdv ct) ⟨us, [(y, u)]⟩ = seqItems? (.ref T) >>= k ∧ k (some its.toArray) = pure (ps.zip (us ++ [u]))) :
    ∀ (s : Shared) (us : List Value) (u : Value), K.In s.heap → us.length = n → BindsTo s fd ⟨us, [(y, u)]⟩ (ps.zip (us ++ [u])) := by
  obtain ⟨oc, od, dV, kV, doc, pm, an, cdv, ct, osl, rfl, lk, hcd, hD, hK⟩ := F.ex
  rcases hD with ⟨e, _⟩ | ⟨_, T, o, its, m, rfl, lT, oT, rT⟩
  · exact absurd e hd
  · intro s us u KX hl
    obtain ⟨k, e1, e2⟩ := h T kV doc pm an cdv ct us its u hl rT.length.symm
    refine BindsTo.of_looks fun M => ?_
    rw [e1]
    exact looks_items KX lT oT (.of_pure e2)
end
end Sd
end
section
set_option Elab.async false
set_option linter.all false
set_option maxRecDepth 100000
namespace Sd
open PySem L2
/-! ### == of lists and tuples of ints -/
theorem eqvAll_ints : ∀ a b : List Int, PyData.eqvAll (PV.dats (a.map PV.int)) (PV.dats (b.map PV.int)) = decide (a = b)
  | [], [] => by simp [PV.dats, PyData.eqvAll]
  | [], y :: b => by simp [PV.dats, PyData.eqvAll]
  | x :: a, [] => by simp [PV.dats, PyData.eqvAll]
  | x :: a, y :: b => by
    rw [List.map_cons, List.map_cons, PV.dats, PV.dats, PyData.eqvAll, eqvAll_ints a b, PV.dat, PV.dat, PyData.eqv]
    by_cases h1 : x = y <;> by_cases h2 : a = b <;> simp [h1, h2]
theorem flats_ints : ∀ a : List Int, PV.flats (a.map PV.int) = true
  | [] => rfl
  | x :: a => by rw [List.map_cons, PV.flats, flats_ints a]; rfl
theorem lay_ints : ∀ a : List Int, PyData.canLayAll0 (PV.dats (a.map PV.int)) = true ∧ PyData.depthAll (PV.dats (a.map PV.int)) = 0
  | [] => by simp [PV.dats, PyData.canLayAll0, PyData.depthAll]
  | x :: a => by
    obtain ⟨h1, h2⟩ := lay_ints a
    rw [List.map_cons, PV.dats, PyData.canLayAll0, PyData.depthAll, h1, h2, PV.dat]
    simp [PyData.canLay0, PyData.depth]
theorem shaped_lst (a : List Int) : SeqAt.shaped (PV.lst (a.map PV.int)).dat = true := by
  unfold SeqAt.shaped
  rw [PV.dat, PyData.canLay0, PyData.depth, (lay_ints a).1, (lay_ints a).2]; rfl
theorem shaped_tup (a : List Int) : SeqAt.shaped (PV.tup (a.map PV.int)).dat = true := by
  unfold SeqAt.shaped
  rw [PV.dat, PyData.canLay0, PyData.depth, (lay_ints a).1, (lay_ints a).2]; rfl
theorem gEqB_lst (a b : List Int) : gEqB (.lst (a.map PV.int)) (.lst (b.map PV.int)) = some (decide (a = b)) := by
  have e : gEqB (.lst (a.map PV.int)) (.lst (b.map PV.int)) = if ((PV.lst (a.map PV.int)).flat && (PV.lst (b.map PV.int)).flat && SeqAt.shaped (PV.lst (a.map PV.int)).dat && SeqAt.shaped (PV.lst (b.map PV.int)).dat) = true then some (PyData.eqv (PV.lst (a.map PV.int)).dat (PV.lst (b.map PV.int)).dat) else none := rfl
  rw [e, shaped_lst, shaped_lst, PV.flat, PV.flat, flats_ints, flats_ints, PV.dat, PV.dat, PyData.eqv, eqvAll_ints]; rfl
theorem gEqB_tup (a b : List Int) : gEqB (.tup (a.map PV.int)) (.tup (b.map PV.int)) = some (decide (a = b)) := by
  have e : gEqB (.tup (a.map PV.int)) (.tup (b.map PV.int)) = if ((PV.tup (a.map PV.int)).flat && (PV.tup (b.map PV.int)).flat && SeqAt.shaped (PV.tup (a.map PV.int)).dat && SeqAt.shaped (PV.tup (b.map PV.int)).dat) = true then some (PyData.eqv (PV.tup (a.map PV.int)).dat (PV.tup (b.map PV.int)).dat) else none := rfl
  rw [e, shaped_tup, shaped_tup, PV.flat, PV.flat, flats_ints, flats_ints, PV.dat, PV.dat, PyData.eqv, eqvAll_ints]; rfl
theorem gEqB_nil (a : List Int) : gEqB (.lst (a.map PV.int)) (.lst []) = some (decide (a = [])) := gEqB_lst a []
theorem gEqB_bl (a b : Bool) : gEqB (.bl a) (.bl b) = some (decide (a = b)) := by cases a <;> cases b <;> rfl
end Sd
end
section
set_option Elab.async false
set_option linter.all false
set_option maxRecDepth 100000
namespace Sd
open PySem L2
/-! ### enumerate(list) -/
def enumP (xs : List PV) : List PV := xs.zipIdx.map fun z => .tpl [.int (z.2 : Nat), z.1]
@[simp] def sEnum (s : List Sl → Res EV) (m : List Sl) : Res (List PV) := (s m).bind fun v m1 => match v.v with
  | .lst xs => .ok (enumP xs) m1
  | _ => .stuck
section
variable {p : Pm} {X : Cx} {m m1 : List Sl} {σ σ1 : L2.St} {H H1 : Hp} {L L1 : Lv}
theorem enumP_get {xs : List PV} {i : Nat} {v : PV} (h : (enumP xs)[i]? = some v) : ∃ x, xs[i]? = some x ∧ v = .tpl [.int (i : Nat), x] := by
  unfold enumP at h
  rw [List.getElem?_map, List.getElem?_zipIdx] at h
  cases e : xs[i]? with
  | none => rw [e] at h; cases h
  | some x => rw [e] at h; refine ⟨x, rfl, ?_⟩; simpa using h.symm
theorem enumP_len (xs : List PV) : (enumP xs).length = xs.length := by simp [enumP]
theorem si_enum {e : Expr} {s : List Sl → Res EV} {elts : List Expr} {kk : Nat} {px pos tpos : Pos} (hk : X.K = p.K) (hg : Gl X "enumerate") (hm : X.mg "enumerate" = none) (ha : SE p X e s) (hs : starEach [e] X.env = [(false, eval e X.env)]) : SI p X (.Tuple elts kk tpos) (.Call (.Name "enumerate" px) [e] [] pos) (sEnum s) :=
  pi_imp (pi_enum hg hm (pa_cons ha pa_nil hs) hs) fun σ H R ⟨m, L, st, h⟩ => by
    refine tE_thenI st h fun v m1 x H1 L1 t ev h1 => ?_
    obtain ⟨L', t', r⟩ := ev.froze st t
    rw [hk]
    split at h1
    next xs ev' =>
      rw [ev'] at r
      cases r with
      | lst e rs =>
        refine ⟨_, _, rfl, e.seq, h1 _ H1 L' t' fun H2 L2 s wf => ⟨fun i v hv => ?_, fun i hi => ?_⟩⟩
        · obtain ⟨y, hy, rfl⟩ := enumP_get hv
          obtain ⟨x, hx, rx⟩ := (rs.mono s).get hy
          refine ⟨⟨_, x, (e.mono s).seq, hx⟩, fun z H' ⟨T, u, e1, hT, eH, e2⟩ => ?_⟩
          have := e2 _ (e.mono s).seq
          rw [hx] at this
          cases this
          subst e1 eH
          have sT := stp_newT (L := L2) (o := .tup [.int (i : Nat), x]) hT
          exact ⟨sT, vr_tup wf hT (.cons (.int _) (.cons rx .nil))⟩
        · rw [enumP_len] at hi
          exact ⟨_, (e.mono s).seq, by rw [← rs.length]; exact hi⟩
    next => exact h1.elim
end
end Sd
end
section
set_option Elab.async false
set_option linter.all false
set_option maxRecDepth 100000
namespace Sd
open PySem L2
/-! ### not e as a value, by truth -/
section
variable {p : Pm} {X : Cx} {a : Expr} {pos : Pos} {ea : List Sl → Res EV}
@[simp] def eNotT (s : List Sl → Res EV) (m : List Sl) : Res EV := (s m).bind fun v m1 => match truB v.v with
  | some b => .ok (.pv (.bl !b)) m1
  | none => .stuck
theorem se_notT (hk : X.K = p.K) (ha : SE p X a ea) : SE p X (.UnaryOp .Not a pos) (eNotT ea) := pe_imp (pe_notT ha) fun σ H Q ⟨m, L, st, h⟩ => by
  refine tE_then st h fun v m1 x H1 L1 t ev h1 => ?_
  cases eb : truB v.v with
  | none => rw [eb] at h1; exact h1.elim
  | some b =>
    rw [eb] at h1
    refine ⟨b, ?_, RQ.pv t.st h1 (.bl _)⟩
    have r := ev.rd
    rw [hk]
    cases ev' : v.v with
    | non => rw [ev'] at r eb; cases eb; rw [r.non]; exact rfl
    | bl b => rw [ev'] at r eb; cases eb; rw [r.bl]; exact rfl
    | int i => rw [ev'] at r eb; cases eb; rw [r.int]; exact rfl
    | str y =>
      rw [ev'] at r eb
      have eb' : (if y.length ≤ big then some ((y.length : Int) != 0) else none) = some b := eb
      split at eb'
      next hz => cases eb'; rw [r.str]; exact ⟨by rw [big_eq]; exact hz, rfl⟩
      next => cases eb'
    | lst xs => rw [ev'] at r eb; cases eb; obtain ⟨a, vs, rfl, e1, rr⟩ := r.lst; exact .inl ⟨vs, e1, by rw [rr.isEmpty]⟩
    | tup xs => rw [ev'] at r eb; cases eb; obtain ⟨a, vs, rfl, e1, _, rr⟩ := r.tup; exact .inr (.inl ⟨vs, e1.sq, by rw [rr.isEmpty]⟩)
    | ty n => rw [ev'] at eb; cases eb
    | tpl n => rw [ev'] at eb; cases eb
    | dct n => rw [ev'] at eb; cases eb
    | exn _ _ _ => rw [ev'] at eb; cases eb
variable {m m1 : List Sl} {σ σ1 : L2.St} {H H1 : Hp} {L L1 : Lv}
/-- a, b, .. = e, a list -/
@[simp] def dUnpL (is : List Nat) (s : List Sl → Res EV) (m : List Sl) : SRes := dBind (s m) fun v m1 => match v.v with
  | .lst xs => match putAll is (xs.map fun x => .ev (.pv x)) m1 with
    | some m2 => .nx m2
    | none => .stuck
  | _ => .stuck
theorem ss_unpL {is : List Nat} {ts : List Expr} {e : Expr} {s : List Sl → Res EV} {k : Nat} {ptu pos : Pos} (hk : X.K = p.K) (h : PS X (.Assign [.Tuple ts k ptu] e pos) (tAsg (tE p s) (gLst X.K is.length (gNames is)))) : SS p X (.Assign [.Tuple ts k ptu] e pos) (dUnpL is s) := ps_imp h fun D σ H ⟨m, L, st, h⟩ => by
  refine ⟨m, L, st, ?_⟩
  unfold dUnpL at h
  cases e : s m with
  | exc c m1 => rw [e] at h; exact fun cls d H' L' t ex => h cls d σ H' L' t.w ex
  | stuck => rw [e] at h; exact h
  | ok v m1 =>
    rw [e, dBind_ok] at h
    intro x H1 L1 t ev
    obtain ⟨L', t', r⟩ := ev.froze st t
    split at h
    next xs ev' =>
      rw [ev'] at r
      cases r with
      | lst ea rs =>
        split at h
        next m2 e2 =>
          have hl := putAll_len e2
          rw [List.length_map] at hl
          exact ⟨_, _, rfl, hk ▸ ea.seq, by rw [← rs.length, hl], gNames_ok (by rw [← rs.length, hl]) (h _ H1 L' (putAll_sound st t' rs.avs e2))⟩
        next => exact h.elim
    next => exact h.elim
end
end Sd
end
section
set_option Elab.async false
set_option linter.all false
set_option maxRecDepth 100000
namespace Sd
open PySem L2
/-! ### xs.extend(a fresh list) -/
section
variable {p : Pm} {X : Cx} {m m1 : List Sl} {σ σ1 : L2.St} {H H1 : Hp} {L L1 : Lv}
@[simp] def eExt (k : Nat) (s : List Sl → Res EV) (m : List Sl) : Res EV := match cellv m k with
  | some (.lst _) => (eArgs [.val s] m).bind fun avs m1 => match avs with
    | [.ev (.nw (.lst ys))] => match cellv m1 k with
      | some (.lst xs) => if xs.length + ys.length ≤ big then .ok (.pv .non) (upSl m1 k (.lst (xs ++ ys))) else .stuck
      | _ => .stuck
    | _ => .stuck
  | _ => .stuck
theorem se_extend {e : Expr} {k : Nat} {s : List Sl → Res EV} (h : PE X e (tBM p.K "list" rExtend (tVar k) (tA p (eArgs [.val s])))) : SE p X e (eExt k s) := pe_imp h fun σ H Q ⟨m, L, st, h⟩ => by
  unfold eExt at h
  split at h
  next xs0 e0 =>
    obtain ⟨a, ea, c0, l0, r0⟩ := st.cell e0
    obtain ⟨vs0, ev0, _⟩ := r0
    refine ⟨.ref a, ea, .inl ⟨rfl, vs0, SqL.of ev0⟩, ?_⟩
    refine tA_then st h fun avs m1 us H1 L1 t r h1 => ?_
    split at h1
    next ys =>
      cases r with
      | cons r1 r2 _ =>
        cases r2
        obtain ⟨b, rfl, hb0, lb, zs, hb, rz⟩ := r1
        split at h1
        next xs e1 =>
          split at h1
          next hz =>
            obtain ⟨b', eb, c1, l1, vs, evs, rv⟩ := t.st.cell e1
            rw [ea] at eb
            cases eb
            refine ⟨a, b, vs, zs, rfl, rfl, evs, hb, by rw [← rv.length, ← rz.length, big_eq]; exact hz, ?_⟩
            have s : Stp (fun b => b = a) H1 L1 (upd H1 a (.lst (vs ++ zs))) L1 := stp_write l1
            exact h1 .non _ L1 (t.write c1 ea l1 ⟨vs ++ zs, upd_same, (rv.append rz).mono s⟩) .non
          next => exact h1.elim
        next => exact h1.elim
    next => exact h1.elim
  next => exact h.elim
end
end Sd
end
section
set_option Elab.async false
set_option linter.all false
set_option maxRecDepth 100000
namespace Sd
open PySem L2
/-! ### comparing what a slot holds, without freezing it -/
section
variable {p : Pm} {X : Cx} {a b : Expr} {pos : Pos} {i : Nat} {sb : List Sl → Res EV}
theorem tE_opP {r : R2} {g : PV → PV → Option EV} (hr : Op2 p.K r g) : ∀ σ H Q, tE p (eOpP g i sb) σ H Q → tOp r (tVar i) (tE p sb) σ H Q := fun σ H Q ⟨m, L, st, h⟩ => by
  unfold eOpP at h
  split at h
  next => exact h.elim
  next v0 e0 =>
    obtain ⟨x, ex, _⟩ := st.slot e0
    refine ⟨x, ex, tE_then st h fun u m2 y H2 L2 t2 ev2 h2 => ?_⟩
    split at h2
    next => exact h2.elim
    next v e1 =>
      obtain ⟨x', ex', rx⟩ := t2.st.slot e1
      rw [ex] at ex'
      cases ex'
      cases e : g v u.v with
      | none => rw [e] at h2; exact h2.elim
      | some z => rw [e] at h2; exact hr H2 L2 v u.v z x y Q t2.st.wf rx ev2.rd e fun Z H' L' s wf r => RQ.new t2.st h2 s wf r
theorem se_cmpP {op : CmpOp} {r : R2} {g : PV → PV → Option EV} (ho : OpR X (compareOp op) r) (hr : Op2 p.K r g) (hm : behindInMarks op b = false) (ha : PE X a (tVar i)) (hb : SE p X b sb) : SE p X (.Compare a [op] [b] pos) (eOpP g i sb) :=
  pe_imp (pe_cmpR ho ha hb hm) (tE_opP hr)
theorem st_cmpP {op : CmpOp} {r : R2} {g : PV → PV → Option EV} (ho : OpR X (compareOp op) r) (hr : Op2 p.K r g) (hm : behindInMarks op b = false) (ha : PE X a (tVar i)) (hb : SE p X b sb) : ST p X (.Compare a [op] [b] pos) (sBool (eOpP g i sb)) :=
  st_bool (te := tOp r (tVar i) (tE p sb)) (pt_cmpR ho ha hb hm) (tE_opP hr)
end
end Sd
end
section
set_option Elab.async false
set_option linter.all false
set_option maxRecDepth 100000
namespace Sd
open PySem L2
/-! ### zip(a, b) of two lists or of two tuples -/
def zipV : List PV → List PV → List PV
  | x :: xs, y :: ys => .tpl [x, y] :: zipV xs ys
  | _, _ => []
@[simp] def zipE : List PV → Option (List PV)
  | [.lst xs, .lst ys] => some (zipV xs ys)
  | [.tup xs, .tup ys] => some (zipV xs ys)
  | _ => none
@[simp] def sZip (ss : List ArgD) (m : List Sl) : Res (List PV) := (eArgs ss m).bind fun vs m1 => if allEv vs = true then
    match zipE (vs.map AV.v) with
    | some z => .ok z m1
    | none => .stuck
  else .stuck
theorem zipV_get : ∀ {xs ys : List PV} {i : Nat} {v : PV}, (zipV xs ys)[i]? = some v → ∃ x y, xs[i]? = some x ∧ ys[i]? = some y ∧ v = .tpl [x, y]
  | [], _, _, _, h => by simp [zipV] at h
  | _ :: _, [], _, _, h => by simp [zipV] at h
  | x :: xs, y :: ys, 0, v, h => by simp [zipV] at h; exact ⟨x, y, rfl, rfl, h.symm⟩
  | x :: xs, y :: ys, i + 1, v, h => by
    have h' : (zipV xs ys)[i]? = some v := by simpa [zipV] using h
    obtain ⟨a, b, e1, e2, e3⟩ := zipV_get h'
    exact ⟨a, b, by simpa using e1, by simpa using e2, e3⟩
theorem zipV_len : ∀ xs ys : List PV, (zipV xs ys).length = min xs.length ys.length
  | [], ys => by simp [zipV]
  | x :: xs, [] => by simp [zipV]
  | x :: xs, y :: ys => by simp [zipV, zipV_len xs ys]
section
variable {p : Pm} {X : Cx} {m m1 : List Sl} {σ σ1 : L2.St} {H H1 : Hp} {L L1 : Lv}
theorem tA_thenI {ss : List ArgD} {k : List AV → List Sl → Res (List PV)} {R : It → Hp → Prop} {Q1 : List V → Hp → Prop} (st : StR p.K p.B m σ H L) (h : RI p m σ H L ((eArgs ss m).bind k) R)
    (hk : ∀ vs m1 xs H1 L1, Tr p.K p.B m σ H L m1 σ H1 L1 → AvRs p.K σ H H1 L1 vs xs → RI p m σ H L (k vs m1) R → Q1 xs H1) : tA p (eArgs ss) σ H Q1 := by
  refine ⟨m, L, st, ?_⟩
  cases e : eArgs ss m with
  | ok v m1 => rw [e] at h; exact fun x H1 L1 t ev => hk v m1 x H1 L1 t ev h
  | exc c m1 => rw [e] at h; exact h
  | stuck => rw [e] at h; exact h
theorem si_zip {e e2 : Expr} {ss : List ArgD} {elts : List Expr} {kk : Nat} {px pos tpos : Pos} (hk : X.K = p.K) (hg : Gl X "zip") (hm : X.mg "zip" = none) (ha : SA p X [e, e2] ss)
    (hs : starEach [e, e2] X.env = (false, eval e X.env) :: starEach [e2] X.env) (hpl : (backTo pos (starEach [e2] X.env)).any (·.1) = false) : SI p X (.Tuple elts kk tpos) (.Call (.Name "zip" px) [e, e2] [] pos) (sZip ss) :=
  pi_imp (RZ.pi_zipA hg hm ha hs hpl) fun σ H R ⟨m, L, st, h⟩ => by
    refine tA_thenI st h fun vs m1 xs H1 L1 t r h1 => ?_
    split at h1
    next f =>
      obtain ⟨L', t', r'⟩ := r.froze st t f
      rw [hk]
      split at h1
      next z ez =>
        generalize vs.map AV.v = us at r' ez
        unfold zipE at ez
        split at ez
        next xs ys =>
          cases ez
          obtain _ | ⟨r1, _ | ⟨r2, _ | _⟩⟩ := r'
          cases r1 with
          | lst e1 rs1 =>
            cases r2 with
            | lst e2 rs2 =>
              refine ⟨_, _, _, _, rfl, .inl ⟨e1.seq, e2.seq, h1 _ H1 L' t' fun H2 L2 s wf => ⟨fun i v hv => ?_, fun i hi => ?_⟩⟩⟩
              · obtain ⟨y1, y2, hy1, hy2, rfl⟩ := zipV_get hv
                obtain ⟨x1, hx1, rx1⟩ := (rs1.mono s).get hy1
                obtain ⟨x2, hx2, rx2⟩ := (rs2.mono s).get hy2
                refine ⟨⟨_, _, x1, x2, (e1.mono s).seq, (e2.mono s).seq, hx1, hx2⟩, fun z H' ⟨T, a, b, ez, hT, eH, q1, q2⟩ => ?_⟩
                have w1 := q1 _ (e1.mono s).seq
                have w2 := q2 _ (e2.mono s).seq
                rw [hx1] at w1
                rw [hx2] at w2
                cases w1; cases w2
                subst ez eH
                have sT := stp_newT (L := L2) (o := .tup [x1, x2]) hT
                exact ⟨sT, vr_tup wf hT (.cons rx1 (.cons rx2 .nil))⟩
              · rw [zipV_len] at hi
                refine ⟨_, _, (e1.mono s).seq, (e2.mono s).seq, ?_⟩
                rw [← rs1.length, ← rs2.length]
                omega
        next xs ys =>
          cases ez
          obtain _ | ⟨r1, _ | ⟨r2, _ | _⟩⟩ := r'
          cases r1 with
          | tup e1 n1 rs1 =>
            cases r2 with
            | tup e2 n2 rs2 =>
              refine ⟨_, _, _, _, rfl, .inr ⟨e1.sq, e2.sq, h1 _ H1 L' t' fun H2 L2 s wf => ⟨fun i v hv => ?_, fun i hi => ?_⟩⟩⟩
              · obtain ⟨y1, y2, hy1, hy2, rfl⟩ := zipV_get hv
                obtain ⟨x1, hx1, rx1⟩ := (rs1.mono s).get hy1
                obtain ⟨x2, hx2, rx2⟩ := (rs2.mono s).get hy2
                have s1 := (e1.mono s n1).1.sq (K := p.K)
                have s2 := (e2.mono s n2).1.sq (K := p.K)
                refine ⟨⟨_, _, x1, x2, s1, s2, hx1, hx2⟩, fun z H' ⟨T, a, b, ez, hT, eH, q1, q2⟩ => ?_⟩
                have w1 := q1 _ s1
                have w2 := q2 _ s2
                rw [hx1] at w1
                rw [hx2] at w2
                cases w1; cases w2
                subst ez eH
                have sT := stp_newT (L := L2) (o := .tup [x1, x2]) hT
                exact ⟨sT, vr_tup wf hT (.cons rx1 (.cons rx2 .nil))⟩
              · rw [zipV_len] at hi
                refine ⟨_, _, (e1.mono s n1).1.sq, (e2.mono s n2).1.sq, ?_⟩
                rw [← rs1.length, ← rs2.length]
                omega
        next => cases ez
      next => exact h1.elim
    next => exact h1.elim
end
end Sd
end
section
set_option Elab.async false
set_option linter.all false
set_option maxRecDepth 100000
set_option maxHeartbeats 4000000
namespace Sd
open PySem PySem.Spec PyProof.Rows L2
/-! ### enumerate(tuple) -/
section
variable {P : Program} {w : World} {A : Around} {E : Value → Shared → Prop} {s : Shared}
theorem enum_new_tup {a : Addr} {us : Array Value} {o1 : Obj} (B : Begins (.ref a) o1 fun h => h.IsTuple a us) :
    Meets (Builtin.«enumerate.__new__» ⟨[.type "enumerate", .ref a], []⟩) (fun _ R s => s.heap.IsTuple a us ∧
      R (.ok (.ret (.ref (s.heap.push o1).objs.size))) { s with heap := (s.heap.push o1).push { cls := .type "enumerate", data := .fields #[.none, .bool false, .ref s.heap.objs.size, rawInt 0, .none, .none] } }) :=
  .of_wp fun prog w A R s hyp => by
    obtain ⟨hp, g, d, tk, os⟩ := s
    obtain ⟨ht, fin⟩ := hyp
    have k1 := sub_enumerate
    have step : ∀ {A' : Around} {E Q : Value → Shared → Prop}, Q (.ref hp.objs.size) ⟨hp.push o1, g, d, tk, os⟩ → wpAny (model prog w) A' (pyIter (.ref a)) Q E ⟨hp, g, d, tk, os⟩ :=
      fun q => B.iter prog w _ _ ⟨hp, g, d, tk, os⟩ _ ht q
    wp_walk using step
    refine wpAny_stack_any fun frames => wpAny_pure ?_
    split
    · next c _ _ _ _ _ =>
      cases (c == Value.type "enumerate")
      all_goals
        wp_walk using step
        exact ⟨_, rfl, fin⟩
    · wp_walk using step
      exact ⟨_, rfl, fin⟩
theorem call_enum_tup {a : Addr} {us : Array Value} {Q : Value → Shared → Prop} (ht : s.heap.IsTuple a us)
    (h : ∀ h', IsEnum h' (s.heap.objs.size + 1) s.heap.objs.size 0 .none → h'.IsTupleIter s.heap.objs.size a 0 → (∀ b o, s.heap.get? b = some o → h'.get? b = some o) → Q (.ref (s.heap.objs.size + 1)) { s with heap := h' }) :
    wpAny (model P w) A (call (.type "enumerate") [.ref a]) Q E s := by
  refine callType_new F.called_enumerate (by decide) (F.typeCall_enumerate_1 _) (F.newCall_enumerate_1 _) (fun obj => F.args_object_init_2 obj _) F.entry_enumerate_new
    (enum_new_tup (begins_tuple a us)) ⟨ht, ?_⟩
  generalize hO : ({ cls := .type "tuple_iterator", data := .fields #[.ref a, .int 0 0] } : Obj) = O
  have sz : (s.heap.push O).objs.size = s.heap.objs.size + 1 := Heap.size_push ..
  rw [sz]
  have at0 : (s.heap.push O).get? s.heap.objs.size = some O := Heap.get?_push_size _ (by rw [← hO]; rfl)
  generalize hN : ({ cls := .type "enumerate", data := .fields #[.none, .bool false, .ref s.heap.objs.size, rawInt 0, .none, .none] } : Obj) = N
  have at1 : ((s.heap.push O).push N).get? (s.heap.objs.size + 1) = some N := by
    have := Heap.get?_push_size (s.heap.push O) (o := N) (by rw [← hN]; rfl)
    rwa [sz] at this
  have he : IsEnum ((s.heap.push O).push N) (s.heap.objs.size + 1) s.heap.objs.size 0 .none := by rw [← hN] at at1 ⊢; exact at1
  refine ⟨⟨_, he, rfl⟩, h _ he ⟨O, Heap.get?_push_of_some _ at0, ?_, ?_⟩ fun b o e => Heap.get?_push_of_some _ (Heap.get?_push_of_some _ e)⟩
  · rw [← hO]
  · rw [← hO]; rfl
end
/-- the tuple at a, each item in a new pair behind its index -/
def IteT (K : PySem.W.Frag) (a : Addr) : It where
  go i H := ∃ (xs : List V) (x : V), SqT K H a xs ∧ xs[i]? = some x
  yld i H v H' := ∃ T x, v = .ref T ∧ H T = none ∧ H' = upd H T (.tup [.int (i : Nat), x]) ∧ ∀ xs, SqT K H a xs → xs[i]? = some x
  stop i H := ∃ xs : List V, SqT K H a xs ∧ xs.length ≤ i
/-- where its parts stand -/
def EnT (e it a : Addr) (i : Nat) (h : Heap) : Prop := (∃ old, IsEnum h e it ((i : Nat) : Int) old) ∧ h.IsTupleIter it a i ∧ e ≠ it ∧ a ≠ it ∧ a ≠ e
theorem turn_enumT {P : Program} {w : World} {K : PySem.W.Frag} {elts : List Expr} {kk : Nat} {tpos : Pos} (a e it : Addr) : Turn P w K (.Tuple elts kk tpos) (IteT K a) [e, it] e (EnT e it a) where
  mem := List.mem_cons_self
  obj i h st b hb := by
    obtain ⟨⟨old, he⟩, ⟨o, ho, hc, hd⟩, _⟩ := st
    rcases List.mem_cons.mp hb with z | z
    · rw [z]
      exact ⟨_, he, fun v q => nomatch q⟩
    · rw [List.mem_singleton.mp z]
      exact ⟨o, ho, fun v q => by rw [hd] at q; cases q⟩
  keep i h h' st k := by
    obtain ⟨⟨old, he⟩, hi, r⟩ := st
    exact ⟨⟨old, k e List.mem_cons_self _ he⟩, hi.at fun o q => k it (by simp) o q, r⟩
  item := by
    intro X hP hw hK hc i pins s σ H E I hf st hg
    subst hP hw hK
    obtain ⟨⟨old, he⟩, hit, n1, n2, n3⟩ := st
    obtain ⟨xs, x, hq, hx⟩ := hg
    obtain ⟨its, rv, pt, hz⟩ := I.tuple hq
    have hI : s.heap.IsTuple a its.toArray := pt
    obtain ⟨u, hu, ru⟩ := rv.get hx
    have hel : e < s.heap.objs.size := Heap.lt_size he
    have hil : it < s.heap.objs.size := by obtain ⟨_, q, _⟩ := hit; exact Heap.lt_size q
    have hlt : i < its.toArray.size := by
      have := (List.getElem?_eq_some_iff.mp hu).1
      simpa using this
    refine wpAny_pyNext_enum_itemD (Draws.tuple (by simp [I.ok.hd hc]) it a n2 its.toArray) he ⟨hit, hI⟩ hlt n1 (fun z => ?_) fun y h' tk hy ho st' hT hsz hk => ?_
    · rcases List.mem_cons.mp z with z | z
      · exact n1 z
      · exact n3 (List.mem_singleton.mp z).symm
    have ey : y = u := by
      have e1 : its[i]? = some y := by simpa using hy
      rw [hu] at e1
      exact (Option.some.inj e1).symm
    subst ey
    refine ⟨_, rfl, wpAny_letOwnedTupleGo_enum (s := { s with heap := h', toks := tk + 1 }) ho fun h'' he' sb => ?_⟩
    have hT2 : h''.get? s.heap.objs.size = some { cls := .type "tuple", data := .seq #[.int i tk, y] } := (sb.2 _ (Nat.ne_of_gt hel)).trans hT
    have new : ObjOk X.prog X.w (upd H s.heap.objs.size (.tup [.int (i : Nat), x])) h'' s.heap.objs.size (.tup [.int (i : Nat), x]) :=
      ⟨by show 2 ≤ sizeLine; decide, [.int i tk, y], .cons ⟨_, rfl⟩ (.cons ru .nil), ⟨_, hT2, rfl, _, rfl⟩⟩
    have J : Inv X pins σ (upd H s.heap.objs.size (.tup [.int (i : Nat), x])) { s with heap := h'', toks := tk + 1 } :=
      I.turnedNew (ch := [e, it]) (fun b ob hb q => (sb.2 b (fun z => hb (by simp [z]))).trans (hk b ob (fun z => hb (by simp [z])) (fun z => hb (by simp [z])) q)) hf (Nat.le_refl _) new
    refine ⟨.ref s.heap.objs.size, _, J, rfl, ⟨_, x, rfl, I.hok.fresh (Nat.le_refl _), rfl, fun ys hy => by rw [I.tuple_inj hy hq]; exact hx⟩,
      ⟨⟨y, by rw [show ((i + 1 : Nat) : Int) = (i : Int) + 1 by omega]; exact he'⟩, st'.1.at fun o q => (sb.2 it (Ne.symm n1)).trans q, n1, n2, n3⟩, fun b hb => ?_⟩
    have hlt2 : b < s.heap.objs.size := by
      rcases List.mem_cons.mp hb with z | z
      · rw [z]; exact hel
      · rw [List.mem_singleton.mp z]; exact hil
    rw [upd_ne (Nat.ne_of_lt hlt2)]
    exact (hf b hb).1
  done := by
    intro X hP hw hK hc i pins s σ H E I hf st hg
    subst hP hw hK
    obtain ⟨⟨old, he⟩, hit, n1, n2, n3⟩ := st
    obtain ⟨xs, hq, hx⟩ := hg
    obtain ⟨its, rv, pt, hz⟩ := I.tuple hq
    have hI : s.heap.IsTuple a its.toArray := pt
    obtain ⟨f0, f1, f2, f3, f4, f5⟩ := hf it (by simp)
    have hl := rv.length
    have D := Draws.tuple (prog := X.prog) (w := X.w) (A := X.A.in1) (by simp [I.ok.hd hc]) it a n2 its.toArray
    -- at its end or behind it
    have hT : s.TypeIs (.ref e) "enumerate" := ⟨_, he, rfl⟩
    unfold pyNext
    refine wpAny_bind (wpAny_attempt (wpAny_callSpecial?_slot (name := Str.ofString "__next__") hT F.slot_enumerate_next
      (wpAny_call_entry F.slot_enumerate_next hT F.entry_enumerate_next ?_ (F.args_enumerate_next_1 _))))
    show wpAny _ _ (field (.ref e) 2 >>= _) _ _ _
    refine wpAny_bind (wpAny_field he rfl (x := .ref it) rfl ?_)
    refine wpAny_bind (wpAny_nextOf_tuple_end (by simp [I.ok.hd hc]) hit hI (by simp; omega) fun h' x eb hx' => ?_)
    obtain ⟨o, ho, hcl⟩ := hx'
    refine wpAny_bind (wpAny_isInstance (T := "StopIteration") (b := true) ⟨o, ho, hcl⟩ isSubtype_stop ?_)
    exact wpAny_pure ⟨rfl, I.turned (t' := s.toks) (fun b o hb q => eb b o hb q) f0 f1 f3 f4 f5⟩
  self A i s Q E st h := let ⟨⟨_, he⟩, _⟩ := st; wpAny_pyIter_enum he h
/-- enumerate of a list or of a tuple -/
def iEnumA (K : PySem.W.Frag) (ta : TA) : TI := fun σ H R => ta σ H fun vs H1 => ∃ a xs, vs = [.ref a] ∧ ((SqL K H1 a xs ∧ R (Ite K a) H1) ∨ (SqT K H1 a xs ∧ R (IteT K a) H1))
theorem pi_enumA {X : Cx} {e : Expr} {ta : TA} {p pos tpos : Pos} {elts : List Expr} {kk : Nat} (hg : Gl X "enumerate") (hm : X.mg "enumerate" = none) (ha : PA X [e] ta) (hs : starEach [e] X.env = [(false, eval e X.env)]) :
    PI X (.Tuple elts kk tpos) (.Call (.Name "enumerate" p) [e] [] pos) (iEnumA X.K ta) := by
  refine ⟨fun pins s σ H R I h => ?_⟩
  refine Call_ (ld_blt I hg hm boot_enumerate (PyProof.Rows.callWith_type1 (thn (ha.run pos pins s σ H _ I h) fun us s1 ⟨vs, H1, I1, r1, q1⟩ => ?_) hs rfl))
  obtain ⟨a, xs, rfl, q⟩ := q1
  obtain ⟨u, rfl, ru⟩ := vals1 r1
  cases ru
  have fresh : ∀ b ∈ [s1.heap.objs.size + 1, s1.heap.objs.size], FpOk X pins H1 b := fun b hb => by
    have hle : s1.heap.objs.size ≤ b := by
      rcases List.mem_cons.mp hb with z | z
      · rw [z]; exact Nat.le_succ _
      · rw [List.mem_singleton.mp z]; exact Nat.le_refl _
    exact I1.fpOk hle (I1.hok.fresh hle)
  rcases q with ⟨hq, q⟩ | ⟨hq, q⟩
  · obtain ⟨its, rv, pl, hz⟩ := I1.list hq
    refine call_enumerate_list pl.isList fun h' he hit hsz hk => wpAny_pyIter_enum he ?_
    exact ⟨s1.heap.objs.size + 1, [s1.heap.objs.size + 1, s1.heap.objs.size], _, _, H1, rfl, I1.kept (t' := s1.toks) hk, turn_enum a (s1.heap.objs.size + 1) s1.heap.objs.size, ⟨⟨.none, he⟩, hit, Nat.succ_ne_self _⟩, fresh, q⟩
  · obtain ⟨its, rv, pt, hz⟩ := I1.tuple hq
    have hI : s1.heap.IsTuple a its.toArray := pt
    have hal : a < s1.heap.objs.size := by
      obtain ⟨o, ho, _⟩ := hI
      exact Heap.lt_size ho
    refine call_enum_tup hI fun h' he hit hk => wpAny_pyIter_enum he ?_
    exact ⟨s1.heap.objs.size + 1, [s1.heap.objs.size + 1, s1.heap.objs.size], _, _, H1, rfl, I1.kept (t' := s1.toks) hk, turn_enumT a (s1.heap.objs.size + 1) s1.heap.objs.size, ⟨⟨.none, he⟩, hit, Nat.succ_ne_self _, Nat.ne_of_lt hal, Nat.ne_of_lt (Nat.lt_succ_of_lt hal)⟩, fresh, q⟩
@[simp] def sEnumA (s : List Sl → Res EV) (m : List Sl) : Res (List PV) := (s m).bind fun v m1 => match v.v with
  | .lst xs => .ok (enumP xs) m1
  | .tup xs => .ok (enumP xs) m1
  | _ => .stuck
section
variable {p : Pm} {X : Cx} {m m1 : List Sl} {σ σ1 : L2.St} {H H1 : Hp} {L L1 : Lv}
theorem si_enumA {e : Expr} {s : List Sl → Res EV} {elts : List Expr} {kk : Nat} {px pos tpos : Pos} (hk : X.K = p.K) (hg : Gl X "enumerate") (hm : X.mg "enumerate" = none) (ha : SE p X e s) (hs : starEach [e] X.env = [(false, eval e X.env)]) : SI p X (.Tuple elts kk tpos) (.Call (.Name "enumerate" px) [e] [] pos) (sEnumA s) :=
  pi_imp (pi_enumA hg hm (pa_cons ha pa_nil hs) hs) fun σ H R ⟨m, L, st, h⟩ => by
    refine tE_thenI st h fun v m1 x H1 L1 t ev h1 => ?_
    obtain ⟨L', t', r⟩ := ev.froze st t
    rw [hk]
    split at h1
    next xs ev' =>
      rw [ev'] at r
      cases r with
      | lst e rs =>
        refine ⟨_, _, rfl, .inl ⟨e.seq, h1 _ H1 L' t' fun H2 L2 s wf => ⟨fun i v hv => ?_, fun i hi => ?_⟩⟩⟩
        · obtain ⟨y, hy, rfl⟩ := enumP_get hv
          obtain ⟨x, hx, rx⟩ := (rs.mono s).get hy
          refine ⟨⟨_, x, (e.mono s).seq, hx⟩, fun z H' ⟨T, u, e1, hT, eH, e2⟩ => ?_⟩
          have := e2 _ (e.mono s).seq
          rw [hx] at this
          cases this
          subst e1 eH
          have sT := stp_newT (L := L2) (o := .tup [.int (i : Nat), x]) hT
          exact ⟨sT, vr_tup wf hT (.cons (.int _) (.cons rx .nil))⟩
        · rw [enumP_len] at hi
          exact ⟨_, (e.mono s).seq, by rw [← rs.length]; exact hi⟩
    next xs ev' =>
      rw [ev'] at r
      cases r with
      | tup e n rs =>
        refine ⟨_, _, rfl, .inr ⟨e.sq, h1 _ H1 L' t' fun H2 L2 s wf => ⟨fun i v hv => ?_, fun i hi => ?_⟩⟩⟩
        · obtain ⟨y, hy, rfl⟩ := enumP_get hv
          obtain ⟨x, hx, rx⟩ := (rs.mono s).get hy
          have sq := (e.mono s n).1.sq (K := p.K)
          refine ⟨⟨_, x, sq, hx⟩, fun z H' ⟨T, u, e1, hT, eH, e2⟩ => ?_⟩
          have := e2 _ sq
          rw [hx] at this
          cases this
          subst e1 eH
          have sT := stp_newT (L := L2) (o := .tup [.int (i : Nat), x]) hT
          exact ⟨sT, vr_tup wf hT (.cons (.int _) (.cons rx .nil))⟩
        · rw [enumP_len] at hi
          exact ⟨_, (e.mono s n).1.sq (K := p.K), by rw [← rs.length]; exact hi⟩
    next => exact h1.elim
end
end Sd
end
section
set_option Elab.async false
set_option linter.all false
set_option maxRecDepth 100000
namespace Sd
open PySem L2
/-! ### dict comprehensions -/
def dcL (vs : List Nat) (tgt : PV → List Sl → Option (List Sl)) (c : List Sl → Res Bool) (ek ev : List Sl → Res EV) : List PV → List (Key × PV) → List Sl → Res (List (Key × PV))
  | [], acc, m => .ok acc m
  | v :: r, acc, m => match tgt v m with
    | none => .stuck
    | some m1 => match c m1 with
      | .ok true m2 => match ek m2 with
        | .ok y m3 => match ev m3 with
          | .ok z m4 => match keyP y.v with
            | some k => if acc.length < big then dcL vs tgt c ek ev r (putP acc k z.v) (wipeM m4 vs) else .stuck
            | none => .stuck
          | _ => .stuck
        | _ => .stuck
      | .ok false m2 => dcL vs tgt c ek ev r acc (wipeM m2 vs)
      | _ => .stuck
@[simp] def eDc (vs : List Nat) (src : List Sl → Res (List PV)) (tgt : PV → List Sl → Option (List Sl)) (c : List Sl → Res Bool) (ek ev : List Sl → Res EV) (m : List Sl) : Res EV := (src m).bind fun xs m1 => if noBor m1 vs = true then
    match dcL vs tgt c ek ev xs [] (wipeM m1 vs) with
    | .ok acc m2 => .ok (.nw (.dct acc)) (restM m1 m2 vs)
    | _ => .stuck
  else .stuck
section
variable {p : Pm} {X : Cx} {m m1 : List Sl} {σ σ1 : L2.St} {H H1 : Hp} {L L1 : Lv}
theorem dc_sound {vs ids : List Nat} {g : TG} {tt : TT} {src : List Sl → Res (List PV)} {tgt : PV → List Sl → Option (List Sl)} {c : List Sl → Res Bool} {ek ev : List Sl → Res EV} (kg : TgG p.no g ids tgt) (hids : ∀ i ∈ ids, i ∈ vs)
    (kt : ∀ σ H Q, tT p.no c σ H Q → tt σ H Q) : ∀ σ H Q, tE p (eDc vs src tgt c ek ev) σ H Q → tDc (tI p src) g tt (tE p.no ek) (tE p.no ev) vs σ H Q := fun σ H Q ⟨m, L, st, h⟩ => by
  refine ⟨m, L, st, ?_⟩
  unfold eDc at h
  cases es : src m with
  | exc c m1 => rw [es] at h; exact h
  | stuck => rw [es] at h; exact h
  | ok xs m1 =>
    rw [es, Res.bind_ok] at h
    intro J H1 L1 t jr D hD
    split at h
    next hnb =>
      have nb : ∀ v ∈ vs, p.B v = none := fun v hv => by
        cases q : p.B v with
        | none => rfl
        | some a =>
          obtain ⟨o, e1, _⟩ := t.st.lent v a q
          have z := List.all_eq_true.mp hnb v hv
          rw [e1] at z
          cases z
      cases er : dcL vs tgt c ek ev xs [] (wipeM m1 vs) with
      | exc c m2 => rw [er] at h; exact h.elim
      | stuck => rw [er] at h; exact h.elim
      | ok accF mF =>
        rw [er] at h
        dsimp only at h
        have hR := RQ.go t h
        have sD : Stp No H1 L1 (upd H1 D (.dK [])) fun a => L1 a ∨ a = D := stp_new hD
        have wfD : ∀ a, (L1 a ∨ a = D) → upd H1 D (.dK []) a ≠ none := wf_new t.st.wf
        have tD := Tr.grow t.st sD wfD
        have stW := tD.st.wiped nb
        -- what holds ahead of each turn
        refine ⟨fun i k H' => ∃ mm L' acc ws, StR p.K p.B mm (wipe σ vs) H' L' ∧ Stp (fun a => Adr (wipeM m1 vs) (wipe σ vs) a ∨ a = D) (upd H1 D (.dK [])) (fun a => L1 a ∨ a = D) H' L' ∧ (∀ a, Adr mm (wipe σ vs) a → Adr (wipeM m1 vs) (wipe σ vs) a) ∧
          k = xs.length - i ∧ i ≤ xs.length ∧ H' D = some (.dK ws) ∧ VRk p.K H' L' acc ws ∧ L' D ∧ dcL vs tgt c ek ev (xs.drop i) acc mm = .ok accF mF, ⟨xs.length, wipeM m1 vs, _, [], [], stW, .refl _ _ _, fun _ z => z, rfl, Nat.zero_le _, upd_same, .nil, .inr rfl, er⟩, ?_⟩
        rintro i k H' ⟨mm, L', acc, ws, sm, stp, sub, rfl, hi, eD, rv, lD, hl⟩
        have dA : ∀ a, Adr (wipeM m1 vs) (wipe σ vs) a → a ≠ D := fun a z q => by
          obtain ⟨k, _, ck, ek⟩ := adr_wipe z
          subst q
          exact (t.st.adr ⟨k, ck, ek⟩).2 hD
        have stpA : Stp All' H1 L1 H' L' := sD.of.trans (A1 := All') (stp.wide fun _ _ => trivial) fun _ _ => .inl trivial
        obtain ⟨jgo, jst⟩ := jr H' L' stpA sm.wf
        by_cases hlt : i < xs.length
        · right
          obtain ⟨go, yld⟩ := jgo i _ (List.getElem?_eq_getElem hlt)
          rw [List.drop_eq_getElem_cons hlt] at hl
          refine ⟨go, fun H' => ∃ mm L' acc ws, StR p.K p.B mm (wipe σ vs) H' L' ∧ Stp (fun a => Adr (wipeM m1 vs) (wipe σ vs) a ∨ a = D) (upd H1 D (.dK [])) (fun a => L1 a ∨ a = D) H' L' ∧ (∀ a, Adr mm (wipe σ vs) a → Adr (wipeM m1 vs) (wipe σ vs) a) ∧
            H' D = some (.dK ws) ∧ VRk p.K H' L' acc ws ∧ L' D ∧ dcL vs tgt c ek ev (xs.drop (i + 1)) acc mm = .ok accF mF, fun H' ⟨mm, L', acc, ws, a1, a2, a3, a4, a5, a6, a7⟩ => ⟨xs.length - (i + 1), by omega, mm, L', acc, ws, a1, a2, a3, rfl, hlt, a4, a5, a6, a7⟩, fun x H2 hy => ?_⟩
          obtain ⟨sy, ry⟩ := yld x H2 hy
          have t2 := Tr.grow sm sy fun a la => sy.old a (sm.wf a la)
          unfold dcL at hl
          cases et : tgt xs[i] mm with
          | none => rw [et] at hl; cases hl
          | some m2 =>
            rw [et] at hl
            dsimp only at hl
            refine kg _ x mm (wipe σ vs) H2 L' m2 _ t2.st ry et fun σ2 tg2 same hlen => ?_
            have ew : wipe σ2 vs = wipe σ vs := wipe_ext (by rw [hlen, wipe_length]) fun j hj => by rw [(same j fun q => hj (hids j q)).1, wipe_out hj]
            refine ⟨ew, kt _ _ _ ⟨m2, L', tg2.st, ?_⟩⟩
            -- what every way through the turn keeps
            have chain : ∀ {mk : List Sl} {Hk : Hp} {Lk : Lv}, Tr p.K p.B mm (wipe σ vs) H' L' mk σ2 Hk Lk → StR p.K p.B (wipeM mk vs) (wipe σ vs) Hk Lk ∧ Stp (fun a => Adr (wipeM m1 vs) (wipe σ vs) a ∨ a = D) (upd H1 D (.dK [])) (fun a => L1 a ∨ a = D) Hk Lk ∧
                (∀ a, Adr (wipeM mk vs) (wipe σ vs) a → Adr (wipeM m1 vs) (wipe σ vs) a) ∧ Hk D = some (.dK ws) ∧ VRk p.K Hk Lk acc ws ∧ Lk D := fun {mk Hk Lk} tc => by
              have s1 := tc.st.wiped nb
              rw [ew] at s1
              obtain ⟨d1, d2⟩ := tc.stp.live D _ eD lD fun z => dA D (sub D z) rfl
              refine ⟨s1, stp.trans tc.stp fun a z => .inl (.inl (sub a z)), fun a z => ?_, d1, rv.mono tc.stp, d2⟩
              rw [← ew] at z
              obtain ⟨k, _, ck, ek⟩ := adr_wipe z
              exact sub a (tc.sub a ⟨k, ck, ek⟩)
            cases ec : c m2 with
            | stuck => rw [ec] at hl; cases hl
            | exc x m3 => rw [ec] at hl; cases hl
            | ok b m3 =>
              rw [ec] at hl
              intro H3 L3 t3
              have tc := (t2.trans tg2).trans t3
              cases b with
              | false =>
                rw [if_neg Bool.false_ne_true]
                dsimp only at hl
                obtain ⟨a1, a2, a3, a4, a5, a6⟩ := chain tc
                exact ⟨wipeM m3 vs, L3, acc, ws, a1, a2, a3, a4, a5, a6, hl⟩
              | true =>
                rw [if_pos rfl]
                dsimp only at hl
                refine ⟨m3, L3, t3.st, ?_⟩
                cases ee : ek m3 with
                | stuck => rw [ee] at hl; cases hl
                | exc x m4 => rw [ee] at hl; cases hl
                | ok y m4 =>
                  rw [ee] at hl
                  dsimp only at hl
                  intro Y H4 L4 t4 evY
                  refine ⟨m4, L4, t4.st, ?_⟩
                  cases ef : ev m4 with
                  | stuck => rw [ef] at hl; cases hl
                  | exc x m5 => rw [ef] at hl; cases hl
                  | ok z m5 =>
                    rw [ef] at hl
                    dsimp only at hl
                    intro Z H5 L5 t5 evZ
                    have rY := (evY.over t3.st t4 t5).rd
                    obtain ⟨L6, t6, rZ⟩ := evZ.froze t4.st t5
                    obtain ⟨a1, a2, a3, a4, a5, a6⟩ := chain ((tc.trans t4).trans t6)
                    cases ek' : keyP y.v with
                    | none => rw [ek'] at hl; cases hl
                    | some k =>
                      rw [ek'] at hl
                      dsimp only at hl
                      split at hl
                      next hz =>
                        have sw : Stp (fun b => b = D) H5 L6 (upd H5 D (.dK (putK ws k Z))) L6 := stp_write a6
                        have nD : ¬ Adr (wipeM m5 vs) (wipe σ vs) D := fun z => dA D (a3 D z) rfl
                        refine ⟨ws, k, VR.key rY ek', a4, by rw [big_eq, ← a5.length]; exact hz, wipeM m5 vs, L6, putP acc k z.v, putK ws k Z, ⟨a1.len, fun j s' x' e1 e2 => ?_, a1.ne, fun a la => sw.old a (a1.wf a la), a1.lent⟩, a2.trans sw fun a z => .inl (.inr z), a3, upd_same, VRk.mono sw (a5.put rZ), a6, hl⟩
                        have k := a1.ok j s' x' e1 e2
                        cases s' with
                        | un => trivial
                        | pv v => obtain ⟨q, eq, rq⟩ := k; exact ⟨q, eq, rq.mono sw⟩
                        | own o =>
                          obtain ⟨q, eq, lq, bq, rq⟩ := k
                          subst eq
                          obtain ⟨rq', lq'⟩ := rq.mono sw lq fun z => nD (by rw [← z]; exact ⟨j, by rw [e1]; trivial, e2⟩)
                          exact ⟨q, rfl, lq', bq, rq'⟩
                        | bor o =>
                          obtain ⟨q, eq, lq, bq, rq⟩ := k
                          subst eq
                          obtain ⟨rq', lq'⟩ := rq.mono sw lq fun z => nD (by rw [← z]; exact ⟨j, by rw [e1]; trivial, e2⟩)
                          exact ⟨q, rfl, lq', bq, rq'⟩
                        | lck kvs q =>
                          obtain ⟨eq, lq, bq, rq⟩ := k
                          obtain ⟨rq', lq'⟩ := rq.mono sw lq fun z => by obtain ⟨_, _, e, _⟩ := rq; rw [z, a4] at e; cases e
                          exact ⟨eq, lq', bq, rq'⟩
                      next => cases hl
        · left
          have ei : i = xs.length := by omega
          subst ei
          rw [List.drop_length] at hl
          unfold dcL at hl
          cases hl
          have hAl : ∀ a, (Adr (wipeM m1 vs) (wipe σ vs) a ∨ a = D) → Adr (wipeM m1 vs) (wipe σ vs) a ∨ H1 a = none := fun a z => z.imp id fun q => by rw [q]; exact hD
          have sall : Stp (fun a => Adr (wipeM m1 vs) (wipe σ vs) a ∨ a = D) H1 L1 H' L' := sD.of.trans stp fun a z => .inl z
          exact ⟨jst _ (Nat.le_refl _), hR _ H' L' (StR.rest t.st nb sm sub sall hAl) ⟨D, rfl, hD, lD, ws, eD, rv⟩⟩
    next => exact h.elim
/-! the rules -/
section
variable {kx vx tg iter : Expr} {scope : Scope} {own : List (Str × Nat)} {pos : Pos} {g : TG} {ids : List Nat} {src : List Sl → Res (List PV)} {tgt : PV → List Sl → Option (List Sl)} {ek ev : List Sl → Res EV}
theorem se_dc (hc : X.calm = true) (hN : X.N.Nodup) (hi : SI p X tg iter src) (ok : BlkOk X.N X.env.scope scope own) (kg : TgG p.no g ids tgt) (hids : ∀ i ∈ ids, i ∈ own.map (·.2))
    (hg : ∀ (s : Shared) (H : Hp) (C : Addr) (cl : List (Str × Addr)) (fp : List Addr), PG (X.blk s H scope (compEnvC scope cl C X.env) fp) tg g)
    (hk : ∀ (s : Shared) (H : Hp) (C : Addr) (cl : List (Str × Addr)) (fp : List Addr), SE p.no (X.blk s H scope (compEnvC scope cl C X.env) fp) kx ek)
    (he : ∀ (s : Shared) (H : Hp) (C : Addr) (cl : List (Str × Addr)) (fp : List Addr), SE p.no (X.blk s H scope (compEnvC scope cl C X.env) fp) vx ev) (hs : ∀ x, foldedSetIterable iter X.env x = pure x) :
    SE p X (.DictComp kx vx [⟨tg, iter, [], 0⟩] scope pos) (eDc (own.map (·.2)) src tgt sYes ek ev) :=
  pe_imp (pe_dc hc hN hi ok hg (fun _ _ _ _ _ => pts_nil) hk he hs) (dc_sound kg hids fun σ H Q ⟨m, L, st, h⟩ => h H L (.refl st))
/-- y = {..} on one line, y a local -/
theorem ps_setDc {i : Nat} {y : Str} {py spos : Pos} {wi : TI} {tt : TT} {tk tv : TE} {ifs : List Expr} (hc : X.calm = true) (hN : X.N.Nodup) (hy : X.N[i]? = some y) (hyl : X.env.scope.names.lookup y = some .local)
    (hsw : swapsWith (.DictComp kx vx [⟨tg, iter, ifs, 0⟩] scope pos) (some (.Name y py)) spos.line X.env = pure true) (hi : PI X tg iter wi) (ok : BlkOk X.N X.env.scope scope own)
    (hg : ∀ (s : Shared) (H : Hp) (C : Addr) (cl : List (Str × Addr)) (fp : List Addr), PG (X.blk s H scope (compEnvC scope cl C X.env) fp) tg g)
    (ht : ∀ (s : Shared) (H : Hp) (C : Addr) (cl : List (Str × Addr)) (fp : List Addr), PTs (X.blk s H scope (compEnvC scope cl C X.env) fp) ifs tt)
    (hk : ∀ (s : Shared) (H : Hp) (C : Addr) (cl : List (Str × Addr)) (fp : List Addr), PE (X.blk s H scope (compEnvC scope cl C X.env) fp) kx tk)
    (he : ∀ (s : Shared) (H : Hp) (C : Addr) (cl : List (Str × Addr)) (fp : List Addr), PE (X.blk s H scope (compEnvC scope cl C X.env) fp) vx tv) (hs : ∀ x, foldedSetIterable iter X.env x = pure x) :
    PS X (.Assign [.Name y py] (.DictComp kx vx [⟨tg, iter, ifs, 0⟩] scope pos) spos) (tAsg (tDc wi g tt tk tv (own.map (·.2))) (gName i)) := by
  refine ⟨fun pins s σ H D I h => ?_⟩
  rw [exec_Assign_Name_used _ _ _ _ hsw]
  refine wpAny_bind (wpAny_standAt (wpAny_bind (?_ : wpAny _ X.A (do
    let _ ← comprehension (.DictComp kx vx [⟨tg, iter, ifs, 0⟩] scope pos) scope X.env (firstIterPos [⟨tg, iter, ifs, 0⟩] pos) newDict false (eval iter X.env) (some (assign (.Name y py) X.env))) _ _ s)))
  have hD : tDc wi g tt tk tv (own.map (·.2)) σ H (fun x H1 => gName i x σ H1 D.nx) := h
  have fin := dc_core (Qf := fun _ t => SP X pins D .next t) (use := some (assign (.Name y py) X.env)) (pos := pos) (pos' := firstIterPos [⟨tg, iter, ifs, 0⟩] pos) hc hN I hi ok hg ht hk he hs hD fun N C t m H' J q hn f => (by
    refine (?_ : wpAny _ _ (assign (.Name y py) X.env (.ref N)) _ _ _)
    refine wpAny_assign_Name (store_ok2 (v := V.ref N) J hN hy (.inl hyl) rfl (fun s2 J2 ⟨a, sb, ha⟩ => ?_) (.inr hyl))
    obtain ⟨f0, f1, f2, f3, f4, f5⟩ := f
    have apart : C ≠ a := by
      rcases ha with z | z
      · rw [z]
        exact f1
      · intro e
        exact f4 y a z e.symm
    exact ⟨m, hn.sameBut sb apart, fun h3 sb3 => ⟨_, H', J2.turned (t' := s2.toks) (fun b o hb e => (sb3.2 b hb).trans e) f0 f1 f3 f4 f5, q⟩⟩)
  exact wpAny_bind (thn fin fun _ t hq => wpAny_pure (wpAny_pure hq))
theorem ss_setDc {i : Nat} {y : Str} {py spos : Pos} (hc : X.calm = true) (hN : X.N.Nodup) (hy : X.N[i]? = some y) (hyl : X.env.scope.names.lookup y = some .local) (hsw : swapsWith (.DictComp kx vx [⟨tg, iter, [], 0⟩] scope pos) (some (.Name y py)) spos.line X.env = pure true)
    (hi : SI p X tg iter src) (ok : BlkOk X.N X.env.scope scope own) (kg : TgG p.no g ids tgt) (hids : ∀ i ∈ ids, i ∈ own.map (·.2))
    (hg : ∀ (s : Shared) (H : Hp) (C : Addr) (cl : List (Str × Addr)) (fp : List Addr), PG (X.blk s H scope (compEnvC scope cl C X.env) fp) tg g)
    (hk : ∀ (s : Shared) (H : Hp) (C : Addr) (cl : List (Str × Addr)) (fp : List Addr), SE p.no (X.blk s H scope (compEnvC scope cl C X.env) fp) kx ek)
    (he : ∀ (s : Shared) (H : Hp) (C : Addr) (cl : List (Str × Addr)) (fp : List Addr), SE p.no (X.blk s H scope (compEnvC scope cl C X.env) fp) vx ev) (hs : ∀ x, foldedSetIterable iter X.env x = pure x) :
    SS p X (.Assign [.Name y py] (.DictComp kx vx [⟨tg, iter, [], 0⟩] scope pos) spos) (dSet i (eDc (own.map (·.2)) src tgt sYes ek ev)) :=
  ss_set (ps_imp (ps_setDc hc hN hy hyl hsw hi ok hg (fun _ _ _ _ _ => pts_nil) hk he hs) fun D σ H h => dc_sound kg hids (fun σ H Q ⟨m, L, st, h⟩ => h H L (.refl st)) _ _ _ h)
theorem sw_trueD {gs : List Comprehension} {py : Pos} {y : Str} {l : Nat} {env : Env} (hk : env.scope.kind = .function) (hy : env.scope.names.lookup y = some .local) (hl : (py.line == pos.line) = true)
    (ha : (scope.names.any fun (n, k) => n == y && (k == .local || k == .cell)) = false) : swapsWith (.DictComp kx vx gs scope pos) (some (.Name y py)) l env = pure true := by
  have e1 : env.blockKind = .function := by unfold Env.blockKind; rw [hk]; rfl
  have e2 : env.kindOf y = some .local := hy
  have e3 : (py.line == (Expr.DictComp kx vx gs scope pos).pos.line) = true := hl
  unfold swapsWith
  simp only [e1, e2, ha, e3]
  rfl
end
end
end Sd
end
section
set_option Elab.async false
set_option linter.all false
set_option maxRecDepth 100000
namespace Sd
open PySem L2
/-! ### range(i, j, -1), bool(list) -/
def rngD (i : Int) (n : Nat) : List PV := (List.range n).map fun (k : Nat) => PV.int (i - k)
theorem rngD_len (i : Int) (n : Nat) : (rngD i n).length = n := by simp [rngD]
theorem rngD_get {n k : Nat} {i : Int} {x : PV} (h : (rngD i n)[k]? = some x) : k < n ∧ x = .int (i - k) := by
  have hk : k < n := by have := (List.getElem?_eq_some_iff.mp h).1; simpa [rngD] using this
  refine ⟨hk, ?_⟩
  unfold rngD at h
  rw [List.getElem?_map, List.getElem?_range hk] at h
  simpa using h.symm
@[simp] noncomputable def sRng3 (ss : List ArgD) (m : List Sl) : Res (List PV) := (eArgs ss m).bind fun vs m1 => if allEv vs = true then
    match vs.map AV.v with
    | [.int i, .int j, .int c] => if c = -1 ∧ okR i = true ∧ okR j = true then .ok (rngD i (i - j).toNat) m1 else .stuck
    | _ => .stuck
  else .stuck
section
variable {p : Pm} {X : Cx} {m m1 : List Sl} {σ σ1 : L2.St} {H H1 : Hp} {L L1 : Lv}
theorem si_rng3 {tg a b c : Expr} {ss : List ArgD} {px pos : Pos} (hg : Gl X "range") (hm : X.mg "range" = none) (ha : SA p X [a, b, c] ss)
    (hs : starEach [a, b, c] X.env = (false, eval a X.env) :: starEach [b, c] X.env) (hpl : (backTo pos (starEach [b, c] X.env)).any (·.1) = false) : SI p X tg (.Call (.Name "range" px) [a, b, c] [] pos) (sRng3 ss) :=
  pi_imp (pi_range3 hg hm ha hs hpl) fun σ H R ⟨m, L, st, h⟩ => by
    refine tA_thenI st h fun vs m1 xs H1 L1 t r h1 => ?_
    split at h1
    next f =>
      obtain ⟨L', t', r'⟩ := r.froze st t f
      generalize vs.map AV.v = us at r' h1
      split at h1
      next i j c =>
        split at h1
        next hok =>
          obtain ⟨rfl, oi, oj⟩ := hok
          have hi := okR_iff.mp oi
          have hj := okR_iff.mp oj
          obtain _ | ⟨r1, _ | ⟨r2, _ | ⟨r3, _ | _⟩⟩⟩ := r'
          cases r1; cases r2; cases r3
          refine ⟨i, j, -1, (i - j).toNat, rfl, RgC.neg hi.1 hi.2 hj.1 hj.2, h1 _ H1 L' t' fun H2 L2 s wf => ⟨fun k v hv => ?_, fun k hk => ?_⟩⟩
          · obtain ⟨hk, rfl⟩ := rngD_get hv
            refine ⟨hk, fun x H' ⟨e1, e2⟩ => ?_⟩
            subst e1 e2
            have e3 : i + ((k : Nat) : Int) * (-1) = i - k := by omega
            rw [e3]
            exact ⟨.refl _ _ _, .int _⟩
          · rw [rngD_len] at hk
            exact hk
        next => exact h1.elim
      next => exact h1.elim
    next => exact h1.elim
end
@[simp] def gBoolL (v : PV) : Option EV := match v with
  | .lst xs => some (.pv (.bl (!xs.isEmpty)))
  | _ => none
theorem op1_boolL {K : PySem.W.Frag} : Op1 K (fun xs H Q => ∃ (a : Addr) (zs : List V), xs = [.ref a] ∧ SqL K H a zs ∧ Q (.bl (!zs.isEmpty)) H) gBoolL := by
  intro H L x z X Q wf hx e q
  cases x <;> first | cases e | skip
  next xs =>
    obtain ⟨a, vs, rfl, e1, r⟩ := hx.lst
    refine ⟨a, vs, rfl, e1, ?_⟩
    have e2 : vs.isEmpty = xs.isEmpty := by cases r <;> rfl
    rw [e2]
    exact Kq.pv wf (.bl _) q
end Sd
end
section
set_option Elab.async false
set_option linter.all false
set_option maxRecDepth 100000
namespace Sd
open PySem L2
/-! ### [.. for i, x in enumerate(a list of one's own) ..]: it stays one's own -/
def lcLO (kk : Nat) (vs : List Nat) (tgt : PV → List Sl → Option (List Sl)) (c : List Sl → Res Bool) (e : List Sl → Res EV) : Nat → Nat → List PV → List Sl → Res (List PV)
  | 0, _, _, _ => .stuck
  | n + 1, j, acc, m => match m[kk]? with
    | some (.bor (.lst xs)) => match xs[j]? with
      | none => .ok acc m
      | some v => match tgt (.tpl [.int (j : Nat), v]) m with
        | none => .stuck
        | some m1 => match c m1 with
          | .ok true m2 => match e m2 with
            | .ok y m3 => if acc.length < big then lcLO kk vs tgt c e n (j + 1) (acc ++ [y.v]) (wipeM m3 vs) else .stuck
            | _ => .stuck
          | .ok false m2 => lcLO kk vs tgt c e n (j + 1) acc (wipeM m2 vs)
          | _ => .stuck
    | _ => .stuck
@[simp] def eLcO (kk : Nat) (vs : List Nat) (tgt : PV → List Sl → Option (List Sl)) (c : List Sl → Res Bool) (e : List Sl → Res EV) (m : List Sl) : Res EV := match m[kk]? with
  | some (.own (.lst xs)) => if (noBor m vs && decide (kk ∉ vs)) = true then
      match lcLO kk vs tgt c e (xs.length + 1) 0 [] (wipeM (m.set kk (.bor (.lst xs))) vs) with
      | .ok acc m2 => .ok (.nw (.lst acc)) (unl kk (restM (m.set kk (.bor (.lst xs))) m2 vs))
      | _ => .stuck
    else .stuck
  | _ => .stuck
section
variable {p : Pm} {X : Cx} {m m1 : List Sl} {σ σ1 : L2.St} {H H1 : Hp} {L L1 : Lv}
theorem Tr.back {K : PySem.W.Frag} {B : Nat → Option Addr} {m m' : List Sl} {σ σ' : L2.St} {H H' : Hp} {L L' : Lv} {k : Nat} {o : Ob} {a : Addr} (e : m[k]? = some (.own o)) (hB : B k = none) (t : Tr K (lendB B k a) (m.set k (.bor o)) σ H L m' σ' H' L') : Tr K B m σ H L (unl k m') σ' H' L' := by
  obtain ⟨o', e', ea', st'⟩ := t.st.back hB
  rw [unl_eq e']
  refine ⟨⟨t.stp.old, t.stp.stay, fun a o e1 l n => t.stp.live a o e1 l fun z => n ((adr_lend e a).mp z)⟩, st', fun b ⟨i, c, ei⟩ => (adr_lend e b).mp (t.sub b ⟨i, (cell_back e' i).mp c, ei⟩)⟩
/-- the turns -/
theorem lcO_core {vs ids : List Nat} {g : TG} {tt : TT} {tgt : PV → List Sl → Option (List Sl)} {c : List Sl → Res Bool} {e : List Sl → Res EV} {kk n0 : Nat} {a : Addr} {accF : List PV} {mF : List Sl} {Qd : Addr → Hp → Prop} (kg : ∀ B, TgG ⟨p.K, p.mg, p.no.W, B⟩ g ids tgt) (hids : ∀ i ∈ ids, i ∈ vs)
    (kt : ∀ σ H Q, (∃ B, tT ⟨p.K, p.mg, p.no.W, B⟩ c σ H Q) → tt σ H Q) (hB : p.B kk = some a) (t : Tr p.K p.B m1 σ H1 L1 m1 σ H1 L1) (nb : ∀ v ∈ vs, p.B v = none) (er : lcLO kk vs tgt c e n0 0 [] (wipeM m1 vs) = .ok accF mF)
    (hR : ∀ x H' L', Tr p.K p.B m1 σ H1 L1 (restM m1 mF vs) σ H' L' → EvR p.K H1 H' L' (.nw (.lst accF)) x → ∃ D, x = .ref D ∧ Qd D H') : ∀ D, H1 D = none → ∃ W : Nat → Nat → Hp → Prop, (∃ q, W 0 q (upd H1 D (.lst []))) ∧ ∀ i k H', W i k H' →
      ((Ite p.K a).stop i H' ∧ Qd D H') ∨ ((Ite p.K a).go i H' ∧ ∃ Nx : Hp → Prop, (∀ H', Nx H' → ∃ m', m' < k ∧ W (i + 1) m' H') ∧ ∀ x H2, (Ite p.K a).yld i H' x H2 → g x (wipe σ vs) H2 fun σ2 H2 => wipe σ2 vs = wipe σ vs ∧ tt σ2 H2 fun b H3 =>
        if b = true then (fun σ H Q => ∃ B, tE ⟨p.K, p.mg, p.no.W, B⟩ e σ H Q) σ2 H3 fun y H4 => ∃ acc, H4 D = some (.lst acc) ∧ acc.length < sizeLine ∧ Nx (upd H4 D (.lst (acc ++ [y]))) else Nx H3) := by
        intro D hD
        have sD : Stp No H1 L1 (upd H1 D (.lst [])) fun a => L1 a ∨ a = D := stp_new hD
        have wfD : ∀ a, (L1 a ∨ a = D) → upd H1 D (.lst []) a ≠ none := wf_new t.st.wf
        have tD := Tr.grow t.st sD wfD
        have stW := tD.st.wiped nb
        -- what holds ahead of each turn
        refine ⟨fun i k H' => ∃ mm L' acc ws, StR p.K p.B mm (wipe σ vs) H' L' ∧ Stp (fun a => Adr (wipeM m1 vs) (wipe σ vs) a ∨ a = D) (upd H1 D (.lst [])) (fun a => L1 a ∨ a = D) H' L' ∧ (∀ a, Adr mm (wipe σ vs) a → Adr (wipeM m1 vs) (wipe σ vs) a) ∧
          H' D = some (.lst ws) ∧ VRs p.K H' L' acc ws ∧ L' D ∧ lcLO kk vs tgt c e k i acc mm = .ok accF mF, ⟨n0, wipeM m1 vs, _, [], [], stW, .refl _ _ _, fun _ z => z, upd_same, .nil, .inr rfl, er⟩, ?_⟩
        rintro i k H' ⟨mm, L', acc, ws, sm, stp, sub, eD, rv, lD, hl⟩
        have dA : ∀ a, Adr (wipeM m1 vs) (wipe σ vs) a → a ≠ D := fun a z q => by
          obtain ⟨k, _, ck, ek⟩ := adr_wipe z
          subst q
          exact (t.st.adr ⟨k, ck, ek⟩).2 hD
        obtain ⟨o, eo, ea⟩ := sm.lent kk a hB
        cases k with
        | zero => cases hl
        | succ k =>
          unfold lcLO at hl
          rw [eo] at hl
          obtain ⟨b, eb, la, _, r⟩ := sm.ok kk _ _ eo ea
          cases eb
          cases o with
          | dct kvs => cases hl
          | lst xs =>
          obtain ⟨us, evs, rs⟩ := r
          dsimp only at hl
          cases ex : xs[i]? with
          | none =>
            rw [ex] at hl
            dsimp only at hl
            cases hl
            left
            have hlen : us.length ≤ i := by rw [← rs.length]; exact List.getElem?_eq_none_iff.mp ex
            have hAl : ∀ a, (Adr (wipeM m1 vs) (wipe σ vs) a ∨ a = D) → Adr (wipeM m1 vs) (wipe σ vs) a ∨ H1 a = none := fun a z => z.imp id fun q => by rw [q]; exact hD
            have sall : Stp (fun a => Adr (wipeM m1 vs) (wipe σ vs) a ∨ a = D) H1 L1 H' L' := sD.of.trans stp fun a z => .inl z
            exact ⟨⟨us, SqL.of evs, hlen⟩, by
              obtain ⟨D', e1, q⟩ := hR (.ref D) H' L' (StR.rest t.st nb sm sub sall hAl) ⟨D, rfl, hD, lD, ws, eD, rv⟩
              cases e1
              exact q⟩
          | some v =>
          rw [ex] at hl
          dsimp only at hl
          right
          obtain ⟨x, hx, rx⟩ := rs.get ex
          refine ⟨⟨us, x, SqL.of evs, hx⟩, fun H' => ∃ mm L' acc ws, StR p.K p.B mm (wipe σ vs) H' L' ∧ Stp (fun a => Adr (wipeM m1 vs) (wipe σ vs) a ∨ a = D) (upd H1 D (.lst [])) (fun a => L1 a ∨ a = D) H' L' ∧ (∀ a, Adr mm (wipe σ vs) a → Adr (wipeM m1 vs) (wipe σ vs) a) ∧
            H' D = some (.lst ws) ∧ VRs p.K H' L' acc ws ∧ L' D ∧ lcLO kk vs tgt c e k (i + 1) acc mm = .ok accF mF, fun H' ⟨mm, L', acc, ws, a1, a2, a3, a4, a5, a6, a7⟩ => ⟨k, Nat.lt_succ_self k, mm, L', acc, ws, a1, a2, a3, a4, a5, a6, a7⟩, fun x2 H2 hy => ?_⟩
          obtain ⟨T, u, eT, hT, eH, hu⟩ := hy
          have hu' := hu us (SqL.of evs)
          rw [hx] at hu'
          cases hu'
          subst eT eH
          have sy : Stp No H' L' (upd H' T (.tup [.int (i : Nat), x])) L' := stp_newT hT
          have ry : VR p.K (upd H' T (.tup [.int (i : Nat), x])) L' (.tpl [.int (i : Nat), v]) (.ref T) := vr_tup sm.wf hT (.cons (.int _) (.cons rx .nil))
          have t2 := Tr.grow sm sy fun a la => sy.old a (sm.wf a la)
          cases et : tgt (.tpl [.int (i : Nat), v]) mm with
          | none => rw [et] at hl; cases hl
          | some m2 =>
            rw [et] at hl
            dsimp only at hl
            refine kg p.B _ (.ref T) mm (wipe σ vs) _ L' m2 _ t2.st ry et fun σ2 tg2 same hlen => ?_
            have ew : wipe σ2 vs = wipe σ vs := wipe_ext (by rw [hlen, wipe_length]) fun j hj => by rw [(same j fun q => hj (hids j q)).1, wipe_out hj]
            refine ⟨ew, kt _ _ _ ⟨p.B, m2, L', tg2.st, ?_⟩⟩
            -- what every way through the turn keeps
            have chain : ∀ {mk : List Sl} {Hk : Hp} {Lk : Lv}, Tr p.K p.B mm (wipe σ vs) H' L' mk σ2 Hk Lk → StR p.K p.B (wipeM mk vs) (wipe σ vs) Hk Lk ∧ Stp (fun a => Adr (wipeM m1 vs) (wipe σ vs) a ∨ a = D) (upd H1 D (.lst [])) (fun a => L1 a ∨ a = D) Hk Lk ∧
                (∀ a, Adr (wipeM mk vs) (wipe σ vs) a → Adr (wipeM m1 vs) (wipe σ vs) a) ∧ Hk D = some (.lst ws) ∧ VRs p.K Hk Lk acc ws ∧ Lk D := fun {mk Hk Lk} tc => by
              have s1 := tc.st.wiped nb
              rw [ew] at s1
              obtain ⟨d1, d2⟩ := tc.stp.live D _ eD lD fun z => dA D (sub D z) rfl
              refine ⟨s1, stp.trans tc.stp fun a z => .inl (.inl (sub a z)), fun a z => ?_, d1, rv.mono tc.stp, d2⟩
              rw [← ew] at z
              obtain ⟨k, _, ck, ek⟩ := adr_wipe z
              exact sub a (tc.sub a ⟨k, ck, ek⟩)
            cases ec : c m2 with
            | stuck => rw [ec] at hl; cases hl
            | exc x m3 => rw [ec] at hl; cases hl
            | ok b m3 =>
              rw [ec] at hl
              intro H3 L3 t3
              have tc := (t2.trans tg2).trans t3
              cases b with
              | false =>
                rw [if_neg Bool.false_ne_true]
                dsimp only at hl
                obtain ⟨a1, a2, a3, a4, a5, a6⟩ := chain tc
                exact ⟨wipeM m3 vs, L3, acc, ws, a1, a2, a3, a4, a5, a6, hl⟩
              | true =>
                rw [if_pos rfl]
                dsimp only at hl
                refine ⟨p.B, m3, L3, t3.st, ?_⟩
                cases ee : e m3 with
                | stuck => rw [ee] at hl; cases hl
                | exc x m4 => rw [ee] at hl; cases hl
                | ok y m4 =>
                  rw [ee] at hl
                  dsimp only at hl
                  intro Y H4 L4 t4 ev
                  obtain ⟨L5, t5, ry5⟩ := ev.froze t3.st t4
                  obtain ⟨a1, a2, a3, a4, a5, a6⟩ := chain (tc.trans t5)
                  split at hl
                  next hz =>
                    have sw : Stp (fun b => b = D) H4 L5 (upd H4 D (.lst (ws ++ [Y]))) L5 := stp_write a6
                    have nD : ¬ Adr (wipeM m4 vs) (wipe σ vs) D := fun z => dA D (a3 D z) rfl
                    refine ⟨ws, a4, by rw [big_eq, ← a5.length]; exact hz, wipeM m4 vs, L5, acc ++ [y.v], ws ++ [Y], ⟨a1.len, fun j s' x' e1 e2 => ?_, a1.ne, fun a la => sw.old a (a1.wf a la), a1.lent⟩, a2.trans sw fun a z => .inl (.inr z), a3, upd_same, (a5.append (.cons ry5 .nil)).mono sw, a6, hl⟩
                    have k := a1.ok j s' x' e1 e2
                    cases s' with
                    | un => trivial
                    | pv v => obtain ⟨q, eq, rq⟩ := k; exact ⟨q, eq, rq.mono sw⟩
                    | own o =>
                      obtain ⟨q, eq, lq, bq, rq⟩ := k
                      subst eq
                      obtain ⟨rq', lq'⟩ := rq.mono sw lq fun z => nD (by rw [← z]; exact ⟨j, by rw [e1]; trivial, e2⟩)
                      exact ⟨q, rfl, lq', bq, rq'⟩
                    | bor o =>
                      obtain ⟨q, eq, lq, bq, rq⟩ := k
                      subst eq
                      obtain ⟨rq', lq'⟩ := rq.mono sw lq fun z => nD (by rw [← z]; exact ⟨j, by rw [e1]; trivial, e2⟩)
                      exact ⟨q, rfl, lq', bq, rq'⟩
                    | lck kvs q =>
                      obtain ⟨eq, lq, bq, rq⟩ := k
                      obtain ⟨rq', lq'⟩ := rq.mono sw lq fun z => by obtain ⟨_, _, e, _⟩ := rq; rw [z, a4] at e; cases e
                      exact ⟨eq, lq', bq, rq'⟩
                  next => cases hl
theorem lcO_sound {vs ids : List Nat} {g : TG} {tt : TT} {tgt : PV → List Sl → Option (List Sl)} {c : List Sl → Res Bool} {e : List Sl → Res EV} {kk : Nat} {K : PySem.W.Frag} (hK : K = p.K) (kg : ∀ B, TgG ⟨p.K, p.mg, p.no.W, B⟩ g ids tgt) (hids : ∀ i ∈ ids, i ∈ vs)
    (kt : ∀ σ H Q, (∃ B, tT ⟨p.K, p.mg, p.no.W, B⟩ c σ H Q) → tt σ H Q) : ∀ σ H Q, tE p (eLcO kk vs tgt c e) σ H Q → tLc (iEnum K (tCons (tVar kk) tNil)) g tt (fun σ H Q => ∃ B, tE ⟨p.K, p.mg, p.no.W, B⟩ e σ H Q) vs σ H Q := fun σ H Q ⟨m, L, st, h⟩ => by
  subst hK
  unfold eLcO at h
  split at h
  next xs e0 =>
    split at h
    next hnb =>
      rw [Bool.and_eq_true, decide_eq_true_eq] at hnb
      obtain ⟨x, ex, a, rfl, l, hB, us, ev, rs⟩ := st.at e0
      have st' := st.lend e0 ex
      cases er : lcLO kk vs tgt c e (xs.length + 1) 0 [] (wipeM (m.set kk (.bor (.lst xs))) vs) with
      | exc q m2 => rw [er] at h; exact h.elim
      | stuck => rw [er] at h; exact h.elim
      | ok accF mF =>
        rw [er] at h
        have core := lcO_core (p := p.lend kk a) (Qd := fun D H' => Q (.ref D) H') kg hids kt (if_pos rfl) (Tr.refl st') (fun v hv => ?_) er fun x H' L' t ev => ?_
        · exact ⟨.ref a, ex, a, us, rfl, SqL.of ev, core⟩
        · have hne : v ≠ kk := fun z => hnb.2 (z ▸ hv)
          have e1 : lendB p.B kk a v = p.B v := if_neg hne
          show lendB p.B kk a v = none
          rw [e1]
          cases q : p.B v with
          | none => rfl
          | some b =>
            obtain ⟨o, e2, _⟩ := st.lent v b q
            have z := List.all_eq_true.mp hnb.1 v hv
            rw [e2] at z
            cases z
        · have hq := h x H' L' (t.back e0 hB) ev
          obtain ⟨D, e1, _⟩ := ev
          exact ⟨D, e1, e1 ▸ hq⟩
    next => exact h.elim
  next => exact h.elim
theorem pe_exB {α : Type} {x : Expr} {t : α → TE} (h : ∀ a, PE X x (t a)) : PE X x (fun σ H Q => ∃ a, t a σ H Q) := ⟨fun pins s σ H Q I ⟨a, hw⟩ => (h a).run pins s σ H Q I hw⟩
theorem pt_exB {α : Type} {x : Expr} {t : α → TT} (h : ∀ a, PT X x (t a)) : PT X x (fun σ H Q => ∃ a, t a σ H Q) := ⟨fun pins s σ H Q I ⟨a, hw⟩ => (h a).run pins s σ H Q I hw⟩
section
variable {elt e0 : Expr} {elts : List Expr} {kn : Nat} {scope : Scope} {own : List (Str × Nat)} {px ppos tpos pos : Pos} {g : TG} {ids : List Nat} {tgt : PV → List Sl → Option (List Sl)} {c : List Sl → Res Bool} {e : List Sl → Res EV} {kk : Nat}
/-- y = [.. for i, x in enumerate(xs) if ..] -/
theorem ss_setLcOIf {cond : Expr} {i : Nat} {y : Str} {py spos : Pos} (hK : X.K = p.K) (hc : X.calm = true) (hN : X.N.Nodup) (hy : X.N[i]? = some y) (hyl : X.env.scope.names.lookup y = some .local)
    (hsw : swapsWith (.ListComp elt [⟨.Tuple elts kn tpos, .Call (.Name "enumerate" px) [e0] [] ppos, [cond], 0⟩] scope pos) (some (.Name y py)) spos.line X.env = pure true)
    (hg0 : Gl X "enumerate") (hm0 : X.mg "enumerate" = none) (hv : PE X e0 (tVar kk)) (hs0 : starEach [e0] X.env = [(false, eval e0 X.env)])
    (ok : BlkOk X.N X.env.scope scope own) (kg : ∀ B, TgG ⟨p.K, p.mg, p.no.W, B⟩ g ids tgt) (hids : ∀ i ∈ ids, i ∈ own.map (·.2))
    (hg : ∀ (s : Shared) (H : Hp) (C : Addr) (cl : List (Str × Addr)) (fp : List Addr), PG (X.blk s H scope (compEnvC scope cl C X.env) fp) (.Tuple elts kn tpos) g)
    (ht : ∀ (B : Nat → Option Addr) (s : Shared) (H : Hp) (C : Addr) (cl : List (Str × Addr)) (fp : List Addr), ST ⟨p.K, p.mg, p.no.W, B⟩ (X.blk s H scope (compEnvC scope cl C X.env) fp) cond c)
    (he : ∀ (B : Nat → Option Addr) (s : Shared) (H : Hp) (C : Addr) (cl : List (Str × Addr)) (fp : List Addr), SE ⟨p.K, p.mg, p.no.W, B⟩ (X.blk s H scope (compEnvC scope cl C X.env) fp) elt e) (hs : ∀ x, foldedSetIterable (.Call (.Name "enumerate" px) [e0] [] ppos) X.env x = pure x) :
    SS p X (.Assign [.Name y py] (.ListComp elt [⟨.Tuple elts kn tpos, .Call (.Name "enumerate" px) [e0] [] ppos, [cond], 0⟩] scope pos) spos) (dSet i (eLcO kk (own.map (·.2)) tgt c e)) :=
  ss_set (ps_imp (ps_setLc hc hN hy hyl hsw (pi_enum hg0 hm0 (pa_cons hv pa_nil hs0) hs0) ok hg (fun s H C cl fp => pts_one (pt_exB fun B => ht B s H C cl fp)) (fun s H C cl fp => pe_exB fun B => he B s H C cl fp) hs) fun D σ H h => lcO_sound hK kg hids (fun σ H Q h => h) _ _ _ h)
end
end
end Sd
end
section
set_option Elab.async false
set_option linter.all false
set_option maxRecDepth 100000
set_option maxHeartbeats 4000000
namespace Sd
open PySem PySem.Spec PyProof.Rows L2
/-! ### l.index(x), a list of ints -/
section
variable {X : Cx} {p : Pm}
theorem ixOf_idx {xs : List PV} {ns : List Int} (e : ints? xs = some ns) : ∀ {z : Int} {j : Nat}, ixOf xs z = some j → z ∈ ns ∧ ns.idxOf z = j := by
  induction xs generalizing ns with
  | nil => intro z j h; cases h
  | cons x xs ih =>
    intro z j h
    cases x with
    | int n =>
      simp only [ints?] at e
      cases q : ints? xs with
      | none => rw [q] at e; cases e
      | some ms =>
        rw [q] at e
        cases e
        unfold ixOf at h
        split at h
        next hn => cases h; subst hn; simp
        next hn =>
          obtain ⟨k, hk, rfl⟩ := Option.map_eq_some_iff.mp h
          obtain ⟨h1, h2⟩ := ih q hk
          refine ⟨List.mem_cons_of_mem _ h1, ?_⟩
          rw [List.idxOf_cons]
          have : (n == z) = false := by simpa using hn
          rw [this, h2]
          rfl
    | _ => cases h
theorem lstIx_call {pins : List (Addr × Obj)} {s : Shared} {σ : L2.St} {H : Hp} {q : Addr} {ns : List Int} {z : Int} {us : List Value} {Q : VK} (I : Inv X pins σ H s) (rs : Vals [V.int z] us) (hq : SqL X.K H q (ns.map V.int)) (hy : z ∈ ns) (w : Q (.int (ns.idxOf z : Nat)) H) :
    wpAny (model X.prog X.w) X.A (call (.builtin "list.index") (.ref q :: us)) (EP X pins σ Q) X.xe s := by
  obtain ⟨u, rfl, t, rfl⟩ := vals1 rs
  obtain ⟨its, r, pl, hz⟩ := I.list hq
  rw [List.length_map] at hz
  exact PySem.SeqAt.call_list_index pl.isList (.ints (intsAre_of r)) hz hy ⟨.int (ns.idxOf z : Nat), H, I.tok _, ⟨_, rfl⟩, w⟩
theorem pe_lstIx {o b : Expr} {to tb : TE} {apos cpos : Pos} (ho : PE X o to) (hb : PA X [b] (tCons tb tNil))
    (hbase : attributeBase o "index" X.env (eval o X.env) = eval o X.env := by rfl)
    (hfew : ((backTo cpos (starEach [b] X.env)).all (fun x => !x.1) && (backToKw cpos (keywordEach [] X.env)).all (fun x => x.1.isSome) && decide ([b].length + ([] : List Keyword).length + (if ([] : List Keyword).isEmpty then 0 else 1) < 30)) = true := by rfl)
    (hline : (apos.endLine == cpos.line) = true := by rfl) (hs : starEach [b] X.env = (false, eval b X.env) :: starEach [] X.env := by rfl) :
    PE X (.Call (.Attribute o "index" apos) [b] [] cpos) (fun σ H Q => to σ H fun x H1 => (∃ q vs, x = .ref q ∧ SqL X.K H1 q vs) ∧ tCons tb tNil σ H1 fun ys H2 => ∃ (y : V), ys = [y] ∧ ∃ (q : Addr) (ns : List Int) (z : Int), x = .ref q ∧ y = .int z ∧ SqL X.K H2 q (ns.map V.int) ∧ z ∈ ns ∧ Q (.int (ns.idxOf z : Nat)) H2) := ⟨fun pins s σ H Q I h => by
  refine wpAny_Call_method_late hbase hfew hline rfl (thn (ho.run pins s σ H _ I h) fun v s1 ⟨x, H1, I1, r1, ⟨q0, vs0, ex, sq⟩, q1⟩ => ?_)
  subst ex
  cases r1
  obtain ⟨its, rv, ⟨ob, n, g1, c1, d1, e1⟩, hz⟩ := I1.list sq
  have hty : s1.TypeIs (.ref q0) "list" := ⟨ob, g1, c1⟩
  refine ⟨"list", "list.index", PySem.F.plainAttrs_list, PySem.F.slot_list_index, PySem.F.type_list_index, hty, fun a e => by cases e; exact ⟨ob, g1, d1⟩, ?_⟩
  have hA := hb.run cpos pins s1 σ H1 _ I1 (show tCons tb tNil σ H1 (fun ys H2 => ∃ y, ys = [y] ∧ ∃ (q : Addr) (ns : List Int) (z : Int), V.ref q0 = .ref q ∧ y = .int z ∧ SqL X.K H2 q (ns.map V.int) ∧ z ∈ ns ∧ Q (.int (ns.idxOf z : Nat)) H2) from q1)
  rw [hs] at hA ⊢
  refine Calls.callWith_builtin (by rfl) (Calls.evalArgs_plain ?_)
  exact thn hA fun us s2 ⟨ys, H2, I2, r2, y, ey, q, ns, z, eq, ez, hq, hy, w⟩ => by
    subst ey ez
    cases eq
    exact lstIx_call I2 r2 hq hy w⟩
@[simp] def eLix (sa sb : List Sl → Res EV) (m : List Sl) : Res EV := (sa m).bind fun x m1 => match x.v with
  | .lst xs => (sb m1).bind fun y m2 => match y.v, ints? xs with
    | .int z, some _ => match ixOf xs z with
      | some j => .ok (.pv (.int j)) m2
      | none => .stuck
    | _, _ => .stuck
  | _ => .stuck
theorem se_lix {o b : Expr} {sa sb : List Sl → Res EV} {apos cpos : Pos} (hk : X.K = p.K) (ha : SE p X o sa) (hb : SE p X b sb)
    (hbase : attributeBase o "index" X.env (eval o X.env) = eval o X.env := by rfl)
    (hfew : ((backTo cpos (starEach [b] X.env)).all (fun x => !x.1) && (backToKw cpos (keywordEach [] X.env)).all (fun x => x.1.isSome) && decide ([b].length + ([] : List Keyword).length + (if ([] : List Keyword).isEmpty then 0 else 1) < 30)) = true := by rfl)
    (hline : (apos.endLine == cpos.line) = true := by rfl) (hs : starEach [b] X.env = (false, eval b X.env) :: starEach [] X.env := by rfl) : SE p X (.Call (.Attribute o "index" apos) [b] [] cpos) (eLix sa sb) :=
  pe_imp (pe_lstIx ha (pa_cons hb pa_nil hs) hbase hfew hline hs) fun σ H Q ⟨m, L, st, h⟩ => by
    refine tE_then st h fun v m1 x H1 L1 t ev h1 => ?_
    split at h1
    next xs e1 =>
      have rv := ev.rd
      rw [e1] at rv
      obtain ⟨q, vs, rfl, tf, rs⟩ := rv.lst
      refine ⟨⟨q, vs, rfl, by rw [hk]; exact tf⟩, ?_⟩
      show tE p sb σ H1 _
      refine tE_then t.st h1 fun u m2 y H2 L2 t2 ev2 h2 => ?_
      split at h2
      next z ns e2 e3 =>
        split at h2
        next j e4 =>
          have ry := ev2.rd
          rw [e2] at ry
          have rv' := (ev.over st t t2).rd
          rw [e1] at rv'
          obtain ⟨q', vs', eq, tf2, rs2⟩ := rv'.lst
          cases eq
          have evs : vs' = ns.map V.int := by
            rw [ints?_eq e3] at rs2
            exact rs2.ints
          obtain ⟨i1, i2⟩ := ixOf_idx e3 e4
          refine ⟨y, rfl, q, ns, z, rfl, ry.int, by rw [hk, ← evs]; exact tf2, i1, ?_⟩
          rw [i2]
          exact RQ.pv t2.st h2 (.int _)
        next => exact h2.elim
      next => exact h2.elim
    next => exact h1.elim
end
end Sd
end
section
set_option Elab.async false
set_option linter.all false
set_option maxRecDepth 100000
set_option maxHeartbeats 4000000
namespace Sd
open PySem PySem.Spec PyProof.Rows L2
/-! ### sorted(l), a list of tuples of as many ints, also negative ones -/
abbrev shS : Int := 10000000000000000000000000000000
/-- the rank of a tuple -/
def cdS (ns : List Int) : Int := TS.code 20000000000000000000000000000001 (ns.map fun n => n + shS)
/-- d ints, not too great -/
def OkI (d : Nat) (ns : List Int) : Prop := ns.length = d ∧ ∀ n ∈ ns, -shS ≤ n ∧ n ≤ shS
theorem OkI.bd {d : Nat} {ns : List Int} (h : OkI d ns) : TS.Bd 20000000000000000000000000000001 (ns.map fun n => n + shS) := fun m hm => by
  obtain ⟨n, hn, rfl⟩ := List.mem_map.mp hm
  have := h.2 n hn
  unfold shS at *
  omega
theorem OkI.tl {d : Nat} {n : Int} {ns : List Int} (h : OkI (d + 1) (n :: ns)) : OkI d ns := ⟨by simpa using h.1, fun m hm => h.2 m (List.mem_cons_of_mem _ hm)⟩
theorem cdS_lt {d : Nat} {p q : Int} {ns ms : List Int} (h1 : OkI d ns) (h2 : OkI d ms) (h : p < q) : cdS (p :: ns) < cdS (q :: ms) :=
  TS.code_lt (by rw [List.length_map, List.length_map, h1.1, h2.1]) h1.bd h2.bd (show p + shS < q + shS from Int.add_lt_add_right h _)
theorem cdS_same {d : Nat} {p : Int} {ns ms : List Int} (h1 : OkI d ns) (h2 : OkI d ms) : cdS (p :: ns) < cdS (p :: ms) ↔ cdS ns < cdS ms :=
  TS.code_same (by rw [List.length_map, List.length_map, h1.1, h2.1])
theorem cdS_inj : ∀ {d : Nat} {ns ms : List Int}, OkI d ns → OkI d ms → cdS ns = cdS ms → ns = ms
  | 0, ns, ms, h1, h2, _ => by rw [List.length_eq_zero_iff.mp h1.1, List.length_eq_zero_iff.mp h2.1]
  | d + 1, [], _, h1, _, _ => by simp [OkI] at h1
  | d + 1, _ :: _, [], _, h2, _ => by simp [OkI] at h2
  | d + 1, p :: ns, q :: ms, h1, h2, e => by
    rcases Int.lt_trichotomy p q with c | c | c
    · have := cdS_lt h1.tl h2.tl c
      omega
    · subst c
      have k1 := cdS_same (p := p) h1.tl h2.tl
      have k2 := cdS_same (p := p) h2.tl h1.tl
      rw [cdS_inj h1.tl h2.tl (by omega)]
    · have := cdS_lt h2.tl h1.tl c
      omega
section
variable {prog : Program} {w : World} {A : Around} {E : Value → Shared → Prop} {s : Shared}
theorem lexS {QQ : Bool → Shared → Prop} {bb : Bool} : ∀ {us vs : List Value} {ns ms : List Int} {d : Nat} (i : Nat), IntsAre us ns → IntsAre vs ms → OkI d ns → OkI d ms → QQ (decide (cdS ns < cdS ms)) s → PySem.W.KatLex prog w A bb false QQ (us.zip vs) i s
  | _, _, _, _, _, i, .nil, .nil, _, _, h => PySem.W.kat_nil (by
      rw [decide_eq_false (Int.lt_irrefl _)] at h
      exact h)
  | _, _, _, _, d, i, .cons p t a, .nil, h1, h2, _ => by
    have := h1.1.trans h2.1.symm
    simp at this
  | _, _, _, _, d, i, .nil, .cons p t a, h1, h2, _ => by
    have := h1.1.trans h2.1.symm
    simp at this
  | _, _, _, _, 0, i, .cons p t a, .cons q u c, h1, h2, h => by
    have := h1.1
    simp at this
  | _, _, _, _, d + 1, i, .cons p t a, .cons q u c, h1, h2, h => PySem.W.kat_cons (wpAny_eqBool_int (by
      by_cases z : p = q
      · subst z
        rw [beq_self_eq_true]
        rw [decide_eq_decide.mpr (cdS_same h1.tl h2.tl)] at h
        exact PySem.W.kat_yes (lexS (i + 1) a c h1.tl h2.tl h)
      · have nz : (p == q) = false := beq_eq_false_iff_ne.mpr z
        rw [nz]
        have ee : decide (cdS _ < cdS _) = decide (p < q) := decide_eq_decide.mpr ⟨fun y => by
          rcases Int.lt_trichotomy p q with k | k | k
          · exact k
          · exact absurd k z
          · have := cdS_lt h2.tl h1.tl k
            omega, fun y => cdS_lt h1.tl h2.tl y⟩
        rw [ee] at h
        exact PySem.W.kat_no (TS.oneLt_ints _ h)))
/-- tuples of d ints -/
def TOk (hp : Heap) (d : Nat) (vs : List Value) : Prop := ∀ u ∈ vs, ∃ ns, TS.TupInts hp u ns ∧ OkI d ns
theorem headsS {hp : Heap} {d : Nat} : ∀ vs : List Value, TOk hp (d + 1) vs → ∃ hs, PySem.W.KatTups hp vs hs ∧ hs.length = vs.length ∧ ∀ y ∈ hs, ∃ n t, y = Value.int n t
  | [], _ => ⟨[], PySem.W.KatTups.nil, rfl, fun y hy => nomatch hy⟩
  | u :: us, z => by
    obtain ⟨hs, k1, k2, k3⟩ := headsS us fun y hy => z y (List.mem_cons_of_mem _ hy)
    obtain ⟨ns, ⟨a, xs, rfl, ⟨o, g1, g2, c, g3⟩, ia⟩, oi⟩ := z u List.mem_cons_self
    have le := ia.length
    rw [oi.1] at le
    have zl : 0 < xs.size := by simpa using (show 0 < xs.toList.length by omega)
    obtain ⟨m, t, hy⟩ := ia.all xs[0] (by simp)
    exact ⟨xs[0] :: hs, PySem.W.KatTups.cons g1 g2 g3 (by simp [zl]) k1, by rw [List.length_cons, List.length_cons, k2], fun y hy' => by
      rcases List.mem_cons.mp hy' with rfl | q
      · exact ⟨m, t, hy⟩
      · exact k3 y q⟩
theorem kindS {d : Nat} {vs : List Value} (z2 : 2 ≤ vs.length) (z : TOk s.heap (d + 1) vs) (rk : Value → Int) (hrk : ∀ u ∈ vs, ∀ ns, TS.TupInts s.heap u ns → rk u = cdS ns) {QQ : SortKind → Shared → Prop}
    (h : ∀ kd, TS.Cmp prog w A s kd (pairsOf vs) rk → QQ kd s) : wpAny (model prog w) A (keyKind' vs.toArray) QQ E s := by
  obtain ⟨hs, k1, k2, k3⟩ := headsS vs z
  refine PySem.W.kat_kind (T := Value.type "int") k1 (by omega) (fun y hy => ?_) rfl (h _ fun a b ha hb Q1 E1 hq => ?_)
  · obtain ⟨n, t, rfl⟩ := k3 y hy
    exact PySem.W.Looks.of_pure rfl
  · rw [pairsOf_toList] at ha hb
    have ma := (mem_zip_self ha).2
    have mb := (mem_zip_self hb).2
    obtain ⟨ns, ta, oa⟩ := z _ ma
    obtain ⟨ms, tb, ob⟩ := z _ mb
    rw [hrk _ ma _ ta, hrk _ mb _ tb] at hq
    obtain ⟨aa, us, ea, ⟨o1, f1, f2, c1, f3⟩, ia⟩ := ta
    obtain ⟨bb, vs', eb, ⟨o2, g1, g2, c2, g3⟩, ib⟩ := tb
    rw [ea, eb]
    have ns1 : ¬ us.size < vs'.size := by
      have l1 := ia.length
      have l2 := ib.length
      rw [Array.length_toList, oa.1] at l1
      rw [Array.length_toList, ob.1] at l2
      omega
    refine PySem.W.kat_lt f1 f3 g1 g3 ?_
    rw [decide_eq_false ns1]
    exact lexS 0 ia ib oa ob hq
theorem TOk.keep {h h' : Heap} {d : Nat} {vs : List Value} (z : TOk h d vs) (k : ∀ b o, h.get? b = some o → o.cls = .type "tuple" → h'.get? b = some o) : TOk h' d vs := fun u hu => by
  obtain ⟨ns, t, o⟩ := z u hu
  exact ⟨ns, t.keeps k, o⟩
abbrev rkS (h : Heap) (u : Value) : Int := cdS (TS.intsOf h u)
theorem lsortS {a : Addr} {vs : List Value} {n d : Nat} {PP : PySem.Fin → Shared → Prop} (g : s.heap.get? a = some (seqObj "list" vs.toArray n)) (z64 : vs.length < 64) {h0 : Heap} (z0 : TOk h0 (d + 1) vs) (kp : ∀ b o, h0.get? b = some o → o.cls = .type "tuple" → s.heap.get? b = some o)
    (h : ∀ out : Array Value, out.toList.Perm vs → out.toList.Pairwise (fun u v => rkS h0 u ≤ rkS h0 v) → PP (.done (.ret .none)) { s with heap := sortedHeap s.heap a vs out }) :
    wpAny (model prog w) A (Builtin.«list.sort» ⟨[.ref a], []⟩) PP E s := by
  have km : ∀ b o, h0.get? b = some o → o.cls = .type "tuple" → (TS.midHeap s.heap a vs).get? b = some o := fun b o e c => by
    have e' := kp b o e c
    refine TS.midHeap_old (fun ba => ?_) e'
    subst ba
    rw [g] at e'
    cases e'
    exact absurd (show Value.type "list" = Value.type "tuple" from c) (by decide)
  refine SK.plain_sort (r := rkS h0) g z64 (fun z2 QQ hQ => kindS (s := { s with heap := TS.midHeap s.heap a vs }) z2 (z0.keep km) (rkS h0) (fun u hu ns t => ?_) hQ) fun ps out o1 o2 o3 => ?_
  · obtain ⟨ms, t0, _⟩ := z0 u hu
    have e1 := (t0.keeps km).ints
    rw [t.ints] at e1
    show cdS (TS.intsOf h0 u) = cdS ns
    rw [t0.ints, e1]
  · obtain ⟨y1, y2⟩ := TS.out_rank o1 o2 o3
    exact h out y1 y2
theorem sortedS {l : Addr} {vs : List Value} {d : Nat} {QQ : Value → Shared → Prop} (hl : s.heap.IsList l vs.toArray) (z64 : vs.length < 64) (z : TOk s.heap (d + 1) vs)
    (h : ∀ out : Array Value, out.toList.Perm vs → out.toList.Pairwise (fun u v => rkS s.heap u ≤ rkS s.heap v) → QQ (.ref (s.heap.objs.size + 1)) { s with heap := sortedAll s.heap vs out }) :
    wpAny (model prog w) A (call (.builtin "sorted") [.ref l]) QQ E s := by
  have big64 : vs.length ≤ sizeLine := by rw [sizeLine_eq]; omega
  refine Calls.call_function_entry kind_sorted plain_sorted entry_sorted (args_sorted1 _) ?_
  unfold Builtin.«sorted»
  refine wpAny_bind (m := checkCount "sorted" 1 1 _) (wpAny_pure (wpAny_bind (collect_list hl (wpAny_bind (wpAny_newList ?_ big64)) big64)))
  have s1 : ((s.heap.push (seqObj "list" #[] 0)).update s.heap.objs.size (Obj.mapSeq (· ++ vs.toArray))).objs.size = s.heap.objs.size + 1 := by
    rw [Heap.size_update, size_push']
  show wpAny _ _ _ _ _ { s with heap := (((s.heap.push (seqObj "list" #[] 0)).update s.heap.objs.size (Obj.mapSeq (· ++ vs.toArray))).push (seqObj "list" vs.toArray 0)) }
  rw [s1]
  have g := Heap.get?_push_size ((s.heap.push (seqObj "list" #[] 0)).update s.heap.objs.size (Obj.mapSeq (· ++ vs.toArray))) (o := seqObj "list" vs.toArray 0) rfl
  rw [s1] at g
  refine wpAny_bind (wpAny_holding (wpAny_call_entry slot_list_sort ⟨_, g, rfl⟩ entry_list_sort (lsortS g z64 (h0 := s.heap) z (fun b o q _ => ?_) fun out a1 a2 => ⟨_, rfl, wpAny_pure ⟨_, rfl, h out a1 a2⟩⟩) (args_list_sort _)))
  have lt := Heap.lt_size q
  have n1 : b ≠ s.heap.objs.size := Nat.ne_of_lt lt
  have n2 : b ≠ s.heap.objs.size + 1 := Nat.ne_of_lt (Nat.lt_succ_of_lt lt)
  rw [Heap.get?_push_ne _ _ _ (by rw [s1]; exact n2), Heap.get?_update_ne _ _ _ _ n1, Heap.get?_push_ne _ _ _ n1]
  exact q
end
end Sd
end
section
set_option Elab.async false
set_option linter.all false
set_option maxRecDepth 100000
set_option maxHeartbeats 4000000
namespace Sd
open PySem PySem.Spec PyProof.Rows L2
section
variable {X : Cx}
def rSortS (K : PySem.W.Frag) : List V → Hp → VK → Prop := fun vs H Q => ∃ (a : Addr) (xs : List V) (d : Nat), vs = [V.ref a] ∧ SqL K H a xs ∧ xs.length < 64 ∧ (∀ x ∈ xs, ∃ ns, TupI K H x ns ∧ OkI (d + 1) ns) ∧
  ∀ (ys : List V) (p : Addr), ys.Perm xs → ys.Pairwise (fun x y => ∀ n m, TupI K H x n → TupI K H y m → cdS n ≤ cdS m) → H p = none → Q (.ref p) (upd H p (.lst ys))
theorem cr_sortS : CallR X (.builtin "sorted") (rSortS X.K) := fun pins s σ H vs us Q I r ⟨a, xs, d, ev, hs, z64, hx, q⟩ => by
  subst ev
  obtain ⟨its, rv, hl, hz⟩ := I.list hs
  have allr : ∀ x ∈ xs, ∃ t, x = V.ref t := fun x m => by
    obtain ⟨ns, ⟨t, e, _⟩, _⟩ := hx x m
    exact ⟨t, e⟩
  obtain ⟨exs, isr⟩ := bkV_refs rv allr
  rw [Vals.ref1 r]
  have ln := rv.length
  refine sortedS (d := d) hl.isList (ln ▸ z64) (fun u hu => ?_) fun out k1 k2 => ?_
  · obtain ⟨t, rfl⟩ := isr u hu
    obtain ⟨ns, ⟨t', e, ht⟩, o⟩ := hx (V.ref t) (by rw [exs]; exact List.mem_map_of_mem (f := bkV) hu)
    cases e
    exact ⟨ns, tupI_raw I ht, o⟩
  · obtain ⟨cc, old⟩ := PyProof.Rows.sortedAll_at s.heap its out
    have outr : ∀ u ∈ out.toList, ∃ a, u = Value.ref a := fun u hu => isr u (k1.mem_iff.mp hu)
    have pm : (out.toList.map bkV).Perm xs := exs ▸ k1.map bkV
    have iv := I.laid (o := .lst (out.toList.map bkV)) (t' := s.toks) (h' := sortedAll s.heap its out) (a := s.heap.objs.size + 1) (fun _ _ => PyProof.Rows.sortedAll_old) (Nat.le_succ _) ⟨by rw [pm.length_eq]; exact hz, out.toList, cc, bkV_vals outr, old⟩
    refine ⟨.ref _, _, iv, rfl, q _ _ pm (List.pairwise_map.mpr (k2.imp fun {u v} huv n m tn tm => ?_)) (I.hok.fresh (Nat.le_succ _))⟩
    obtain ⟨t, et, ht⟩ := tn
    obtain ⟨t', et', ht'⟩ := tm
    have eu := bkV_ref et
    have ev := bkV_ref et'
    subst eu ev
    have i1 := (tupI_raw I ht).ints
    have i2 := (tupI_raw I ht').ints
    show cdS n ≤ cdS m
    rw [← i1, ← i2]
    exact huv
end
/-! ### what it answers -/
def tupsI : List PV → Option (List (List Int))
  | [] => some []
  | .tup xs :: r => match ints? xs, tupsI r with
    | some n, some l => some (n :: l)
    | _, _ => none
  | _ => none
abbrev tupV (l : List Int) : PV := .tup (l.map PV.int)
theorem tupsI_map : ∀ ls : List (List Int), tupsI (ls.map tupV) = some ls
  | [] => rfl
  | l :: ls => by
    have ih := tupsI_map ls
    rw [List.map_cons]
    unfold tupsI tupV
    rw [ints?_map, ih]
theorem tupsI_eq : ∀ {xs : List PV} {ls : List (List Int)}, tupsI xs = some ls → xs = ls.map tupV
  | [], ls, e => by cases e; rfl
  | x :: xs, ls, e => by
    cases x with
    | tup ys =>
      unfold tupsI at e
      cases e1 : ints? ys with
      | none => rw [e1] at e; cases e
      | some n => cases e2 : tupsI xs with
        | none => rw [e1, e2] at e; cases e
        | some l =>
          rw [e1, e2] at e
          cases e
          rw [List.map_cons, ← tupsI_eq e2, ints?_eq e1]
    | _ => cases e
/-- sorted as Python sorts such tuples -/
def srtT (ls : List (List Int)) : List (List Int) := ls.mergeSort fun a b => decide (cdS a ≤ cdS b)
theorem srtT_perm (ls : List (List Int)) : (srtT ls).Perm ls := List.mergeSort_perm _ _
theorem srtT_sorted (ls : List (List Int)) : (srtT ls).Pairwise fun a b => cdS a ≤ cdS b := by
  have := List.pairwise_mergeSort (le := fun a b : List Int => decide (cdS a ≤ cdS b)) (fun a b c h1 h2 => by simp at *; omega) (fun a b => by simp; omega) ls
  exact this.imp fun h => by simpa using h
def okIs (d : Nat) (ns : List Int) : Bool := ns.length == d && ns.all fun n => decide (-shS ≤ n) && decide (n ≤ shS)
theorem okIs_iff {d : Nat} {ns : List Int} : okIs d ns = true ↔ OkI d ns := by
  unfold okIs OkI
  simp
def okT (ls : List (List Int)) : Bool := decide (ls.length < 64) && match ls with
  | [] => true
  | l :: _ => decide (1 ≤ l.length) && ls.all (okIs l.length)
def gSrtT (v : PV) : Option EV := match v with
  | .lst xs => match tupsI xs with
    | some ls => if okT ls then some (.nw (.lst ((srtT ls).map tupV))) else none
    | none => none
  | _ => none
@[simp] def gSrtA (v : PV) : Option EV := match seqI? v with
  | some _ => gSrt v
  | none => gSrtT v
theorem gSrtA_ints {v : PV} {ns : List Int} (e : seqI? v = some ns) : gSrtA v = some (.nw (.lst ((srt ns).map PV.int))) := by
  unfold gSrtA
  rw [e]
  simp [e]
theorem gSrtA_tups {ls : List (List Int)} {d : Nat} (hd : 1 ≤ d) (h64 : ls.length < 64) (h : ∀ l ∈ ls, OkI d l) : gSrtA (.lst (ls.map tupV)) = some (.nw (.lst ((srtT ls).map tupV))) := by
  cases ls with
  | nil =>
    have e : seqI? (.lst ([].map tupV)) = some [] := rfl
    rw [gSrtA_ints e]
    have : srt ([] : List Int) = [] := (srt_eq (List.Perm.refl _) List.Pairwise.nil).symm
    rw [this]
    have : srtT [] = [] := by unfold srtT; simp
    rw [this]; rfl
  | cons l ls =>
    have e : seqI? (.lst ((l :: ls).map tupV)) = none := rfl
    have k : okT (l :: ls) = true := by
      unfold okT
      have hl := (h l List.mem_cons_self).1
      rw [decide_eq_true h64, Bool.true_and, Bool.and_eq_true]
      refine ⟨decide_eq_true (by rw [hl]; exact hd), List.all_eq_true.mpr fun m hm => okIs_iff.mpr ?_⟩
      rw [hl]
      exact h m hm
    unfold gSrtA
    rw [e]
    unfold gSrtT
    show (match tupsI ((l :: ls).map tupV) with
      | some ls => if okT ls then some (EV.nw (.lst ((srtT ls).map tupV))) else none
      | none => none) = _
    rw [tupsI_map]
    show (if okT (l :: ls) = true then _ else none) = _
    rw [if_pos k]
theorem srtT_uniq {d : Nat} {ls os : List (List Int)} (h : ∀ l ∈ ls, OkI d l) (hp : os.Perm ls) (ho : os.Pairwise fun a b => cdS a ≤ cdS b) : os = srtT ls :=
  (hp.trans (srtT_perm ls).symm).eq_of_pairwise (fun a b ha hb h1 h2 => cdS_inj (h a (hp.mem_iff.mp ha)) (h b ((srtT_perm ls).mem_iff.mp hb)) (Int.le_antisymm h1 h2)) ho (srtT_sorted ls)
section
variable {K : PySem.W.Frag} {H : Hp} {L : Lv}
theorem VRs.perm : ∀ {ys xs : List V}, ys.Perm xs → ∀ {ps : List PV}, VRs K H L ps xs → ∃ qs, VRs K H L qs ys ∧ qs.Perm ps := by
  intro ys xs hp
  induction hp with
  | nil => intro ps r; exact ⟨ps, r, List.Perm.refl _⟩
  | cons x _ ih =>
    intro ps r
    cases r with
    | cons h t =>
      obtain ⟨qs, r', p'⟩ := ih t
      exact ⟨_ :: qs, .cons h r', p'.cons _⟩
  | swap x y l =>
    intro ps r
    cases r with
    | cons h t => cases t with
      | cons h2 t => exact ⟨_, .cons h2 (.cons h t), List.Perm.swap _ _ _⟩
  | trans _ _ ih1 ih2 =>
    intro ps r
    obtain ⟨qs, r2, p2⟩ := ih2 r
    obtain ⟨os, r3, p3⟩ := ih1 r2
    exact ⟨os, r3, p3.trans p2⟩
theorem VR.tupI {ns : List Int} {x : V} (h : VR K H L (tupV ns) x) : TupI K H x ns := by
  obtain ⟨a, vs, rfl, tf, _, rs⟩ := (show RdR K H L (.tup (ns.map PV.int)) x from h).tup
  refine ⟨a, rfl, ?_⟩
  rw [← rs.ints]
  exact tf.sq
theorem VRs.memT : ∀ {ls : List (List Int)} {xs : List V}, VRs K H L (ls.map tupV) xs → ∀ x ∈ xs, ∃ ns ∈ ls, TupI K H x ns
  | [], _, .nil, x, hx => nomatch hx
  | l :: ls, _, .cons h t, x, hx => by
    rcases List.mem_cons.mp hx with rfl | hx
    · exact ⟨l, List.mem_cons_self, h.tupI⟩
    · obtain ⟨ns, m, y⟩ := VRs.memT t x hx
      exact ⟨ns, List.mem_cons_of_mem _ m, y⟩
theorem VRs.pairT : ∀ {ls : List (List Int)} {xs : List V}, VRs K H L (ls.map tupV) xs → xs.Pairwise (fun x y => ∀ n m, TupI K H x n → TupI K H y m → cdS n ≤ cdS m) → ls.Pairwise fun a b => cdS a ≤ cdS b
  | [], _, .nil, _ => List.Pairwise.nil
  | l :: ls, _, .cons h t, p => by
    obtain ⟨p1, p2⟩ := List.pairwise_cons.mp p
    refine List.pairwise_cons.mpr ⟨fun m hm => ?_, VRs.pairT t p2⟩
    have key : ∀ {ks : List (List Int)} {zs : List V}, VRs K H L (ks.map tupV) zs → m ∈ ks → ∃ z ∈ zs, TupI K H z m := fun {ks} => by
      induction ks with
      | nil => intro zs r hm; exact nomatch hm
      | cons k ks ih =>
        intro zs r hm
        cases r with
        | cons h t =>
          rcases List.mem_cons.mp hm with rfl | hm
          · exact ⟨_, List.mem_cons_self, h.tupI⟩
          · obtain ⟨z, hz, y⟩ := ih t hm
            exact ⟨z, List.mem_cons_of_mem _ hz, y⟩
    obtain ⟨z, hz, y⟩ := key t hm
    exact p1 z hz _ _ h.tupI y
theorem perm_tups {qs : List PV} {ls : List (List Int)} (h : qs.Perm (ls.map tupV)) : ∃ os : List (List Int), qs = os.map tupV ∧ os.Perm ls := by
  have g1 : ∀ {qs : List PV}, (∀ q ∈ qs, ∃ l, q = tupV l) → ∃ os : List (List Int), qs = os.map tupV := fun {qs} => by
    induction qs with
    | nil => exact fun _ => ⟨[], rfl⟩
    | cons q qs ih =>
      intro h
      obtain ⟨l, rfl⟩ := h q List.mem_cons_self
      obtain ⟨os, rfl⟩ := ih fun y hy => h y (List.mem_cons_of_mem _ hy)
      exact ⟨l :: os, rfl⟩
  obtain ⟨os, rfl⟩ := g1 fun q hq => by
    obtain ⟨l, _, e⟩ := List.mem_map.mp (h.mem_iff.mp hq)
    exact ⟨l, e.symm⟩
  refine ⟨os, rfl, ?_⟩
  have := h.map fun v => match v with | .tup xs => (ints? xs).getD [] | _ => []
  simpa [List.map_map, Function.comp_def] using this
def rSrtA (K : PySem.W.Frag) : List V → Hp → VK → Prop := fun vs H Q => rSrt K false vs H Q ∨ rSortS K vs H Q
theorem cr_srtA {X : Cx} : CallR X (.builtin "sorted") (rSrtA X.K) := fun pins s σ H vs us Q I r h => h.elim (cr_srt pins s σ H vs us Q I r) (cr_sortS pins s σ H vs us Q I r)
theorem op1_srtA {K : PySem.W.Frag} : Op1 K (rSrtA K) gSrtA := by
  intro H L x z X Q wf hx e q
  unfold gSrtA at e
  split at e
  next => exact .inl (op1_srt H L x z X Q wf hx e q)
  next =>
    refine .inr ?_
    unfold gSrtT at e
    split at e
    next xs =>
      split at e
      next ls e1 =>
        split at e
        next ok =>
          cases e
          obtain ⟨a, vs, rfl, h, rs⟩ := hx.lst
          rw [tupsI_eq e1] at rs
          unfold okT at ok
          rw [Bool.and_eq_true] at ok
          obtain ⟨o1, o2⟩ := ok
          have l64 : ls.length < 64 := of_decide_eq_true o1
          have lv := rs.length
          rw [List.length_map] at lv
          obtain ⟨d, hd⟩ : ∃ d, ∀ l ∈ ls, OkI (d + 1) l := by
            cases ls with
            | nil => exact ⟨0, fun l hl => nomatch hl⟩
            | cons l ls =>
              rw [Bool.and_eq_true] at o2
              have l1 : 1 ≤ l.length := of_decide_eq_true o2.1
              refine ⟨l.length - 1, fun m hm => okIs_iff.mp ?_⟩
              rw [show l.length - 1 + 1 = l.length by omega]
              exact List.all_eq_true.mp o2.2 m hm
          refine ⟨a, vs, d, rfl, h, by omega, fun x hx => ?_, fun ys p hp hs hn => ?_⟩
          · obtain ⟨ns, m, t⟩ := rs.memT x hx
            exact ⟨ns, t, hd ns m⟩
          · obtain ⟨qs, rq, pq⟩ := rs.perm hp
            obtain ⟨os, rfl, po⟩ := perm_tups pq
            have := srtT_uniq hd po (rq.pairT hs)
            subst this
            exact Kq.lst wf rq q p hn
        next => cases e
      next => cases e
    next => cases e
end
end Sd
end
section
set_option Elab.async false
set_option linter.all false
set_option maxRecDepth 100000
set_option maxHeartbeats 4000000
namespace Sd
open PySem PySem.Spec PyProof.Rows L2
/-! ### sum(d.values()), list(d.values()) -/
section
variable {X : Cx}
def tDValsP (t : TE) : TE := fun σ H Q => t σ H fun x H1 => ∃ a kvs, x = .ref a ∧ Rd H1 a (.dK kvs) ∧ ∀ p, H1 p = none → Q (.ref p) (upd H1 p (viewO "dict_values" p a))
theorem pe_dvalsP {e : Expr} {t : TE} {apos pos : Pos} (he : PE X e t) (hbase : attributeBase e "values" X.env (eval e X.env) = eval e X.env := by rfl) (hline : (apos.endLine == pos.line) = true := by rfl) :
    PE X (.Call (.Attribute e "values" apos) [] [] pos) (tDValsP t) := ⟨fun pins s σ H Q I h => wpAny_Call_method0_late hbase hline (thn (he.run pins s σ H _ I h) fun v s1 ⟨x, H1, I1, r1, a, kvs, ex, ha, q⟩ => by
  subst ex
  obtain rfl : v = Value.ref a := r1
  obtain ⟨_, sm, vs, _, dof⟩ := dk_rd I1.hok ha
  obtain ⟨ep, dat⟩ := dof.dictAt
  obtain ⟨ob, es, ho, ex, _⟩ := id dat
  refine ⟨"dict", "dict.values", F.plainAttrs_dict, F.slot_dict_values, F.type_dict_values, ⟨ob, ho, ex.1⟩, fun b e => by cases e; exact ⟨ob, ho, ex.2.1⟩, Calls.callWith_builtin rfl (PySem.evalArgs_none ?_)⟩
  refine call_meetsIn F.slot_dict_values ⟨ob, ho, ex.1⟩ F.entry_dict_values (F.args_dict_values_1 _) (meets_dict_values (mixKind X.prog X.w) a sm) ⟨⟨vs, dof⟩, ?_⟩
  exact ⟨.ref s1.heap.objs.size, _, I1.laid (t' := s1.toks) (fun b o q => Heap.get?_push_of_some _ q) (Nat.le_refl _) (viewO_ok (Heap.get?_push_size _ rfl)), rfl, q _ (I1.hok.fresh (Nat.le_refl _))⟩)⟩
theorem preSum_ints (ns : List Int) : ∀ n, n ≤ ns.length → preSum (fun i => ns.getD i 0) n = (ns.take n).sum
  | 0, _ => by simp [preSum]
  | n + 1, h => by
    have ih := preSum_ints ns n (by omega)
    have hn : n < ns.length := by omega
    have e : ns.take (n + 1) = ns.take n ++ [ns[n]] := by rw [List.take_add_one, List.getElem?_eq_getElem hn]; rfl
    show preSum (fun i => ns.getD i 0) n + ns.getD n 0 = _
    rw [ih, e, List.sum_append, List.getD_eq_getElem?_getD, List.getElem?_eq_getElem hn]
    simp
/-- a view of the values of the dict at a -/
def rSumV (K : PySem.W.Frag) : List V → Hp → VK → Prop := fun xs H Q => ∃ (p a : Addr) (kvs : List (Key × V)) (ns : List Int), xs = [.ref p] ∧ H p = some (viewO "dict_values" p a) ∧ Rd H a (.dK kvs) ∧ kvs.map (·.2) = ns.map V.int ∧ Q (.int ns.sum) H
def rListV (K : PySem.W.Frag) : List V → Hp → VK → Prop := fun xs H Q => ∃ (p a : Addr) (kvs : List (Key × V)), xs = [.ref p] ∧ H p = some (viewO "dict_values" p a) ∧ Rd H a (.dK kvs) ∧ ∀ l, H l = none → Q (.ref l) (upd H l (.lst (kvs.map (·.2))))
theorem view_at {pins : List (Addr × Obj)} {σ : L2.St} {H : Hp} {s : Shared} {p a : Addr} (I : Inv X pins σ H s) (hp : H p = some (viewO "dict_values" p a)) : s.heap.IsValuesView p a :=
  ⟨_, (show ObjOk X.prog X.w H s.heap p (viewO "dict_values" p a) from I.hok p _ hp).1, rfl, rfl⟩
theorem KV.snd {kvs : List (Key × V)} {vs : List (Key × Value)} (r : KV kvs vs) : Vals (kvs.map (·.2)) (vs.map (·.2)) := by
  unfold KV at r
  induction r with
  | nil => exact .nil
  | cons h t ih => exact .cons h.2 ih
theorem cr_sumV (hc : X.calm = true) : CallR X (.builtin "sum") (rSumV X.K) := fun pins s σ H xs us Q I rx ⟨p, a, kvs, ns, ex, hp, hd, hv, q⟩ => by
  subst ex
  rw [Vals.ref1 rx]
  obtain ⟨_, sm, vs, rel, dof⟩ := dk_rd I.hok hd
  obtain ⟨ep, dat⟩ := dof.dictAt
  have rv := KV.snd rel
  rw [hv] at rv
  have lv := rv.length
  rw [List.length_map, List.length_map] at lv
  have vw := view_at I hp
  have la : a < s.heap.objs.size := by
    obtain ⟨ob, es, ho, _⟩ := id dat
    exact Heap.lt_size ho
  refine call_sum_walkG (wpAny_pyIter_values (knd := mixKind X.prog X.w) vw dat ?_)
  refine ⟨s.heap.objs.size, [s.heap.objs.size, a], [s.heap.objs.size], vs.length, fun i v => ∃ k, vs[i]? = some (k, v), _, fun i => ns.getD i 0, rfl, Walks.dictValues (knd := mixKind X.prog X.w) (A := X.A.in1) (I.ok.hd hc) s.heap.objs.size a (Nat.ne_of_lt la) vs ep,
    ⟨⟨_, Heap.get?_push_size _ rfl, rfl, rfl⟩, dat.keep fun b u e => Heap.get?_push_of_some _ e⟩, fun b hb => ?_, fun i v ⟨k, hk⟩ => ?_, fun h' tk t' kp => ?_⟩
  · show b < (s.heap.push _).objs.size
    rw [Heap.size_push]
    rcases List.mem_cons.mp hb with e | hb
    · rw [e]; exact Nat.lt_succ_self _
    · rw [List.mem_singleton.mp hb]; exact Nat.lt_succ_of_lt la
  · have e1 : (vs.map (·.2))[i]? = some v := by rw [List.getElem?_map, hk]; rfl
    have hi : i < ns.length := by rw [lv]; exact (List.getElem?_eq_some_iff.mp hk).1
    obtain ⟨u, hu, t, ht⟩ := rv.get (i := i) (x := .int ns[i]) (by simp [hi])
    rw [e1] at hu
    cases hu
    refine ⟨t, ?_⟩
    show v = Value.int (ns.getD i 0) t
    rw [ht, List.getD_eq_getElem?_getD, List.getElem?_eq_getElem hi]
    rfl
  · rw [preSum_ints ns vs.length (by omega), ← lv, List.take_length]
    exact ⟨.int ns.sum, H, I.kept (t' := tk) fun b u e => kp b u (fun m => by rw [List.mem_singleton.mp m] at e; exact absurd (Heap.lt_size e) (Nat.lt_irrefl _)) (Heap.get?_push_of_some _ e), ⟨_, rfl⟩, q⟩
theorem cr_listV (hc : X.calm = true) : CallR X (.type "list") (rListV X.K) := fun pins s σ H xs us Q I rx ⟨p, a, kvs, ex, hp, hd, q⟩ => by
  subst ex
  rw [Vals.ref1 rx]
  obtain ⟨hz, sm, vs, rel, dof⟩ := dk_rd I.hok hd
  obtain ⟨ep, dat⟩ := dof.dictAt
  have vw := view_at I hp
  have rv := KV.snd rel
  have lv := rv.length
  rw [List.length_map, List.length_map] at lv
  refine PySem.W.kdl_call (PySem.W.kdl_values (knd := mixKind X.prog X.w) (kvs := vs) (ep := ep)) (I.ok.hd hc) ⟨vw, dat⟩ (by omega) fun h' tk acc c kp hS hacc => ?_
  have ea : acc.toList = vs.map (·.2) := PySem.W.kdl_vals_eq acc.toList (by rw [Array.length_toList]; exact hacc.1) fun j v e => hacc.2 j v (by rw [← Array.getElem?_toList]; exact e)
  refine ⟨.ref s.heap.objs.size, _, I.laid (t' := tk) kp (Nat.le_refl _) (show ObjOk X.prog X.w _ h' _ (.lst (kvs.map (·.2))) from ⟨by rw [List.length_map]; exact hz, acc.toList, c, by rw [ea]; exact rv, by simpa using hS⟩), rfl, q _ (I.hok.fresh (Nat.le_refl _))⟩
end
/-! ### in the layer -/
section
variable {p : Pm} {X : Cx}
@[simp] def eSumV (s : List Sl → Res EV) (m : List Sl) : Res EV := (s m).bind fun v m1 => match v.v with
  | .dct kvs => match ints? (kvs.map (·.2)) with
    | some ns => .ok (.pv (.int ns.sum)) m1
    | none => .stuck
  | _ => .stuck
@[simp] def eListV (s : List Sl → Res EV) (m : List Sl) : Res EV := (s m).bind fun v m1 => match v.v with
  | .dct kvs => .ok (.nw (.lst (kvs.map (·.2)))) m1
  | _ => .stuck
theorem VRk.snd {K : PySem.W.Frag} {H : Hp} {L : Lv} : ∀ {kvs : List (Key × PV)} {ws : List (Key × V)}, VRk K H L kvs ws → VRs K H L (kvs.map (·.2)) (ws.map (·.2))
  | _, _, .nil => .nil
  | _, _, .cons h t => .cons h (VRk.snd t)
theorem view_new {H : Hp} {q a : Addr} {kws : List (Key × V)} (hq : H q = none) (h : Rd H a (.dK kws)) (o : HO) : Rd (upd H q o) a (.dK kws) := by
  rcases h with h | ⟨ob, h⟩
  · exact .inl (by rw [upd_ne (ne_of_none h hq)]; exact h)
  · exact .inr ⟨ob, by rw [upd_ne (ne_of_none h hq)]; exact h⟩
theorem se_sumV {e : Expr} {s : List Sl → Res EV} (hk : X.K = p.K) (h : PE X e (tCB (rSumV X.K) (tCons (tDValsP (tE p s)) tNil))) : SE p X e (eSumV s) := pe_imp h fun σ H Q ⟨m, L, st, h⟩ => by
  refine tE_then st h fun v m1 x H1 L1 t ev h1 => ?_
  split at h1
  next kvs e1 =>
    split at h1
    next ns e2 =>
      have rv := ev.rd
      rw [e1] at rv
      obtain ⟨a, ws, rfl, hr, rs⟩ := rv.dct
      refine ⟨a, ws, rfl, hr, fun q0 hq => ⟨q0, a, ws, ns, rfl, upd_same, view_new hq hr _, ?_, ?_⟩⟩
      · have := VRk.snd rs
        rw [ints?_eq e2] at this
        exact this.ints
      · exact RQ.new t.st h1 (stp_newT hq) (wf_newT t.st.wf) (.int _)
    next => exact h1.elim
  next => exact h1.elim
theorem se_listV {e : Expr} {s : List Sl → Res EV} (hk : X.K = p.K) (h : PE X e (tCB (rListV X.K) (tCons (tDValsP (tE p s)) tNil))) : SE p X e (eListV s) := pe_imp h fun σ H Q ⟨m, L, st, h⟩ => by
  refine tE_then st h fun v m1 x H1 L1 t ev h1 => ?_
  split at h1
  next kvs e1 =>
    have rv := ev.rd
    rw [e1] at rv
    obtain ⟨a, ws, rfl, hr, rs⟩ := rv.dct
    refine ⟨a, ws, rfl, hr, fun q0 hq => ⟨q0, a, ws, rfl, upd_same, view_new hq hr _, fun l hl => ?_⟩⟩
    have sn : Stp No H1 L1 (upd H1 q0 (viewO "dict_values" q0 a)) L1 := stp_newT hq
    exact Kq.lst (wf_newT t.st.wf) (rs.snd.mono sn) (fun Z H' L' s wf r => RQ.new t.st h1 (sn.trans s fun a z => z.elim) wf (r.back fun b hb => by
      by_cases z : b = q0
      · subst z; exact hq
      · rw [← hb, upd_ne z])) l hl
  next => exact h1.elim
theorem se_sumVals {x : Str} {px pos apos mpos : Pos} {o : Expr} {s : List Sl → Res EV} (hk : X.K = p.K) (hc : X.calm = true) (hg : Gl X x) (hm : X.mg x = none) (hv : bootBuiltins x = some (.builtin "sum")) (ha : SE p X o s) (hn : x ≠ "__name__") (hdb : (x == ("__debug__" : Str)) = false)
    (hbase : attributeBase o "values" X.env (eval o X.env) = eval o X.env := by rfl) (hline : (apos.endLine == mpos.line) = true := by rfl)
    (hs : starEach [Expr.Call (.Attribute o "values" apos) [] [] mpos] X.env = (false, eval (Expr.Call (.Attribute o "values" apos) [] [] mpos) X.env) :: starEach [] X.env := by rfl) :
    SE p X (.Call (.Name x px) [.Call (.Attribute o "values" apos) [] [] mpos] [] pos) (eSumV s) := se_sumV hk (pe_callB (cr_sumV hc) hg hm hv (pa_cons (pe_dvalsP ha hbase hline) pa_nil hs) hn hdb hs)
theorem se_listVals {x : Str} {px pos apos mpos : Pos} {o : Expr} {s : List Sl → Res EV} (hk : X.K = p.K) (hc : X.calm = true) (hg : Gl X x) (hm : X.mg x = none) (hv : bootBuiltins x = some (.type "list")) (ha : SE p X o s) (hn : x ≠ "__name__") (hdb : (x == ("__debug__" : Str)) = false)
    (hbase : attributeBase o "values" X.env (eval o X.env) = eval o X.env := by rfl) (hline : (apos.endLine == mpos.line) = true := by rfl)
    (hs : starEach [Expr.Call (.Attribute o "values" apos) [] [] mpos] X.env = (false, eval (Expr.Call (.Attribute o "values" apos) [] [] mpos) X.env) :: starEach [] X.env := by rfl) :
    SE p X (.Call (.Name x px) [.Call (.Attribute o "values" apos) [] [] mpos] [] pos) (eListV s) := se_listV hk (pe_callTy (cr_listV hc) hg hm hv (pa_cons (pe_dvalsP ha hbase hline) pa_nil hs) hn hdb hs)
end
end Sd
end
section
set_option Elab.async false
set_option linter.all false
set_option maxRecDepth 100000
set_option maxHeartbeats 4000000
namespace Sd
open PySem PySem.Spec PyProof.Rows L2
/-! ### a = b = e -/
section
variable {p : Pm} {X : Cx}
theorem ps_two {t1 t2 e : Expr} {te : TE} {g1 g2 : TG} {pos : Pos} (he : PE X e te) (h1 : PG X t1 g1) (h2 : PG X t2 g2) (ha : (assignEach [t1, t2] X.env).map (·.2) = [assign t1 X.env, assign t2 X.env] := by rfl) (hw : swappedStores [t1, t2] e X.env = pure none := by rfl) :
    PS X (.Assign [t1, t2] e pos) (fun D σ H => te σ H fun x H1 => g1 x σ H1 fun σ1 H2 => g2 x σ1 H2 D.nx) := ⟨fun pins s σ H D I h =>
  wpAny_Assign_two (thn (he.run pins s σ H _ I h) fun v s1 ⟨x, H1, I1, r1, q1⟩ => thn (h1.run pins s1 σ H1 x v _ I1 r1 q1) fun _ s2 ⟨σ2, H2, I2, q2⟩ => thn (h2.run pins s2 σ2 H2 x v _ I2 r1 q2) fun _ s3 q => q) ha hw⟩
@[simp] def dSet2 (i j : Nat) (s : List Sl → Res EV) (m : List Sl) : SRes := dBind (s m) fun v m1 => match v with
  | .pv w => match putAll [i, j] [.ev (.pv w), .ev (.pv w)] m1 with
    | some m2 => .nx m2
    | none => .stuck
  | _ => .stuck
theorem ss_set2 {i j : Nat} {t1 t2 e : Expr} {s : List Sl → Res EV} {pos : Pos} (hk : X.K = p.K) (h : PS X (.Assign [t1, t2] e pos) (fun D σ H => tE p s σ H fun x H1 => gName i x σ H1 fun σ1 H2 => gName j x σ1 H2 D.nx)) : SS p X (.Assign [t1, t2] e pos) (dSet2 i j s) := ps_imp h fun D σ H ⟨m, L, st, h⟩ => by
  refine ⟨m, L, st, ?_⟩
  unfold dSet2 at h
  cases e : s m with
  | exc c m1 => rw [e] at h; exact fun cls d H' L' t ex => h cls d σ H' L' t.w ex
  | stuck => rw [e] at h; exact h
  | ok v m1 =>
    rw [e, dBind_ok] at h
    intro x H1 L1 t ev
    split at h
    next w =>
      have ev' : VR p.K H1 L1 w x := ev
      split at h
      next m2 e2 =>
        have av : AvRs (σ := σ) p.K H H1 L1 ([w, w].map fun x => AV.ev (.pv x)) [x, x] := VRs.avs (.cons ev' (.cons ev' .nil))
        exact h _ _ _ (putAll_sound st t av e2)
      next => exact h.elim
    next => exact h.elim
end
end Sd
end
section
set_option Elab.async false
set_option linter.all false
set_option maxRecDepth 100000
set_option maxHeartbeats 4000000
namespace PySem
open AutoSeq1
/-- a list longer by another's items, whatever that one's slots are -/
theorem sd_ext (l : Addr) (us : Array Value) (n : Nat) (b : Addr) (vs : Array Value) (k : Nat) (sl : Array (Option Value)) (q0 : ¬(!us.isEmpty && Builtin.List.listTooLong (us.size + vs.size)) = true) (q1 : us.size ≤ sizeLine) (q2 : us.size + vs.size ≤ sizeLine + 1) :
    Meets (Builtin.«list.extend» ⟨[.ref l, .ref b], []⟩) (fun _ R s => s.heap.get? l = some { cls := .type "list", dict := none, data := .seq us n, slots := #[] } ∧ s.heap.get? b = some { cls := .type "list", dict := none, data := .seq vs k, slots := sl } ∧
      R (.ok (.ret Value.none)) { s with heap := s.heap.update l (Obj.mapSeq fun x => x ++ vs), toks := s.toks }) := .of_wp fun prog w A R s h => by
  obtain ⟨hp, g, d, tk, os⟩ := s
  obtain ⟨hl, hb, h⟩ := h
  have f1 := idx_int; have f2 := sub_tuple_tuple; have f3 := sub_list_list; have f4 := sub_tuple_list; have f5 := sub_list_tuple
  have z : (us ++ vs).size ≤ sizeLine + 1 := by rw [Array.size_append]; exact q2
  wp_walk using (wpAny_updateSeq hl rfl (hz := q1) (_hz' := z)), wpAny_loadPart' hl, wpAny_loadPart' hb
  exact ⟨_, rfl, h⟩
end PySem
namespace Sd
open PySem PySem.Spec PyProof.Rows L2
def rExtendS (K : PySem.W.Frag) : V → List V → Hp → VK → Prop := fun x vs H Q => ∃ l b xs zs, x = .ref l ∧ vs = [.ref b] ∧ H l = some (.lst xs) ∧ SqL K H b zs ∧ xs.length + zs.length ≤ sizeLine ∧ Q .non (upd H l (.lst (xs ++ zs)))
theorem mt_extendS {X : Cx} : MtM X "list.extend" (rExtendS X.K) := fun pins s σ H x vs v us Q I rx rv ⟨l, b, xs, zs, ex, ev, hl, hb, hz, q⟩ => by
  subst ex ev
  cases rx
  obtain ⟨u, rfl, ru⟩ := rv.one
  cases ru
  obtain ⟨z1, us, n, r1, l1, e1⟩ := I.lstM hl
  obtain ⟨ws, r2, ⟨⟨cls, dd, dt, sl⟩, k, e2, c2, d2, t2⟩, z2⟩ := I.list hb
  simp only at c2 d2 t2
  subst c2 d2 t2
  have lw := r2.length
  have fit : us.toArray.size + ws.toArray.size ≤ sizeLine := by rw [List.size_toArray, List.size_toArray]; omega
  have notLong : ¬ (!us.toArray.isEmpty && Builtin.List.listTooLong (us.toArray.size + ws.toArray.size)) = true := by rw [notLongL fit, Bool.and_false]; exact Bool.false_ne_true
  refine call_meets F.slot_list_extend ⟨_, e1, rfl⟩ F.entry_list_extend (F.args_list_extend_2 _ _) (sd_ext l us.toArray n b ws.toArray k sl notLong (by omega) (by omega)) ⟨e1, e2, ?_⟩
  exact ⟨.non, _, I.lset (its' := us ++ ws) hl e1 (by simp) (r1.append r2) (by rw [List.length_append]; omega), rfl, q⟩
@[simp] def gExtend (xs as : List PV) : Option (PV × List PV) := match as with
  | [.lst ys] => if xs.length + ys.length ≤ big then some (.non, xs ++ ys) else none
  | _ => none
theorem mts_extend {K : PySem.W.Frag} : MtS K (rExtendS K) gExtend := by
  intro H L a vs xs as us z ys Q ha rx ra e q
  unfold gExtend at e
  split at e
  next zs =>
    split at e
    next hz =>
      cases e
      cases ra with
      | cons r1 r2 =>
        cases r2
        obtain ⟨b, ws, rfl, hb, rw_⟩ := RdR.lst (EvR.rd (H0 := H) (v := .pv (.lst zs)) r1)
        exact ⟨a, b, vs, ws, rfl, rfl, ha, hb, by rw [big_eq, ← rx.length, ← rw_.length]; exact hz, q _ _ (rx.append rw_) .non⟩
    next => cases e
  next => cases e
end Sd
end
section
set_option Elab.async false
set_option linter.all false
set_option maxRecDepth 100000
set_option maxHeartbeats 4000000
namespace Sd
open PySem PySem.Spec PyProof.Rows L2
/-! ### gcd(a, b), a global that is a built-in function -/
@[simp] def gGcd (x y : PV) : Option EV := match x, y with
  | .int a, .int b => some (.pv (.int ((Nat.gcd a.natAbs b.natAbs : Nat) : Int)))
  | _, _ => none
theorem op1b_gcd {K : PySem.W.Frag} : Op1b K rGcd gGcd := by
  intro H L x y z X Y Q wf hx hy e q
  cases x <;> first | cases e | skip
  cases y <;> first | cases e | skip
  rw [RdR.int hx, RdR.int hy]
  exact ⟨_, _, rfl, Kq.pv wf (.int _) q⟩
section
variable {p : Pm} {X : Cx} {a b : Expr} {sa sb : List Sl → Res EV} {pos px : Pos}
theorem se_gcd {x : Str} (hg : Gl X x) (hm : X.mg x = some (.builtin "math.gcd")) (ha : SE p X a sa) (hb : SE p X b sb) (hdb : (x == ("__debug__" : Str)) = false := by decide)
    (hs : starEach [a, b] X.env = (false, eval a X.env) :: starEach [b] X.env := by rfl) (hs2 : starEach [b] X.env = (false, eval b X.env) :: starEach [] X.env := by rfl) (hpl : (backTo pos (starEach [b] X.env)).any (·.1) = false := by rfl) : SE p X (.Call (.Name x px) [a, b] [] pos) (eOp gGcd sa sb) :=
  se_call2 (pe_callBfun cr_gcd hg hm (pa_cons ha (pa_cons hb pa_nil hs2) hs) hdb hs hpl) op1b_gcd
end
/-! ### the head's facts with such globals -/
def okB (K : PySem.W.Frag) (z : Str × String) : Bool := He.eqO (PySem.W.nsIn K mainGlobals z.1) (some (some (.builtin z.2)))
abbrev AlB : Type := Bool × He.AlD
def obsBG (n : Nat) (fa : List He.Fa) (fn : List He.DefD) (bs : List (Str × String)) (g : Addr → Option Obj) : AlB := (bs.all (okB (He.frG g (He.asD g n))), He.obsDG n fa fn g)
def SaysB (fa : List He.Fa) (fn : List He.DefD) (bs : List (Str × String)) (K : PySem.W.Frag) : Prop := He.SaysD fa fn K ∧ bs.all (okB K) = true
def hookB (n : Nat) (fa : List He.Fa) (fn : List He.DefD) (bs : List (Str × String)) : PySem.W.Hook where
  α := AlB
  obs := fun s => obsBG n fa fn bs s.heap.get?
  val := fun _ => (true, He.valD fn)
  says := fun _ h => ∃ K : PySem.W.Frag, K.In h ∧ SaysB fa fn bs K
  of := fun _ _ e => ⟨_, He.frG_in, congrArg Prod.snd e, congrArg Prod.fst e⟩
  keeps := fun _ _ _ ⟨K, hK, c⟩ k => ⟨K, PySem.W.Frag.In.keeps hK k, c⟩
theorem obsBG_eq {n : Nat} {fa : List He.Fa} {fn : List He.DefD} {bs : List (Str × String)} {g : Addr → Option Obj} {s : Shared} (h : ∀ a, g a = s.heap.get? a) : obsBG n fa fn bs g = (hookB n fa fn bs).obs s := by
  have e : g = s.heap.get? := funext h
  rw [e]; rfl
theorem SaysB.fact {fa : List He.Fa} {fn : List He.DefD} {bs : List (Str × String)} {K : PySem.W.Frag} {h : Heap} {mg : Str → Option Value} (c : SaysB fa fn bs K) (X : K.In h) (G : h.Ns mainGlobals mg) {z : Str × String} (hz : z ∈ bs) : mg z.1 = some (.builtin z.2) :=
  PySem.W.mg_of X G (He.eqO_ok (List.all_eq_true.mp c.2 z hz))
end Sd
end
section
set_option Elab.async false
set_option linter.all false
set_option maxRecDepth 100000
set_option maxHeartbeats 4000000
namespace Sd
open PySem PySem.Spec PyProof.Rows L2
/-! ### a dict of one's own that is gone through stays one's own -/
def notLck : Sl → Bool
  | .lck _ _ => false
  | _ => true
@[simp] theorem notLck_un : notLck .un = true := rfl
@[simp] theorem notLck_pv (v : PV) : notLck (.pv v) = true := rfl
@[simp] theorem notLck_own (o : Ob) : notLck (.own o) = true := rfl
@[simp] theorem notLck_bor (o : Ob) : notLck (.bor o) = true := rfl
def unlk (k : Nat) (a : Addr) (m : List Sl) : Option (List Sl) := match m[k]? with
  | some (.lck kvs b) => if (b == a && (m.set k .un).all notLck) = true then some (m.set k (.own (.dct kvs))) else none
  | _ => none
def lckR (k : Nat) (a : Addr) : SRes → SRes
  | .nx m => match unlk k a m with
    | some m' => .nx m'
    | none => .stuck
  | .ret v m => match unlk k a m with
    | some m' => .ret v m'
    | none => .stuck
  | _ => .stuck
open Classical in
noncomputable def dForDO (src : List (Key × PV) → List PV) (k : Nat) (tgt : PV → List Sl → Option (List Sl)) (d : List Sl → SRes) (m : List Sl) : SRes := match m[k]? with
  | some (.own (.dct kvs)) => if h : m.all notLck = true ∧ ∃ r, ∀ a, lckR k a (forL tgt d (src kvs) (m.set k (.lck kvs a))) = r then Classical.choose h.2 else .stuck
  | _ => dForD src k tgt d m
theorem dForDO_eq {src : List (Key × PV) → List PV} {k : Nat} {tgt : PV → List Sl → Option (List Sl)} {d : List Sl → SRes} {m : List Sl} {kvs : List (Key × PV)} {r : SRes} (e : m[k]? = some (.own (.dct kvs))) (n : m.all notLck = true)
    (h : ∀ a, lckR k a (forL tgt d (src kvs) (m.set k (.lck kvs a))) = r) : dForDO src k tgt d m = r := by
  have hh : m.all notLck = true ∧ ∃ r, ∀ a, lckR k a (forL tgt d (src kvs) (m.set k (.lck kvs a))) = r := ⟨n, r, h⟩
  unfold dForDO
  rw [e]
  dsimp only
  rw [dif_pos hh]
  have := Classical.choose_spec hh.2 (default : Addr)
  rw [← this, h]
section
variable {K : PySem.W.Frag} {B : Nat → Option Addr} {m m' : List Sl} {σ σ' : L2.St} {H H' : Hp} {L L' : Lv} {k : Nat} {a : Addr} {od : Obj} {kvs kvs' : List (Key × PV)} {kws : List (Key × V)}
theorem allN {j : Nat} {s : Sl} (h : m.all notLck = true) (e : m[j]? = some s) : notLck s = true := by
  rw [List.all_eq_true] at h
  exact h s (List.mem_of_getElem? e)
theorem cell_lk {b : Addr} {i : Nat} (hk : k < m.length) (c : Cell (m.set k (.lck kvs b))[i]?) : i ≠ k ∧ Cell m[i]? := by
  by_cases h : k = i
  · subst h; rw [List.getElem?_set_self hk] at c; exact c.elim
  · rw [List.getElem?_set_ne h] at c; exact ⟨fun z => h z.symm, c⟩
theorem StR.lockO (st : StR K B m σ H L) (e : m[k]? = some (.own (.dct kvs))) (n : m.all notLck = true) (ea : σ[k]? = some (some (.ref a))) (eh : H a = some (.dK kws)) : StR K B (m.set k (.lck kvs a)) σ (upd H a (.frz od (.dK kws))) L := by
  have hk : k < m.length := (List.getElem?_eq_some_iff.mp e).1
  have lk : LkEq a H (upd H a (.frz od (.dK kws))) := lk_upd eh
  obtain ⟨b, eb, l, hB, kws', e', r⟩ := st.ok k _ _ e ea
  cases eb
  rw [eh] at e'
  cases e'
  have ck : Cell m[k]? := by rw [e]; trivial
  refine ⟨by rw [List.length_set]; exact st.len, fun i s x e1 e2 => ?_, fun i j c hij ci cj => st.ne i j c hij (cell_lk hk ci).2 (cell_lk hk cj).2, fun b lb => lk.some (st.wf b lb), fun i c hc => ?_⟩
  · by_cases h : k = i
    · subst h
      rw [List.getElem?_set_self hk] at e1
      cases e1
      rw [ea] at e2
      cases e2
      exact ⟨rfl, l, hB, od, kws, upd_same, VRk.lk lk r⟩
    · rw [List.getElem?_set_ne h] at e1
      have q := st.ok i s x e1 e2
      cases s with
      | un => trivial
      | pv v => obtain ⟨y, e, r⟩ := q; exact ⟨y, e, r.lk lk⟩
      | own o => obtain ⟨b, e, l, hb, r⟩ := q; exact ⟨b, e, l, hb, r.lk lk fun z => by subst z; subst e; exact st.ne k i b h ck (by rw [e1]; trivial) ea e2⟩
      | bor o => obtain ⟨b, e, l, hb, r⟩ := q; exact ⟨b, e, l, hb, r.lk lk fun z => by subst z; subst e; exact st.ne k i b h ck (by rw [e1]; trivial) ea e2⟩
      | lck kvs b => have := allN n e1; cases this
  · obtain ⟨o', e1, e2⟩ := st.lent i c hc
    have h : k ≠ i := fun z => by subst z; rw [e] at e1; cases e1
    exact ⟨o', by rw [List.getElem?_set_ne h]; exact e1, e2⟩
/-- such a run, seen from outside -/
theorem Tw.unlockO (st : StR K B m σ H L) (e : m[k]? = some (.own (.dct kvs))) (n : m.all notLck = true) (ea : σ[k]? = some (some (.ref a))) (eh : H a = some (.dK kws))
    (t : Tw K B (m.set k (.lck kvs a)) σ (upd H a (.frz od (.dK kws))) L m' σ' H' L') {m2 : List Sl} (hu : unlk k a m' = some m2) : H' a = some (.frz od (.dK kws)) ∧ Tw K B m σ H L m2 σ' (upd H' a (.dK kws)) L' := by
  have hk : k < m.length := (List.getElem?_eq_some_iff.mp e).1
  have ck : Cell m[k]? := by rw [e]; trivial
  have la : L a := by
    obtain ⟨b, eb, l, _⟩ := st.ok k _ _ e ea
    cases eb; exact l
  have adrB : ∀ b, Adr (m.set k (.lck kvs a)) σ b → Adr m σ b ∧ b ≠ a := fun b ⟨i, c, ei⟩ => by
    obtain ⟨h1, h2⟩ := cell_lk hk c
    exact ⟨⟨i, h2, ei⟩, fun z => by subst z; exact st.ne i k b h1 h2 ck ei ea⟩
  obtain ⟨h1, l'⟩ := t.stp.live a _ upd_same la fun z => (adrB a z).2 rfl
  refine ⟨h1, ?_⟩
  have lk : LkEq a H' (upd H' a (.dK kws)) := lk_back h1
  unfold unlk at hu
  split at hu
  next kvs' b em =>
    split at hu
    next hc =>
      rw [Bool.and_eq_true, beq_iff_eq] at hc
      obtain ⟨hb, hn⟩ := hc
      subst hb
      cases hu
      have hk' : k < m'.length := (List.getElem?_eq_some_iff.mp em).1
      obtain ⟨hkσ, eσ⟩ : k < σ'.length ∧ True := ⟨by rw [← t.st.len]; exact hk', trivial⟩
      obtain ⟨ex, _, hB, od', kws', eH, rk⟩ := t.st.ok k _ _ em (List.getElem?_eq_getElem hkσ)
      rw [h1] at eH
      cases eH
      have ea' : σ'[k]? = some (some (.ref b)) := by rw [List.getElem?_eq_getElem hkσ, ex]
      have cm : ∀ i : Nat, i ≠ k → (m'.set k (.own (.dct kvs')))[i]? = m'[i]? := fun i h => List.getElem?_set_ne (Ne.symm h)
      have nl : ∀ i s, i ≠ k → m'[i]? = some s → notLck s = true := fun i s h e => allN hn (by rw [List.getElem?_set_ne (Ne.symm h)]; exact e)
      have cell_ne : ∀ i, i ≠ k → Cell m'[i]? → ∀ c, σ'[i]? = some (some (.ref c)) → c ≠ b := fun i h ci c ei z => by
        subst z
        exact t.st.lckN ⟨od, kws, h1, rk⟩ ⟨i, ci, ei⟩
      have subA : ∀ c, Adr (m'.set k (.own (.dct kvs'))) σ' c → Adr m σ c ∨ H c = none := fun c ⟨i, ci, ei⟩ => by
        by_cases h : i = k
        · subst h
          rw [ea'] at ei
          cases ei
          exact .inl ⟨i, ck, ea⟩
        · rw [cm i h] at ci
          have hne := cell_ne i h ci c ei
          rcases t.sub c ⟨i, ci, ei⟩ with z | z
          · exact .inl (adrB c z).1
          · rw [upd_ne hne] at z
            exact .inr z
      refine ⟨⟨fun c h => ?_, fun c o e1 e2 => ?_, fun c o e1 e2 e3 => ?_⟩, ⟨by rw [List.length_set]; exact t.st.len, fun i s x e1 e2 => ?_, fun i j c hij ci cj e1 e2 => ?_, fun c lc => lk.some (t.st.wf c lc), fun i c hc => ?_⟩, subA⟩
      · by_cases q : c = b
        · subst q; rw [upd_same]; simp
        · rw [upd_ne q]; exact t.stp.old c (by rw [upd_ne q]; exact h)
      · have q : c ≠ b := fun z => e2 (z ▸ la)
        rw [upd_ne q]
        exact t.stp.stay c o (by rw [upd_ne q]; exact e1) e2
      · have q : c ≠ b := fun z => e3 (by subst z; exact ⟨k, ck, ea⟩)
        rw [upd_ne q]
        exact t.stp.live c o (by rw [upd_ne q]; exact e1) e2 fun z => e3 (adrB c z).1
      · by_cases h : i = k
        · subst h
          rw [List.getElem?_set_self hk'] at e1
          cases e1
          rw [ea'] at e2
          cases e2
          exact ⟨b, rfl, l', hB, kws, upd_same, VRk.lk lk rk⟩
        · rw [cm i h] at e1
          have q := t.st.ok i s x e1 e2
          cases s with
          | un => trivial
          | pv v => obtain ⟨y, e, r⟩ := q; exact ⟨y, e, r.lk lk⟩
          | own o => obtain ⟨c, e, l, hb, r⟩ := q; exact ⟨c, e, l, hb, r.lk lk fun z => cell_ne i h (by rw [e1]; trivial) c (by rw [e2, e]) z⟩
          | bor o => obtain ⟨c, e, l, hb, r⟩ := q; exact ⟨c, e, l, hb, r.lk lk fun z => cell_ne i h (by rw [e1]; trivial) c (by rw [e2, e]) z⟩
          | lck kvs b => have := nl i _ h e1; cases this
      · by_cases hi : i = k
        · subst hi
          rw [ea'] at e1
          cases e1
          have hj : j ≠ i := fun z => hij z.symm
          rw [cm j hj] at cj
          exact cell_ne j hj cj b e2 rfl
        · by_cases hj : j = k
          · subst hj
            rw [ea'] at e2
            cases e2
            rw [cm i hi] at ci
            exact cell_ne i hi ci b e1 rfl
          · rw [cm i hi] at ci
            rw [cm j hj] at cj
            exact t.st.ne i j c hij ci cj e1 e2
      · obtain ⟨o, e1, e2⟩ := t.st.lent i c hc
        have h : i ≠ k := fun z => by subst z; rw [em] at e1; cases e1
        exact ⟨o, by rw [cm i h]; exact e1, e2⟩
    next => cases hu
  next => cases hu
end
section
variable {p : Pm} {X : Cx} {m m1 : List Sl} {σ σ1 : L2.St} {H H1 : Hp} {L L1 : Lv}
theorem EvR.unlockO {d : Addr} {od : Obj} {kws : List (Key × V)} {H' : Hp} {L' : Lv} {v : EV} {x : V} (h1 : H' d = some (.frz od (.dK kws))) (r : EvR p.K (upd H d (.frz od (.dK kws))) H' L' v x) : EvR p.K H (upd H' d (.dK kws)) L' v x := by
  cases v with
  | pv v => exact VR.lk (lk_back h1) r
  | nw o =>
    obtain ⟨a, rfl, na, l, r⟩ := r
    have q : a ≠ d := fun z => by
      subst z
      cases o <;> (obtain ⟨_, e2, _⟩ := r; rw [h1] at e2; cases e2)
    rw [upd_ne q] at na
    exact ⟨a, rfl, na, l, r.lk (lk_back h1) q⟩
theorem RS.lockO {k : Nat} {d : Addr} {od : Obj} {kvs : List (Key × PV)} {kws : List (Key × V)} {r : SRes} {D : Ends} (st : StR p.K p.B m σ H L) (e : m[k]? = some (.own (.dct kvs))) (n : m.all notLck = true) (ea : σ[k]? = some (some (.ref d))) (eh : H d = some (.dK kws))
    (h : RS p m σ H L (lckR k d r) D) : RS p (m.set k (.lck kvs d)) σ (upd H d (.frz od (.dK kws))) L r (lkEnds d od (.dK kws) D) := by
  cases r with
  | nx m' =>
    unfold lckR at h
    dsimp only at h
    split at h
    next m2 hu => exact fun σ' H' L' t => let ⟨h1, t'⟩ := t.unlockO st e n ea eh hu; ⟨h1, h σ' _ L' t'⟩
    next => exact h.elim
  | ret v m' =>
    unfold lckR at h
    dsimp only at h
    split at h
    next m2 hu => exact fun x σ' H' L' t ev => let ⟨h1, t'⟩ := t.unlockO st e n ea eh hu; ⟨h1, h x σ' _ L' t' (ev.unlockO h1)⟩
    next => exact h.elim
  | brk m' => exact h.elim
  | cnt m' => exact h.elim
  | exc c m' => exact h.elim
  | stuck => exact h.elim
theorem forD_core {g : TG} {ids : List Nat} {tgt : PV → List Sl → Option (List Sl)} {d : List Sl → SRes} {D : Ends} {J : It} {xs : List PV} (kg : TgG p g ids tgt) (st : StR p.K p.B m1 σ H1 L1)
    (jr : ∀ H L, Stp (Adr m1 σ) H1 L1 H L → (∀ a, L a → H a ≠ none) → (∀ i v, xs[i]? = some v → J.go i H ∧ ∀ x H', J.yld i H x H' → Stp No H L H' L ∧ VR p.K H' L v x) ∧ ∀ i, xs.length ≤ i → J.stop i H) (h1 : RS p m1 σ H1 L1 (forL tgt d xs m1) D) :
    ∃ W : Nat → Nat → L2.St → Hp → Prop, (∃ k, W 0 k σ H1) ∧ ∀ i k σ H, W i k σ H → (J.stop i H ∧ D.nx σ H) ∨ (J.go i H ∧ ∃ N : L2.St → Hp → Prop, (∀ σ' H', N σ' H' → ∃ k', k' < k ∧ W (i + 1) k' σ' H') ∧ ∀ x H', J.yld i H x H' → g x σ H' fun σ2 H2 => tS p d { D with nx := N, ct := N, bk := D.nx } σ2 H2) := by
    refine ⟨fun i k σ' H' => ∃ mm L', Tw p.K p.B m1 σ H1 L1 mm σ' H' L' ∧ k = xs.length - i ∧ i ≤ xs.length ∧ RS p mm σ' H' L' (forL tgt d (xs.drop i) mm) D, ⟨xs.length, m1, L1, (Tr.refl st).w, rfl, Nat.zero_le _, h1⟩, ?_⟩
    rintro i k σ' H' ⟨mm, L', tw, rfl, hi', hq⟩
    obtain ⟨jgo, jst⟩ := jr H' L' tw.stp tw.st.wf
    by_cases hlt : i < xs.length
    · right
      have hx : xs[i]? = some xs[i] := List.getElem?_eq_getElem hlt
      obtain ⟨go, yld⟩ := jgo i _ hx
      rw [List.drop_eq_getElem_cons hlt] at hq
      refine ⟨go, fun σ'' H'' => ∃ mm L'', Tw p.K p.B m1 σ H1 L1 mm σ'' H'' L'' ∧ RS p mm σ'' H'' L'' (forL tgt d (xs.drop (i + 1)) mm) D, fun σ'' H'' ⟨mm', L'', a, c⟩ => ⟨xs.length - (i + 1), by omega, mm', L'', a, rfl, hlt, c⟩, fun x H2 hy => ?_⟩
      obtain ⟨sy, ry⟩ := yld x H2 hy
      have wf2 : ∀ a, L' a → H2 a ≠ none := fun a la => sy.old a (tw.st.wf a la)
      have t2 := Tr.grow tw.st sy wf2
      unfold forL at hq
      cases et : tgt xs[i] mm with
      | none => rw [et] at hq; exact hq.elim
      | some m2 =>
        rw [et] at hq
        dsimp only at hq
        refine kg _ x mm σ' H2 L' m2 _ t2.st ry et fun σ2 tg2 _ _ => ?_
        have tall := (t2.trans tg2).w
        refine ⟨m2, L', tg2.st, ?_⟩
        have hq2 := RS.go tall hq
        have twA := tw.trans tall
        show RS p m2 σ2 H2 L' (d m2) _
        cases ed : d m2 with
        | nx m3 => rw [ed] at hq2; exact fun σ3 H3 L3 tw3 => ⟨m3, L3, twA.trans tw3, RS.go tw3 hq2⟩
        | cnt m3 => rw [ed] at hq2; exact fun σ3 H3 L3 tw3 => ⟨m3, L3, twA.trans tw3, RS.go tw3 hq2⟩
        | brk m3 => rw [ed] at hq2; exact hq2
        | ret v m3 => rw [ed] at hq2; exact hq2
        | exc c m3 => rw [ed] at hq2; exact hq2
        | stuck => rw [ed] at hq2; exact hq2
    · left
      have ei : i = xs.length := by omega
      subst ei
      rw [List.drop_length] at hq
      exact ⟨jst _ (Nat.le_refl _), hq σ' H' L' (Tr.refl tw.st).w⟩
/-- what the iterator of a locked dict does, whoever owns it -/
def JK (K : PySem.W.Frag) (J : It) (xs : List PV) (H : Hp) (L : Lv) : Prop := (∀ i v, xs[i]? = some v → J.go i H ∧ ∀ x H', J.yld i H x H' → Stp No H L H' L ∧ VR K H' L v x) ∧ ∀ i, xs.length ≤ i → J.stop i H
def SrcDO (X : Cx) (tg iter : Expr) (k : Nat) (src : List (Key × PV) → List PV) : Prop := ∃ (wi : TI) (J : Addr → Obj → List (Key × V) → It), PI X tg iter wi ∧
  (∀ σ H R d od kws, σ[k]? = some (some (.ref d)) → H d = some (.frz od (.dK kws)) → R (J d od kws) H → wi σ H R) ∧
  ∀ K H L d od kvs kws, H d = some (.frz od (.dK kws)) → VRk K H L kvs kws → (∀ a, L a → H a ≠ none) → JK K (J d od kws) (src kvs) H L
theorem jk_keys {K : PySem.W.Frag} {d : Addr} {od : Obj} {kvs : List (Key × PV)} {kws : List (Key × V)} (hd : H d = some (.frz od (.dK kws))) (r : VRk K H L kvs kws) : JK K (Itk d od kws) (kvs.map fun kv => pvK kv.1) H L := by
  have keys : ∀ {kvs : List (Key × PV)} {kws : List (Key × V)} (i : Nat) (k : Key) (v : V), VRk K H L kvs kws → kws[i]? = some (k, v) → ∃ w, kvs[i]? = some (k, w) := fun {kvs kws} i k v r hk => by
    induction i generalizing kvs kws with
    | zero => cases r with
      | nil => simp at hk
      | cons h t => simp at hk; obtain ⟨rfl, rfl⟩ := hk; exact ⟨_, rfl⟩
    | succ i ih => cases r with
      | nil => simp at hk
      | cons h t => simp at hk; obtain ⟨w, hw⟩ := ih t hk; exact ⟨w, by simpa using hw⟩
  refine ⟨fun i v hv => ?_, fun i hi => ⟨hd, by rw [← r.length]; simpa using hi⟩⟩
  have hi : i < kvs.length := by simpa using (List.getElem?_eq_some_iff.mp hv).1
  refine ⟨⟨hd, by rw [← r.length]; exact hi⟩, fun x H' ⟨e1, k, w, hk, ex⟩ => ?_⟩
  subst e1 ex
  refine ⟨.refl _ _ _, ?_⟩
  obtain ⟨w', hw⟩ := keys i k w r hk
  rw [List.getElem?_map, hw] at hv
  cases hv
  exact VR.ofKey k
theorem jk_items {K : PySem.W.Frag} {d : Addr} {od : Obj} {kvs : List (Key × PV)} {kws : List (Key × V)} (hd : H d = some (.frz od (.dK kws))) (r : VRk K H L kvs kws) (wf : ∀ a, L a → H a ≠ none) : JK K (Iti d od kws) (kvs.map fun kv => .tpl [pvK kv.1, kv.2]) H L := by
  have keys : ∀ {kvs : List (Key × PV)} {kws : List (Key × V)} (i : Nat) (k : Key) (v : V), VRk K H L kvs kws → kws[i]? = some (k, v) → ∃ w, kvs[i]? = some (k, w) ∧ VR K H L w v := fun {kvs kws} i k v r hk => by
    induction i generalizing kvs kws with
    | zero => cases r with
      | nil => simp at hk
      | cons h t => simp at hk; obtain ⟨rfl, rfl⟩ := hk; exact ⟨_, rfl, h⟩
    | succ i ih => cases r with
      | nil => simp at hk
      | cons h t => simp at hk; obtain ⟨w, hw, q⟩ := ih t hk; exact ⟨w, by simpa using hw, q⟩
  refine ⟨fun i v hv => ?_, fun i hi => ⟨hd, by rw [← r.length]; simpa using hi⟩⟩
  have hi : i < kvs.length := by simpa using (List.getElem?_eq_some_iff.mp hv).1
  refine ⟨⟨hd, by rw [← r.length]; exact hi⟩, fun x H' ⟨T, k, w, hk, ex, hT, eH⟩ => ?_⟩
  subst ex eH
  obtain ⟨w', hw, rw'⟩ := keys i k w r hk
  rw [List.getElem?_map, hw] at hv
  cases hv
  have sT := stp_newT (L := L) (o := .tup [kV k, w]) hT
  exact ⟨sT, vr_tup wf hT (.cons (VR.ofKey k) (.cons rw' .nil))⟩
theorem srcO_keys {tg e : Expr} {k : Nat} (he : PE X e (tVar k)) : SrcDO X tg e k (fun kvs => kvs.map fun kv => pvK kv.1) :=
  ⟨_, Itk, pi_keys he, fun σ H R d od kws ex e q => ⟨_, ex, d, od, rfl, .inl ⟨kws, e, q⟩⟩, fun K H L d od kvs kws e r wf => jk_keys e r⟩
theorem srcO_items {e : Expr} {k : Nat} {elts : List Expr} {kk : Nat} {tpos apos cpos : Pos} (he : PE X e (tVar k)) (hbase : attributeBase e "items" X.env (eval e X.env) = eval e X.env) (hline : (apos.endLine == cpos.line) = true) : SrcDO X (.Tuple elts kk tpos) (.Call (.Attribute e "items" apos) [] [] cpos) k (fun kvs => kvs.map fun kv => .tpl [pvK kv.1, kv.2]) :=
  ⟨_, Iti, pi_items he hbase hline, fun σ H R d od kws ex e q => ⟨_, ex, d, od, kws, rfl, e, q⟩, fun K H L d od kvs kws e r wf => jk_items e r wf⟩
theorem ss_forDO {tg iter : Expr} {body : List Stmt} {k : Nat} {src : List (Key × PV) → List PV} {tgt : PV → List Sl → Option (List Sl)} {d : List Sl → SRes} {pos : Pos} (hp : PassesOwn (model X.prog X.w) X.A X.env X.xe) (hc : X.calm = true) (hi0 : SrcD X tg iter k src) (hi : SrcDO X tg iter k src) {ids : List Nat} (hg : TgS p X tg ids tgt) (hb : SSs p X body d)
    (hs : ∀ x, foldedSetIterable iter X.env x = pure x) : SS p X (.For tg iter body [] pos) (dForDO src k tgt d) := by
  have base := ss_forD (pos := pos) hp hc hi0 hg hb hs
  obtain ⟨g, pg, kg⟩ := hg
  obtain ⟨wi, J, pi, hwi, hjr⟩ := hi
  have b0 := ps_for (pos := pos) hp hc pi pg hb hs
  refine ps_imp (ps_or (ps_lock b0) base) fun D σ H ⟨m, L, st, h⟩ => ?_
  unfold dForDO at h
  split at h
  next kvs e =>
    left
    split at h
    next hh =>
      obtain ⟨x, ex, a, rfl, la, hB, kws, eh, rk⟩ := st.at e
      have h' := h
      rw [← Classical.choose_spec hh.2 a] at h'
      refine ⟨a, _, eh, trivial, fun od => ?_⟩
      show tFor wi g (tS p d) (lkEnds a od (.dK kws) D) σ (upd H a (.frz od (.dK kws)))
      have lk := lk_upd (od := od) eh
      refine hwi _ _ _ a od kws ex upd_same ?_
      have st1 := st.lockO (od := od) e hh.1 ex eh
      have rk1 := VRk.lk lk rk
      refine forD_core kg st1 (fun H2 L2 s wf => ?_) (RS.lockO st e hh.1 ex eh h')
      obtain ⟨f1, l1⟩ := s.live a _ upd_same la (st1.lckN ⟨od, kws, upd_same, rk1⟩)
      exact hjr _ H2 L2 a od kvs kws f1 (VRk.mono s rk1) wf
    next => exact h.elim
  next => exact .inr ⟨m, L, st, h⟩
end
end Sd
end
section
set_option Elab.async false
set_option linter.all false
set_option maxRecDepth 100000
set_option maxHeartbeats 4000000
namespace Sd
open PySem PySem.Spec PyProof.Rows L2
section
variable {X : Cx} {p : Pm}
/-! ### tuple(range(n)) -/
theorem rgV_rng (n : Int) {K : PySem.W.Frag} {H : Hp} {L : Lv} : VRs K H L (rng 0 n.toNat) (rgV 0 n) := by
  unfold rng rgV
  rw [Int.sub_zero]
  generalize n.toNat = k
  induction List.range k with
  | nil => exact .nil
  | cons i l ih => exact .cons (.int _) ih
theorem pe_tupRgN {e : Expr} {te : L2.St → Hp → (Int → Int → Hp → Prop) → Prop} {q pos : Pos} (cm : X.calm = true) (g1 : Gl X "tuple") (g2 : X.mg "tuple" = none) (he : PRg X e te) (na : starEach [e] X.env = (false, eval e X.env) :: starEach [] X.env) :
    PE X (.Call (.Name "tuple" q) [e] [] pos) (fun σ H Q => te σ H fun a b H1 => RgOk a b ∧ NewT H1 (rgV a b) Q) := by
  constructor
  intro pins s σ H Q I h
  refine Call_ (ld_blt I g1 g2 boot_tuple (PyProof.Rows.callWith_type1 (args_cons (thn (he pins s σ H _ I h) ?_) na) na))
  rintro x s1 ⟨r, a, b, t, u, v, H1, rfl, hr, I1, ⟨k1, k2, k3, k4, k5⟩, w⟩
  refine args_nil (call_tuple_range (n := (b - a).toNat) (I1.ok.hd cm) hr (small_one k1 k2 k3 k4) (rangeSize_nat a b) k5 ?_)
  intro h2 tk acc kept items
  have I2 : Inv X pins σ H1 { s1 with heap := h2, toks := tk } := I1.kept kept
  have z := new_tup I2 (vals_rg items) (by rw [rgV_length, sizeLine_eq]; omega) w
  rw [Array.toArray_toList] at z
  exact z
@[simp] noncomputable def eTupRg (s : List Sl → Res EV) (m : List Sl) : Res EV := (s m).bind fun v m1 => match v.v with
  | .int n => if 0 ≤ n ∧ n ≤ 100000 then .ok (.pv (.tup (rng 0 n.toNat))) m1 else .stuck
  | _ => .stuck
theorem se_tupRg {a : Expr} {s : List Sl → Res EV} {q1 q2 pos : Pos} (cm : X.calm = true) (g1 : Gl X "tuple") (g2 : X.mg "tuple" = none) (g3 : Gl X "range") (g4 : X.mg "range" = none) (ha : SE p X a s)
    (n1 : starEach [a] X.env = (false, eval a X.env) :: starEach [] X.env) (n2 : starEach [.Call (.Name "range" q2) [a] [] pos] X.env = (false, eval (.Call (.Name "range" q2) [a] [] pos) X.env) :: starEach [] X.env) {pos2 : Pos} :
    SE p X (.Call (.Name "tuple" q1) [.Call (.Name "range" q2) [a] [] pos] [] pos2) (eTupRg s) := pe_imp (pe_tupRgN cm g1 g2 (prg_1 g3 g4 ha n1) n2) fun σ H Q ⟨m, L, st, h⟩ => by
  refine tE_then st h fun v m1 x H1 L1 t ev h1 => ?_
  split at h1
  next n en =>
    split at h1
    next hn =>
      have r := ev.rd
      rw [en] at r
      rw [r.int]
      exact ⟨n, rfl, RgOk.of_le (by omega) (by omega) (by omega) hn.1, Kq.tup t.st.wf (rgV_rng n) fun Z H' L' s wf r => RQ.new t.st h1 s wf r⟩
    next => exact h1.elim
  next => exact h1.elim
/-! ### str(i) -/
@[simp] def gStr (v : PV) : Option EV := match v with
  | .int i => if i.natAbs.log2 < 1920 then some (.pv (.str (toString i))) else none
  | _ => none
theorem op1_str {K : PySem.W.Frag} : Op1 K (fun xs H Q => ∃ i, xs = [.int i] ∧ i.natAbs.log2 < 1920 ∧ Q (.str (toString i)) H) gStr := by
  intro H L x z Y Q wf hx e q
  cases x <;> first | cases e | skip
  unfold gStr at e
  dsimp only at e
  split at e
  next hz => cases e; rw [hx.int]; exact ⟨_, rfl, hz, Kq.pv wf (.str _) q⟩
  next => cases e
/-! ### sep.join(texts) -/
def strs? : List PV → Option (List Str)
  | [] => some []
  | .str x :: r => (strs? r).map (x :: ·)
  | _ :: _ => none
@[simp] theorem strs?_map : ∀ l : List Str, strs? (l.map PV.str) = some l
  | [] => rfl
  | x :: l => by rw [List.map_cons]; unfold strs?; rw [strs?_map l]; rfl
theorem strs?_vrs {K : PySem.W.Frag} {H : Hp} {L : Lv} : ∀ {vs : List PV} {xs : List V} {l : List Str}, strs? vs = some l → VRs K H L vs xs → xs = l.map V.str
  | [], _, l, e, r => by cases r; cases e; rfl
  | v :: vs, _, l, e, r => by
    cases v <;> first | (exfalso; revert e; unfold strs?; intro e; cases e) | skip
    next x =>
      unfold strs? at e
      obtain ⟨l', e', rfl⟩ := Option.map_eq_some_iff.mp e
      cases r with
      | cons r1 r2 => cases r1; rw [strs?_vrs e' r2]; rfl
@[simp] def eJoin (sa sb : List Sl → Res EV) (m : List Sl) : Res EV := (sa m).bind fun x m1 => match x.v with
  | .str a => (sb m1).bind fun y m2 => match y.v with
    | .lst xs => match strs? xs with
      | some ys => if (ys.map (·.length)).sum + ys.length * a.length ≤ 1000000 then .ok (.pv (.str (Txt.join a ys))) m2 else .stuck
      | none => .stuck
    | _ => .stuck
  | _ => .stuck
theorem se_join {o b : Expr} {sa sb : List Sl → Res EV} {apos cpos : Pos} (hk : X.K = p.K) (ha : SE p X o sa) (hb : SE p X b sb) (hs : starEach [b] X.env = [(false, eval b X.env)]) (hbase : attributeBase o "join" X.env (eval o X.env) = eval o X.env) (hline : (apos.endLine == cpos.line) = true) :
    SE p X (.Call (.Attribute o "join" apos) [b] [] cpos) (eJoin sa sb) := pe_imp (pe_join ha hb hs hbase hline) fun σ H Q ⟨m, L, st, h⟩ => by
  refine tE_then st h fun v m1 x H1 L1 t ev h1 => ?_
  split at h1
  next a e1 =>
    have rv := ev.rd
    rw [e1] at rv
    rw [rv.str]
    refine ⟨⟨a, rfl⟩, ?_⟩
    refine tE_then t.st h1 fun u m2 y H2 L2 t2 ev2 h2 => ?_
    split at h2
    next xs e2 =>
      split at h2
      next ys e3 =>
        split at h2
        next hz =>
          have ry := ev2.rd
          rw [e2] at ry
          obtain ⟨q, vs, rfl, sq, rs⟩ := ry.lst
          have := strs?_vrs e3 rs
          subst this
          exact ⟨a, q, ys, rfl, rfl, .inl (by rw [hk]; exact sq), by omega, RQ.pv t2.st h2 (.str _)⟩
        next => exact h2.elim
      next => exact h2.elim
    next => exact h2.elim
  next => exact h1.elim
end
end Sd
end
section
set_option Elab.async false
set_option linter.all false
set_option maxRecDepth 100000
set_option maxHeartbeats 4000000
namespace Sd
open PySem PySem.Spec PyProof.Rows L2
/-! ### a tuple backwards -/
section
variable {prog : Program} {w : World} {A : Around} {E : Value → Shared → Prop} {s : Shared}
theorem back_places (n : Nat) : Builtin.Slice.slicePlaces ((n : Int) - 1) (-1) (-1) = n := by
  unfold Builtin.Slice.slicePlaces
  rw [if_neg (by omega), show -(-1 : Int) = 1 from rfl, Int.ediv_one]
  split <;> omega
theorem back_pick (xs : Array Value) : ((List.range xs.size).filterMap fun (m : Nat) => xs[((xs.size : Int) - 1 + (m : Int) * (-1)).toNat]?).toArray = xs.toList.reverse.toArray := by
  congr 1
  apply List.ext_getElem?
  intro i
  have key : ∀ k : Nat, k ≤ xs.size → (List.range k).filterMap (fun (m : Nat) => xs[((xs.size : Int) - 1 + (m : Int) * (-1)).toNat]?) = xs.toList.reverse.take k := fun k => by
    induction k with
    | zero => intro _; rfl
    | succ k ih =>
      intro hk
      have e1 : ((xs.size : Int) - 1 + (k : Int) * (-1)).toNat = xs.size - 1 - k := by omega
      have hl : k < xs.toList.reverse.length := by rw [List.length_reverse, Array.length_toList]; omega
      rw [List.range_succ, List.filterMap_append, ih (by omega), List.take_add_one, List.getElem?_eq_getElem hl]
      congr 1
      have g : xs[xs.size - 1 - k]? = some xs.toList.reverse[k] := by
        rw [List.getElem_reverse, Array.getElem?_eq_getElem (by omega)]
        simp
      simp only [List.filterMap_cons, List.filterMap_nil, e1, g]
      rfl
  rw [key xs.size (Nat.le_refl _)]
  rw [List.take_of_length_le (by rw [List.length_reverse, Array.length_toList]; omega)]
theorem back_applied {sl : Addr} {vs : Value} {n : Nat} {Q : Int × Int × Nat → Shared → Prop} (hs : s.heap.IsSliceOf sl .none .none vs) (ps : IsPart vs (some (-1)))
    (h : Q ((n : Int) - 1, -1, n) s) : wpAny (model prog w) A (Builtin.Slice.sliceApplied (.ref sl) (pure (n : Int))) Q E s := by
  obtain ⟨ob, g1, g2, g3⟩ := id hs
  unfold Builtin.Slice.sliceApplied
  unfold Builtin.Slice.sliceFields
  refine wpAny_bind (wpAny_bind (wpAny_field g1 g3 (x := .none) rfl (wpAny_bind (wpAny_field g1 g3 (x := .none) rfl (wpAny_bind (wpAny_field g1 g3 (x := vs) rfl (wpAny_pure ?_)))))))
  refine wpAny_bind (HT.slicePart_ ps ?_)
  show wpAny _ _ (if ((-1 : Int) == 0) = true then _ else _) _ _ s
  rw [if_neg (by decide)]
  refine wpAny_bind (HT.slicePart_ .none (wpAny_bind (HT.slicePart_ .none (wpAny_bind (wpAny_pure ?_)))))
  show wpAny _ _ (pure ((n : Int) - 1, (-1 : Int), Builtin.Slice.slicePlaces ((n : Int) - 1) (-1) (-1))) _ _ s
  rw [back_places]
  exact wpAny_pure h
theorem back_item {t sl : Addr} {items : Array Value} {vs : Value} {Q : Value → Shared → Prop} (ht : IsTup s.heap t items) (hs : s.heap.IsSliceOf sl .none .none vs) (ps : IsPart vs (some (-1))) (hz : items.size ≤ sizeLine)
    (h : Q (.ref s.heap.objs.size) { s with heap := s.heap.push { cls := .type "tuple", data := .seq items.toList.reverse.toArray } }) : wpAny (model prog w) A (getItem (.ref t) (.ref sl)) Q E s := by
  have fit : sizeOk (.seq items.toList.reverse.toArray) := by
    show items.toList.reverse.toArray.size ≤ sizeLine
    rw [List.size_toArray, List.length_reverse]
    exact hz
  obtain ⟨ob, g1, g2, g3⟩ := id hs
  have hT : s.TypeIs (.ref sl) "slice" := ⟨ob, g1, g2⟩
  have ta := ht.typeIs
  unfold getItem
  try with_reducible refine wpAny_holding ?_
  first
    | refine wpAny_bind (wpAny_pure ?_)
    | skip
  apply wpAny_bind
  apply wpAny_sequenceKey ta (by decide)
  apply wpAny_bind
  refine wpAny_callSpecial?_slot (name := Str.ofString "__getitem__") ta PyProof.Rows.slot_tuple_getitem ?_
  refine wpAny_call_entry PyProof.Rows.slot_tuple_getitem ta entry_tuple_getitem ?_ (args_tuple_getitem _ _)
  show wpAny _ _ (Builtin.Tuple.tupleItemsOf (.ref t) >>= _) _ _ s
  apply wpAny_bind
  apply tupleItemsOf_ ht
  refine wpAny_bind (wpAny_typeOf hT ?_)
  rw [if_pos (by decide)]
  apply wpAny_bind
  apply back_applied hs ps
  have no : ¬ ((((items.size : Int) - 1) == 0 && (-1 : Int) == 1 && items.size == items.size) = true) := by
    rw [Bool.and_eq_true, Bool.and_eq_true]
    rintro ⟨⟨_, z⟩, _⟩
    cases z
  show wpAny _ _ (if (((items.size : Int) - 1) == 0 && (-1 : Int) == 1 && items.size == items.size) = true then _ else _) _ _ s
  rw [if_neg no, back_pick]
  first
    | exact wpAny_bind (m := Builtin.Tuple.tupleExact _) (wpAny_newObj_type (wpAny_pure ⟨_, rfl, wpAny_pure h⟩) fit)
    | exact wpAny_bind (m := Builtin.Tuple.tupleExact _) (wpAny_newObj_type (wpAny_bind (wpAny_pure (wpAny_pure ⟨_, rfl, wpAny_pure h⟩))) fit)
    | exact wpAny_bind (wpAny_bind (m := Builtin.Tuple.tupleExact _) (wpAny_newObj_type (wpAny_pure (wpAny_pure ⟨_, rfl, wpAny_pure h⟩)) fit))
    | exact wpAny_bind (wpAny_bind (m := Builtin.Tuple.tupleExact _) (wpAny_newObj_type (wpAny_pure ⟨_, rfl, wpAny_pure h⟩) fit))
end
section
variable {p : Pm} {X : Cx} {e : Expr} {te : TE} {pos p1 p2 p3 : Pos} {kk : Nat}
def tRevT (K : PySem.W.Frag) (te : TE) : TE := fun σ H Q => te σ H fun x H1 => ∃ a xs, x = .ref a ∧ SqT K H1 a xs ∧ NewT H1 xs.reverse Q
theorem vals_rev : ∀ {xs : List V} {us : List Value}, Vals xs us → Vals xs.reverse us.reverse
  | _, _, .nil => .nil
  | _, _, .cons h t => by rw [List.reverse_cons, List.reverse_cons]; exact (vals_rev t).append (.cons h .nil)
theorem pe_revT {ops : Value → Value → List Value} (he : PE X e te) (hu : PO X (some (.UnaryOp .USub (.Constant (.int 1) kk p1) p2)) (tPart (fun σ H Q => Q (.int (-1)) H)))
    (ht : ∀ o i : Value, subscripted (.Slice none none (some (.UnaryOp .USub (.Constant (.int 1) kk p1) p2)) p3) false o i = operate (ops o i) (getItem o i)) : PE X (.Subscript e (.Slice none none (some (.UnaryOp .USub (.Constant (.int 1) kk p1) p2)) p3) pos) (tRevT X.K te) := by
  constructor
  intro pins s σ H Q I h
  refine Subscript_ (thn (he.run pins s σ H _ I h) ?_)
  rintro v s1 ⟨x, H1, I1, r1, a, xs, rfl, hx, q⟩
  cases r1
  refine wpAny_Slice ?_
  refine thn (po_none.run pins s1 σ H1 (fun o H2 => o = none ∧ H2 = H1) I1 ⟨rfl, rfl⟩) ?_
  rintro vl s2 ⟨_, _, I2, pl, rfl, rfl⟩
  refine thn (po_none.run pins s2 σ _ (fun o H2 => o = none ∧ H2 = _) I2 ⟨rfl, rfl⟩) ?_
  rintro vu s3 ⟨_, _, I3, pu, rfl, rfl⟩
  refine thn (hu.run pins s3 σ _ (fun o H2 => o = some (-1) ∧ H2 = _) I3 ⟨-1, rfl, rfl, rfl⟩) ?_
  rintro vs s4 ⟨_, _, I4, ps, rfl, rfl⟩
  cases pl
  cases pu
  have I5 : Inv X pins σ _ { s4 with heap := s4.heap.push { cls := .type "slice", data := .fields #[.none, .none, vs] } } := I4.kept (t' := s4.toks) fun b ob w => Heap.get?_push_of_some _ w
  obtain ⟨its, r, hit, hz⟩ := I5.tuple hx
  refine tail_any hit.typeIs (PyProof.Rows.slot_tuple_getitem.lookup) ?_ (ht _ _)
  refine back_item hit (Heap.IsSliceOf.new _ .none .none vs) ps (by rw [List.size_toArray, ← r.length]; exact hz) ?_
  exact new_tup I5 (vals_rev r) (by rw [List.length_reverse]; exact hz) q
theorem pe_or {t1 t2 : TE} {e : Expr} (h1 : PE X e t1) (h2 : PE X e t2) : PE X e (fun σ H Q => t1 σ H Q ∨ t2 σ H Q) := ⟨fun pins s σ H Q I hw => hw.elim (h1.run pins s σ H Q I) (h2.run pins s σ H Q I)⟩
@[simp] def eRevA (s : List Sl → Res EV) (m : List Sl) : Res EV := (s m).bind fun x m1 => match x.v with
  | .lst xs => .ok (.nw (.lst xs.reverse)) m1
  | .tup xs => .ok (.pv (.tup xs.reverse)) m1
  | _ => .stuck
theorem se_revA {ops : Value → Value → List Value} {s : List Sl → Res EV} (hk : X.K = p.K) (he : SE p X e s) (ht : ∀ o i : Value, subscripted (.Slice none none (some (.UnaryOp .USub (.Constant (.int 1) kk p1) p2)) p3) false o i = operate (ops o i) (getItem o i)) :
    SE p X (.Subscript e (.Slice none none (some (.UnaryOp .USub (.Constant (.int 1) kk p1) p2)) p3) pos) (eRevA s) := pe_imp (pe_or (pe_revL he) (pe_revT he (po_some (pe_imp (pe_un un_neg pe_int) fun σ H Q h => ⟨1, rfl, h⟩)) ht)) fun σ H Q ⟨m, L, st, h⟩ => by
  unfold eRevA at h
  cases es : s m with
  | stuck => rw [es] at h; exact h.elim
  | exc c m1 => rw [es] at h; exact .inl ⟨m, L, st, by rw [es]; exact h⟩
  | ok v m1 =>
    rw [es, Res.bind_ok] at h
    split at h
    next xs e1 =>
      left
      refine ⟨m, L, st, ?_⟩
      rw [es]
      intro x H1 L1 t ev
      have h1 := RQ.go t h
      have r := ev.rd
      rw [e1] at r
      obtain ⟨a, vs, rfl, tf, rr⟩ := r.lst
      rw [hk]
      exact ⟨a, vs, rfl, tf, Kq.lst t.st.wf rr.reverse fun Z H' L' s wf r => RQ.new t.st h1 s wf r⟩
    next xs e1 =>
      right
      refine ⟨m, L, st, ?_⟩
      rw [es]
      intro x H1 L1 t ev
      have h1 := RQ.go t h
      have r := ev.rd
      rw [e1] at r
      obtain ⟨a, vs, rfl, tf, n, rr⟩ := r.tup
      exact ⟨a, vs, rfl, tf.sq, Kq.tup t.st.wf rr.reverse fun Z H' L' s wf r => RQ.new t.st h1 s wf r⟩
    next => exact h.elim
end
end Sd
end
section
set_option Elab.async false
set_option linter.all false
set_option maxRecDepth 100000
set_option maxHeartbeats 4000000
namespace Sd
open PySem PySem.Spec PyProof.Rows L2
/-! ### comprehensions over the keys of a dict that is a value -/
@[simp] def sKeys (sv : List Sl → Option (List (Key × PV))) (m : List Sl) : Res (List PV) := match sv m with
  | some kvs => .ok (kvs.map fun kv => pvK kv.1) m
  | none => .stuck
/-- where a dict stands, told by the frame and the heap alone -/
structure DSrc (p : Pm) (X : Cx) (e : Expr) (sv : List Sl → Option (List (Key × PV))) (td : TE) (adr : L2.St → Hp → Addr → Prop) : Prop where
  pe : PE X e td
  one : ∀ σ H d d', adr σ H d → adr σ H d' → d = d'
  lk : ∀ σ H H' d c, adr σ H d → LkEq c H H' → adr σ H' d
  go : ∀ σ H d Q, adr σ H d → Q (.ref d) H → td σ H Q
  src : ∀ m L σ H kvs, StR p.K p.B m σ H L → sv m = some kvs → ∃ d, adr σ H d ∧ VR p.K H L (.dct kvs) (.ref d)
section
variable {p : Pm} {X : Cx} {m m1 : List Sl} {σ : L2.St} {H H1 : Hp} {L L1 : Lv}
theorem Tr.unlockE {K : PySem.W.Frag} {B : Nat → Option Addr} {d : Addr} {od : Obj} {kws : List (Key × V)} {H' : Hp} {L' : Lv} (e : H d = some (.dK kws)) (n : ¬ L d) (t : Tr K B m σ (upd H d (.frz od (.dK kws))) L m1 σ H' L') :
    H' d = some (.frz od (.dK kws)) ∧ ¬ L' d ∧ Tr K B m σ H L m1 σ (upd H' d (.dK kws)) L' := by
  obtain ⟨h1, h2⟩ := t.stp.stay d _ upd_same n
  refine ⟨h1, h2, ⟨fun a h => ?_, fun a o ea na => ?_, fun a o ea la na => ?_⟩, t.st.lk (lk_back h1) h2, t.sub⟩
  · by_cases q : a = d
    · subst q; rw [upd_same]; simp
    · rw [upd_ne q]; exact t.stp.old a (by rw [upd_ne q]; exact h)
  · by_cases q : a = d
    · subst q; rw [e] at ea; cases ea; exact ⟨upd_same, h2⟩
    · rw [upd_ne q]; exact t.stp.stay a o (by rw [upd_ne q]; exact ea) na
  · have q : a ≠ d := fun z => n (z ▸ la)
    rw [upd_ne q]; exact t.stp.live a o (by rw [upd_ne q]; exact ea) la na
theorem RQ.lockE {d : Addr} {od : Obj} {kws : List (Key × V)} {acc : EV} {m1 : List Sl} {Q : VK} (e : H d = some (.dK kws)) (n : ¬ L d) (h : RQ p m σ H L (.ok acc m1) Q) :
    RQ p m σ (upd H d (.frz od (.dK kws))) L (.ok acc m1) (fun v H' => H' d = some (.frz od (.dK kws)) ∧ Q v (upd H' d (.dK kws))) := fun x H' L' t ev => by
  obtain ⟨h1, h2, t'⟩ := t.unlockE e n
  exact ⟨h1, h x _ L' t' (ev.unlock e h1 h2)⟩
theorem eLc_shape {vs : List Nat} {src : List Sl → Res (List PV)} {tgt : PV → List Sl → Option (List Sl)} {c : List Sl → Res Bool} {e : List Sl → Res EV} {xs : List PV} (hs : src m = .ok xs m) : (∃ acc m2, eLc vs src tgt c e m = .ok acc m2) ∨ eLc vs src tgt c e m = .stuck := by
  unfold eLc
  rw [hs, Res.bind_ok]
  split
  · split
    · exact .inl ⟨_, _, rfl⟩
    · exact .inr rfl
  · exact .inr rfl
theorem lcK_sound {vs ids : List Nat} {g : TG} {tt : TT} {sv : List Sl → Option (List (Key × PV))} {td : TE} {adr : L2.St → Hp → Addr → Prop} {iter : Expr} {tgt : PV → List Sl → Option (List Sl)} {c : List Sl → Res Bool} {e : List Sl → Res EV} (D : DSrc p X iter sv td adr) (kg : TgG p.no g ids tgt) (hids : ∀ i ∈ ids, i ∈ vs)
    (kt : ∀ σ H Q, tT p.no c σ H Q → tt σ H Q) : ∀ σ H Q, tE p (eLc vs (sKeys sv) tgt c e) σ H Q → tLockE (tLc (iKeys td) g tt (tE p.no e) vs) σ H Q ∨ tLc (iKeys td) g tt (tE p.no e) vs σ H Q := fun σ H Q ⟨m, L, st, h⟩ => by
  -- the walk where the dict is locked
  have walk : ∀ {σ : L2.St} {H : Hp} {Q : VK} {d : Addr} {od : Obj} {kws : List (Key × V)}, tE p (eLc vs (sKeys sv) tgt c e) σ H Q → adr σ H d → H d = some (.frz od (.dK kws)) → tLc (iKeys td) g tt (tE p.no e) vs σ H Q := fun {σ H Q d od kws} ht ha hd => by
    obtain ⟨m', L', st', ri⟩ := lc_sound (src := sKeys sv) kg hids kt σ H Q ht
    unfold sKeys at ri
    cases es : sv m' with
    | none => rw [es] at ri; exact ri.elim
    | some kvs' =>
      rw [es] at ri
      obtain ⟨d', ha', vr⟩ := D.src m' L' σ H kvs' st' es
      have := D.one σ H d' d ha' ha
      subst this
      cases vr with
      | @dct _ kws' _ hr n rk =>
        have : kws' = kws := by
          rcases hr with hr | ⟨o, hr⟩
          · rw [hd] at hr; cases hr
          · rw [hd] at hr; cases hr; rfl
        subst this
        refine D.go σ H d' _ ha ⟨d', od, rfl, .inl ⟨kws', hd, ?_⟩⟩
        exact ri _ H L' (.refl st') (jr_keys hd n rk)
  cases es : sv m with
  | none =>
    have : eLc vs (sKeys sv) tgt c e m = .stuck := by unfold eLc sKeys; rw [es]; rfl
    rw [this] at h
    exact h.elim
  | some kvs =>
    obtain ⟨d, ha, vr⟩ := D.src m L σ H kvs st es
    cases vr with
    | @dct _ kws _ hr n rk =>
      rcases hr with hr | ⟨od, hr⟩
      · left
        refine ⟨d, _, hr, trivial, fun od => ?_⟩
        have lk := lk_upd (od := od) hr
        refine walk ⟨m, L, st.lk lk n, ?_⟩ (D.lk σ H _ d d ha lk) upd_same
        have hs : sKeys sv m = .ok (kvs.map fun kv => pvK kv.1) m := by unfold sKeys; rw [es]
        rcases eLc_shape (vs := vs) (tgt := tgt) (c := c) (e := e) hs with ⟨acc, m2, ee⟩ | ee
        · rw [ee] at h ⊢
          exact RQ.lockE hr n h
        · rw [ee] at h
          exact h.elim
      · exact .inr (walk ⟨m, L, st, h⟩ ha hr)
section
variable {elt tg iter : Expr} {scope : Scope} {own : List (Str × Nat)} {pos : Pos} {g : TG} {ids : List Nat} {sv : List Sl → Option (List (Key × PV))} {td : TE} {adr : L2.St → Hp → Addr → Prop} {tgt : PV → List Sl → Option (List Sl)} {c : List Sl → Res Bool} {e : List Sl → Res EV}
theorem se_lcK (hc : X.calm = true) (hN : X.N.Nodup) (hi : DSrc p X iter sv td adr) (ok : BlkOk X.N X.env.scope scope own) (kg : TgG p.no g ids tgt) (hids : ∀ i ∈ ids, i ∈ own.map (·.2))
    (hg : ∀ (s : Shared) (H : Hp) (C : Addr) (cl : List (Str × Addr)) (fp : List Addr), PG (X.blk s H scope (compEnvC scope cl C X.env) fp) tg g)
    (he : ∀ (s : Shared) (H : Hp) (C : Addr) (cl : List (Str × Addr)) (fp : List Addr), SE p.no (X.blk s H scope (compEnvC scope cl C X.env) fp) elt e) (hs : ∀ x, foldedSetIterable iter X.env x = pure x) :
    SE p X (.ListComp elt [⟨tg, iter, [], 0⟩] scope pos) (eLc (own.map (·.2)) (sKeys sv) tgt sYes e) :=
  have base := pe_lc (pos := pos) hc hN (pi_keys hi.pe) ok hg (fun _ _ _ _ _ => pts_nil) he hs
  pe_imp (pe_or (pe_lock base) base) (lcK_sound hi kg hids fun σ H Q ⟨m, L, st, h⟩ => h H L (.refl st))
theorem se_lcKIf {cond : Expr} (hc : X.calm = true) (hN : X.N.Nodup) (hi : DSrc p X iter sv td adr) (ok : BlkOk X.N X.env.scope scope own) (kg : TgG p.no g ids tgt) (hids : ∀ i ∈ ids, i ∈ own.map (·.2))
    (hg : ∀ (s : Shared) (H : Hp) (C : Addr) (cl : List (Str × Addr)) (fp : List Addr), PG (X.blk s H scope (compEnvC scope cl C X.env) fp) tg g)
    (ht : ∀ (s : Shared) (H : Hp) (C : Addr) (cl : List (Str × Addr)) (fp : List Addr), ST p.no (X.blk s H scope (compEnvC scope cl C X.env) fp) cond c)
    (he : ∀ (s : Shared) (H : Hp) (C : Addr) (cl : List (Str × Addr)) (fp : List Addr), SE p.no (X.blk s H scope (compEnvC scope cl C X.env) fp) elt e) (hs : ∀ x, foldedSetIterable iter X.env x = pure x) :
    SE p X (.ListComp elt [⟨tg, iter, [cond], 0⟩] scope pos) (eLc (own.map (·.2)) (sKeys sv) tgt c e) :=
  have base := pe_lc (pos := pos) hc hN (pi_keys hi.pe) ok hg (fun s H C cl fp => pts_one (ht s H C cl fp)) he hs
  pe_imp (pe_or (pe_lock base) base) (lcK_sound hi kg hids fun σ H Q h => h)
end
/-- a slot that holds such a dict -/
@[simp] def svSlot (k : Nat) (m : List Sl) : Option (List (Key × PV)) := match m[k]? with
  | some (.pv (.dct kvs)) => some kvs
  | _ => none
theorem dsrc_slot {k : Nat} {e : Expr} (he : PE X e (tVar k)) : DSrc p X e (svSlot k) (tVar k) (fun σ H d => σ[k]? = some (some (.ref d))) where
  pe := he
  one := fun σ H d d' h h' => by rw [h] at h'; cases h'; rfl
  lk := fun σ H H' d c h _ => h
  go := fun σ H d Q h q => ⟨_, h, q⟩
  src := fun m L σ H kvs st e => by
    unfold svSlot at e
    split at e
    next kvs' em =>
      cases e
      obtain ⟨x, ex, y, rfl, r⟩ := st.at em
      cases r with
      | @dct a kws _ h1 n rk => exact ⟨a, ex, .dct h1 n rk⟩
    next => cases e
/-- an entry, which is such a dict, of a dict in a slot -/
@[simp] def svItem (k j : Nat) (m : List Sl) : Option (List (Key × PV)) := match slotv m k, m[j]? with
  | some (.dct kvs), some (.pv (.int i)) => match valP kvs (.inl i) with
    | some (.dct ks) => some ks
    | _ => none
  | _, _ => none
theorem vrk_valI {K : PySem.W.Frag} : ∀ {kvs : List (Key × PV)} {kws : List (Key × V)} {k : Key} {v : PV}, VRk K H L kvs kws → valP kvs k = some v → ∃ x, valV kws k = some x ∧ VR K H L v x
  | _, _, k, v, .nil, e => by cases e
  | _, _, k, v, .cons (k := k0) (v := v0) (x := x0) h t, e => by
    by_cases c : k0 = k
    · have e' : some v0 = some v := by
        have : valP ((k0, v0) :: _) k = some v := e
        unfold valP at this
        rwa [if_pos c] at this
      cases e'
      exact ⟨x0, by simp [valV, c], h⟩
    · have e' := e
      unfold valP at e'
      rw [if_neg c] at e'
      obtain ⟨x, hx, r⟩ := vrk_valI t e'
      exact ⟨x, by unfold valV at hx ⊢; rw [List.find?_cons_of_neg (by simpa using c)]; exact hx, r⟩
theorem dsrc_item {k j : Nat} {e : Expr} (he : PE X e (tDGet (tVar k) (tVar j))) : DSrc p X e (svItem k j) (tDGet (tVar k) (tVar j)) (fun σ H d => ∃ a i kws, σ[k]? = some (some (.ref a)) ∧ σ[j]? = some (some (.int i)) ∧ Rd H a (.dK kws) ∧ valV kws (.inl i) = some (.ref d)) where
  pe := he
  one := fun σ H d d' ⟨a, i, kws, h1, h2, h3, h4⟩ ⟨a', i', kws', g1, g2, g3, g4⟩ => by
    rw [h1] at g1; cases g1
    rw [h2] at g2; cases g2
    have : kws' = kws := by
      rcases h3 with h3 | ⟨o, h3⟩ <;> rcases g3 with g3 | ⟨o', g3⟩ <;> (rw [h3] at g3; cases g3; try rfl)
    subst this
    rw [h4] at g4; cases g4; rfl
  lk := fun σ H H' d c ⟨a, i, kws, h1, h2, h3, h4⟩ lk => ⟨a, i, kws, h1, h2, lk.rdK h3, h4⟩
  go := fun σ H d Q ⟨a, i, kws, h1, h2, h3, h4⟩ q => ⟨_, h1, _, h2, a, _, rfl, .inl ⟨kws, .inl i, h3, rfl, h4.symm⟩, q⟩
  src := fun m L σ H kvs st e => by
    unfold svItem at e
    split at e
    next kvs0 i e1 e2 =>
      split at e
      next ks ev =>
        cases e
        obtain ⟨x, ex, rx⟩ := st.slot e1
        obtain ⟨a, kws, rfl, hr, rk⟩ := rx.dct
        obtain ⟨y, ey, z, rfl, rz⟩ := st.at e2
        cases rz
        obtain ⟨u, hu, ru⟩ := vrk_valI rk ev
        cases ru with
        | @dct d kws' _ h1 n rk' => exact ⟨d, ⟨a, i, kws, ex, ey, hr, hu⟩, .dct h1 n rk'⟩
      next => cases e
    next => cases e
end
end Sd
end
section
set_option Elab.async false
set_option linter.all false
set_option maxRecDepth 100000
set_option maxHeartbeats 4000000
namespace Sd
open PySem PySem.Spec PyProof.Rows L2
/-! ### enumerate(list, start=1) -/
section
variable {M : Model} {A : Around} {E : Value → Shared → Prop} {s : Shared} {env : Env}
theorem tyKw {pos : Pos} {T : String} {fs : List Value} {as : List (Bool × Sem Value)} {ks : List (Option Str × Sem Value)} {Q : Value → Shared → Prop} (p1 : as.any (·.1) = false) (p2 : ks.any (·.1.isNone) = false)
    (h : wpAny M A (evalArgs (.type T) true as ks) (fun z s1 => wpAny M A (call (.type T) (fs ++ z.pos) z.kw) Q E s1) E s) : wpAny M A (callWith pos (.type T) fs as ks) Q E s := by
  unfold callWith
  apply wpAny_bind
  apply wpAny_holding
  refine wpAny_mono h (fun z s1 h1 => wpAny_bind (wpAny_standAt ?_)) fun _ _ y => y
  simp only [p1, p2, Bool.or_false]
  apply wpAny_bind
  apply wpAny_pure
  refine wpAny_bind (wpAny_mono h1 (fun r s2 hr => ?_) fun _ _ y => y)
  exact wpAny_bind (wpAny_holding (wpAny_point (wpAny_pure hr)))
theorem tyKw1 {pos : Pos} {T : String} {e : Expr} {kws : List Keyword} {Q : Value → Shared → Prop}
    (h : wpAny M A (spliced (backTo pos (starEach [e] env))) (fun vs s1 => wpAny M A (evalAll ((backToKw pos (keywordEach kws env)).map (·.2))) (fun ws s2 => wpAny M A (call (.type T) vs (((backToKw pos (keywordEach kws env)).filterMap (·.1)).zip ws)) Q E s2) E s1) E s)
    (q1 : backTo pos (starEach [e] env) = (false, eval e env) :: backTo pos (starEach [] env)) (q2 : (backTo pos (starEach [e] env)).any (·.1) = false)
    (q3 : (backToKw pos (keywordEach kws env)).all (·.1.isSome) = true) (q4 : (backToKw pos (keywordEach kws env)).any (·.1.isNone) = false) :
    wpAny M A (callWith pos (.type T) [] (backTo pos (starEach [e] env)) (backToKw pos (keywordEach kws env))) Q E s := by
  apply tyKw q2 q4
  rw [q1] at h ⊢
  exact evalArgs_kwB q3 h
end
/-- the list at a, each item in a new pair behind its number from 1 on -/
def IteS (K : PySem.W.Frag) (a : Addr) : It where
  go i H := ∃ (xs : List V) (x : V), SqL K H a xs ∧ xs[i]? = some x
  yld i H v H' := ∃ T x, v = .ref T ∧ H T = none ∧ H' = upd H T (.tup [.int (1 + (i : Nat)), x]) ∧ ∀ xs, SqL K H a xs → xs[i]? = some x
  stop i H := ∃ xs : List V, SqL K H a xs ∧ xs.length ≤ i
def EnS (e it a : Addr) (i : Nat) (h : Heap) : Prop := (∃ old, IsEnum h e it (1 + ((i : Nat) : Int)) old) ∧ h.IsListIter it a i ∧ e ≠ it ∧ a ≠ it ∧ a ≠ e
theorem turn_enumS {P : Program} {w : World} {K : PySem.W.Frag} {elts : List Expr} {kk : Nat} {tpos : Pos} (a e it : Addr) : Turn P w K (.Tuple elts kk tpos) (IteS K a) [e, it] e (EnS e it a) where
  mem := List.mem_cons_self
  obj i h st b hb := by
    obtain ⟨⟨old, he⟩, ⟨o, ho, hc, hd⟩, _⟩ := st
    rcases List.mem_cons.mp hb with z | z
    · rw [z]
      exact ⟨_, he, fun v q => nomatch q⟩
    · rw [List.mem_singleton.mp z]
      exact ⟨o, ho, fun v q => by rw [hd] at q; cases q⟩
  keep i h h' st k := by
    obtain ⟨⟨old, he⟩, hi, r⟩ := st
    exact ⟨⟨old, k e List.mem_cons_self _ he⟩, hi.at fun o q => k it (by simp) o q, r⟩
  item := by
    intro X hP hw hK hc i pins s σ H E I hf st hg
    subst hP hw hK
    obtain ⟨⟨old, he⟩, hit, n1, n2, n3⟩ := st
    obtain ⟨xs, x, hq, hx⟩ := hg
    obtain ⟨its, rv, pl, hz⟩ := I.list hq
    have hI : s.heap.IsList a its.toArray := pl.isList
    obtain ⟨u, hu, ru⟩ := rv.get hx
    have hel : e < s.heap.objs.size := Heap.lt_size he
    have hil : it < s.heap.objs.size := by obtain ⟨_, q, _⟩ := hit; exact Heap.lt_size q
    have hlt : i < its.toArray.size := by
      have := (List.getElem?_eq_some_iff.mp hu).1
      simpa using this
    refine wpAny_pyNext_enum_itemC (Draws.list (by simp [I.ok.hd hc]) it a n2 its.toArray) he ⟨hit, hI⟩ hlt n1 (fun z => ?_) fun y h' tk hy ho st' hT hsz hk => ?_
    · rcases List.mem_cons.mp z with z | z
      · exact n1 z
      · exact n3 (List.mem_singleton.mp z).symm
    have ey : y = u := by
      have e1 : its[i]? = some y := by simpa using hy
      rw [hu] at e1
      exact (Option.some.inj e1).symm
    subst ey
    refine ⟨_, rfl, wpAny_letOwnedTupleGo_enum (s := { s with heap := h', toks := tk + 1 }) ho fun h'' he' sb => ?_⟩
    have hT2 : h''.get? s.heap.objs.size = some { cls := .type "tuple", data := .seq #[.int (1 + (i : Nat)) tk, y] } := (sb.2 _ (Nat.ne_of_gt hel)).trans hT
    have new : ObjOk X.prog X.w (upd H s.heap.objs.size (.tup [.int (1 + (i : Nat)), x])) h'' s.heap.objs.size (.tup [.int (1 + (i : Nat)), x]) :=
      ⟨by show 2 ≤ sizeLine; decide, [.int (1 + (i : Nat)) tk, y], .cons ⟨_, rfl⟩ (.cons ru .nil), ⟨_, hT2, rfl, _, rfl⟩⟩
    have J : Inv X pins σ (upd H s.heap.objs.size (.tup [.int (1 + (i : Nat)), x])) { s with heap := h'', toks := tk + 1 } :=
      I.turnedNew (ch := [e, it]) (fun b ob hb q => (sb.2 b (fun z => hb (by simp [z]))).trans (hk b ob (fun z => hb (by simp [z])) (fun z => hb (by simp [z])) q)) hf (Nat.le_refl _) new
    refine ⟨.ref s.heap.objs.size, _, J, rfl, ⟨_, x, rfl, I.hok.fresh (Nat.le_refl _), rfl, fun ys hy => by rw [I.list_inj hy hq]; exact hx⟩,
      ⟨⟨y, by rw [show (1 : Int) + ((i + 1 : Nat) : Int) = 1 + (i : Int) + 1 by omega]; exact he'⟩, st'.1.at fun o q => (sb.2 it (Ne.symm n1)).trans q, n1, n2, n3⟩, fun b hb => ?_⟩
    have hlt2 : b < s.heap.objs.size := by
      rcases List.mem_cons.mp hb with z | z
      · rw [z]; exact hel
      · rw [List.mem_singleton.mp z]; exact hil
    rw [upd_ne (Nat.ne_of_lt hlt2)]
    exact (hf b hb).1
  done := by
    intro X hP hw hK hc i pins s σ H E I hf st hg
    subst hP hw hK
    obtain ⟨⟨old, he⟩, hit, n1, n2, n3⟩ := st
    obtain ⟨xs, hq, hx⟩ := hg
    obtain ⟨its, rv, pl, hz⟩ := I.list hq
    have hI : s.heap.IsList a its.toArray := pl.isList
    obtain ⟨f0, f1, f2, f3, f4, f5⟩ := hf it (by simp)
    have hl := rv.length
    have hT : s.TypeIs (.ref e) "enumerate" := ⟨_, he, rfl⟩
    unfold pyNext
    refine wpAny_bind (wpAny_attempt (wpAny_callSpecial?_slot (name := Str.ofString "__next__") hT F.slot_enumerate_next
      (wpAny_call_entry F.slot_enumerate_next hT F.entry_enumerate_next ?_ (F.args_enumerate_next_1 _))))
    show wpAny _ _ (field (.ref e) 2 >>= _) _ _ _
    refine wpAny_bind (wpAny_field he rfl (x := .ref it) rfl ?_)
    refine wpAny_bind (wpAny_nextOf_list_end (by simp [I.ok.hd hc]) hit hI (by simp; omega) fun h' x eb hx' => ?_)
    obtain ⟨o, ho, hcl⟩ := hx'
    refine wpAny_bind (wpAny_isInstance (T := "StopIteration") (b := true) ⟨o, ho, hcl⟩ isSubtype_stop ?_)
    exact wpAny_pure ⟨rfl, I.turned (t' := s.toks) (fun b o hb q => eb b o hb q) f0 f1 f3 f4 f5⟩
  self A i s Q E st h := let ⟨⟨_, he⟩, _⟩ := st; wpAny_pyIter_enum he h
def iEnumS (K : PySem.W.Frag) (ta : TA) (tk : TA) : TI := fun σ H R => ta σ H fun vs H1 => tk σ H1 fun zs H2 => ∃ a xs, vs = [.ref a] ∧ zs = [.int 1] ∧ SqL K H2 a xs ∧ R (IteS K a) H2
theorem pi_enumS {X : Cx} {e : Expr} {kws : List Keyword} {ta tk : TA} {p pos tpos : Pos} {elts : List Expr} {kk : Nat} (hg : Gl X "enumerate") (hm : X.mg "enumerate" = none) (ha : PA X [e] ta) (hk : PK X kws tk)
    (q1 : backTo pos (starEach [e] X.env) = (false, eval e X.env) :: backTo pos (starEach [] X.env)) (q2 : (backTo pos (starEach [e] X.env)).any (·.1) = false)
    (q3 : (backToKw pos (keywordEach kws X.env)).all (·.1.isSome) = true) (q4 : (backToKw pos (keywordEach kws X.env)).any (·.1.isNone) = false) (q5 : (backToKw pos (keywordEach kws X.env)).filterMap (·.1) = [Str.ofString "start"]) :
    PI X (.Tuple elts kk tpos) (.Call (.Name "enumerate" p) [e] kws pos) (iEnumS X.K ta tk) := by
  constructor
  intro pins s σ H R I h
  refine wpAny_Call_Name_kw (ld_blt I hg hm boot_enumerate ?_)
  refine tyKw1 (thn (ha.run pos pins s σ H _ I h) fun us s0 ⟨vs, H0, I0, r0, w0⟩ => thn (hk.run pos pins s0 σ H0 _ I0 w0) fun ws s1 ⟨zs, H1, I1, r1, q⟩ => ?_) q1 q2 q3 q4
  rw [q5]
  obtain ⟨a, xs, rfl, rfl, hq, w⟩ := q
  obtain ⟨u, rfl, ru⟩ := vals1 r0
  obtain ⟨n, rfl, tn, rfl⟩ := vals1 r1
  cases ru
  have fresh : ∀ b ∈ [s1.heap.objs.size + 1, s1.heap.objs.size], FpOk X pins H1 b := fun b hb => by
    have hle : s1.heap.objs.size ≤ b := by
      rcases List.mem_cons.mp hb with z | z
      · rw [z]; exact Nat.le_succ _
      · rw [List.mem_singleton.mp z]; exact Nat.le_refl _
    exact I1.fpOk hle (I1.hok.fresh hle)
  obtain ⟨its, rv, pl, hz⟩ := I1.list hq
  have hI : s1.heap.IsList a its.toArray := pl.isList
  have hal : a < s1.heap.objs.size := by
    obtain ⟨o, ho, _⟩ := hI
    exact Heap.lt_size ho
  refine enum_begins_start (begins_list a its.toArray) hI (by decide) (by decide) fun h' he hit hsz hk => wpAny_pyIter_enum he ?_
  exact ⟨s1.heap.objs.size + 1, [s1.heap.objs.size + 1, s1.heap.objs.size], _, _, H1, rfl, I1.kept (t' := s1.toks) hk, turn_enumS a (s1.heap.objs.size + 1) s1.heap.objs.size, ⟨⟨.none, he⟩, ⟨_, hit, rfl, rfl⟩, Nat.succ_ne_self _, Nat.ne_of_lt hal, Nat.ne_of_lt (Nat.lt_succ_of_lt hal)⟩, fresh, w⟩
def enumPS (xs : List PV) : List PV := (xs.zipIdx 1).map fun z => .tpl [.int (z.2 : Nat), z.1]
@[simp] def sEnumS (s : List Sl → Res EV) (m : List Sl) : Res (List PV) := (s m).bind fun v m1 => match v.v with
  | .lst xs => .ok (enumPS xs) m1
  | _ => .stuck
theorem enumPS_get {xs : List PV} {i : Nat} {v : PV} (h : (enumPS xs)[i]? = some v) : ∃ x, xs[i]? = some x ∧ v = .tpl [.int (1 + (i : Nat)), x] := by
  unfold enumPS at h
  rw [List.getElem?_map, List.getElem?_zipIdx] at h
  cases e : xs[i]? with
  | none => rw [e] at h; cases h
  | some x =>
    rw [e] at h
    refine ⟨x, rfl, ?_⟩
    have : v = .tpl [.int ((1 + i : Nat) : Int), x] := by simpa using h.symm
    rw [this]
    congr 3
theorem enumPS_len (xs : List PV) : (enumPS xs).length = xs.length := by simp [enumPS]
section
variable {p : Pm} {X : Cx} {m m1 : List Sl} {σ σ1 : L2.St} {H H1 : Hp} {L L1 : Lv}
theorem si_enumS {e : Expr} {s : List Sl → Res EV} {kws : List Keyword} {elts : List Expr} {kk : Nat} {px pos tpos : Pos} (hk : X.K = p.K) (hg : Gl X "enumerate") (hm : X.mg "enumerate" = none) (ha : SE p X e s) (hkw : PK X kws (tCons (tC (.int 1)) tNil)) (hs : starEach [e] X.env = (false, eval e X.env) :: starEach [] X.env)
    (q1 : backTo pos (starEach [e] X.env) = (false, eval e X.env) :: backTo pos (starEach [] X.env)) (q2 : (backTo pos (starEach [e] X.env)).any (·.1) = false)
    (q3 : (backToKw pos (keywordEach kws X.env)).all (·.1.isSome) = true) (q4 : (backToKw pos (keywordEach kws X.env)).any (·.1.isNone) = false) (q5 : (backToKw pos (keywordEach kws X.env)).filterMap (·.1) = [Str.ofString "start"]) :
    SI p X (.Tuple elts kk tpos) (.Call (.Name "enumerate" px) [e] kws pos) (sEnumS s) :=
  pi_imp (pi_enumS hg hm (pa_cons ha pa_nil hs) hkw q1 q2 q3 q4 q5) fun σ H R ⟨m, L, st, h⟩ => by
    refine tE_thenI st h fun v m1 x H1 L1 t ev h1 => ?_
    obtain ⟨L', t', r⟩ := ev.froze st t
    rw [hk]
    split at h1
    next xs ev' =>
      rw [ev'] at r
      cases r with
      | lst e rs =>
        refine ⟨_, _, rfl, rfl, e.seq, h1 _ H1 L' t' fun H2 L2 s wf => ⟨fun i v hv => ?_, fun i hi => ?_⟩⟩
        · obtain ⟨y, hy, rfl⟩ := enumPS_get hv
          obtain ⟨x, hx, rx⟩ := (rs.mono s).get hy
          refine ⟨⟨_, x, (e.mono s).seq, hx⟩, fun z H' ⟨T, u, e1, hT, eH, e2⟩ => ?_⟩
          have := e2 _ (e.mono s).seq
          rw [hx] at this
          cases this
          subst e1 eH
          have sT := stp_newT (L := L2) (o := .tup [.int (1 + (i : Nat)), x]) hT
          exact ⟨sT, vr_tup wf hT (.cons (.int _) (.cons rx .nil))⟩
        · rw [enumPS_len] at hi
          exact ⟨_, (e.mono s).seq, by rw [← rs.length]; exact hi⟩
    next => exact h1.elim
end
end Sd
end
section
set_option Elab.async false
set_option linter.all false
set_option maxRecDepth 100000
namespace Sd
open PySem L2
/-! ### x in what a slot holds, without freezing it -/
section
variable {p : Pm} {X : Cx} {a b : Expr} {pos : Pos} {k : Nat} {sa : List Sl → Res EV}
theorem tE_opL {r : R2} {g : PV → PV → Option EV} (hr : Op2 p.K r g) : ∀ σ H Q, tE p (eInP g sa k) σ H Q → tOp r (tE p sa) (tVar k) σ H Q := fun σ H Q ⟨m, L, st, h⟩ => by
  refine tE_then st h fun u m2 y H2 L2 t2 ev2 h2 => ?_
  split at h2
  next v e1 =>
    obtain ⟨x, ex, rx⟩ := t2.st.slot e1
    refine ⟨x, ex, ?_⟩
    cases e : g u.v v with
    | none => rw [e] at h2; exact h2.elim
    | some z => rw [e] at h2; exact hr H2 L2 u.v v z y x Q t2.st.wf ev2.rd rx e fun Z H' L' s wf r => RQ.new t2.st h2 s wf r
  next => exact h2.elim
theorem se_cmpL {op : CmpOp} {r : R2} {g : PV → PV → Option EV} (ho : OpR X (compareOp op) r) (hr : Op2 p.K r g) (hm : behindInMarks op b = false) (ha : SE p X a sa) (hb : PE X b (tVar k)) : SE p X (.Compare a [op] [b] pos) (eInP g sa k) :=
  pe_imp (pe_cmpR ho ha hb hm) (tE_opL hr)
theorem st_cmpL {op : CmpOp} {r : R2} {g : PV → PV → Option EV} (ho : OpR X (compareOp op) r) (hr : Op2 p.K r g) (hm : behindInMarks op b = false) (ha : SE p X a sa) (hb : PE X b (tVar k)) : ST p X (.Compare a [op] [b] pos) (sBool (eInP g sa k)) :=
  st_bool (te := tOp r (tE p sa) (tVar k)) (pt_cmpR ho ha hb hm) (tE_opL hr)
end
end Sd
end
section
set_option Elab.async false
set_option linter.all false
set_option maxRecDepth 100000
set_option maxHeartbeats 4000000
namespace Sd
open PySem PySem.Spec PyProof.Rows L2
/-! ### a body that hands back a list of its own, which stays changeable -/
def notOwn : Sl → Bool
  | .own _ => false
  | .lck _ _ => false
  | _ => true
@[simp] theorem notOwn_un : notOwn .un = true := rfl
@[simp] theorem notOwn_pv (v : PV) : notOwn (.pv v) = true := rfl
@[simp] theorem notOwn_bor (o : Ob) : notOwn (.bor o) = true := rfl
def handK (k : Nat) (r : SRes) : SRes := match r with
  | .nx m' => match m'[k]? with
    | some (.own o) => .ret (.nw o) (m'.set k .un)
    | _ => .stuck
  | .ret v m' => .ret v m'
  | .exc c m' => .exc c m'
  | _ => .stuck
@[simp] theorem handK_ret (k : Nat) (v : EV) (m : List Sl) : handK k (.ret v m) = .ret v m := rfl
def dTailO (k : Nat) (d : List Sl → SRes) (m : List Sl) : SRes := if m.all notOwn = true then handK k (d m) else .stuck
theorem dTailO_eq {k : Nat} {d : List Sl → SRes} {m m' : List Sl} {o : Ob} (h : m.all notOwn = true) (e : d m = .nx m') (hk : m'[k]? = some (.own o)) : dTailO k d m = .ret (.nw o) (m'.set k .un) := by
  unfold dTailO handK
  rw [if_pos h, e]
  dsimp only
  rw [hk]
theorem execs_tail {M : Model} {A : Around} {E : Value → Shared → Prop} {env : Env} {Q : Flow → Shared → Prop} : ∀ (b c : List Stmt) (s : Shared),
    wpAny M A (execs b env) (fun f s' => match f with
      | .next => wpAny M A (execs c env) Q E s'
      | f => Q f s') E s → wpAny M A (execs (b ++ c) env) Q E s := by
  intro b c
  have e : execs (b ++ c) env = (execs b env).bind fun f => match f with
      | .next => execs c env
      | f => pure f := by
    induction b with
    | nil => rfl
    | cons st b ih =>
      show (exec st env).bind _ = ((exec st env).bind _).bind _
      rw [Sem.bind_assoc]
      congr 1
      funext f
      cases f with
      | next => exact ih
      | _ => rfl
  intro s h
  rw [e]
  refine wpAny_bind (wpAny_mono h (fun f s' q => ?_) fun _ _ y => y)
  cases f with
  | next => exact q
  | _ => exact wpAny_pure q
section
variable {p : Pm} {X : Cx}
/-- nothing owned at the start: what a slot owns at the end is new -/
theorem Tw.fresh {K : PySem.W.Frag} {B : Nat → Option Addr} {m m' : List Sl} {σ σ' : L2.St} {H H' : Hp} {L L' : Lv} {k : Nat} {o : Ob} (st : StR K B m σ H L) (h : m.all notOwn = true) (t : Tw K B m σ H L m' σ' H' L') (e : m'[k]? = some (.own o)) :
    ∃ a, σ'[k]? = some (some (.ref a)) ∧ H a = none ∧ L' a ∧ ObR K H' L' o a := by
  obtain ⟨x, ex, a, rfl, l, hb, r⟩ := t.st.at e
  refine ⟨a, ex, ?_, l, r⟩
  rcases t.sub a ⟨k, by rw [e]; trivial, ex⟩ with z | z
  · exfalso
    obtain ⟨i, c, ei⟩ := z
    cases q : m[i]? with
    | none => rw [q] at c; exact c.elim
    | some s =>
      have no : notOwn s = true := (List.all_eq_true.mp h) s (List.mem_of_getElem? q)
      cases s with
      | un => rw [q] at c; exact c.elim
      | pv v => rw [q] at c; exact c.elim
      | own o => cases no
      | lck kvs b => cases no
      | bor o2 =>
        obtain ⟨b, eb, _, hB, _⟩ := st.ok i _ _ q ei
        cases eb
        obtain ⟨o3, e3, e4⟩ := t.st.lent i a hB
        have ik : i ≠ k := fun z => by subst z; rw [e] at e3; cases e3
        exact t.st.ne i k a ik (by rw [e3]; trivial) (by rw [e]; trivial) e4 ex
  · exact z
theorem Tw.drop {K : PySem.W.Frag} {B : Nat → Option Addr} {m m' : List Sl} {σ σ' : L2.St} {H H' : Hp} {L L' : Lv} {k : Nat} {o : Ob} (t : Tw K B m σ H L m' σ' H' L') (e : m'[k]? = some (.own o)) : Tw K B m σ H L (m'.set k .un) σ' H' L' := by
  have hk : k < m'.length := (List.getElem?_eq_some_iff.mp e).1
  have cell : ∀ i : Nat, Cell (m'.set k .un)[i]? → i ≠ k ∧ Cell m'[i]? := fun i c => by
    by_cases h : k = i
    · subst h; rw [List.getElem?_set_self hk] at c; exact c.elim
    · rw [List.getElem?_set_ne h] at c; exact ⟨fun z => h z.symm, c⟩
  refine ⟨t.stp, ⟨by rw [List.length_set]; exact t.st.len, fun i s x e1 e2 => ?_, fun i j a hij ci cj => t.st.ne i j a hij (cell i ci).2 (cell j cj).2, t.st.wf, fun i a ha => ?_⟩, fun a ⟨i, c, ei⟩ => t.sub a ⟨i, (cell i c).2, ei⟩⟩
  · by_cases h : k = i
    · subst h
      rw [List.getElem?_set_self hk] at e1
      cases e1
      trivial
    · rw [List.getElem?_set_ne h] at e1
      exact t.st.ok i s x e1 e2
  · obtain ⟨o2, e1, e2⟩ := t.st.lent i a ha
    have h : k ≠ i := fun z => by subst z; rw [e] at e1; cases e1
    exact ⟨o2, by rw [List.getElem?_set_ne h]; exact e1, e2⟩
theorem sss_tailO {body : List Stmt} {d : List Sl → SRes} {k : Nat} {x : Str} {px pos : Pos} (n : Nat) (h : SSs p X (body.take n) d) (hd : body.drop n = [.Return (some (.Name x px)) pos]) (hx : PE X (.Name x px) (tVar k)) : SSs p X body (dTailO k d) := by
  constructor
  intro pins s σ H D I ⟨m, L, st, hr⟩
  have eb : body = body.take n ++ [.Return (some (.Name x px)) pos] := by rw [← hd, List.take_append_drop]
  rw [eb]
  unfold dTailO at hr
  split at hr
  next no =>
    apply execs_tail
    -- the ends of the front part
    have front : ∀ r, RS p m σ H L (handK k r) D → RS p m σ H L r ⟨fun σ' H' => ∃ x', σ'[k]? = some (some x') ∧ D.rt x' H', D.rt, fun _ _ => False, fun _ _ => False⟩ := fun r hr => by
      cases r with
      | nx m' =>
        unfold handK at hr
        dsimp only at hr
        split at hr
        next o eo =>
          intro σ' H' L' t
          obtain ⟨a, ex, ha, l, ob⟩ := t.fresh st no eo
          exact ⟨_, ex, hr (.ref a) σ' H' L' (t.drop eo) ⟨a, rfl, ha, l, ob⟩⟩
        next => exact hr.elim
      | ret v m' => exact fun x σ' H' L' t ev => hr x σ' H' L' t ev
      | exc c m' => exact hr
      | brk m' => exact hr.elim
      | cnt m' => exact hr.elim
      | stuck => exact hr.elim
    refine thn (h.run pins s σ H _ I ⟨m, L, st, front _ hr⟩) fun f s1 q => ?_
    cases f with
    | next =>
      obtain ⟨σ', H', I', x', ex, w⟩ := q
      exact (pss_one (ps_ret hx)).run pins s1 σ' H' D I' ⟨x', ex, w⟩
    | ret v => exact q
    | brk => obtain ⟨_, _, _, z⟩ := q; exact z.elim
    | cont => obtain ⟨_, _, _, z⟩ := q; exact z.elim
  next => exact hr.elim
end
end Sd
end
section
set_option Elab.async false
set_option linter.all false
set_option maxRecDepth 100000
set_option maxHeartbeats 4000000
namespace Sd
open PySem PySem.Spec PyProof.Rows L2
/-! ### sorted(l), a list of tuples of as many ints, any number of them -/
theorem itemsS : ∀ {us : List Value} {ns : List Int} (i : Nat), IntsAre us ns → tupItems (fun _ => false) i us = some (ns.map Sum.inl)
  | _, _, i, .nil => by rw [tupItems.eq_1]; rfl
  | _, _, i, .cons p t a => by
    rw [tupItems.eq_2, if_neg (by decide), itemsS (i + 1) a]; rfl
theorem lexltS : ∀ {d : Nat} {ns ms : List Int}, OkI d ns → OkI d ms → lexLt itemOrd (ns.map Sum.inl) (ms.map Sum.inl) = decide (cdS ns < cdS ms)
  | 0, ns, ms, h1, h2 => by
    rw [List.length_eq_zero_iff.mp h1.1, List.length_eq_zero_iff.mp h2.1, decide_eq_false (Int.lt_irrefl _)]
    exact lexLt.eq_1 _
  | d + 1, [], _, h1, _ => by simp [OkI] at h1
  | d + 1, _ :: _, [], _, h2 => by simp [OkI] at h2
  | d + 1, p :: ns, q :: ms, h1, h2 => by
    have ih := lexltS h1.tl h2.tl
    have e : lexLt itemOrd ((p :: ns).map Sum.inl) ((q :: ms).map Sum.inl) = (decide (p < q) || !decide (q < p) && lexLt itemOrd (ns.map Sum.inl) (ms.map Sum.inl)) := lexLt.eq_4 itemOrd (Sum.inl p) (ns.map Sum.inl) (Sum.inl q) (ms.map Sum.inl)
    rw [e, ih]
    rcases Int.lt_trichotomy p q with c | c | c
    · have := cdS_lt h1.tl h2.tl c
      rw [decide_eq_true c, decide_eq_true this]; rfl
    · subst c
      have k := cdS_same (p := p) h1.tl h2.tl
      rw [decide_eq_false (Int.lt_irrefl _), Bool.false_or, Bool.not_false, Bool.true_and]
      exact decide_eq_decide.mpr k.symm
    · have := cdS_lt h2.tl h1.tl c
      rw [decide_eq_false (show ¬ p < q by omega), decide_eq_true c, decide_eq_false (show ¬ cdS (p :: ns) < cdS (q :: ms) by omega)]; rfl
theorem keyS {hp : Heap} {u : Value} {ns : List Int} (t : TS.TupInts hp u ns) : G.tupKeyC hp (fun _ => false) u = some (ns.map Sum.inl) := by
  obtain ⟨a, xs, rfl, ⟨o, g1, g2, c, g3⟩, ia⟩ := t
  unfold G.tupKeyC G.isTupObj tupKey
  simp only [g1, g2, g3, beq_self_eq_true, if_true]
  exact itemsS 0 ia
theorem tupsS {hp : Heap} {d : Nat} : ∀ vs : List Value, TOk hp (d + 1) vs → ∃ fs, TupsOf hp (fun _ => false) vs fs
  | [], _ => ⟨[], .nil⟩
  | u :: us, z => by
    obtain ⟨fs, k⟩ := tupsS us fun y hy => z y (List.mem_cons_of_mem _ hy)
    obtain ⟨ns, ⟨a, xs, rfl, ⟨o, g1, g2, c, g3⟩, ia⟩, oi⟩ := z u List.mem_cons_self
    have le := ia.length
    rw [oi.1] at le
    have zl : 0 < xs.size := by simpa using (show 0 < xs.toList.length by omega)
    obtain ⟨m, t, hy⟩ := ia.all xs[0] (by simp)
    exact ⟨xs[0] :: fs, .cons ⟨a, o, xs, _, rfl, g1, g2, g3, by simp [zl], fun _ => ⟨m, t, hy⟩, fun z => by cases z⟩ k⟩
section
variable {prog : Program} {w : World} {A : Around} {E : Value → Shared → Prop} {s : Shared}
theorem sortedL {l : Addr} {vs : List Value} {d : Nat} {QQ : Value → Shared → Prop} (hl : s.heap.IsList l vs.toArray) (zl : vs.length ≤ sizeLine) (z : TOk s.heap (d + 1) vs)
    (h : ∀ out : Array Value, out.toList.Perm vs → out.toList.Pairwise (fun u v => rkS s.heap u ≤ rkS s.heap v) → QQ (.ref (s.heap.objs.size + 1)) { s with heap := sortedAll s.heap vs out }) :
    wpAny (model prog w) A (call (.builtin "sorted") [.ref l]) QQ E s := by
  obtain ⟨fs, tf⟩ := tupsS vs z
  refine G.sorted_tups hl tf (fun v hv => ?_) zl (fun st p1 p2 p3 => ?_)
  · obtain ⟨ns, t, _⟩ := z v hv
    exact ⟨_, keyS t⟩
  · have pm : (arrOf st).toList.Perm (vs.zip vs) := by
      have := p1.toList
      rw [pairsOf_toList] at this
      exact this
    have sz : (pairsOf vs).size = (arrOf st).toList.length := by
      rw [pm.length_eq, ← pairsOf_toList, Array.length_toList]
    have pw : (arrOf st).toList.Pairwise (fun p q => rkS s.heap p.fst ≤ rkS s.heap q.fst) := by
      rw [List.pairwise_iff_getElem]
      intro i j hi hj hij
      have k := p2 i j (Nat.le_of_lt hij) (by rw [sz]; exact hj)
      have key : ∀ (i : Nat) (hi : i < (arrOf st).toList.length), ∃ ns, KK (G.tupKindC s.heap fun _ => false) (arrOf st) i = ns.map Sum.inl ∧ OkI (d + 1) ns ∧ rkS s.heap ((arrOf st).toList[i]).fst = cdS ns := fun i hi => by
        have hm := pm.mem_iff.mp (List.getElem_mem hi)
        obtain ⟨ns, t, o⟩ := z _ (mem_zip_self hm).2
        refine ⟨ns, ?_, o, ?_⟩
        · unfold KK
          have e : (arrOf st)[i]? = some ((arrOf st).toList[i]) := by
            rw [← Array.getElem?_toList, List.getElem?_eq_getElem hi]
          rw [e]
          show ((G.tupKeyC s.heap (fun _ => false) ((arrOf st).toList[i]).fst).getD []) = _
          rw [keyS t]; rfl
        · show cdS (TS.intsOf s.heap _) = _
          rw [t.ints]
      obtain ⟨ns, a1, a2, a3⟩ := key i hi
      obtain ⟨ms, b1, b2, b3⟩ := key j hj
      rw [a3, b3]
      unfold KeyOrd.kle at k
      rw [a1, b1] at k
      have k' : lexLt itemOrd (ms.map Sum.inl) (ns.map Sum.inl) = false := k
      rw [lexltS b2 a2] at k'
      have := of_decide_eq_false k'
      omega
    obtain ⟨y1, y2⟩ := TS.out_rank (r := rkS s.heap) (out := Array.map (fun x => x.snd) (arrOf st)) (by rw [Array.toList_map]) pm pw
    exact h _ y1 y2
end
section
variable {X : Cx}
def rSortL (K : PySem.W.Frag) : List V → Hp → VK → Prop := fun vs H Q => ∃ (a : Addr) (xs : List V) (d : Nat), vs = [V.ref a] ∧ SqL K H a xs ∧ (∀ x ∈ xs, ∃ ns, TupI K H x ns ∧ OkI (d + 1) ns) ∧
  ∀ (ys : List V) (p : Addr), ys.Perm xs → ys.Pairwise (fun x y => ∀ n m, TupI K H x n → TupI K H y m → cdS n ≤ cdS m) → H p = none → Q (.ref p) (upd H p (.lst ys))
theorem cr_sortL : CallR X (.builtin "sorted") (rSortL X.K) := fun pins s σ H vs us Q I r ⟨a, xs, d, ev, hs, hx, q⟩ => by
  subst ev
  obtain ⟨its, rv, hl, hz⟩ := I.list hs
  have allr : ∀ x ∈ xs, ∃ t, x = V.ref t := fun x m => by
    obtain ⟨ns, ⟨t, e, _⟩, _⟩ := hx x m
    exact ⟨t, e⟩
  obtain ⟨exs, isr⟩ := bkV_refs rv allr
  rw [Vals.ref1 r]
  have ln := rv.length
  refine sortedL (d := d) hl.isList (ln ▸ hz) (fun u hu => ?_) fun out k1 k2 => ?_
  · obtain ⟨t, rfl⟩ := isr u hu
    obtain ⟨ns, ⟨t', e, ht⟩, o⟩ := hx (V.ref t) (by rw [exs]; exact List.mem_map_of_mem (f := bkV) hu)
    cases e
    exact ⟨ns, tupI_raw I ht, o⟩
  · obtain ⟨cc, old⟩ := PyProof.Rows.sortedAll_at s.heap its out
    have outr : ∀ u ∈ out.toList, ∃ a, u = Value.ref a := fun u hu => isr u (k1.mem_iff.mp hu)
    have pm : (out.toList.map bkV).Perm xs := exs ▸ k1.map bkV
    have iv := I.laid (o := .lst (out.toList.map bkV)) (t' := s.toks) (h' := sortedAll s.heap its out) (a := s.heap.objs.size + 1) (fun _ _ => PyProof.Rows.sortedAll_old) (Nat.le_succ _) ⟨by rw [pm.length_eq]; exact hz, out.toList, cc, bkV_vals outr, old⟩
    refine ⟨.ref _, _, iv, rfl, q _ _ pm (List.pairwise_map.mpr (k2.imp fun {u v} huv n m tn tm => ?_)) (I.hok.fresh (Nat.le_succ _))⟩
    obtain ⟨t, et, ht⟩ := tn
    obtain ⟨t', et', ht'⟩ := tm
    have eu := bkV_ref et
    have ev := bkV_ref et'
    subst eu ev
    have i1 := (tupI_raw I ht).ints
    have i2 := (tupI_raw I ht').ints
    show cdS n ≤ cdS m
    rw [← i1, ← i2]
    exact huv
end
def okL (ls : List (List Int)) : Bool := match ls with
  | [] => true
  | l :: _ => decide (1 ≤ l.length) && ls.all (okIs l.length)
def gSrtK (v : PV) : Option EV := match v with
  | .lst xs => match tupsI xs with
    | some ls => if okL ls then some (.nw (.lst ((srtT ls).map tupV))) else none
    | none => none
  | _ => none
def gSrtL (v : PV) : Option EV := match seqI? v with
  | some _ => gSrt v
  | none => gSrtK v
theorem gSrtL_ints {v : PV} {ns : List Int} (e : seqI? v = some ns) : gSrtL v = some (.nw (.lst ((srt ns).map PV.int))) := by
  unfold gSrtL
  rw [e]
  simp [e]
theorem gSrtL_tups {ls : List (List Int)} {d : Nat} (hd : 1 ≤ d) (h : ∀ l ∈ ls, OkI d l) : gSrtL (.lst (ls.map tupV)) = some (.nw (.lst ((srtT ls).map tupV))) := by
  cases ls with
  | nil =>
    have e : seqI? (.lst ([].map tupV)) = some [] := rfl
    rw [gSrtL_ints e]
    have : srt ([] : List Int) = [] := (srt_eq (List.Perm.refl _) List.Pairwise.nil).symm
    rw [this]
    have : srtT [] = [] := by unfold srtT; simp
    rw [this]; rfl
  | cons l ls =>
    have e : seqI? (.lst ((l :: ls).map tupV)) = none := rfl
    have k : okL (l :: ls) = true := by
      unfold okL
      have hl := (h l List.mem_cons_self).1
      rw [Bool.and_eq_true]
      refine ⟨decide_eq_true (by rw [hl]; exact hd), List.all_eq_true.mpr fun m hm => okIs_iff.mpr ?_⟩
      rw [hl]
      exact h m hm
    unfold gSrtL
    rw [e]
    unfold gSrtK
    show (match tupsI ((l :: ls).map tupV) with
      | some ls => if okL ls then some (EV.nw (.lst ((srtT ls).map tupV))) else none
      | none => none) = _
    rw [tupsI_map]
    show (if okL (l :: ls) = true then _ else none) = _
    rw [if_pos k]
def rSrtL (K : PySem.W.Frag) : List V → Hp → VK → Prop := fun vs H Q => rSrt K false vs H Q ∨ rSortL K vs H Q
theorem cr_srtL {X : Cx} : CallR X (.builtin "sorted") (rSrtL X.K) := fun pins s σ H vs us Q I r h => h.elim (cr_srt pins s σ H vs us Q I r) (cr_sortL pins s σ H vs us Q I r)
theorem op1_srtL {K : PySem.W.Frag} : Op1 K (rSrtL K) gSrtL := by
  intro H L x z X Q wf hx e q
  unfold gSrtL at e
  split at e
  next => exact .inl (op1_srt H L x z X Q wf hx e q)
  next =>
    refine .inr ?_
    unfold gSrtK at e
    split at e
    next xs =>
      split at e
      next ls e1 =>
        split at e
        next ok =>
          cases e
          obtain ⟨a, vs, rfl, h, rs⟩ := hx.lst
          rw [tupsI_eq e1] at rs
          have lv := rs.length
          rw [List.length_map] at lv
          obtain ⟨d, hd⟩ : ∃ d, ∀ l ∈ ls, OkI (d + 1) l := by
            cases ls with
            | nil => exact ⟨0, fun l hl => nomatch hl⟩
            | cons l ls =>
              have o2 : (decide (1 ≤ l.length) && (l :: ls).all (okIs l.length)) = true := ok
              rw [Bool.and_eq_true] at o2
              have l1 : 1 ≤ l.length := of_decide_eq_true o2.1
              refine ⟨l.length - 1, fun m hm => okIs_iff.mp ?_⟩
              rw [show l.length - 1 + 1 = l.length by omega]
              exact List.all_eq_true.mp o2.2 m hm
          refine ⟨a, vs, d, rfl, h, fun x hx => ?_, fun ys p hp hs hn => ?_⟩
          · obtain ⟨ns, m, t⟩ := rs.memT x hx
            exact ⟨ns, t, hd ns m⟩
          · obtain ⟨qs, rq, pq⟩ := rs.perm hp
            obtain ⟨os, rfl, po⟩ := perm_tups pq
            have := srtT_uniq hd po (rq.pairT hs)
            subst this
            exact Kq.lst wf rq q p hn
        next => cases e
      next => cases e
    next => cases e
end Sd
end
section
set_option Elab.async false
set_option linter.all false
set_option maxRecDepth 100000
set_option maxHeartbeats 4000000
set_option exponentiation.threshold 600
namespace Sd
open PySem PySem.Spec PyProof.Rows L2
/-! ### raise C(f'..') -/
/-- the parts of a text that are computed: all small ints -/
@[simp] def fparts : List (List Sl → Res EV) → List Sl → Res Unit
  | [], m => .ok () m
  | s :: r, m => (s m).bind fun v m1 => match v.v with
    | .int i => if i.natAbs.log2 < 1800 then fparts r m1 else .stuck
    | _ => .stuck
@[simp] def dRaise (c : Str) (ps : List (List Sl → Res EV)) (m : List Sl) : SRes := match fparts ps m with
  | .ok _ m1 => .exc ⟨c, []⟩ m1
  | .exc c m1 => .exc c m1
  | .stuck => .stuck
section
variable {X : Cx} {p : Pm}
/-- a text's parts, by kind -/
inductive FPs (p : Pm) (X : Cx) : List Expr → List TE → List (List Sl → Res EV) → Nat → Prop
  | nil : FPs p X [] [] [] 0
  | txt {y : Str} {j : Nat} {q : Pos} {es : List Expr} {ts : List TE} {ps : List (List Sl → Res EV)} {n : Nat} : y.length ≤ 1000 → FPs p X es ts ps n → FPs p X (.Constant (.str y) j q :: es) ((fun _ H Q => Q (.str y) H) :: ts) ps (n + 1)
  | val {e : Expr} {s : List Sl → Res EV} {q : Pos} {es : List Expr} {ts : List TE} {ps : List (List Sl → Res EV)} {n : Nat} : SE p X e s → FPs p X es ts ps n → FPs p X (.FormattedValue e (-1) none q :: es) (tFmt (tE p s) :: ts) (s :: ps) (n + 1)
theorem FPs.pj {es : List Expr} {ts : List TE} {ps : List (List Sl → Res EV)} {n : Nat} (h : FPs p X es ts ps n) : PJ X es ts := by
  induction h with
  | nil => exact .nil
  | txt _ _ ih => exact .cons pe_str ih
  | val hs _ ih => exact .cons (pe_fmt hs) ih
theorem len600 {i : Int} (h : i.natAbs.log2 < 1800) : (Str.ofString (toString i)).length ≤ 571 := by
  rw [ofString_len]
  refine intText_len (by decide) ?_
  by_cases z : i.natAbs = 0
  · rw [z]; exact Nat.pow_pos (by decide)
  · exact Nat.lt_of_lt_of_le ((Nat.log2_lt z).mp h) (by decide +kernel)
theorem FPs.run {es : List Expr} {ts : List TE} {ps : List (List Sl → Res EV)} {n : Nat} (h : FPs p X es ts ps n) : ∀ {acc : Str} {m : List Sl} {σ : L2.St} {H : Hp} {L : Lv} {Q : Str → Hp → Prop}, acc.length + 1000 * n ≤ 1000000 → StR p.K p.B m σ H L →
    (match fparts ps m with
      | .ok _ m1 => ∀ H1 L1, Tr p.K p.B m σ H L m1 σ H1 L1 → ∀ out, Q out H1
      | .exc c m1 => RX p m σ H L c m1
      | .stuck => False) → tJs ts acc σ H Q := by
  induction h with
  | nil =>
    intro acc m σ H L Q _ st h
    exact h H L (Tr.refl st) acc
  | @txt y j q es ts ps n hy hf ih =>
    intro acc m σ H L Q hn st h
    have ll : (acc ++ y).length = acc.length + y.length := Str.length_append ..
    exact ⟨y, rfl, by rw [ll, sizeLine_eq]; omega, ih (by rw [ll]; omega) st h⟩
  | @val e s q es ts ps n hs hf ih =>
    intro acc m σ H L Q hn st h
    refine ⟨m, L, st, ?_⟩
    unfold fparts at h
    cases es : s m with
    | stuck => rw [es] at h; exact h.elim
    | exc c m1 => rw [es] at h; exact h
    | ok v m1 =>
      rw [es] at h
      intro x H1 L1 t ev
      have h' : match (match v.v with | .int i => if i.natAbs.log2 < 1800 then fparts ps m1 else .stuck | _ => .stuck) with
        | .ok _ m1 => ∀ H1 L1, Tr p.K p.B m σ H L m1 σ H1 L1 → ∀ out, Q out H1
        | .exc c m1 => RX p m σ H L c m1
        | .stuck => False := h
      have er := ev.rd
      cases hv : v.v with
      | int i =>
        rw [hv] at h' er
        by_cases z : i.natAbs.log2 < 1800
        · simp only [if_pos z] at h'
          have l6 := len600 z
          refine .inr ⟨i, er.int, by omega, _, rfl, ?_, ih ?_ t.st ?_⟩
          · rw [Str.length_append, sizeLine_eq]
            have : (toString i : Str).length ≤ 571 := l6
            omega
          · rw [Str.length_append]
            have : (toString i : Str).length ≤ 571 := l6
            omega
          · cases e2 : fparts ps m1 with
            | stuck => rw [e2] at h'; exact h'.elim
            | exc c m2 => rw [e2] at h'; exact RX.go t h'
            | ok u m2 => rw [e2] at h'; exact fun H2 L2 t2 => h' H2 L2 (t.trans t2)
        · simp only [if_neg z] at h'
      | _ => rw [hv] at h'; exact h'.elim
theorem ss_raiseX {W : WX} {B : Nat → Option Addr} {C : Addr} {bmB : List Value} {B0 newId initId : String} {x : Str} {e : Expr} {ta : TE} {ps : List (List Sl → Res EV)} {p0 pos pos2 : Pos} (hc : X.calm = true) (tk : Takes X W) (F : ExcBaseFacts B0 newId initId bmB) (q : PySem.W.excIn X.K C bmB newId = true)
    (gC : X.mg x = some (.ref C)) (kC : PySem.W.keepIn X.K (.ref C) = true) (r : Raises X (.ref C)) (hg : Gl X x) (he : PE X e ta) (se : starEach [e] X.env = (false, eval e X.env) :: starEach [] X.env) (hd : (x == ("__debug__" : Str)) = false)
    (h0 : ∀ m σ H L Q, StR X.K B m σ H L → (match fparts ps m with
      | .ok _ m1 => ∀ H1 L1, Tr X.K B m σ H L m1 σ H1 L1 → ∀ v, Q v H1
      | .exc c m1 => RX ⟨X.K, X.mg, W, B⟩ m σ H L c m1
      | .stuck => False) → ta σ H Q) : SS ⟨X.K, X.mg, W, B⟩ X (.Raise (some (.Call (.Name x p0) [e] [] pos)) none pos2) (dRaise x ps) :=
  ps_imp (ps_raise hc tk (SkE.pmk_own1 F q gC kC r hg he se hd)) fun D σ H ⟨m, L, st, h⟩ => h0 m σ H L _ st (by
    unfold dRaise at h
    cases e2 : fparts ps m with
    | stuck => rw [e2] at h; exact h.elim
    | exc c m1 => rw [e2] at h; exact fun cls d H' L' t ex => h cls d σ H' L' t.w ex
    | ok u m1 => rw [e2] at h; exact fun H1 L1 t v => h _ none σ H1 L1 t.w ⟨gC, .inl ⟨rfl, rfl⟩⟩)
/-- raise C('..') -/
theorem ss_raise {W : WX} {B : Nat → Option Addr} {C : Addr} {x y : Str} {j : Nat} {p0 p1 pos pos2 : Pos} (hc : X.calm = true) (tk : Takes X W) (q : PySem.W.excIn X.K C He.veBase "ValueError.__new__" = true ∧ PySem.W.keepIn X.K (.ref C) = true ∧ PySem.W.subIn X.K (.ref C) (.type "BaseException") = some true ∧ PySem.W.typeIn X.K (.ref C) = some (.type "type"))
    (gC : X.mg x = some (.ref C)) (hg : Gl X x) (se : starEach [.Constant (.str y) j p1] X.env = (false, eval (.Constant (.str y) j p1) X.env) :: starEach [] X.env) (hd : (x == ("__debug__" : Str)) = false) : SS ⟨X.K, X.mg, W, B⟩ X (.Raise (some (.Call (.Name x p0) [.Constant (.str y) j p1] [] pos)) none pos2) (dRaise x []) :=
  ss_raiseX hc tk PySem.F.excBase_ValueError q.1 gC q.2.1 (raises_own q.2.2.1 q.2.2.2) hg pe_str se hd fun m σ H L Q st h => h H L (Tr.refl st) _
/-- raise C(f'..') -/
theorem ss_raiseF {W : WX} {B : Nat → Option Addr} {C : Addr} {x : Str} {v1 v2 : Expr} {rest : List Expr} {ts : List TE} {ps : List (List Sl → Res EV)} {n : Nat} {p0 p1 pos pos2 : Pos} (hc : X.calm = true) (tk : Takes X W) (q : PySem.W.excIn X.K C He.veBase "ValueError.__new__" = true ∧ PySem.W.keepIn X.K (.ref C) = true ∧ PySem.W.subIn X.K (.ref C) (.type "BaseException") = some true ∧ PySem.W.typeIn X.K (.ref C) = some (.type "type"))
    (gC : X.mg x = some (.ref C)) (hg : Gl X x) (hp : FPs ⟨X.K, X.mg, W, B⟩ X (v1 :: v2 :: rest) ts ps n) (hn : n ≤ 900) (se : starEach [.JoinedStr (v1 :: v2 :: rest) p1] X.env = (false, eval (.JoinedStr (v1 :: v2 :: rest) p1) X.env) :: starEach [] X.env) (hd : (x == ("__debug__" : Str)) = false) : SS ⟨X.K, X.mg, W, B⟩ X (.Raise (some (.Call (.Name x p0) [.JoinedStr (v1 :: v2 :: rest) p1] [] pos)) none pos2) (dRaise x ps) :=
  ss_raiseX hc tk PySem.F.excBase_ValueError q.1 gC q.2.1 (raises_own q.2.2.1 q.2.2.2) hg (pe_joined hp.pj) se hd fun m σ H L Q st h => hp.run (by
    have : (Str.empty).length = 0 := rfl
    omega) st (by
    cases e2 : fparts ps m with
    | stuck => rw [e2] at h; exact h.elim
    | exc c m1 => rw [e2] at h; exact h
    | ok u m1 => rw [e2] at h; exact fun H1 L1 t out => h H1 L1 t _)
end
end Sd
end
section
set_option Elab.async false
set_option linter.all false
set_option maxRecDepth 100000
set_option maxHeartbeats 4000000
namespace Sd
open PySem PySem.Spec PyProof.Rows L2
/-! ### texts -/
section
variable {X : Cx} {p : Pm}
@[simp] def eSm0 (f : Str → PV) (s : List Sl → Res EV) (m : List Sl) : Res EV := (s m).bind fun v m1 => match v.v with
  | .str a => .ok (.pv (f a)) m1
  | _ => .stuck
theorem se_sm0 {o : Expr} {so : List Sl → Res EV} {id : String} {name : Str} {apos pos : Pos} {f : Str → Bool} (hsl : Slot "str" name id) (hty : typeOf (Value.builtin id) = pure (Value.type "method_descriptor")) (hm : MtR X id (fun x xs H Q => ∃ a, x = V.str a ∧ xs = [] ∧ True ∧ Q (V.bl (f a)) H))
    (ho : SE p X o so) (hb : attributeBase o name X.env (eval o X.env) = eval o X.env) (hl : (apos.endLine == pos.line) = true) : SE p X (.Call (.Attribute o name apos) [] [] pos) (eSm0 (fun a => .bl (f a)) so) := pe_imp (pe_m0 hsl hty hm ho hb hl) fun σ H Q ⟨m, L, st, h⟩ => by
  refine tE_then st h fun v m1 x H1 L1 t ev h1 => ?_
  split at h1
  next a e1 =>
    have rv := ev.rd
    rw [e1] at rv
    rw [rv.str]
    exact ⟨⟨a, rfl⟩, a, rfl, rfl, trivial, RQ.pv t.st h1 (.bl _)⟩
  next => exact h1.elim
theorem se_isdigit {o : Expr} {so : List Sl → Res EV} {apos pos : Pos} (ho : SE p X o so) (hb : attributeBase o "isdigit" X.env (eval o X.env) = eval o X.env) (hl : (apos.endLine == pos.line) = true) : SE p X (.Call (.Attribute o "isdigit" apos) [] [] pos) (eSm0 (fun a => .bl (Txt.isdigit a)) so) := se_sm0 PySem.F.slot_str_isdigit PySem.F.type_str_isdigit mt_isdigit ho hb hl
theorem se_isascii {o : Expr} {so : List Sl → Res EV} {apos pos : Pos} (ho : SE p X o so) (hb : attributeBase o "isascii" X.env (eval o X.env) = eval o X.env) (hl : (apos.endLine == pos.line) = true) : SE p X (.Call (.Attribute o "isascii" apos) [] [] pos) (eSm0 (fun a => .bl (Txt.isascii a)) so) := se_sm0 PySem.F.slot_str_isascii PySem.F.type_str_isascii mt_isascii ho hb hl
@[simp] def eStarts (sa sb : List Sl → Res EV) (m : List Sl) : Res EV := (sa m).bind fun x m1 => match x.v with
  | .str a => (sb m1).bind fun y m2 => match y.v with
    | .str b => .ok (.pv (.bl (Txt.startswith a b))) m2
    | _ => .stuck
  | _ => .stuck
theorem se_starts {o b : Expr} {sa sb : List Sl → Res EV} {apos pos : Pos} (ha : SE p X o sa) (hb : SE p X b sb) (hs : starEach [b] X.env = [(false, eval b X.env)]) (hbase : attributeBase o "startswith" X.env (eval o X.env) = eval o X.env) (hl : (apos.endLine == pos.line) = true) : SE p X (.Call (.Attribute o "startswith" apos) [b] [] pos) (eStarts sa sb) :=
  pe_imp (pe_m1 PySem.F.slot_str_startswith PySem.F.type_str_startswith mt_startswith ha hb hs hbase hl) fun σ H Q ⟨m, L, st, h⟩ => by
  refine tE_then st h fun v m1 x H1 L1 t ev h1 => ?_
  split at h1
  next a e1 =>
    have rv := ev.rd
    rw [e1] at rv
    rw [rv.str]
    refine ⟨⟨a, rfl⟩, ?_⟩
    refine tE_then t.st h1 fun u m2 y H2 L2 t2 ev2 h2 => ?_
    split at h2
    next b e2 =>
      have ry := ev2.rd
      rw [e2] at ry
      rw [ry.str]
      exact ⟨a, b, rfl, rfl, RQ.pv t2.st h2 (.bl _)⟩
    next => exact h2.elim
  next => exact h1.elim
theorem vrs_strs {K : PySem.W.Frag} {H : Hp} {L : Lv} : ∀ l : List Str, VRs K H L (l.map PV.str) (l.map V.str)
  | [] => .nil
  | x :: l => .cons (.str x) (vrs_strs l)
@[simp] def eSplit (sa sb : List Sl → Res EV) (m : List Sl) : Res EV := (sa m).bind fun x m1 => match x.v with
  | .str a => (sb m1).bind fun y m2 => match y.v with
    | .str b => if b.length ≠ 0 ∧ a.length ≤ 1000000 then .ok (.nw (.lst ((Txt.split a b).map PV.str))) m2 else .stuck
    | _ => .stuck
  | _ => .stuck
theorem se_split {o b : Expr} {sa sb : List Sl → Res EV} {apos pos : Pos} (ha : SE p X o sa) (hb : SE p X b sb) (hs : starEach [b] X.env = [(false, eval b X.env)]) (hbase : attributeBase o "split" X.env (eval o X.env) = eval o X.env) (hl : (apos.endLine == pos.line) = true) : SE p X (.Call (.Attribute o "split" apos) [b] [] pos) (eSplit sa sb) :=
  pe_imp (pe_split ha hb hs hbase hl) fun σ H Q ⟨m, L, st, h⟩ => by
  refine tE_then st h fun v m1 x H1 L1 t ev h1 => ?_
  split at h1
  next a e1 =>
    have rv := ev.rd
    rw [e1] at rv
    rw [rv.str]
    refine ⟨⟨a, rfl⟩, ?_⟩
    refine tE_then t.st h1 fun u m2 y H2 L2 t2 ev2 h2 => ?_
    split at h2
    next b e2 =>
      split at h2
      next hz =>
        have ry := ev2.rd
        rw [e2] at ry
        rw [ry.str]
        exact ⟨a, b, rfl, rfl, beq_eq_false_iff_ne.mpr hz.1, by rw [sizeLine_eq]; omega, Kq.lst t2.st.wf (vrs_strs _) fun Z H' L' s wf r => RQ.new t2.st h2 s wf r⟩
      next => exact h2.elim
    next => exact h2.elim
  next => exact h1.elim
@[simp] def eCutS (k : Int) (s : List Sl → Res EV) (m : List Sl) : Res EV := (s m).bind fun v m1 => match v.v with
  | .str a => if a.length ≤ 1000000 then .ok (.pv (.str (cutS a (some k) none))) m1 else .stuck
  | _ => .stuck
theorem se_cutS {o : Expr} {so : List Sl → Res EV} {k : Int} {j : Nat} {q p2 pos : Pos} (ho : SE p X o so) : SE p X (.Subscript o (.Slice (some (.Constant (.int k) j q)) none none p2) pos) (eCutS k so) :=
  pe_imp (pe_slice sl_str ho (po_some pe_int) po_none) fun σ H Q ⟨m, L, st, h⟩ => by
  refine tE_then st h fun v m1 x H1 L1 t ev h1 => ?_
  split at h1
  next a e1 =>
    split at h1
    next hz =>
      have rv := ev.rd
      rw [e1] at rv
      rw [rv.str]
      exact ⟨k, rfl, a, rfl, by rw [sizeLine_eq]; omega, RQ.pv t.st h1 (.str _)⟩
    next => exact h1.elim
  next => exact h1.elim
/-! ### int(text) -/
def gIntS (v : PV) : Option EV := match v with
  | .str a => if a.length ≤ 640 then (intText? a).map fun n => .pv (.int n) else none
  | _ => none
theorem op1_intS {K : PySem.W.Frag} : Op1 K (fun xs H Q => ∃ a n, xs = [L2.V.str a] ∧ intText? a = some n ∧ a.length ≤ 640 ∧ Q (V.int n) H) gIntS := by
  intro H L x z Y Q wf hx e q
  cases x <;> first | cases e | skip
  unfold gIntS at e
  dsimp only at e
  split at e
  next hz =>
    obtain ⟨n, e1, rfl⟩ := Option.map_eq_some_iff.mp e
    rw [hx.str]
    exact ⟨_, n, rfl, e1, hz, Kq.pv wf (.int _) q⟩
  next => cases e
/-! ### isinstance(x, (A, B)) -/
@[simp] def eIsT (n1 n2 : String) (s : List Sl → Res EV) (m : List Sl) : Res EV := (s m).bind fun v m1 => match isiV v.v n1, isiV v.v n2 with
  | some a, some b => .ok (.pv (.bl (a || b))) m1
  | _, _ => .stuck
theorem rd_upd {H : Hp} {tp a : Addr} {o : HO} {ob : HO} (hz : H tp = none) (h : Rd H a o) : Rd (upd H tp ob) a o := by
  have ne : a ≠ tp := fun z => by
    subst z
    rcases h with h | ⟨_, h⟩ <;> rw [hz] at h <;> cases h
  rcases h with h | ⟨q, h⟩
  · exact .inl (by rw [upd_ne ne]; exact h)
  · exact .inr ⟨q, by rw [upd_ne ne]; exact h⟩
theorem rdr_upd {K : PySem.W.Frag} {H : Hp} {L : Lv} {v : PV} {x : V} {tp : Addr} {ob : HO} (hz : H tp = none) (h : RdR K H L v x) : RdR K (upd H tp ob) L v x := by
  have sN := stp_newT (L := L) (o := ob) hz
  cases v with
  | lst xs =>
    obtain ⟨a, vs, e, sq, r⟩ := h
    refine ⟨a, vs, e, ?_, r.mono sN⟩
    rcases sq with sq | sq
    · exact .inl (rd_upd hz sq)
    · exact .inr sq
  | dct kvs =>
    obtain ⟨a, kws, e, sq, r⟩ := h
    exact ⟨a, kws, e, rd_upd hz sq, r.mono sN⟩
  | non => exact VR.mono sN h
  | bl b => exact VR.mono sN h
  | int i => exact VR.mono sN h
  | str i => exact VR.mono sN h
  | ty i => exact VR.mono sN h
  | tup i => exact VR.mono sN h
  | tpl i => exact VR.mono sN h
  | exn c xs a => exact VR.mono sN h
theorem se_isiT {a e1 e2 : Expr} {n1 n2 : String} {s : List Sl → Res EV} {x : Str} {kk : Nat} {px tpos pos : Pos} (hg : Gl X x) (hm : X.mg x = none) (hv : bootBuiltins x = some (.builtin "isinstance")) (hk : X.K = p.K) (ha : SE p X a s) (h1 : PE X e1 (tC (.ty n1))) (h2 : PE X e2 (tC (.ty n2)))
    (hn : x ≠ "__name__") (hdb : (x == ("__debug__" : Str)) = false)
    (t1 : starEach [e1, e2] X.env = (false, eval e1 X.env) :: starEach [e2] X.env) (t2 : starEach [e2] X.env = (false, eval e2 X.env) :: starEach [] X.env)
    (hs : starEach [a, .Tuple [e1, e2] kk tpos] X.env = (false, eval a X.env) :: starEach [.Tuple [e1, e2] kk tpos] X.env) (hs2 : starEach [.Tuple [e1, e2] kk tpos] X.env = (false, eval (.Tuple [e1, e2] kk tpos) X.env) :: starEach [] X.env) (hpl : (backTo pos (starEach [.Tuple [e1, e2] kk tpos] X.env)).any (·.1) = false) :
    SE p X (.Call (.Name x px) [a, .Tuple [e1, e2] kk tpos] [] pos) (eIsT n1 n2 s) :=
  pe_imp (pe_callB call_isiT hg hm hv (pa_cons ha (pa_cons (pe_tup (pa_cons h1 (pa_cons h2 pa_nil t2) t1)) pa_nil hs2) hs) hn hdb hs hpl) fun σ H Q ⟨m, L, st, h⟩ => by
  refine tE_then st h fun v m1 y H1 L1 t ev h1 => ?_
  split at h1
  next r1 r2 q1 q2 =>
    obtain ⟨c1, k1, k1'⟩ := isi_kit q1
    obtain ⟨c2, k2, k2'⟩ := isi_kit q2
    rw [k1] at k2
    cases k2
    refine ⟨by rw [sizeLine_eq]; show 2 ≤ 16777216; decide, fun tp hz => ?_⟩
    have rd := rdr_upd (ob := .tup [V.ty n1, V.ty n2]) hz ev.rd
    have ko : PySem.W.kitAny X.K (.type c1) [.type n1, .type n2] = some (r1 || r2) := by
      have z1 := kit_ty (K := X.K) k1'
      have z2 := kit_ty (K := X.K) k2'
      simp only [PySem.W.kitAny, z1, z2]
      cases r1 <;> cases r2 <;> rfl
    rw [hk]
    rw [hk] at ko
    exact ⟨y, tp, [.ty n1, .ty n2], .type c1, [.type n1, .type n2], r1 || r2, rfl, upd_same, .cons (.ty n1) (.cons (.ty n2) .nil), tyx_of rd k1, ko, RQ.new t.st h1 (stp_newT hz) (wf_newT t.st.wf) (.bl _)⟩
  next => exact h1.elim
end
end Sd
end
section
set_option linter.all false
set_option maxRecDepth 100000
namespace Sd
open PySem L2
noncomputable section
def d_law_fount : List Sl → SRes :=
  dSeq (dSet 2 (eC (.int 0)))
      (dSeq (dIf (sBool (eOp gLt (eVar 1) (eCall1 gLen (eVar 0)))) (dSeq (dSet 2 (eOp gIx (eVar 0) (eVar 1)))
      (dNil)) (dNil))
      (dSeq (dRet (eLst [.val (eOp gMax2 (eC (.int 0)) (eOp gMin (eVar 2) (eOp gPowB (eC (.int 10)) (eC (.int 18))))), .val (eOp gAdd (eOp gMulI (eOp gMod (eVar 2) (eOp gAdd (eOp gPowB (eC (.int 10)) (eC (.int 39))) (eC (.int 3)))) (eC (.int 512))) (eVar 1)), .val (eC (.int 0))]))
      (dNil)))
def f_law_fount : List Sl → Res EV := runB 3 d_law_fount
def d_law_same : List Sl → SRes :=
  dSeq (dIf (sTru (eIsT "list" "tuple" (eVar 1))) (dSeq (dIf (sOr (sBool (eOp gNe (eOp gIsi (eVar 0) (eC (.ty "list"))) (eOp gIsi (eVar 1) (eC (.ty "list"))))) (sBool (eOp gNe (eOp gIsi (eVar 0) (eC (.ty "tuple"))) (eOp gIsi (eVar 1) (eC (.ty "tuple")))))) (dSeq (dRet (eC (.bl false)))
      (dNil)) (dNil))
      (dSeq (dRet (eAnd (eOp gEq (eCall1 gLen (eVar 0)) (eCall1 gLen (eVar 1))) (eCall1 gAll (eLc [2] (sRng1 (eCall1 gLen (eVar 1))) (gNm 2) sYes (eStuck)))))
      (dNil))) (dNil))
      (dSeq (dRet (eAnd (eOp gEq (eOp gIsi (eVar 0) (eC (.ty "bool"))) (eOp gIsi (eVar 1) (eC (.ty "bool")))) (eOp gEq (eVar 0) (eVar 1))))
      (dNil))
def f_law_same : List Sl → Res EV := runB 3 d_law_same
def d_law_sip : List Sl → SRes :=
  dSeq (dIf (sBool (eOp gGt (eOpP gIx 0 (eC (.int 0))) (eC (.int 0)))) (dSeq (dSet 3 (eOp gMod (eOpP gIx 0 (eC (.int 0))) (eVar 1)))
      (dSeq (dSetIx 0 (eC (.int 0)) (eOp gFdiv (eOpP gIx 0 (eC (.int 0))) (eVar 1)))
      (dSeq (dRet (eVar 3))
      (dNil)))) (dNil))
      (dSeq (dSetIx 0 (eC (.int 2)) (eOp gAdd (eOpP gIx 0 (eC (.int 2))) (eC (.int 1))))
      (dSeq (dSet 2 (eOp gMod (eOp gPowB (eOp gAdd (eOpP gIx 0 (eC (.int 1))) (eOp gMulI (eC (.int 86028157)) (eOpP gIx 0 (eC (.int 2))))) (eC (.int 3))) (eOp gAdd (eOp gPowB (eC (.int 10)) (eC (.int 44))) (eC (.int 31)))))
      (dSeq (dSet 2 (eOp gMod (eOp gPowB (eOp gAdd (eVar 2) (eOp gMulI (eC (.int 49979693)) (eOpP gIx 0 (eC (.int 2))))) (eC (.int 3))) (eOp gAdd (eOp gPowB (eC (.int 10)) (eC (.int 42))) (eC (.int 63)))))
      (dSeq (dRet (eOp gMod (eOp gFdiv (eVar 2) (eC (.int 131071))) (eVar 1)))
      (dNil)))))
def f_law_sip : List Sl → Res EV := runB 4 d_law_sip
def d_law_text : List Sl → SRes :=
  dSeq (dRet (eJoin (eC (.str " ")) (eLc [1] (sSeq (eVar 0)) (gNm 1) sYes (eCall1 gStr (eVar 1)))))
      (dNil)
def f_law_text : List Sl → Res EV := runB 2 d_law_text
def d_is_count : List Sl → SRes :=
  dSeq (dIf (sOr (sNot (sTru (eSm0 (fun a => .bl (Txt.isascii a)) (eVar 0)))) (sOr (sNot (sTru (eSm0 (fun a => .bl (Txt.isdigit a)) (eVar 0)))) (sBool (eOp gGt (eCall1 gLen (eVar 0)) (eC (.int 31)))))) (dSeq (dRet (eC (.bl false)))
      (dNil)) (dNil))
      (dSeq (dRet (eOr (eOp gEq (eVar 0) (eC (.str "0"))) (eNotT (eStarts (eVar 0) (eC (.str "0"))))))
      (dNil))
def f_is_count : List Sl → Res EV := runB 1 d_is_count
def d_is_integer : List Sl → SRes :=
  dSeq (dIf (sOr (sNot (sTru (eOp gIsi (eVar 0) (eC (.ty "int"))))) (sTru (eOp gIsi (eVar 0) (eC (.ty "bool"))))) (dSeq (dRet (eC (.bl false)))
      (dNil)) (dNil))
      (dSeq (dRet (eChain gLe gLe (eVar 1) (eVar 0) (eVar 2)))
      (dNil))
def f_is_integer : List Sl → Res EV := runB 3 d_is_integer
def d_law_mixed : List Sl → SRes :=
  dSeq (dSet 2 (eCall1 gList (eVar 1)))
      (dSeq (dRet (eLc [3] (sRng1 (eCallP gLen 2)) (gNm 3) sYes (eMeth 2 gPopAt [.val (eUser 2 f_law_sip [.io 0, .val (eCallP gLen 2)])])))
      (dNil))
def f_law_mixed : List Sl → Res EV := runB 4 d_law_mixed
def d_law_people : List Sl → SRes :=
  dSeq (dSet 2 (eOp gIx (eLst [.val (eOp gAdd (eC (.int 1)) (eUser 2 f_law_sip [.io 0, .val (eVar 1)])), .val (eVar 1), .val (eOp gAdd (eC (.int 1)) (eUser 2 f_law_sip [.io 0, .val (eOp gMin2 (eVar 1) (eC (.int 5)))]))]) (eUser 2 f_law_sip [.io 0, .val (eC (.int 3))])))
      (dSeq (dPar [5, 6] [.val (eUser 2 f_law_sip [.io 0, .val (eC (.int 5))]), .val (eLst [])])
      (dSeq (dSet 3 (eOp gIx (eLst [.val (eC (.int 0)), .val (eOp gMin (eUser 2 f_law_sip [.io 0, .val (eC (.int 50))]) (eC (.int 25))), .val (eOp gMin (eOp gMin (eC (.int 0)) (eOp gPowB (eC (.int 10)) (eC (.int 30)))) (eC (.int 1))), .val (eOp gMin (eOp gPowB (eC (.int 10)) (eC (.int 30))) (eC (.int 400))), .val (eOp gMin (eC (.int 0)) (eUser 2 f_law_sip [.io 0, .val (eOp gPowB (eC (.int 10)) (eC (.int 20)))]))]) (eVar 5)))
      (dSeq (dFor (sRng1 (eVar 2)) (gNm 4) (dSeq (dSet 7 (eOp gIx (eLst [.val (eOp gPowB (eC (.int 10)) (eC (.int 3))), .val (eOp gPowB (eC (.int 10)) (eC (.int 7))), .val (eOp gPowB (eC (.int 10)) (eC (.int 13))), .val (eOp gPowB (eC (.int 10)) (eC (.int 20))), .val (eOp gPowB (eC (.int 10)) (eC (.int 27)))]) (eUser 2 f_law_sip [.io 0, .val (eC (.int 5))])))
      (dSeq (dSet 3 (eOp gAdd (eOp gAdd (eVar 3) (eC (.int 1))) (eUser 2 f_law_sip [.io 0, .val (eOp gIx (eLst [.val (eC (.int 1)), .val (eC (.int 7)), .val (eOp gMulI (eC (.int 5)) (eOp gPowB (eC (.int 10)) (eC (.int 28)))), .val (eC (.int 9)), .val (eVar 7)]) (eVar 5))])))
      (dSeq (dDrop (eMeth 6 gAppend [.val (eVar 3)]))
      (dNil)))))
      (dSeq (dRet (eVar 6))
      (dNil)))))
def f_law_people : List Sl → Res EV := runB 8 d_law_people
def d_law_same2 : List Sl → SRes :=
  dSeq (dIf (sTru (eIsT "list" "tuple" (eVar 1))) (dSeq (dIf (sOr (sBool (eOp gNe (eOp gIsi (eVar 0) (eC (.ty "list"))) (eOp gIsi (eVar 1) (eC (.ty "list"))))) (sBool (eOp gNe (eOp gIsi (eVar 0) (eC (.ty "tuple"))) (eOp gIsi (eVar 1) (eC (.ty "tuple")))))) (dSeq (dRet (eC (.bl false)))
      (dNil)) (dNil))
      (dSeq (dRet (eAnd (eOp gEq (eCall1 gLen (eVar 0)) (eCall1 gLen (eVar 1))) (eCall1 gAll (eLc [2] (sRng1 (eCall1 gLen (eVar 1))) (gNm 2) sYes (eUser 2 f_law_same [.val (eOp gIx (eVar 0) (eVar 2)), .val (eOp gIx (eVar 1) (eVar 2))])))))
      (dNil))) (dNil))
      (dSeq (dRet (eAnd (eOp gEq (eOp gIsi (eVar 0) (eC (.ty "bool"))) (eOp gIsi (eVar 1) (eC (.ty "bool")))) (eOp gEq (eVar 0) (eVar 1))))
      (dNil))
def f_law_same2 : List Sl → Res EV := runB 3 d_law_same2
def d_is_height : List Sl → SRes :=
  dSeq (dRet (eUser 3 f_is_integer [.val (eVar 0), .val (eNeg (eC (.int 1000000000000000000000000000000))), .val (eC (.int 1000000000000000000000000000000))]))
      (dNil)
def f_is_height : List Sl → Res EV := runB 1 d_is_height
def d_is_number : List Sl → SRes :=
  dSeq (dIf (sTru (eStarts (eVar 0) (eC (.str "-")))) (dSeq (dRet (eAnd (eOp gNe (eVar 0) (eC (.str "-0"))) (eUser 1 f_is_count [.val (eCutS 1 (eVar 0))])))
      (dNil)) (dNil))
      (dSeq (dRet (eUser 1 f_is_count [.val (eVar 0)]))
      (dNil))
def f_is_number : List Sl → Res EV := runB 1 d_is_number
def d_law_line : List Sl → SRes :=
  dSeq (dSet 2 (eUser 2 f_law_people [.io 0, .val (eVar 1)]))
      (dSeq (dSet 3 (eLst [.val (eVar 2), .val (eRevA (eVar 2)), .val (eUser 2 f_law_mixed [.io 0, .val (eVar 2)]), .val (eUser 2 f_law_mixed [.io 0, .val (eVar 2)]), .val (eOp gAdd (eCut (eVar 2) (some (eC (.int 1))) none) (eCut (eVar 2) none (some (eC (.int 1)))))]))
      (dSeq (dRet (eCall1 gTuple (eOp gIx (eVar 3) (eUser 2 f_law_sip [.io 0, .val (eC (.int 5))]))))
      (dNil)))
def f_law_line : List Sl → Res EV := runB 4 d_law_line
def d_has_different_heights : List Sl → SRes :=
  dSeq (dIf (sOr (sNot (sTru (eOp gIsi (eVar 0) (eC (.ty "tuple"))))) (sNot (sBool (eChain gLe gLe (eC (.int 1)) (eCall1 gLen (eVar 0)) (eC (.int 40)))))) (dSeq (dRet (eC (.bl false)))
      (dNil)) (dNil))
      (dSeq (dFor (sSeq (eVar 0)) (gNm 1) (dSeq (dIf (sAnd (sBool (eOp gIsNot (eCall1 gTyp (eVar 1)) (eC (.ty "int")))) (sNot (sTru (eUser 1 f_is_height [.val (eVar 1)])))) (dSeq (dRet (eC (.bl false)))
      (dNil)) (dNil))
      (dNil)))
      (dSeq (dRet (eAnd (eOp gLe (eNeg (eC (.int 1000000000000000000000000000000))) (eCall1 gMin1 (eVar 0))) (eAnd (eOp gLe (eCall1 gMax1 (eVar 0)) (eC (.int 1000000000000000000000000000000))) (eOp gEq (eCall1 gLenSet (eVar 0)) (eCall1 gLen (eVar 0))))))
      (dNil)))
def f_has_different_heights : List Sl → Res EV := runB 2 d_has_different_heights
def d_check_queue : List Sl → SRes :=
  dSeq (dIf (sNot (sTru (eUser 1 f_has_different_heights [.val (eVar 0)]))) (dSeq (dStuck)
      (dNil)) (dNil))
      (dNil)
def f_check_queue : List Sl → Res EV := runB 1 d_check_queue
def d_read_queue : List Sl → SRes :=
  dSeq (dIf (sTru (eOp gIsi (eVar 0) (eC (.ty "str")))) (dSeq (dSet 1 (eSplit (eVar 0) (eC (.str " "))))
      (dSeq (dIf (sTru (eCall1 gAll (eLc [3] (sSeq (eVar 1)) (gNm 3) sYes (eUser 1 f_is_number [.val (eVar 3)])))) (dSeq (dSet 2 (eCall1 gTuple (eLc [3] (sSeq (eVar 1)) (gNm 3) sYes (eCall1 gIntS (eVar 3)))))
      (dSeq (dIf (sTru (eUser 1 f_has_different_heights [.val (eVar 2)])) (dSeq (dRet (eVar 2))
      (dNil)) (dNil))
      (dNil))) (dNil))
      (dNil))) (dNil))
      (dSeq (dStuck)
      (dNil))
def f_read_queue : List Sl → Res EV := runB 4 d_read_queue
def d_show_queue : List Sl → SRes :=
  dSeq (dDrop (eUser 1 f_check_queue [.val (eVar 0)]))
      (dSeq (dRet (eJoin (eC (.str " ")) (eLc [1] (sSeq (eVar 0)) (gNm 1) sYes (eCall1 gStr (eVar 1)))))
      (dNil))
def f_show_queue : List Sl → Res EV := runB 2 d_show_queue
def d_law : List Sl → SRes :=
  dSeq (dFor (sRng1 (eOp gMax2 (eC (.int 1)) (eOp gMin2 (eC (.int 6)) (eCall1 gLen (eVar 0))))) (gNm 1) (dSeq (dSet 3 (eUser 2 f_law_fount [.val (eVar 0), .val (eVar 1)]))
      (dSeq (dSet 4 (eUser 2 f_law_line [.io 3, .val (eOp gIx (eLst [.val (eC (.int 8)), .val (eC (.int 40))]) (eUser 2 f_law_sip [.io 3, .val (eC (.int 2))]))]))
      (dSeq (dSet 5 (eUser 1 f_law_text [.val (eVar 4)]))
      (dSeq (dIf (sOr (sBool (eOp gNe (eUser 1 f_show_queue [.val (eVar 4)]) (eVar 5))) (sNot (sTru (eUser 2 f_law_same2 [.val (eUser 1 f_read_queue [.val (eVar 5)]), .val (eVar 4)])))) (dSeq (dRet (eC (.bl false)))
      (dNil)) (dNil))
      (dSeq (dSet 6 (eUser 2 f_law_sip [.io 3, .val (eCall1 gLen (eVar 4))]))
      (dSeq (dSet 7 (eOp gAdd (eOp gAdd (eCut (eVar 4) none (some (eVar 6))) (eCut (eVar 4) (some (eOp gAdd (eVar 6) (eC (.int 1)))) none)) (eCut (eVar 4) (some (eVar 6)) (some (eOp gAdd (eVar 6) (eC (.int 1)))))))
      (dSeq (dIf (sOr (sBool (eOp gNe (eOp gEq (eUser 1 f_show_queue [.val (eVar 7)]) (eVar 5)) (eOp gEq (eVar 7) (eVar 4)))) (sBool (eOp gNe (eUser 1 f_read_queue [.val (eUser 1 f_show_queue [.val (eVar 7)])]) (eVar 7)))) (dSeq (dRet (eC (.bl false)))
      (dNil)) (dNil))
      (dSeq (dSet 8 (eCall1 gTuple (eLc [9] (sSeq (eVar 4)) (gNm 9) sYes (eOp gMin (eC (.int 0)) (eVar 9)))))
      (dSeq (dIf (sNot (sTru (eUser 2 f_law_same2 [.val (eUser 1 f_read_queue [.val (eUser 1 f_show_queue [.val (eVar 8)])]), .val (eVar 8)]))) (dSeq (dRet (eC (.bl false)))
      (dNil)) (dNil))
      (dNil)))))))))))
      (dSeq (dSet 2 (eTup [.val (eOp gPowB (eC (.int 10)) (eC (.int 30))), .val (eC (.int 0)), .val (eOp gMin (eC (.int 0)) (eOp gPowB (eC (.int 10)) (eC (.int 30)))), .val (eC (.int 1)), .val (eNeg (eC (.int 1)))]))
      (dSeq (dRet (eAnd (eOp gEq (eUser 1 f_show_queue [.val (eTup [.val (eC (.int 3)), .val (eNeg (eC (.int 5))), .val (eC (.int 2))])]) (eC (.str "3 -5 2"))) (eOp gEq (eUser 1 f_read_queue [.val (eUser 1 f_show_queue [.val (eVar 2)])]) (eVar 2))))
      (dNil)))
def f_law : List Sl → Res EV := runB 10 d_law
end
end Sd
end
section
set_option Elab.async false
set_option linter.all false
set_option maxRecDepth 100000
set_option exponentiation.threshold 600
set_option maxHeartbeats 4000000
namespace Sd
open PySem L2
/-! ### what the program checks, of valid values -/
structure Que (xs : List Int) : Prop where
  nd : xs.Nodup
  ne : xs ≠ []
  le : xs.length ≤ 40
  bd : ∀ x ∈ xs, -1000000000000000000000000000000 ≤ x ∧ x ≤ 1000000000000000000000000000000
theorem card_dup : ∀ {xs : List Int}, ¬ xs.Nodup → card xs < xs.length
  | [], h => absurd List.nodup_nil h
  | x :: xs, h => by
    show (if x ∈ xs then card xs else card xs + 1) < xs.length + 1
    by_cases hx : x ∈ xs
    · rw [if_pos hx]; have := card_le xs; omega
    · rw [if_neg hx]
      have : ¬ xs.Nodup := fun z => h (List.nodup_cons.mpr ⟨hx, z⟩)
      have := card_dup this
      omega
theorem v_is_integer (i lo hi : Int) : f_is_integer [.pv (.int i), .pv (.int lo), .pv (.int hi)] = .ok (.pv (.bl (decide (lo ≤ i) && decide (i ≤ hi)))) [.un, .un, .un] := by
  by_cases h1 : lo ≤ i <;> by_cases h2 : i ≤ hi <;> simp [f_is_integer, d_is_integer, h1, h2]
abbrev body_heights : List Sl → SRes := dSeq (dIf (sAnd (sBool (eOp gIsNot (eCall1 gTyp (eVar 1)) (eC (.ty "int")))) (sNot (sTru (eUser 1 f_is_height [.val (eVar 1)])))) (dSeq (dRet (eC (.bl false)))
      (dNil)) (dNil))
      (dNil)
theorem heights_loop (s0 : Sl) : ∀ (xs : List Int) (s1 : Sl), (∀ q, s1 ≠ .bor q) → ∃ s1', (∀ q, s1' ≠ .bor q) ∧ forL (gNm 1) body_heights (xs.map PV.int) [s0, s1] = .nx [s0, s1']
  | [], s1, h => ⟨s1, h, rfl⟩
  | x :: xs, s1, h => by
    obtain ⟨s1', h', e⟩ := heights_loop s0 xs (.pv (.int x)) (fun q z => nomatch z)
    refine ⟨s1', h', ?_⟩
    rw [List.map_cons]
    unfold forL
    have e1 : gNm 1 (.int x) [s0, s1] = some [s0, .pv (.int x)] := by
      cases s1 with
      | bor o => exact absurd rfl (h o)
      | _ => simp
    rw [e1]
    dsimp only
    have e2 : body_heights [s0, .pv (.int x)] = .nx [s0, .pv (.int x)] := by simp
    rw [e2]
    exact e
theorem v_heights {xs : List Int} (h : Que xs) : f_has_different_heights [.pv (.tup (xs.map PV.int))] = .ok (.pv (.bl true)) [.un] := by
  obtain ⟨s1, h1, e⟩ := heights_loop (.pv (.tup (xs.map PV.int))) xs .un (fun q z => nomatch z)
  have l1 : (1 : Int) ≤ xs.length := by
    have := List.length_pos_iff.mpr h.ne
    omega
  have l2 : (xs.length : Int) ≤ 40 := by have := h.le; omega
  have b1 := (h.bd _ (mnI_mem h.ne)).1
  have b2 := (h.bd _ (mxI_mem h.ne)).2
  have l3 : xs.length ≤ 4000 := by have := h.le; omega
  have e' := e
  simp only [body_heights] at e'
  simp [f_has_different_heights, d_has_different_heights, l1, l2, b1, b2, l3, h.ne, card_nodup h.nd, e']
theorem v_check_queue {xs : List Int} (h : Que xs) : f_check_queue [.pv (.tup (xs.map PV.int))] = .ok (.pv .non) [.un] := by
  have e := v_heights h
  unfold f_check_queue d_check_queue
  generalize f_has_different_heights = g at e ⊢
  simp [e]
theorem v_is_height {p : Int} (h1 : -1000000000000000000000000000000 ≤ p) (h2 : p ≤ 1000000000000000000000000000000) : f_is_height [.pv (.int p)] = .ok (.pv (.bl true)) [.un] := by
  have e := v_is_integer p (-1000000000000000000000000000000) 1000000000000000000000000000000
  rw [decide_eq_true h1, decide_eq_true h2] at e
  unfold f_is_height d_is_height
  generalize f_is_integer = g at e ⊢
  simp [e]
end Sd
end
section
set_option Elab.async false
set_option linter.all false
set_option maxRecDepth 100000
set_option exponentiation.threshold 600
namespace Sd
open PySem L2
/-! ### the law's own draws -/
def mix1 (b c : Int) : Int := (b + 86028157 * (c + 1)) ^ 3 % (10 ^ 44 + 31)
def mix2 (b c : Int) : Int := (mix1 b c + 49979693 * (c + 1)) ^ 3 % (10 ^ 42 + 63)
def drawV (a b c n : Int) : Int := if 0 < a then a % n else mix2 b c / 131071 % n
def drawA (a n : Int) : Int := if 0 < a then a / n else a
def drawC (a c : Int) : Int := if 0 < a then c else c + 1
theorem drawV_range (a b c : Int) {n : Int} (hn : 0 < n) : 0 ≤ drawV a b c n ∧ drawV a b c n < n := by
  unfold drawV
  split
  · exact ⟨Int.emod_nonneg _ (by omega), Int.emod_lt_of_pos _ hn⟩
  · exact ⟨Int.emod_nonneg _ (by omega), Int.emod_lt_of_pos _ hn⟩
theorem f_sip (a b c n : Int) (hn : 0 < n) (hn2 : fits n = true) (hb : 0 ≤ b) (hb2 : b < 2 ^ 200) (hc : 0 ≤ c) (hc2 : c < 2 ^ 60) :
    f_law_sip [.bor (.lst [.int a, .int b, .int c]), .pv (.int n)] = .ok (.pv (.int (drawV a b c n))) [.bor (.lst [.int (drawA a n), .int b, .int (drawC a c)]), .un] := by
  have h2 : fits (c + 1) = true := fits_of (by omega) (by omega)
  have h3 : fits (b + 86028157 * (c + 1)) = true := fits_of (by omega) (by omega)
  have h4 : fits (mix1 b c + 49979693 * (c + 1)) = true := by
    unfold mix1
    generalize (b + 86028157 * (c + 1)) ^ 3 = x
    exact fits_of (by omega) (by omega)
  have l1 : fits 86028157 = true := by decide
  have l2 : fits 49979693 = true := by decide
  have l3 : fits 131071 = true := by decide
  have l4 : fits 10 = true := by decide
  by_cases ha : 0 < a
  · simp [f_law_sip, d_law_sip, atI, ixN, hn, hn2, ha, drawV, drawA, drawC]
  · unfold mix1 at h4
    simp at h4
    simp [f_law_sip, d_law_sip, atI, ixN, hn, ha, drawV, drawA, drawC, mix2, mix1, h2, h3, h4, l1, l2, l3, l4]
def Fnt (c : Int) (o : Ob) : Prop := ∃ a b d, o = .lst [.int a, .int b, .int d] ∧ 0 ≤ b ∧ b < 2 ^ 200 ∧ 0 ≤ d ∧ d ≤ c
theorem Fnt.le {c c' : Int} {o : Ob} (h : Fnt c o) (hc : c ≤ c') : Fnt c' o := by
  obtain ⟨a, b, d, e, h1, h2, h3, h4⟩ := h
  exact ⟨a, b, d, e, h1, h2, h3, by omega⟩
theorem sip_ok {c n : Int} {o : Ob} (h : Fnt c o) (hc : c < 2 ^ 59) (hn : 0 < n) (hf : fits n = true) : ∃ v o', Fnt (c + 1) o' ∧ 0 ≤ v ∧ v < n ∧ f_law_sip [.bor o, .pv (.int n)] = .ok (.pv (.int v)) [.bor o', .un] := by
  obtain ⟨a, b, d, rfl, h1, h2, h3, h4⟩ := h
  refine ⟨_, _, ?_, (drawV_range a b d hn).1, (drawV_range a b d hn).2, f_sip a b d n hn hf h1 h2 h3 (by omega)⟩
  refine ⟨_, _, _, rfl, h1, h2, ?_, ?_⟩
  · unfold drawC; split <;> omega
  · unfold drawC; split <;> omega
theorem seqIx {v : Int} {n : Nat} (h0 : 0 ≤ v) (h : v < n) : seqIndex? v n = some v.toNat := by
  unfold seqIndex?
  simp
  omega
theorem cons_erase_perm {α : Type} : ∀ (xs : List α) (i : Nat) (h : i < xs.length), (xs[i] :: xs.eraseIdx i).Perm xs
  | x :: xs, 0, _ => by simp
  | x :: xs, i + 1, h => by
    have h' : i < xs.length := by simpa using h
    have ih := cons_erase_perm xs i h'
    simp only [List.getElem_cons_succ, List.eraseIdx_cons_succ]
    exact (List.Perm.swap _ _ _).trans (ih.cons x)
theorem mixed_loop (s1 : Sl) : ∀ (k : Nat) (left acc r : List PV) (o : Ob) (c : Int), left.length = k → r.length = k → acc.length + k ≤ 1000 → Fnt c o → c + k < 2 ^ 59 →
    ∃ ys o', lcL [3] (gNm 3) sYes (eMeth 2 gPopAt [.val (eUser 2 f_law_sip [.io 0, .val (eCallP gLen 2)])]) r acc [.bor o, s1, .own (.lst left), .un] = .ok (acc ++ ys) [.bor o', s1, .own (.lst []), .un] ∧ ys.Perm left ∧ Fnt (c + k) o' := by
  intro k
  induction k with
  | zero =>
    intro left acc r o c hl hr _ hp _
    obtain rfl := List.length_eq_zero_iff.mp hl
    obtain rfl := List.length_eq_zero_iff.mp hr
    exact ⟨[], o, by simp [lcL], List.Perm.refl _, by simpa using hp⟩
  | succ k ih =>
    intro left acc r o c hl hr ha hp hc
    obtain ⟨v, o', hp', h0, hv, e⟩ := sip_ok (n := left.length) hp (by omega) (by omega) (fits_of (by omega) (by omega))
    obtain ⟨x, r, rfl⟩ := List.exists_cons_of_length_eq_add_one hr
    have hvl : v.toNat < left.length := by omega
    have e2 : seqIndex? v left.length = some v.toNat := seqIx h0 hv
    obtain ⟨ys, o'', q1, q2, q3⟩ := ih (left.eraseIdx v.toNat) (acc ++ [left[v.toNat]]) r o' (c + 1) (by rw [List.length_eraseIdx_of_lt hvl]; omega) (by simpa using hr) (by simp; omega) hp' (by omega)
    refine ⟨left[v.toNat] :: ys, o'', ?_, ?_, ?_⟩
    · have hb : acc.length < big := by unfold big; omega
      have b1 : okR v = true := okR_of (by omega) (by omega)
      simp [lcL, e, e2, hvl, b1, hb, q1]
    · exact (List.Perm.cons _ q2).trans (cons_erase_perm left _ hvl)
    · have : c + ((k + 1 : Nat) : Int) = c + 1 + k := by omega
      rw [this]; exact q3
theorem fits10 : fits 10 = true := by decide
theorem f_fount {ns : List Int} {k : Int} (h0 : 0 ≤ k) (hk : k < 100) (hl : ns.length ≤ 63) : ∃ o, Fnt 0 o ∧ f_law_fount [.pv (.lst (ns.map PV.int)), .pv (.int k)] = .ok (.nw o) [.un, .un] := by
  obtain ⟨cell, hc⟩ : ∃ cell : Int, (if k < ns.length then ns.getD k.toNat 0 else 0) = cell := ⟨_, rfl⟩
  have f512 : fits 512 = true := by decide
  have fm : fits (cell % (10 ^ 39 + 3)) = true := fits_of (by omega) (by omega)
  have g3' : 3 ≤ big := by unfold big; omega
  refine ⟨.lst [.int (if cell - 10 ^ 18 > 0 then cell - 10 ^ 18 else 0), .int (cell % (10 ^ 39 + 3) * 512 + k), .int 0], ⟨_, _, _, rfl, by omega, by omega, by omega, by omega⟩, ?_⟩
  by_cases c : k < ns.length
  · rw [if_pos c] at hc
    have a1 : atI (ns.map PV.int) k = some (.int cell) := by
      unfold atI ixN
      rw [if_pos h0, if_pos (by simpa using c), ← hc]
      have : k.toNat < ns.length := by omega
      simp [List.getD, this]
    simp at fm
    simp [f_law_fount, d_law_fount, c, a1, fits10, f512, fm, g3']
  · rw [if_neg c] at hc
    subst hc
    simp at fm
    simp [f_law_fount, d_law_fount, c, fits10, f512, fm, g3']
theorem f_mixedF {xs : List PV} {o : Ob} {c : Int} (hl : xs.length ≤ 40) (hp : Fnt c o) (hc : c < 2 ^ 58) : ∃ ys o', f_law_mixed [.bor o, .pv (.lst xs)] = .ok (.nw (.lst ys)) [.bor o', .un] ∧ ys.Perm xs ∧ Fnt (c + 40) o' := by
  obtain ⟨ys, o', e, h1, h2⟩ := mixed_loop (.pv (.lst xs)) xs.length xs [] (rng 0 xs.length) o c rfl (by simp [rng]) (by simp; omega) hp (by omega)
  refine ⟨ys, o', ?_, h1, h2.le (by omega)⟩
  have r : okR (xs.length : Int) = true := okR_of (by omega) (by omega)
  unfold f_law_mixed d_law_mixed
  generalize f_law_sip = g at e ⊢
  simp [noBor, restM, r, e]
end Sd
end
section
set_option linter.all false
namespace Sd
open PySem L2
/-- a slot that is not lent -/
abbrev NBo (s : Sl) : Prop := ∀ q, s ≠ .bor q
end Sd
end
section
/-! Waits: plain Lean, no layer. A queue's places before and after a step, the waits of the persons in descending order. -/
namespace Mw
/-- one person's wait from those of the taller ones -/
def fw (pos : Int → Int) (p : Int) (acc : List (Int × Int)) (s : Int) : Int := acc.foldl (fun s z => if pos z.1 < pos p then s + (1 + s - z.2) else s) s
/-- the persons in descending order, with their waits -/
def wl (pos : Int → Int) (acc : List (Int × Int)) : List Int → List (Int × Int)
  | [] => acc
  | p :: ps => wl pos (acc ++ [(p, fw pos p acc 0)]) ps
theorem fw_append (pos : Int → Int) (p : Int) (a b : List (Int × Int)) (s : Int) : fw pos p (a ++ b) s = fw pos p b (fw pos p a s) := by
  unfold fw; rw [List.foldl_append]
theorem fw_cons (pos : Int → Int) (p : Int) (z : Int × Int) (b : List (Int × Int)) (s : Int) : fw pos p (z :: b) s = fw pos p b (if pos z.1 < pos p then s + (1 + s - z.2) else s) := rfl
theorem wl_append (pos : Int → Int) : ∀ (a b : List Int) (acc : List (Int × Int)), wl pos acc (a ++ b) = wl pos (wl pos acc a) b
  | [], _, _ => rfl
  | p :: a, b, acc => wl_append pos a b _
theorem fw_congr {pos pos' : Int → Int} {p : Int} : ∀ {acc : List (Int × Int)} {s : Int}, (∀ z ∈ acc, pos' z.1 < pos' p ↔ pos z.1 < pos p) → fw pos' p acc s = fw pos p acc s
  | [], _, _ => rfl
  | z :: acc, s, h => by
    rw [fw_cons, fw_cons, fw_congr fun y hy => h y (List.mem_cons_of_mem _ hy)]
    have := h z List.mem_cons_self
    by_cases c : pos z.1 < pos p
    · rw [if_pos c, if_pos (this.mpr c)]
    · rw [if_neg c, if_neg fun q => c (this.mp q)]
/-- nobody of them ahead -/
theorem fw_none {pos : Int → Int} {p : Int} : ∀ {acc : List (Int × Int)} {s : Int}, (∀ z ∈ acc, ¬ pos z.1 < pos p) → fw pos p acc s = s
  | [], _, _ => rfl
  | z :: acc, s, h => by
    rw [fw_cons, if_neg (h z List.mem_cons_self)]
    exact fw_none fun y hy => h y (List.mem_cons_of_mem _ hy)
/-- the shorter ones' part: a wait less each, a move less -/
theorem fw_less {pos pos' : Int → Int} {p : Int} : ∀ {acc : List (Int × Int)} {s : Int}, (∀ z ∈ acc, pos' z.1 < pos' p ↔ pos z.1 < pos p) → fw pos' p (acc.map fun z => (z.1, z.2 - 1)) (s - 1) = fw pos p acc s - 1
  | [], _, _ => rfl
  | z :: acc, s, h => by
    rw [List.map_cons, fw_cons, fw_cons]
    have hz := h z List.mem_cons_self
    have ih := fun s => fw_less (acc := acc) (s := s) fun y hy => h y (List.mem_cons_of_mem _ hy)
    by_cases c : pos z.1 < pos p
    · rw [if_pos c, if_pos (hz.mpr c), ← ih]
      congr 1
      simp only
      omega
    · rw [if_neg c, if_neg fun q => c (hz.mp q), ih]
theorem wl_fst (pos : Int → Int) : ∀ (ps : List Int) (acc : List (Int × Int)), (wl pos acc ps).map (·.1) = acc.map (·.1) ++ ps
  | [], acc => by simp [wl]
  | p :: ps, acc => by
    show (wl pos (acc ++ [(p, fw pos p acc 0)]) ps).map (·.1) = _
    rw [wl_fst pos ps]; simp
/-- the taller ones' part: nothing changes -/
theorem wl_same {pos pos' : Int → Int} : ∀ (ps : List Int) (acc : List (Int × Int)), (∀ z ∈ acc.map (·.1) ++ ps, ∀ p ∈ ps, pos' z < pos' p ↔ pos z < pos p) → wl pos' acc ps = wl pos acc ps
  | [], acc, _ => rfl
  | p :: ps, acc, h => by
    show wl pos' (acc ++ [(p, fw pos' p acc 0)]) ps = wl pos (acc ++ [(p, fw pos p acc 0)]) ps
    rw [fw_congr (pos := pos) (pos' := pos') fun z hz => h z.1 (List.mem_append_left _ (List.mem_map.mpr ⟨z, hz, rfl⟩)) p List.mem_cons_self]
    exact wl_same ps _ fun z hz q hq => h z (by simpa using hz) q (List.mem_cons_of_mem _ hq)
/-- the shorter ones' part. A: the taller ones, x: the mover with the wait e behind the step -/
theorem wl_less {pos pos' : Int → Int} {x e : Int} {A : List (Int × Int)} : ∀ (ps : List Int) (B : List (Int × Int)),
    (∀ z ∈ B.map (·.1) ++ ps, ∀ p ∈ ps, pos' z < pos' p ↔ pos z < pos p) → (∀ z ∈ A, ∀ p ∈ ps, pos' z.1 < pos' p ↔ pos z.1 < pos p) → (∀ p ∈ ps, pos x < pos p) →
    (∀ p ∈ ps, (pos' x < pos' p ∧ e = 1) ∨ (¬ pos' x < pos' p ∧ ∀ z ∈ A, ¬ pos z.1 < pos p)) →
    ∃ C, wl pos (A ++ (x, 0) :: B) ps = A ++ (x, 0) :: (B ++ C) ∧ wl pos' (A ++ (x, e) :: B.map fun z => (z.1, z.2 - 1)) ps = A ++ (x, e) :: (B ++ C).map fun z => (z.1, z.2 - 1)
  | [], B, _, _, _, _ => ⟨[], by simp [wl], by simp [wl]⟩
  | p :: ps, B, h1, h2, h3, h4 => by
    have key : fw pos' p (A ++ (x, e) :: B.map fun z => (z.1, z.2 - 1)) 0 = fw pos p (A ++ (x, 0) :: B) 0 - 1 := by
      rw [fw_append, fw_append, fw_cons, fw_cons, if_pos (h3 p List.mem_cons_self), fw_congr (pos := pos) (pos' := pos') (p := p) (acc := A) fun z hz => h2 z hz p List.mem_cons_self]
      have hB : ∀ z ∈ B, pos' z.1 < pos' p ↔ pos z.1 < pos p := fun z hz => h1 z.1 (List.mem_append_left _ (List.mem_map.mpr ⟨z, hz, rfl⟩)) p List.mem_cons_self
      rw [← fw_less hB]
      congr 1
      rcases h4 p List.mem_cons_self with ⟨c, rfl⟩ | ⟨c, n⟩
      · rw [if_pos c]; simp only; omega
      · rw [if_neg c, fw_none n]; simp only; omega
    obtain ⟨C, q1, q2⟩ := wl_less ps (B ++ [(p, fw pos p (A ++ (x, 0) :: B) 0)]) (fun z hz q hq => h1 z (by simpa using hz) q (List.mem_cons_of_mem _ hq)) (fun z hz q hq => h2 z hz q (List.mem_cons_of_mem _ hq)) (fun q hq => h3 q (List.mem_cons_of_mem _ hq)) (fun q hq => h4 q (List.mem_cons_of_mem _ hq))
    refine ⟨(p, fw pos p (A ++ (x, 0) :: B) 0) :: C, ?_, ?_⟩
    · show wl pos ((A ++ (x, 0) :: B) ++ [(p, _)]) ps = _
      rw [List.append_assoc, List.cons_append, q1, List.append_assoc]; rfl
    · show wl pos' ((A ++ (x, e) :: B.map fun z => (z.1, z.2 - 1)) ++ [(p, _)]) ps = _
      rw [key, List.append_assoc, List.cons_append]
      rw [List.map_append] at q2
      simp only [List.map_cons, List.map_nil] at q2
      rw [q2, List.append_assoc]; rfl
end Mw
end
section
set_option linter.all false
namespace Mw
theorem wl_prefix (pos : Int → Int) : ∀ (ps : List Int) (acc : List (Int × Int)), ∃ R, wl pos acc ps = acc ++ R ∧ R.map (·.1) = ps
  | [], acc => ⟨[], by simp [wl], rfl⟩
  | p :: ps, acc => by
    obtain ⟨R, h1, h2⟩ := wl_prefix pos ps (acc ++ [(p, fw pos p acc 0)])
    exact ⟨(p, fw pos p acc 0) :: R, by show wl pos (acc ++ [(p, fw pos p acc 0)]) ps = _; rw [h1, List.append_assoc]; rfl, by rw [List.map_cons, h2]⟩
theorem wl_split (pos : Int → Int) (a b : List Int) (p : Int) (acc : List (Int × Int)) : ∃ R, wl pos acc (a ++ p :: b) = wl pos acc a ++ (p, fw pos p (wl pos acc a) 0) :: R ∧ R.map (·.1) = b := by
  obtain ⟨R, h1, h2⟩ := wl_prefix pos b (wl pos acc a ++ [(p, fw pos p (wl pos acc a) 0)])
  refine ⟨R, ?_, h2⟩
  rw [wl_append]
  show wl pos (wl pos acc a ++ [(p, fw pos p (wl pos acc a) 0)]) b = _
  rw [h1, List.append_assoc]; rfl
theorem wl_snoc (pos : Int → Int) (a : List Int) (p : Int) : wl pos [] (a ++ [p]) = wl pos [] a ++ [(p, fw pos p (wl pos [] a) 0)] := by
  rw [wl_append]; rfl
/-- further behind, longer waits -/
theorem fw_mono (pos : Int → Int) : ∀ (n : Nat) (ps : List Int), ps.length = n → (∀ z m : Int, pos z ≤ pos m → fw pos z (wl pos [] ps) 0 ≤ fw pos m (wl pos [] ps) 0) ∧ (∀ m : Int, 0 ≤ fw pos m (wl pos [] ps) 0) ∧ ∀ m y : Int, y ∈ ps → pos y < pos m → 1 ≤ fw pos m (wl pos [] ps) 0 := by
  intro n
  induction n with
  | zero =>
    intro ps h
    obtain rfl := List.length_eq_zero_iff.mp h
    exact ⟨fun z m _ => Int.le_refl _, fun m => Int.le_refl _, fun m y hy => by cases hy⟩
  | succ n ih =>
    intro ps h
    obtain ⟨a, p, rfl⟩ : ∃ a p, ps = a ++ [p] := by
      have hne : ps ≠ [] := fun z => by rw [z] at h; cases h
      exact ⟨ps.dropLast, ps.getLast hne, (List.dropLast_concat_getLast hne).symm⟩
    obtain ⟨i1, i2, i3⟩ := ih a (by simpa using h)
    have e : ∀ m, fw pos m (wl pos [] (a ++ [p])) 0 = if pos p < pos m then fw pos m (wl pos [] a) 0 + (1 + fw pos m (wl pos [] a) 0 - fw pos p (wl pos [] a) 0) else fw pos m (wl pos [] a) 0 := fun m => by
      rw [wl_snoc, fw_append, fw_cons]; rfl
    refine ⟨fun z m hzm => ?_, fun m => ?_, fun m y hy hym => ?_⟩
    · rw [e z, e m]
      have := i1 z m hzm
      by_cases c : pos p < pos z
      · rw [if_pos c, if_pos (by omega)]; omega
      · rw [if_neg c]
        by_cases c2 : pos p < pos m
        · rw [if_pos c2]; have := i1 p m (by omega); omega
        · rw [if_neg c2]; omega
    · rw [e m]
      have := i2 m
      by_cases c2 : pos p < pos m
      · rw [if_pos c2]; have := i1 p m (by omega); omega
      · rw [if_neg c2]; omega
    · rw [e m]
      have h0 := i2 m
      by_cases c2 : pos p < pos m
      · rw [if_pos c2]; have := i1 p m (by omega); omega
      · rw [if_neg c2]
        rcases List.mem_append.mp hy with hy | hy
        · exact i3 m y hy hym
        · rw [List.mem_singleton] at hy; subst hy; exact absurd hym c2
/-- what a step does to the places: x the mover, DA the taller ones, DB the shorter ones -/
structure Moved (pos pos' : Int → Int) (x : Int) (DA DB : List Int) : Prop where
  first : ∀ m ∈ DA ++ DB, pos x < pos m
  same : ∀ z ∈ DA ++ DB, ∀ m ∈ DA ++ DB, pos' z < pos' m ↔ pos z < pos m
  host : (DA = [] ∧ ∀ m ∈ DB, ¬ pos' x < pos' m) ∨ ∃ a z0 b, DA = a ++ z0 :: b ∧ (∀ z ∈ a ++ b, ¬ pos' z < pos' x) ∧ pos' z0 < pos' x ∧ (∀ z ∈ a, ¬ pos z < pos z0) ∧ ∀ m ∈ DB, pos' x < pos' m ∨ (¬ pos' x < pos' m ∧ ∀ z ∈ DA, ¬ pos z < pos m)
theorem step_waits {pos pos' : Int → Int} {x : Int} {DA DB : List Int} (M : Moved pos pos' x DA DB) : ∃ (A C : List (Int × Int)) (e : Int), A.map (·.1) = DA ∧ C.map (·.1) = DB ∧ wl pos [] (DA ++ x :: DB) = A ++ (x, 0) :: C ∧ wl pos' [] (DA ++ x :: DB) = A ++ (x, e) :: C.map (fun z => (z.1, z.2 - 1)) ∧ (DA = [] ∧ e = 0 ∨ DA ≠ [] ∧ e = 1) := by
  have hA : wl pos' [] DA = wl pos [] DA := wl_same DA [] fun z hz p hp => M.same z (List.mem_append_left _ (by simpa using hz)) p (List.mem_append_left _ hp)
  have fA : (wl pos [] DA).map (·.1) = DA := by rw [wl_fst]; rfl
  have memA : ∀ z ∈ wl pos [] DA, z.1 ∈ DA := fun z hz => by rw [← fA]; exact List.mem_map.mpr ⟨z, hz, rfl⟩
  have x0 : fw pos x (wl pos [] DA) 0 = 0 := fw_none fun z hz => by
    have := M.first z.1 (List.mem_append_left _ (memA z hz))
    omega
  have go : ∀ e, fw pos' x (wl pos [] DA) 0 = e → (∀ p ∈ DB, (pos' x < pos' p ∧ e = 1) ∨ (¬ pos' x < pos' p ∧ ∀ z ∈ wl pos [] DA, ¬ pos z.1 < pos p)) → (DA = [] ∧ e = 0 ∨ DA ≠ [] ∧ e = 1) →
      ∃ (A C : List (Int × Int)) (e : Int), A.map (·.1) = DA ∧ C.map (·.1) = DB ∧ wl pos [] (DA ++ x :: DB) = A ++ (x, 0) :: C ∧ wl pos' [] (DA ++ x :: DB) = A ++ (x, e) :: C.map (fun z => (z.1, z.2 - 1)) ∧ (DA = [] ∧ e = 0 ∨ DA ≠ [] ∧ e = 1) := fun e he h4 h5 => by
    obtain ⟨C, q1, q2⟩ := wl_less (pos := pos) (pos' := pos') (x := x) (e := e) (A := wl pos [] DA) DB [] (fun z hz p hp => M.same z (List.mem_append_right _ (by simpa using hz)) p (List.mem_append_right _ hp))
      (fun z hz p hp => M.same z.1 (List.mem_append_left _ (memA z hz)) p (List.mem_append_right _ hp)) (fun p hp => M.first p (List.mem_append_right _ hp)) h4
    have w1 : wl pos [] (DA ++ x :: DB) = wl pos [] DA ++ (x, 0) :: C := by
      rw [wl_append]
      show wl pos (wl pos [] DA ++ [(x, fw pos x (wl pos [] DA) 0)]) DB = _
      rw [x0]; simpa using q1
    refine ⟨wl pos [] DA, C, e, fA, ?_, w1, ?_, h5⟩
    · have h := wl_fst pos (DA ++ x :: DB) []
      rw [w1, List.map_append, fA] at h
      simpa using h
    · rw [wl_append, hA]
      show wl pos' (wl pos [] DA ++ [(x, fw pos' x (wl pos [] DA) 0)]) DB = _
      rw [he]; simpa using q2
  rcases M.host with ⟨rfl, h⟩ | ⟨a, z0, b, hD, h1, h2, h3, h4⟩
  · exact go 0 rfl (fun p hp => .inr ⟨h p hp, fun z hz => by cases hz⟩) (.inl ⟨rfl, rfl⟩)
  · have hne : DA ≠ [] := by rw [hD]; simp
    refine go 1 ?_ (fun p hp => ?_) (.inr ⟨hne, rfl⟩)
    · obtain ⟨R, r1, r2⟩ := wl_split pos a b z0 []
      have fa : (wl pos [] a).map (·.1) = a := by rw [wl_fst]; rfl
      have ma : ∀ z ∈ wl pos [] a, z.1 ∈ a := fun z hz => by rw [← fa]; exact List.mem_map.mpr ⟨z, hz, rfl⟩
      have mr : ∀ z ∈ R, z.1 ∈ b := fun z hz => by rw [← r2]; exact List.mem_map.mpr ⟨z, hz, rfl⟩
      have w0 : fw pos z0 (wl pos [] a) 0 = 0 := fw_none fun z hz => h3 z.1 (ma z hz)
      rw [hD, r1, w0, fw_append, fw_none fun z hz => h1 z.1 (List.mem_append_left _ (ma z hz)), fw_cons, if_pos h2, fw_none fun z hz => h1 z.1 (List.mem_append_right _ (mr z hz))]
      rfl
    · rcases h4 p hp with c | ⟨c, n⟩
      · exact .inl ⟨c, rfl⟩
      · exact .inr ⟨c, fun z hz => n z.1 (memA z hz)⟩
end Mw
end
section
set_option linter.all false
namespace Mw
/-- the first one goes behind the first taller one -/
def insQ (x : Int) : List Int → List Int
  | [] => [x]
  | y :: ys => if x < y then y :: x :: ys else y :: insQ x ys
def pos (q : List Int) (z : Int) : Int := (q.idxOf z : Nat)
theorem insQ_cases (x : Int) : ∀ xs : List Int, ((∀ y ∈ xs, ¬ x < y) ∧ insQ x xs = xs ++ [x]) ∨ ∃ l z0 r, xs = l ++ z0 :: r ∧ (∀ y ∈ l, ¬ x < y) ∧ x < z0 ∧ insQ x xs = l ++ z0 :: x :: r
  | [] => .inl ⟨fun y hy => (by cases hy), rfl⟩
  | y :: ys => by
    by_cases c : x < y
    · exact .inr ⟨[], y, ys, rfl, fun y hy => (by cases hy), c, by show (if x < y then _ else _) = _; rw [if_pos c]; rfl⟩
    · have e : insQ x (y :: ys) = y :: insQ x ys := by show (if x < y then _ else _) = _; rw [if_neg c]
      rcases insQ_cases x ys with ⟨h1, h2⟩ | ⟨l, z0, r, h1, h2, h3, h4⟩
      · exact .inl ⟨fun z hz => by rcases List.mem_cons.mp hz with rfl | hz; exact c; exact h1 z hz, by rw [e, h2]; rfl⟩
      · exact .inr ⟨y :: l, z0, r, by rw [h1]; rfl, fun z hz => by rcases List.mem_cons.mp hz with rfl | hz; exact c; exact h2 z hz, h3, by rw [e, h4]; rfl⟩
theorem pos_append (a b : List Int) (z : Int) : pos (a ++ b) z = if z ∈ a then pos a z else (a.length : Int) + pos b z := by
  unfold pos
  rw [List.idxOf_append]
  split
  · rfl
  · omega
theorem pos_cons_ne {x z : Int} (q : List Int) (h : z ≠ x) : pos (x :: q) z = pos q z + 1 := by
  unfold pos
  rw [List.idxOf_cons]
  have : (x == z) = false := by simp; exact fun e => h e.symm
  rw [this]; simp
theorem pos_cons_self (x : Int) (q : List Int) : pos (x :: q) x = 0 := by
  unfold pos; rw [List.idxOf_cons]; simp
theorem pos_lt {a : List Int} {z : Int} (h : z ∈ a) : pos a z < a.length := by
  unfold pos
  have := List.idxOf_lt_length_iff.mpr h
  omega
theorem pos_nn (a : List Int) (z : Int) : 0 ≤ pos a z := by unfold pos; omega
theorem moved {x : Int} {xs DA DB : List Int} (hn : (x :: xs).Nodup) (hp : (DA ++ x :: DB).Perm (x :: xs)) (hA : ∀ z ∈ DA, x < z) (hB : ∀ z ∈ DB, z < x) : Moved (pos (x :: xs)) (pos (insQ x xs)) x DA DB := by
  obtain ⟨nx, nxs⟩ := List.nodup_cons.mp hn
  have hp2 : (DA ++ DB).Perm xs := (List.perm_middle.symm.trans hp).cons_inv
  have mem : ∀ z ∈ DA ++ DB, z ∈ xs := fun z hz => hp2.mem_iff.mp hz
  have ne : ∀ z ∈ DA ++ DB, z ≠ x := fun z hz e => nx (e ▸ mem z hz)
  have nd : (DA ++ DB).Nodup := hp2.nodup_iff.mpr nxs
  have f1 : ∀ m ∈ DA ++ DB, pos (x :: xs) m = pos xs m + 1 := fun m hm => pos_cons_ne xs (ne m hm)
  have first : ∀ m ∈ DA ++ DB, pos (x :: xs) x < pos (x :: xs) m := fun m hm => by
    rw [f1 m hm, pos_cons_self]; have := pos_nn xs m; omega
  rcases insQ_cases x xs with ⟨h1, h2⟩ | ⟨l, z0, r, h1, h2, h3, h4⟩
  · have e' : ∀ m ∈ DA ++ DB, pos (insQ x xs) m = pos xs m := fun m hm => by rw [h2, pos_append, if_pos (mem m hm)]
    have ex : pos (insQ x xs) x = xs.length := by rw [h2, pos_append, if_neg nx, pos_cons_self]; omega
    have dA : DA = [] := by
      cases DA with
      | nil => rfl
      | cons z DA => exact absurd (hA z List.mem_cons_self) (h1 z (mem z (by simp)))
    refine ⟨first, fun z hz m hm => by rw [e' z hz, e' m hm, f1 z hz, f1 m hm]; omega, .inl ⟨dA, fun m hm => ?_⟩⟩
    rw [ex, e' m (List.mem_append_right _ hm)]
    have := pos_lt (mem m (List.mem_append_right _ hm))
    omega
  · have e0 : xs = (l ++ [z0]) ++ r := by rw [h1]; simp
    have e1 : insQ x xs = (l ++ [z0]) ++ x :: r := by rw [h4]; simp
    have nL : x ∉ l ++ [z0] := fun h => nx (by rw [e0]; exact List.mem_append_left _ h)
    have ex : pos (insQ x xs) x = (l ++ [z0]).length := by rw [e1, pos_append, if_neg nL, pos_cons_self]; omega
    have pin : ∀ m, m ∈ l ++ [z0] → pos xs m = pos (l ++ [z0]) m ∧ pos (insQ x xs) m = pos (l ++ [z0]) m := fun m hm => ⟨by rw [e0, pos_append, if_pos hm], by rw [e1, pos_append, if_pos hm]⟩
    have pout : ∀ m ∈ DA ++ DB, m ∉ l ++ [z0] → pos xs m = (l ++ [z0]).length + pos r m ∧ pos (insQ x xs) m = (l ++ [z0]).length + (pos r m + 1) := fun m hm h => ⟨by rw [e0, pos_append, if_neg h], by rw [e1, pos_append, if_neg h, pos_cons_ne r (ne m hm)]⟩
    have same : ∀ z ∈ DA ++ DB, ∀ m ∈ DA ++ DB, pos (insQ x xs) z < pos (insQ x xs) m ↔ pos (x :: xs) z < pos (x :: xs) m := fun z hz m hm => by
      rw [f1 z hz, f1 m hm]
      by_cases c : z ∈ l ++ [z0]
      · obtain ⟨a1, a2⟩ := pin z c
        have la := pos_lt c
        by_cases d : m ∈ l ++ [z0]
        · obtain ⟨b1, b2⟩ := pin m d; omega
        · obtain ⟨b1, b2⟩ := pout m hm d; have := pos_nn r m; omega
      · obtain ⟨a1, a2⟩ := pout z hz c
        have la := pos_nn r z
        by_cases d : m ∈ l ++ [z0]
        · obtain ⟨b1, b2⟩ := pin m d; have := pos_lt d; omega
        · obtain ⟨b1, b2⟩ := pout m hm d; omega
    have mz : z0 ∈ DA ++ DB := hp2.mem_iff.mpr (by rw [h1]; simp)
    have zA : z0 ∈ DA := by
      rcases List.mem_append.mp mz with h | h
      · exact h
      · have := hB z0 h; omega
    obtain ⟨a, b, hD⟩ := List.append_of_mem zA
    have ndA : DA.Nodup := (List.nodup_append.mp nd).1
    have nz : ∀ z ∈ a ++ b, z ≠ z0 := fun z hz e => by
      rw [hD] at ndA
      have := (List.perm_middle (a := z0) (l₁ := a) (l₂ := b)).nodup_iff.mp ndA
      exact (List.nodup_cons.mp this).1 (e ▸ hz)
    have outA : ∀ z ∈ DA, z ≠ z0 → z ∉ l ++ [z0] := fun z hz hne h => by
      rcases List.mem_append.mp h with h | h
      · exact h2 z h (hA z hz)
      · exact hne (List.mem_singleton.mp h)
    have sub : ∀ z ∈ a ++ b, z ∈ DA := fun z hz => by
      rw [hD]
      rcases List.mem_append.mp hz with h | h
      · exact List.mem_append_left _ h
      · exact List.mem_append_right _ (List.mem_cons_of_mem _ h)
    have z0l : z0 ∉ l := fun h => h2 z0 h h3
    have pz : pos (l ++ [z0]) z0 = l.length := by rw [pos_append, if_neg z0l, pos_cons_self]; omega
    have zL : z0 ∈ l ++ [z0] := by simp
    have hlen : ((l ++ [z0]).length : Int) = l.length + 1 := by simp
    refine ⟨first, same, .inr ⟨a, z0, b, hD, fun z hz => ?_, ?_, fun z hz => ?_, fun m hm => ?_⟩⟩
    · obtain ⟨_, q⟩ := pout z (List.mem_append_left _ (sub z hz)) (outA z (sub z hz) (nz z hz))
      have := pos_nn r z; omega
    · obtain ⟨_, q⟩ := pin z0 zL; omega
    · have hz' : z ∈ a ++ b := List.mem_append_left _ hz
      rw [f1 z (List.mem_append_left _ (sub z hz')), f1 z0 mz]
      obtain ⟨q1, _⟩ := pout z (List.mem_append_left _ (sub z hz')) (outA z (sub z hz') (nz z hz'))
      obtain ⟨q2, _⟩ := pin z0 zL
      have := pos_nn r z; omega
    · have hm' : m ∈ DA ++ DB := List.mem_append_right _ hm
      by_cases c : m ∈ l ++ [z0]
      · right
        obtain ⟨q1, q2⟩ := pin m c
        have ml : m ∈ l := by
          rcases List.mem_append.mp c with h | h
          · exact h
          · rw [List.mem_singleton] at h; subst h; have := hB m hm; omega
        have pm : pos (l ++ [z0]) m < l.length := by rw [pos_append, if_pos ml]; exact pos_lt ml
        refine ⟨by omega, fun z hz => ?_⟩
        rw [f1 z (List.mem_append_left _ hz), f1 m hm']
        by_cases ez : z = z0
        · subst ez; obtain ⟨q3, _⟩ := pin z zL; omega
        · obtain ⟨q3, _⟩ := pout z (List.mem_append_left _ hz) (outA z hz ez); have := pos_nn r z; omega
      · left
        obtain ⟨_, q2⟩ := pout m hm' c
        have := pos_nn r m; omega
end Mw
end
section
set_option linter.all false
namespace Mw
/-- the step of a move, from its number among the moves of the person and the taller ones -/
def gs (p : Int) (acc : List (Int × Int)) (s : Int) : Int := acc.foldl (fun s z => if z.1 < p ∧ z.2 < s then s + (s - z.2) else s) s
def lk : List (Int × Int) → Int → Int
  | [], _ => 0
  | (z, w) :: r, p => if z = p then w else lk r p
theorem gs_append (p : Int) (a b : List (Int × Int)) (s : Int) : gs p (a ++ b) s = gs p b (gs p a s) := by unfold gs; rw [List.foldl_append]
theorem gs_cons (p : Int) (z : Int × Int) (b : List (Int × Int)) (s : Int) : gs p (z :: b) s = gs p b (if z.1 < p ∧ z.2 < s then s + (s - z.2) else s) := rfl
theorem gs_ge (p : Int) : ∀ (acc : List (Int × Int)) (s : Int), s ≤ gs p acc s
  | [], s => Int.le_refl _
  | z :: acc, s => by
    rw [gs_cons]
    refine Int.le_trans ?_ (gs_ge p acc _)
    split <;> omega
theorem gs_none {p : Int} : ∀ {acc : List (Int × Int)} {s : Int}, (∀ z ∈ acc, ¬ z.1 < p) → gs p acc s = s
  | [], _, _ => rfl
  | z :: acc, s, h => by
    rw [gs_cons, if_neg fun q => h z List.mem_cons_self q.1]
    exact gs_none fun y hy => h y (List.mem_cons_of_mem _ hy)
theorem gs_one {p : Int} : ∀ {acc : List (Int × Int)}, (∀ z ∈ acc, z.1 < p → 1 ≤ z.2) → gs p acc 1 = 1
  | [], _ => rfl
  | z :: acc, h => by
    rw [gs_cons, if_neg fun q => by have := h z List.mem_cons_self q.1; omega]
    exact gs_one fun y hy => h y (List.mem_cons_of_mem _ hy)
/-- all waits a move less, and the move a move less -/
theorem gs_less_any {p : Int} : ∀ {acc : List (Int × Int)} {s : Int}, gs p (acc.map fun z => (z.1, z.2 - 1)) (s - 1) = gs p acc s - 1
  | [], _ => rfl
  | z :: acc, s => by
    rw [List.map_cons, gs_cons, gs_cons]
    have ih := fun s => gs_less_any (p := p) (acc := acc) (s := s)
    rw [← ih]
    congr 1
    simp only
    by_cases hz : z.1 < p
    · by_cases c : z.2 < s
      · rw [if_pos ⟨hz, (by omega : z.2 - 1 < s - 1)⟩, if_pos ⟨hz, c⟩]; omega
      · rw [if_neg fun q => (by have := q.2; omega : False), if_neg fun q => c q.2]
    · rw [if_neg fun q => hz q.1, if_neg fun q => hz q.1]
theorem lk_in {p : Int} : ∀ {a b : List (Int × Int)}, p ∈ a.map (·.1) → lk (a ++ b) p = lk a p
  | [], b, h => by cases h
  | (z, w) :: a, b, h => by
    show (if z = p then w else lk (a ++ b) p) = if z = p then w else lk a p
    by_cases e : z = p
    · rw [if_pos e, if_pos e]
    · rw [if_neg e, if_neg e]
      exact lk_in (by rcases List.mem_cons.mp h with q | q; exact absurd q.symm e; exact q)
theorem lk_out {p : Int} : ∀ {a b : List (Int × Int)}, p ∉ a.map (·.1) → lk (a ++ b) p = lk b p
  | [], b, h => rfl
  | (z, w) :: a, b, h => by
    show (if z = p then w else lk (a ++ b) p) = _
    rw [if_neg fun e => h (by rw [List.map_cons]; exact e ▸ List.mem_cons_self)]
    exact lk_out fun q => h (List.mem_cons_of_mem _ q)
theorem lk_map {p : Int} : ∀ {a : List (Int × Int)}, p ∈ a.map (·.1) → lk (a.map fun z => (z.1, z.2 - 1)) p = lk a p - 1
  | [], h => by cases h
  | (z, w) :: a, h => by
    show (if z = p then w - 1 else lk (a.map fun z => (z.1, z.2 - 1)) p) = (if z = p then w else lk a p) - 1
    by_cases e : z = p
    · rw [if_pos e, if_pos e]
    · rw [if_neg e, if_neg e]
      exact lk_map (by rcases List.mem_cons.mp h with q | q; exact absurd q.symm e; exact q)
/-- each entry is a walk over the taller ones -/
theorem wl_entry (pos : Int → Int) {ps : List Int} {z : Int × Int} (h : z ∈ wl pos [] ps) : ∃ a b, ps = a ++ z.1 :: b ∧ z.2 = fw pos z.1 (wl pos [] a) 0 := by
  obtain ⟨X, Y, e⟩ := List.append_of_mem h
  have hf := wl_fst pos ps []
  rw [e] at hf
  simp at hf
  obtain ⟨R, r1, r2⟩ := wl_split pos (X.map (·.1)) (Y.map (·.1)) z.1 []
  rw [← hf] at e
  rw [hf] at e
  have e2 : wl pos [] ps = wl pos [] (X.map (·.1)) ++ (z.1, fw pos z.1 (wl pos [] (X.map (·.1))) 0) :: R := by rw [← hf]; exact r1
  rw [e] at e2
  have hl : X.length = (wl pos [] (X.map (·.1))).length := by
    have := congrArg List.length (wl_fst pos (X.map (·.1)) [])
    simp at this
    exact this.symm
  obtain ⟨_, q⟩ := List.append_inj e2 hl
  injection q with q1 q2
  exact ⟨X.map (·.1), Y.map (·.1), hf.symm, by rw [q1]⟩
end Mw
end
section
set_option linter.all false
namespace Mw
theorem lk_mem {p : Int} : ∀ {a : List (Int × Int)}, p ∈ a.map (·.1) → (p, lk a p) ∈ a
  | [], h => by cases h
  | (z, w) :: a, h => by
    show (p, if z = p then w else lk a p) ∈ _
    by_cases e : z = p
    · rw [if_pos e, e]; exact List.mem_cons_self
    · rw [if_neg e]
      exact List.mem_cons_of_mem _ (lk_mem (by rcases List.mem_cons.mp h with q | q; exact absurd q.symm e; exact q))
/-- how often taller persons move before p is first in front -/
def waitOf (q D : List Int) (p : Int) : Int := lk (wl (pos q) [] D) p
/-- the step in which p moves first -/
def stepOf (q D : List Int) (p : Int) : Int := gs p (wl (pos q) [] D) (waitOf q D p + 1)
theorem waitOf_nn {q D : List Int} {p : Int} (h : p ∈ D) : 0 ≤ waitOf q D p := by
  have m := lk_mem (a := wl (pos q) [] D) (p := p) (by rw [wl_fst]; simpa using h)
  obtain ⟨a, b, e, w⟩ := wl_entry (pos q) m
  show 0 ≤ (p, lk (wl (pos q) [] D) p).2
  rw [w]
  exact (fw_mono (pos q) a.length a rfl).2.1 _
theorem stepOf_ge {q D : List Int} {p : Int} (h : p ∈ D) : waitOf q D p + 1 ≤ stepOf q D p := gs_ge _ _ _
section
variable {x : Int} {xs DA DB : List Int} (hn : (x :: xs).Nodup) (hp : (DA ++ x :: DB).Perm (x :: xs)) (hA : ∀ z ∈ DA, x < z) (hB : ∀ z ∈ DB, z < x)
include hn hp hA hB
theorem at_front : waitOf (x :: xs) (DA ++ x :: DB) x = 0 ∧ stepOf (x :: xs) (DA ++ x :: DB) x = 1 := by
  obtain ⟨A, C, e, fA, fC, w1, w2, he⟩ := step_waits (moved hn hp hA hB)
  have l0 : waitOf (x :: xs) (DA ++ x :: DB) x = 0 := by
    unfold waitOf
    rw [w1, lk_out (by rw [fA]; exact fun h => by have := hA x h; omega)]
    show (if x = x then (0 : Int) else _) = 0
    rw [if_pos rfl]
  refine ⟨l0, ?_⟩
  unfold stepOf
  rw [l0]
  refine gs_one fun z hz hzx => ?_
  obtain ⟨a, b, e1, e2⟩ := wl_entry _ hz
  rw [e2]
  have nd : (DA ++ x :: DB).Nodup := hp.nodup_iff.mpr hn
  have zB : z.1 ∈ DB := by
    have : z.1 ∈ DA ++ x :: DB := by rw [e1]; simp
    rcases List.mem_append.mp this with h | h
    · have := hA _ h; omega
    · rcases List.mem_cons.mp h with h | h
      · omega
      · exact h
  have xa : x ∈ a := by
    -- what stands behind z is shorter
    obtain ⟨b1, b2, eB⟩ := List.append_of_mem zB
    have e3 : (DA ++ x :: b1) ++ z.1 :: b2 = a ++ z.1 :: b := by rw [← e1, eB]; simp
    have nd2 : ((DA ++ x :: b1) ++ z.1 :: b2).Nodup := by rw [e3, ← e1]; exact nd
    have i1 : ((DA ++ x :: b1) ++ z.1 :: b2).idxOf z.1 = (DA ++ x :: b1).length := by
      rw [List.idxOf_append, if_neg fun h => (List.nodup_append.mp nd2).2.2 _ h _ List.mem_cons_self rfl]; simp
    have i2 : (a ++ z.1 :: b).idxOf z.1 = a.length := by
      rw [List.idxOf_append, if_neg fun h => (List.nodup_append.mp (e1 ▸ nd)).2.2 _ h _ List.mem_cons_self rfl]; simp
    rw [e3] at i1
    obtain ⟨r, _⟩ := List.append_inj e3 (by omega)
    rw [← r]; simp
  refine (fw_mono (pos (x :: xs)) a.length a rfl).2.2 _ x xa ?_
  have zx : z.1 ∈ x :: xs := hp.mem_iff.mp (by simp [zB])
  have := (moved hn hp hA hB).first z.1 (List.mem_append_right _ zB)
  exact this
theorem over_step {p : Int} (hpD : p ∈ DA ++ DB) : waitOf (insQ x xs) (DA ++ x :: DB) p = (if x < p then waitOf (x :: xs) (DA ++ x :: DB) p else waitOf (x :: xs) (DA ++ x :: DB) p - 1) ∧ stepOf (insQ x xs) (DA ++ x :: DB) p = stepOf (x :: xs) (DA ++ x :: DB) p - 1 := by
  have wnn := waitOf_nn (q := x :: xs) (D := DA ++ x :: DB) (p := p) (by rcases List.mem_append.mp hpD with h | h; exact List.mem_append_left _ h; exact List.mem_append_right _ (List.mem_cons_of_mem _ h))
  obtain ⟨A, C, e, fA, fC, w1, w2, he⟩ := step_waits (moved hn hp hA hB)
  unfold stepOf
  rcases List.mem_append.mp hpD with h | h
  · have xp := hA p h
    have hne : DA ≠ [] := fun z => by rw [z] at h; cases h
    have e1 : e = 1 := by rcases he with ⟨q, _⟩ | ⟨_, q⟩; exact absurd q hne; exact q
    subst e1
    have lw : waitOf (insQ x xs) (DA ++ x :: DB) p = waitOf (x :: xs) (DA ++ x :: DB) p := by
      unfold waitOf
      rw [w1, w2, lk_in (by rw [fA]; exact h), lk_in (by rw [fA]; exact h)]
    rw [if_pos xp, lw]
    refine ⟨rfl, ?_⟩
    rw [w1, w2, gs_append, gs_append, gs_cons, gs_cons]
    generalize hw : waitOf (x :: xs) (DA ++ x :: DB) p = w at wnn ⊢
    have s1 : 1 ≤ gs p A (w + 1) := Int.le_trans (by omega) (gs_ge p A (w + 1))
    generalize gs p A (w + 1) = s at s1 ⊢
    rw [← gs_less_any]
    congr 1
    simp only
    by_cases c : (1 : Int) < s
    · rw [if_pos ⟨xp, c⟩, if_pos ⟨xp, (by omega : (0 : Int) < s)⟩]; omega
    · rw [if_neg fun q => c q.2, if_pos ⟨xp, (by omega : (0 : Int) < s)⟩]; omega
  · have px := hB p h
    have nA : p ∉ A.map (·.1) := by rw [fA]; exact fun q => by have := hA p q; omega
    have lw : waitOf (insQ x xs) (DA ++ x :: DB) p = waitOf (x :: xs) (DA ++ x :: DB) p - 1 := by
      unfold waitOf
      rw [w1, w2, lk_out nA, lk_out nA]
      show (if x = p then e else lk (C.map fun z => (z.1, z.2 - 1)) p) = (if x = p then (0 : Int) else lk C p) - 1
      rw [if_neg (by omega), if_neg (by omega), lk_map (by rw [fC]; exact h)]
    rw [if_neg (by omega), lw]
    refine ⟨rfl, ?_⟩
    have gA : ∀ s, gs p A s = s := fun s => gs_none fun z hz hzp => by
      have := hA z.1 (by rw [← fA]; exact List.mem_map.mpr ⟨z, hz, rfl⟩); omega
    rw [w1, w2, gs_append, gs_append, gA, gA, gs_cons, gs_cons, if_neg fun q => by have := q.1; simp only at this; omega, if_neg fun q => by have := q.1; simp only at this; omega]
    rw [← gs_less_any]
    congr 1
    omega
end
end Mw
end
section
set_option linter.all false
namespace Mw
theorem entry_nn {ps : List Int} {q : List Int} {z : Int × Int} (h : z ∈ wl (pos q) [] ps) : 0 ≤ z.2 := by
  obtain ⟨a, b, e, w⟩ := wl_entry (pos q) h
  rw [w]
  exact (fw_mono (pos q) a.length a rfl).2.1 _
theorem fw_le (pos : Int → Int) (p : Int) : ∀ (acc : List (Int × Int)) (s : Int), 0 ≤ s → (∀ z ∈ acc, 0 ≤ z.2) → fw pos p acc s + 1 ≤ 2 ^ acc.length * (s + 1)
  | [], s, _, _ => by show s + 1 ≤ 2 ^ 0 * (s + 1); simp
  | z :: acc, s, hs, h => by
    rw [fw_cons, List.length_cons]
    have hz := h z List.mem_cons_self
    have h' : ∀ y ∈ acc, 0 ≤ y.2 := fun y hy => h y (List.mem_cons_of_mem _ hy)
    have pw : (0 : Int) < 2 ^ acc.length := Int.pow_pos (by omega)
    have e : (2 : Int) ^ (acc.length + 1) * (s + 1) = 2 ^ acc.length * (2 * (s + 1)) := by rw [Int.pow_succ, Int.mul_assoc]
    rw [e]
    by_cases c : pos z.1 < pos p
    · rw [if_pos c]
      by_cases c2 : 0 ≤ s + (1 + s - z.2)
      · exact Int.le_trans (fw_le pos p acc _ c2 h') (Int.mul_le_mul_of_nonneg_left (by omega) (by omega))
      · -- cannot be below: smaller starts give smaller ends
        have mono : ∀ (acc : List (Int × Int)) (a b : Int), a ≤ b → fw pos p acc a ≤ fw pos p acc b := fun acc => by
          induction acc with
          | nil => intro a b h; exact h
          | cons y acc ih =>
            intro a b hab
            rw [fw_cons, fw_cons]
            split
            · exact ih _ _ (by omega)
            · exact ih _ _ hab
        have k := mono acc (s + (1 + s - z.2)) 0 (by omega)
        have k2 := fw_le pos p acc 0 (by omega) h'
        have k3 : (2 : Int) ^ acc.length * (0 + 1) ≤ 2 ^ acc.length * (2 * (s + 1)) := Int.mul_le_mul_of_nonneg_left (by omega) (by omega)
        omega
    · rw [if_neg c]
      exact Int.le_trans (fw_le pos p acc s hs h') (Int.mul_le_mul_of_nonneg_left (by omega) (by omega))
theorem gs_le (p : Int) : ∀ (acc : List (Int × Int)) (s : Int), 1 ≤ s → (∀ z ∈ acc, 0 ≤ z.2) → gs p acc s ≤ 2 ^ acc.length * s
  | [], s, _, _ => by show s ≤ 2 ^ 0 * s; simp
  | z :: acc, s, hs, h => by
    rw [gs_cons, List.length_cons]
    have hz := h z List.mem_cons_self
    have pw : (0 : Int) < 2 ^ acc.length := Int.pow_pos (by omega)
    have e : (2 : Int) ^ (acc.length + 1) * s = 2 ^ acc.length * (2 * s) := by rw [Int.pow_succ, Int.mul_assoc]
    rw [e]
    refine Int.le_trans (gs_le p acc _ ?_ fun y hy => h y (List.mem_cons_of_mem _ hy)) (Int.mul_le_mul_of_nonneg_left ?_ (by omega))
    · split <;> omega
    · split <;> omega
/-- everybody moves within 2 ^ (n - 1) steps -/
theorem stepOf_le {q a b : List Int} {p : Int} (hA : ∀ z ∈ a, p < z) (hd : p ∉ a) : stepOf q (a ++ p :: b) p ≤ 2 ^ (a.length + b.length) := by
  obtain ⟨R, r1, r2⟩ := wl_split (pos q) a b p []
  have fa : (wl (pos q) [] a).map (·.1) = a := by rw [wl_fst]; rfl
  have la : (wl (pos q) [] a).length = a.length := by rw [← List.length_map (f := fun z : Int × Int => z.1), fa]
  have lR : R.length = b.length := by rw [← r2, List.length_map]
  have w : waitOf q (a ++ p :: b) p = fw (pos q) p (wl (pos q) [] a) 0 := by
    unfold waitOf
    rw [r1, lk_out (by rw [fa]; exact hd)]
    show (if p = p then _ else _) = _
    rw [if_pos rfl]
  unfold stepOf
  rw [w]
  have hw := fw_le (pos q) p (wl (pos q) [] a) 0 (by omega) fun z hz => entry_nn hz
  have hw0 := (fw_mono (pos q) a.length a rfl).2.1 p
  rw [la] at hw
  generalize fw (pos q) p (wl (pos q) [] a) 0 = v at hw hw0 r1 ⊢
  have all : ∀ z ∈ wl (pos q) [] (a ++ p :: b), 0 ≤ z.2 := fun z hz => entry_nn hz
  rw [r1] at all ⊢
  have gA : ∀ s, gs p (wl (pos q) [] a) s = s := fun s => gs_none fun z hz hzp => by have := hA z.1 (by rw [← fa]; exact List.mem_map.mpr ⟨z, hz, rfl⟩); omega
  rw [gs_append, gA, gs_cons, if_neg fun q => by have := q.1; simp only at this; omega]
  have k := gs_le p R (v + 1) (by omega) fun z hz => all z (List.mem_append_right _ (List.mem_cons_of_mem _ hz))
  rw [lR] at k
  have pw : (0 : Int) < 2 ^ b.length := Int.pow_pos (by omega)
  refine Int.le_trans k (Int.le_trans (Int.mul_le_mul_of_nonneg_left (show v + 1 ≤ 2 ^ a.length by omega) (by omega)) ?_)
  rw [Nat.add_comm, Int.pow_add]
  exact Int.le_refl _
end Mw
end
section
set_option linter.all false
namespace Mw
/-- any move of p: its step comes one nearer with each step -/
theorem any_step {x : Int} {xs DA DB : List Int} (hn : (x :: xs).Nodup) (hp : (DA ++ x :: DB).Perm (x :: xs)) (hA : ∀ z ∈ DA, x < z) (hB : ∀ z ∈ DB, z < x) {p s : Int} (hpD : p ∈ DA ++ x :: DB) (hs : 1 ≤ s) :
    gs p (wl (pos (insQ x xs)) [] (DA ++ x :: DB)) (if x < p then s else s - 1) = gs p (wl (pos (x :: xs)) [] (DA ++ x :: DB)) s - 1 := by
  obtain ⟨A, C, e, fA, fC, w1, w2, he⟩ := step_waits (moved hn hp hA hB)
  have gA : ∀ s, ¬ x < p → gs p A s = s := fun s c => gs_none fun z hz hzp => by
    have := hA z.1 (by rw [← fA]; exact List.mem_map.mpr ⟨z, hz, rfl⟩); omega
  by_cases c : x < p
  · have h : p ∈ DA := by
      rcases List.mem_append.mp hpD with h | h
      · exact h
      · rcases List.mem_cons.mp h with h | h
        · omega
        · have := hB p h; omega
    have hne : DA ≠ [] := fun z => by rw [z] at h; cases h
    have e1 : e = 1 := by rcases he with ⟨q, _⟩ | ⟨_, q⟩; exact absurd q hne; exact q
    subst e1
    rw [if_pos c, w1, w2, gs_append, gs_append, gs_cons, gs_cons]
    have s1 : 1 ≤ gs p A s := Int.le_trans hs (gs_ge p A s)
    generalize gs p A s = s at s1 ⊢
    rw [← gs_less_any]
    congr 1
    simp only
    by_cases d : (1 : Int) < s
    · rw [if_pos ⟨c, d⟩, if_pos ⟨c, (by omega : (0 : Int) < s)⟩]; omega
    · rw [if_neg fun q => d q.2, if_pos ⟨c, (by omega : (0 : Int) < s)⟩]; omega
  · rw [if_neg c, w1, w2, gs_append, gs_append, gA _ c, gA _ c, gs_cons, gs_cons, if_neg fun q => by have := q.1; simp only at this; omega, if_neg fun q => by have := q.1; simp only at this; omega]
    exact gs_less_any
/-- the mover's wait behind its step: one, or none if it is the tallest -/
theorem mover_wait {x : Int} {xs DA DB : List Int} (hn : (x :: xs).Nodup) (hp : (DA ++ x :: DB).Perm (x :: xs)) (hA : ∀ z ∈ DA, x < z) (hB : ∀ z ∈ DB, z < x) : waitOf (insQ x xs) (DA ++ x :: DB) x = if DA = [] then 0 else 1 := by
  obtain ⟨A, C, e, fA, fC, w1, w2, he⟩ := step_waits (moved hn hp hA hB)
  unfold waitOf
  rw [w2, lk_out (by rw [fA]; exact fun h => by have := hA x h; omega)]
  show (if x = x then e else _) = _
  rw [if_pos rfl]
  rcases he with ⟨q, r⟩ | ⟨q, r⟩
  · rw [if_pos q, r]
  · rw [if_neg q, r]
end Mw
end
section
set_option linter.all false
namespace Mw
/-- every second move from the wait on -/
def tn (u w : Int) : Int := max 0 (u - w + 1) / 2
/-- shorter persons' moves taken away, the shortest first -/
def ch (l : List (Int × Int)) (u : Int) : Int := l.foldl (fun u z => u - tn u z.2) u
def suf : List (Int × Int) → Int → List (Int × Int)
  | [], _ => []
  | (z, w) :: r, p => if z = p then r else suf r p
theorem ch_append (a b : List (Int × Int)) (u : Int) : ch (a ++ b) u = ch b (ch a u) := by unfold ch; rw [List.foldl_append]
theorem ch_cons (z : Int × Int) (b : List (Int × Int)) (u : Int) : ch (z :: b) u = ch b (u - tn u z.2) := rfl
theorem tn_less (u w : Int) : tn (u - 1) (w - 1) = tn u w := by
  unfold tn
  have : u - 1 - (w - 1) + 1 = u - w + 1 := by omega
  rw [this]
theorem ch_less : ∀ (l : List (Int × Int)) (u : Int), ch (l.map fun z => (z.1, z.2 - 1)) (u - 1) = ch l u - 1
  | [], u => rfl
  | z :: l, u => by
    rw [List.map_cons, ch_cons, ch_cons, ← ch_less l]
    simp only
    rw [tn_less]
    congr 1
    omega
theorem tn_le {u w : Int} (hu : 1 ≤ u) (hw : 1 ≤ w) : 1 ≤ u - tn u w := by unfold tn; omega
theorem ch_pos : ∀ (l : List (Int × Int)) (u : Int), 1 ≤ u → (∀ z ∈ l, 1 ≤ z.2) → 1 ≤ ch l u
  | [], u, h, _ => h
  | z :: l, u, h, hz => by
    rw [ch_cons]
    exact ch_pos l _ (tn_le h (hz z List.mem_cons_self)) fun y hy => hz y (List.mem_cons_of_mem _ hy)
theorem ch_zero : ∀ (l : List (Int × Int)), (∀ z ∈ l, 0 ≤ z.2) → ch l 0 = 0
  | [], _ => rfl
  | z :: l, hz => by
    have h := hz z List.mem_cons_self
    have e : tn 0 z.2 = 0 := by unfold tn; omega
    rw [ch_cons, e]
    exact ch_zero l fun y hy => hz y (List.mem_cons_of_mem _ hy)
theorem at_mover {u : Int} (h : 1 ≤ u) : (u - 1) - tn (u - 1) 1 = u - tn u 0 := by unfold tn; omega
theorem suf_in {p : Int} : ∀ {a b : List (Int × Int)}, p ∈ a.map (·.1) → suf (a ++ b) p = suf a p ++ b
  | [], b, h => by cases h
  | (z, w) :: a, b, h => by
    show (if z = p then a ++ b else suf (a ++ b) p) = (if z = p then a else suf a p) ++ b
    by_cases e : z = p
    · rw [if_pos e, if_pos e]
    · rw [if_neg e, if_neg e]
      exact suf_in (by rcases List.mem_cons.mp h with q | q; exact absurd q.symm e; exact q)
theorem suf_out {p : Int} : ∀ {a b : List (Int × Int)}, p ∉ a.map (·.1) → suf (a ++ b) p = suf b p
  | [], b, h => rfl
  | (z, w) :: a, b, h => by
    show (if z = p then a ++ b else suf (a ++ b) p) = _
    rw [if_neg fun e => h (by rw [List.map_cons]; exact e ▸ List.mem_cons_self)]
    exact suf_out fun q => h (List.mem_cons_of_mem _ q)
theorem suf_map {p : Int} : ∀ {a : List (Int × Int)}, suf (a.map fun z => (z.1, z.2 - 1)) p = (suf a p).map fun z => (z.1, z.2 - 1)
  | [] => rfl
  | (z, w) :: a => by
    show (if z = p then a.map fun z => (z.1, z.2 - 1) else suf (a.map fun z => (z.1, z.2 - 1)) p) = (if z = p then a else suf a p).map fun z => (z.1, z.2 - 1)
    by_cases e : z = p
    · rw [if_pos e, if_pos e]
    · rw [if_neg e, if_neg e]; exact suf_map
theorem suf_sub {p : Int} : ∀ {a : List (Int × Int)} {z : Int × Int}, z ∈ suf a p → z ∈ a
  | (y, w) :: a, z, h => by
    have h' : z ∈ (if y = p then a else suf a p) := h
    by_cases e : y = p
    · rw [if_pos e] at h'; exact List.mem_cons_of_mem _ h'
    · rw [if_neg e] at h'; exact List.mem_cons_of_mem _ (suf_sub h')
/-- how often p and the taller ones move in the first u steps -/
def cnt (q D : List Int) (p u : Int) : Int := ch (suf (wl (pos q) [] D) p).reverse u
/-- how often p moves -/
def mvs (q D : List Int) (p u : Int) : Int := if D.head? = some p then cnt q D p u else tn (cnt q D p u) (waitOf q D p)
theorem cnt_zero (q D : List Int) (p : Int) : cnt q D p 0 = 0 := ch_zero _ fun z hz => entry_nn (suf_sub (List.mem_reverse.mp hz))
theorem mvs_zero (q D : List Int) {p : Int} (h : p ∈ D) : mvs q D p 0 = 0 := by
  unfold mvs
  rw [cnt_zero]
  split
  · rfl
  · have := waitOf_nn (q := q) h; unfold tn; omega
theorem shorter_one {x : Int} {xs DA DB : List Int} (hn : (x :: xs).Nodup) (hp : (DA ++ x :: DB).Perm (x :: xs)) (hA : ∀ z ∈ DA, x < z) (hB : ∀ z ∈ DB, z < x) : ∀ z ∈ wl (pos (x :: xs)) [] (DA ++ x :: DB), z.1 < x → 1 ≤ z.2 := fun z hz hzx => by
  obtain ⟨a, b, e1, e2⟩ := wl_entry _ hz
  rw [e2]
  have nd : (DA ++ x :: DB).Nodup := hp.nodup_iff.mpr hn
  have zB : z.1 ∈ DB := by
    have : z.1 ∈ DA ++ x :: DB := by rw [e1]; simp
    rcases List.mem_append.mp this with h | h
    · have := hA _ h; omega
    · rcases List.mem_cons.mp h with h | h
      · omega
      · exact h
  have xa : x ∈ a := by
    -- what stands behind z is shorter
    obtain ⟨b1, b2, eB⟩ := List.append_of_mem zB
    have e3 : (DA ++ x :: b1) ++ z.1 :: b2 = a ++ z.1 :: b := by rw [← e1, eB]; simp
    have nd2 : ((DA ++ x :: b1) ++ z.1 :: b2).Nodup := by rw [e3, ← e1]; exact nd
    have i1 : ((DA ++ x :: b1) ++ z.1 :: b2).idxOf z.1 = (DA ++ x :: b1).length := by
      rw [List.idxOf_append, if_neg fun h => (List.nodup_append.mp nd2).2.2 _ h _ List.mem_cons_self rfl]; simp
    have i2 : (a ++ z.1 :: b).idxOf z.1 = a.length := by
      rw [List.idxOf_append, if_neg fun h => (List.nodup_append.mp (e1 ▸ nd)).2.2 _ h _ List.mem_cons_self rfl]; simp
    rw [e3] at i1
    obtain ⟨r, _⟩ := List.append_inj e3 (by omega)
    rw [← r]; simp
  refine (fw_mono (pos (x :: xs)) a.length a rfl).2.2 _ x xa ?_
  have zx : z.1 ∈ x :: xs := hp.mem_iff.mp (by simp [zB])
  have := (moved hn hp hA hB).first z.1 (List.mem_append_right _ zB)
  exact this
theorem cnt_step {x : Int} {xs DA DB : List Int} (hn : (x :: xs).Nodup) (hp : (DA ++ x :: DB).Perm (x :: xs)) (hA : ∀ z ∈ DA, x < z) (hB : ∀ z ∈ DB, z < x) {p u : Int} (hpD : p ∈ DA ++ x :: DB) (hu : 1 ≤ u) :
    cnt (insQ x xs) (DA ++ x :: DB) p (u - 1) = cnt (x :: xs) (DA ++ x :: DB) p u - (if x < p then 0 else 1) := by
  have one := shorter_one hn hp hA hB
  obtain ⟨A, C, e, fA, fC, w1, w2, he⟩ := step_waits (moved hn hp hA hB)
  unfold cnt
  have oneC : ∀ z ∈ C, 1 ≤ z.2 := fun z hz => one z (by rw [w1]; exact List.mem_append_right _ (List.mem_cons_of_mem _ hz)) (hB z.1 (by rw [← fC]; exact List.mem_map.mpr ⟨z, hz, rfl⟩))
  have nA : ∀ p, ¬ x < p → p ∉ A.map (·.1) := fun p c q => by rw [fA] at q; have := hA p q; omega
  rw [w1, w2]
  by_cases c : x < p
  · have h : p ∈ DA := by
      rcases List.mem_append.mp hpD with h | h
      · exact h
      · rcases List.mem_cons.mp h with h | h
        · omega
        · have := hB p h; omega
    have hne : DA ≠ [] := fun z => by rw [z] at h; cases h
    have e1 : e = 1 := by rcases he with ⟨q, _⟩ | ⟨_, q⟩; exact absurd q hne; exact q
    subst e1
    rw [if_pos c, suf_in (by rw [fA]; exact h), suf_in (by rw [fA]; exact h), List.reverse_append, List.reverse_append, List.reverse_cons, List.reverse_cons, List.append_assoc, List.append_assoc, ← List.map_reverse]
    simp only [ch_append]
    rw [ch_less]
    have v1 := ch_pos C.reverse u hu fun z hz => oneC z (List.mem_reverse.mp hz)
    generalize ch C.reverse u = v at v1 ⊢
    show ch (suf A p).reverse ((v - 1) - tn (v - 1) 1) = ch (suf A p).reverse (v - tn v 0) - 0
    rw [at_mover v1]; omega
  · rw [if_neg c, suf_out (nA p c), suf_out (nA p c)]
    show ch (if x = p then C.map fun z => (z.1, z.2 - 1) else suf (C.map fun z => (z.1, z.2 - 1)) p).reverse (u - 1) = ch (if x = p then C else suf C p).reverse u - 1
    by_cases e2 : x = p
    · rw [if_pos e2, if_pos e2, ← List.map_reverse, ch_less]
    · rw [if_neg e2, if_neg e2, suf_map, ← List.map_reverse, ch_less]
theorem cnt_pos {x : Int} {xs DA DB : List Int} (hn : (x :: xs).Nodup) (hp : (DA ++ x :: DB).Perm (x :: xs)) (hA : ∀ z ∈ DA, x < z) (hB : ∀ z ∈ DB, z < x) {u : Int} (hu : 1 ≤ u) : 1 ≤ cnt (x :: xs) (DA ++ x :: DB) x u := by
  have one := shorter_one hn hp hA hB
  obtain ⟨A, C, e, fA, fC, w1, w2, he⟩ := step_waits (moved hn hp hA hB)
  unfold cnt
  have oneC : ∀ z ∈ C, 1 ≤ z.2 := fun z hz => one z (by rw [w1]; exact List.mem_append_right _ (List.mem_cons_of_mem _ hz)) (hB z.1 (by rw [← fC]; exact List.mem_map.mpr ⟨z, hz, rfl⟩))
  rw [w1, suf_out (by rw [fA]; exact fun q => by have := hA x q; omega)]
  show 1 ≤ ch (if x = x then C else suf C x).reverse u
  rw [if_pos rfl]
  exact ch_pos _ u hu fun z hz => oneC z (List.mem_reverse.mp hz)
/-- a step: the mover has one move less to come, the others as many as before -/
theorem mvs_step {x : Int} {xs DA DB : List Int} (hn : (x :: xs).Nodup) (hp : (DA ++ x :: DB).Perm (x :: xs)) (hA : ∀ z ∈ DA, x < z) (hB : ∀ z ∈ DB, z < x) {p u : Int} (hpD : p ∈ DA ++ x :: DB) (hu : 1 ≤ u) :
    mvs (x :: xs) (DA ++ x :: DB) p u = (if x = p then 1 else 0) + mvs (insQ x xs) (DA ++ x :: DB) p (u - 1) := by
  have hc := cnt_step hn hp hA hB hpD hu
  unfold mvs
  by_cases ep : x = p
  · subst ep
    have v1 := cnt_pos hn hp hA hB hu
    rw [if_neg (Int.lt_irrefl x)] at hc
    rw [hc, mover_wait hn hp hA hB, (at_front hn hp hA hB).1]
    generalize cnt (x :: xs) (DA ++ x :: DB) x u = v at v1 ⊢
    cases DA with
    | nil => simp; omega
    | cons z DA =>
      have hz := hA z List.mem_cons_self
      have hh : ¬ (z :: DA ++ x :: DB).head? = some x := by simp; omega
      rw [if_neg hh, if_neg hh, if_neg (List.cons_ne_nil z DA), if_pos rfl]
      unfold tn
      omega
  · generalize cnt (x :: xs) (DA ++ x :: DB) p u = v at hc ⊢
    rw [hc, if_neg ep]
    have hpD' : p ∈ DA ++ DB := by
      rcases List.mem_append.mp hpD with h | h
      · exact List.mem_append_left _ h
      · rcases List.mem_cons.mp h with h | h
        · exact absurd h.symm ep
        · exact List.mem_append_right _ h
    have hw := (over_step hn hp hA hB hpD').1
    by_cases c : x < p
    · rw [if_pos c] at hw ⊢
      rw [hw, Int.sub_zero]
      split <;> omega
    · rw [if_neg c] at hw ⊢
      rw [hw, tn_less]
      have hh : ¬ (DA ++ x :: DB).head? = some p := by
        cases DA with
        | nil => simp; exact ep
        | cons z DA => have := hA z List.mem_cons_self; simp; omega
      rw [if_neg hh, if_neg hh]; omega
end Mw
end
section
set_option linter.all false
namespace Mw
theorem split_desc {D : List Int} {x : Int} (hs : D.Pairwise (· > ·)) (hx : x ∈ D) : ∃ a b, D = a ++ x :: b ∧ (∀ z ∈ a, x < z) ∧ ∀ z ∈ b, z < x := by
  obtain ⟨a, b, e⟩ := List.append_of_mem hx
  subst e
  obtain ⟨h1, h2, h3⟩ := List.pairwise_append.mp hs
  exact ⟨a, b, rfl, fun z hz => h3 z hz x List.mem_cons_self, fun z hz => (List.pairwise_cons.mp h2).1 z hz⟩
theorem insQ_perm (x : Int) : ∀ xs : List Int, (insQ x xs).Perm (x :: xs)
  | [] => List.Perm.refl _
  | y :: ys => by
    show (if x < y then y :: x :: ys else y :: insQ x ys).Perm _
    split
    · exact List.Perm.swap _ _ _
    · exact ((insQ_perm x ys).cons y).trans (List.Perm.swap _ _ _)
/-- what the law's own count holds after t steps -/
structure Sim (D q0 : List Int) (t : Int) (here fl : List Int) (f c : Int → Int) : Prop where
  perm : here.Perm q0
  sub : ∀ p ∈ fl, p ∈ q0
  nd : fl.Nodup
  done : ∀ p ∈ fl, f p = stepOf q0 D p ∧ c p = waitOf q0 D p ∧ stepOf q0 D p ≤ t
  todo : ∀ p ∈ q0, p ∉ fl → stepOf here D p = stepOf q0 D p - t ∧ c p = waitOf q0 D p - waitOf here D p ∧ t < stepOf q0 D p
theorem sim_start {D q0 : List Int} (hp : D.Perm q0) (f : Int → Int) : Sim D q0 0 q0 [] f (fun _ => 0) :=
  ⟨List.Perm.refl _, fun p h => (by cases h), List.nodup_nil, fun p h => (by cases h), fun p h _ => ⟨by omega, by omega, by
    have h1 := waitOf_nn (q := q0) (hp.mem_iff.mpr h)
    have h2 := stepOf_ge (q := q0) (hp.mem_iff.mpr h)
    omega⟩⟩
theorem sim_step {D q0 : List Int} {t : Int} {x : Int} {xs fl : List Int} {f c f' c' : Int → Int} {fl' : List Int} (hs : D.Pairwise (· > ·)) (hp : D.Perm q0) (hn : q0.Nodup) (S : Sim D q0 t (x :: xs) fl f c)
    (hfl : fl' = if x ∈ fl then fl else fl ++ [x]) (hf : ∀ p, f' p = if p = x ∧ x ∉ fl then t + 1 else f p) (hc : ∀ p ∈ q0, c' p = if p < x ∧ p ∉ fl' then c p + 1 else c p) : Sim D q0 (t + 1) (insQ x xs) fl' f' c' := by
  have hD : D.Perm (x :: xs) := hp.trans S.perm.symm
  have nq : (x :: xs).Nodup := S.perm.nodup_iff.mpr hn
  have xq : x ∈ q0 := S.perm.mem_iff.mp List.mem_cons_self
  obtain ⟨a, b, e, hA, hB⟩ := split_desc hs (hD.mem_iff.mpr List.mem_cons_self)
  have hD' : (a ++ x :: b).Perm (x :: xs) := e ▸ hD
  have front := at_front nq hD' hA hB
  have mfl : ∀ p, p ∈ fl' ↔ p ∈ fl ∨ p = x := fun p => by
    rw [hfl]
    by_cases h : x ∈ fl
    · rw [if_pos h]; exact ⟨.inl, fun q => q.elim id fun z => z ▸ h⟩
    · rw [if_neg h, List.mem_append, List.mem_singleton]
  rw [← e] at front
  refine ⟨(insQ_perm x xs).trans S.perm, fun p h => ?_, ?_, fun p h => ?_, fun p h hnf => ?_⟩
  · rcases (mfl p).mp h with h | h
    · exact S.sub p h
    · exact h ▸ xq
  · rw [hfl]
    split
    · exact S.nd
    · next h => exact List.nodup_append.mpr ⟨S.nd, List.nodup_cons.mpr ⟨by simp, List.nodup_nil⟩, fun y hy z hz q => by rw [List.mem_singleton] at hz; subst hz; subst q; exact h hy⟩
  · have pq : p ∈ q0 := by
      rcases (mfl p).mp h with h | h
      · exact S.sub p h
      · exact h ▸ xq
    rw [hc p pq, if_neg fun q => q.2 h, hf p]
    by_cases px : p ∈ fl
    · obtain ⟨h1, h2, h3⟩ := S.done p px
      rw [if_neg fun q => q.2 (q.1 ▸ px)]
      exact ⟨h1, h2, by omega⟩
    · have ex : p = x := ((mfl p).mp h).resolve_left px
      subst ex
      obtain ⟨h1, h2, h3⟩ := S.todo p pq px
      rw [if_pos ⟨rfl, px⟩]
      exact ⟨by omega, by omega, by omega⟩
  · have pf : p ∉ fl := fun z => hnf ((mfl p).mpr (.inl z))
    have px : p ≠ x := fun z => hnf ((mfl p).mpr (.inr z))
    obtain ⟨h1, h2, h3⟩ := S.todo p h pf
    have pD : p ∈ a ++ x :: b := by rw [← e]; exact hp.mem_iff.mpr h
    have pD' : p ∈ a ++ b := by
      rcases List.mem_append.mp pD with q | q
      · exact List.mem_append_left _ q
      · rcases List.mem_cons.mp q with q | q
        · exact absurd q px
        · exact List.mem_append_right _ q
    obtain ⟨o1, o2⟩ := over_step nq hD' hA hB pD'
    rw [← e] at o1 o2
    have g1 := stepOf_ge (q := insQ x xs) (D := D) (p := p) (e ▸ pD)
    have g2 := waitOf_nn (q := insQ x xs) (D := D) (p := p) (e ▸ pD)
    refine ⟨by omega, ?_, by omega⟩
    rw [hc p h]
    by_cases q : x < p
    · rw [if_pos q] at o1
      rw [if_neg fun z => by have := z.1; omega]
      omega
    · rw [if_neg q] at o1
      rw [if_pos ⟨by omega, hnf⟩]
      omega
end Mw
end
section
set_option linter.all false
namespace Mw
/-! the waits by the persons from the front on -/
def insW (p : Int) : List (Int × Int) → Int → List (Int × Int)
  | [], s => [(p, s)]
  | (y, w) :: l, s => if y < p then (p, s) :: (y, w) :: l else (y, w) :: insW p l (s + (1 + s - w))
def wfr (q : List Int) : List (Int × Int) := q.foldl (fun l p => insW p l 0) []
def fwA (acc : List (Int × Int)) (s : Int) : Int := acc.foldl (fun s z => s + (1 + s - z.2)) s
theorem wfr_snoc (q : List Int) (p : Int) : wfr (q ++ [p]) = insW p (wfr q) 0 := by unfold wfr; rw [List.foldl_append]; rfl
theorem insW_split {p : Int} : ∀ {A B : List (Int × Int)} {s : Int}, (∀ z ∈ A, p < z.1) → (∀ z ∈ B, z.1 < p) → insW p (A ++ B) s = A ++ (p, fwA A s) :: B
  | [], [], s, _, _ => rfl
  | [], (y, w) :: B, s, _, hB => by
    show (if y < p then _ else _) = _
    rw [if_pos (hB (y, w) List.mem_cons_self)]; rfl
  | (y, w) :: A, B, s, hA, hB => by
    show (if y < p then _ else _) = _
    rw [if_neg (by have := hA (y, w) List.mem_cons_self; simp at this; omega), show A.append B = A ++ B from rfl, insW_split (fun z hz => hA z (List.mem_cons_of_mem _ hz)) hB]
    rfl
theorem fw_all {pos : Int → Int} {p : Int} : ∀ {acc : List (Int × Int)} {s : Int}, (∀ z ∈ acc, pos z.1 < pos p) → fw pos p acc s = fwA acc s
  | [], s, _ => rfl
  | z :: acc, s, h => by
    rw [fw_cons, if_pos (h z List.mem_cons_self), fw_all fun y hy => h y (List.mem_cons_of_mem _ hy)]
    rfl
theorem fw_skip {pos : Int → Int} {b p e : Int} {A M : List (Int × Int)} {s : Int} (h : ¬ pos p < pos b) : fw pos b (A ++ (p, e) :: M) s = fw pos b (A ++ M) s := by
  rw [fw_append, fw_append, fw_cons, if_neg h]
theorem wl_skip {pos : Int → Int} {p e : Int} {A : List (Int × Int)} : ∀ (B : List Int) (M : List (Int × Int)), (∀ b ∈ B, ¬ pos p < pos b) → ∃ R, wl pos (A ++ M) B = A ++ (M ++ R) ∧ wl pos (A ++ (p, e) :: M) B = A ++ (p, e) :: (M ++ R)
  | [], M, _ => ⟨[], by simp [wl], by simp [wl]⟩
  | b :: B, M, h => by
    obtain ⟨R, h1, h2⟩ := wl_skip (e := e) (A := A) B (M ++ [(b, fw pos b (A ++ M) 0)]) fun z hz => h z (List.mem_cons_of_mem _ hz)
    refine ⟨(b, fw pos b (A ++ M) 0) :: R, ?_, ?_⟩
    · show wl pos (A ++ M ++ [(b, fw pos b (A ++ M) 0)]) B = _
      rw [List.append_assoc, h1]; simp
    · show wl pos (A ++ (p, e) :: M ++ [(b, fw pos b (A ++ (p, e) :: M) 0)]) B = _
      rw [fw_skip (h b List.mem_cons_self)]
      have : A ++ (p, e) :: M ++ [(b, fw pos b (A ++ M) 0)] = A ++ (p, e) :: (M ++ [(b, fw pos b (A ++ M) 0)]) := by simp
      rw [this, h2]; simp
theorem pos_snoc_mem {pre : List Int} {p z : Int} (h : z ∈ pre) : pos (pre ++ [p]) z = pos pre z := by rw [pos_append, if_pos h]
theorem pos_snoc_self {pre : List Int} {p : Int} (h : p ∉ pre) : pos (pre ++ [p]) p = pre.length := by rw [pos_append, if_neg h, pos_cons_self]; omega
theorem wfr_eq : ∀ (n : Nat) {q D : List Int}, q.length = n → q.Nodup → D.Pairwise (· > ·) → D.Perm q → wfr q = wl (pos q) [] D
  | 0, q, D, hl, _, _, hp => by
    have := List.length_eq_zero_iff.mp hl
    subst this
    rw [List.perm_nil.mp hp]; rfl
  | n + 1, q, D, hl, hn, hs, hp => by
    have hne : q ≠ [] := fun e => by rw [e] at hl; cases hl
    obtain ⟨pre, p, rfl⟩ : ∃ pre p, q = pre ++ [p] := ⟨q.dropLast, q.getLast hne, (List.dropLast_concat_getLast hne).symm⟩
    have hl' : pre.length = n := by simpa using hl
    obtain ⟨npre, _, ndis⟩ := List.nodup_append.mp hn
    have pnot : p ∉ pre := fun h => ndis p h p List.mem_cons_self rfl
    obtain ⟨A, B, eD, hA, hB⟩ := split_desc (x := p) hs (hp.mem_iff.mpr (by simp))
    subst eD
    have hp' : (A ++ B).Perm pre := by
      have h1 : (p :: (A ++ B)).Perm (p :: pre) := List.perm_middle.symm.trans (hp.trans List.perm_append_comm)
      exact h1.cons_inv
    have hs' : (A ++ B).Pairwise (· > ·) := hs.sublist (List.Sublist.append_left (List.sublist_cons_self _ _) _)
    have mem : ∀ z ∈ A ++ B, z ∈ pre := fun z hz => hp'.mem_iff.mp hz
    have ih := wfr_eq n hl' npre hs' hp'
    rw [wfr_snoc, ih]
    obtain ⟨R, e1, e2⟩ := wl_prefix (pos pre) B (wl (pos pre) [] A)
    rw [wl_append, e1]
    have fA : (wl (pos pre) [] A).map (·.1) = A := by rw [wl_fst]; rfl
    have inA : ∀ z ∈ wl (pos pre) [] A, z.1 ∈ A := fun z hz => by rw [← fA]; exact List.mem_map_of_mem hz
    have inB : ∀ z ∈ R, z.1 ∈ B := fun z hz => by rw [← e2]; exact List.mem_map_of_mem hz
    rw [insW_split (fun z hz => hA _ (inA z hz)) (fun z hz => hB _ (inB z hz))]
    -- the other side
    have same : ∀ z ∈ ([] : List (Int × Int)).map (·.1) ++ (A ++ B), ∀ y ∈ A ++ B, pos (pre ++ [p]) z < pos (pre ++ [p]) y ↔ pos pre z < pos pre y := fun z hz y hy => by
      rw [pos_snoc_mem (mem z (by simpa using hz)), pos_snoc_mem (mem y hy)]
    have sA : wl (pos (pre ++ [p])) [] A = wl (pos pre) [] A := wl_same A [] fun z hz y hy => same z (by simp at hz ⊢; exact .inl hz) y (List.mem_append_left _ hy)
    have sAB : wl (pos (pre ++ [p])) [] (A ++ B) = wl (pos pre) [] (A ++ B) := wl_same (A ++ B) [] same
    have ahead : ∀ z ∈ wl (pos pre) [] A, pos (pre ++ [p]) z.1 < pos (pre ++ [p]) p := fun z hz => by
      have hz' := mem _ (List.mem_append_left B (inA z hz))
      rw [pos_snoc_mem hz', pos_snoc_self pnot]
      exact pos_lt hz'
    have behind : ∀ b ∈ B, ¬ pos (pre ++ [p]) p < pos (pre ++ [p]) b := fun b hb => by
      have hb' := mem b (List.mem_append_right A hb)
      rw [pos_snoc_mem hb', pos_snoc_self pnot]
      have := pos_lt hb'
      omega
    rw [wl_append, sA]
    show _ = wl (pos (pre ++ [p])) (wl (pos pre) [] A ++ [(p, fw (pos (pre ++ [p])) p (wl (pos pre) [] A) 0)]) B
    rw [fw_all ahead]
    obtain ⟨R', r1, r2⟩ := wl_skip (pos := pos (pre ++ [p])) (p := p) (e := fwA (wl (pos pre) [] A) 0) (A := wl (pos pre) [] A) B [] behind
    rw [r2]
    have : R = R' := by
      have h1 : wl (pos (pre ++ [p])) (wl (pos pre) [] A) B = wl (pos pre) (wl (pos pre) [] A) B := by
        have := sAB
        rw [wl_append, wl_append, sA] at this
        exact this
      rw [List.append_nil, h1, e1] at r1
      exact List.append_cancel_left r1
    rw [this]; simp
/-- the taller ones alone -/
theorem insW_taller {p z : Int} : ∀ {l : List (Int × Int)} {s : Int}, (l.map (·.1)).Pairwise (· > ·) → (insW z l s).filter (fun y => decide (p ≤ y.1)) = if p ≤ z then insW z (l.filter fun y => decide (p ≤ y.1)) s else l.filter fun y => decide (p ≤ y.1)
  | [], s, _ => by
    show ([(z, s)] : List (Int × Int)).filter _ = _
    by_cases h : p ≤ z
    · simp [h, insW]
    · simp [h]
  | (y, w) :: l, s, hs => by
    obtain ⟨h1, h2⟩ := List.pairwise_cons.mp (show (y :: l.map (·.1)).Pairwise (· > ·) from hs)
    have small : y < p → l.filter (fun y => decide (p ≤ y.1)) = [] := fun h => List.filter_eq_nil_iff.mpr fun x hx => by
      have := h1 x.1 (List.mem_map_of_mem hx)
      simp; omega
    show (if y < z then (z, s) :: (y, w) :: l else (y, w) :: insW z l (s + (1 + s - w))).filter _ = _
    by_cases c : y < z
    · rw [if_pos c]
      by_cases h : p ≤ z
      · rw [if_pos h]
        by_cases hy : p ≤ y
        · simp [h, hy, insW, c]
        · simp [h, hy, small (by omega), insW]
      · rw [if_neg h]
        simp [h]
    · rw [if_neg c]
      by_cases hy : p ≤ y
      · rw [List.filter_cons, if_pos (by simpa using hy), insW_taller h2]
        by_cases h : p ≤ z
        · rw [if_pos h, if_pos h, List.filter_cons, if_pos (by simpa using hy)]
          show _ = if y < z then _ else _
          rw [if_neg c]
        · rw [if_neg h, if_neg h, List.filter_cons, if_pos (by simpa using hy)]
      · rw [List.filter_cons, if_neg (by simpa using hy), insW_taller h2, if_neg (by omega), if_neg (by omega), List.filter_cons, if_neg (by simpa using hy)]
theorem insW_fst {z : Int} : ∀ {l : List (Int × Int)} {s : Int}, (∀ y ∈ l, y.1 ≠ z) → (l.map (·.1)).Pairwise (· > ·) → ((insW z l s).map (·.1)).Pairwise (· > ·) ∧ ((insW z l s).map (·.1)).Perm (z :: l.map (·.1))
  | [], s, _, _ => ⟨by simp [insW], by simp [insW]⟩
  | (y, w) :: l, s, hz, hs => by
    obtain ⟨h1, h2⟩ := List.pairwise_cons.mp (show (y :: l.map (·.1)).Pairwise (· > ·) from hs)
    have hy := hz (y, w) List.mem_cons_self
    simp at hy
    show ((if y < z then (z, s) :: (y, w) :: l else (y, w) :: insW z l (s + (1 + s - w))).map (·.1)).Pairwise (· > ·) ∧ ((if y < z then (z, s) :: (y, w) :: l else (y, w) :: insW z l (s + (1 + s - w))).map (·.1)).Perm _
    by_cases c : y < z
    · rw [if_pos c]
      refine ⟨List.pairwise_cons.mpr ⟨fun x hx => ?_, hs⟩, List.Perm.refl _⟩
      rcases List.mem_cons.mp (show x ∈ y :: l.map (·.1) from hx) with rfl | hx
      · exact c
      · have := h1 x hx; simp at this ⊢; omega
    · rw [if_neg c]
      obtain ⟨i1, i2⟩ := insW_fst (l := l) (s := s + (1 + s - w)) (fun x hx => hz x (List.mem_cons_of_mem _ hx)) h2
      refine ⟨List.pairwise_cons.mpr ⟨fun x hx => ?_, i1⟩, (i2.cons y).trans (List.Perm.swap _ _ _)⟩
      rcases List.mem_cons.mp (i2.mem_iff.mp hx) with rfl | hx
      · simp; omega
      · exact h1 x hx
theorem wfr_fst : ∀ (n : Nat) {q : List Int}, q.length = n → q.Nodup → ((wfr q).map (·.1)).Pairwise (· > ·) ∧ ((wfr q).map (·.1)).Perm q
  | 0, q, hl, _ => by
    have := List.length_eq_zero_iff.mp hl
    subst this
    exact ⟨by simp [wfr], by simp [wfr]⟩
  | n + 1, q, hl, hn => by
    have hne : q ≠ [] := fun e => by rw [e] at hl; cases hl
    obtain ⟨pre, p, rfl⟩ : ∃ pre p, q = pre ++ [p] := ⟨q.dropLast, q.getLast hne, (List.dropLast_concat_getLast hne).symm⟩
    obtain ⟨npre, _, ndis⟩ := List.nodup_append.mp hn
    obtain ⟨i1, i2⟩ := wfr_fst n (by simpa using hl) npre
    have nz : ∀ y ∈ wfr pre, y.1 ≠ p := fun y hy e => ndis p (by rw [← e]; exact i2.mem_iff.mp (List.mem_map_of_mem hy)) p List.mem_cons_self rfl
    rw [wfr_snoc]
    obtain ⟨j1, j2⟩ := insW_fst (s := 0) nz i1
    exact ⟨j1, j2.trans ((i2.cons p).trans (List.perm_append_comm (l₁ := [p])))⟩
theorem wfr_taller {p : Int} : ∀ (n : Nat) {q : List Int}, q.length = n → q.Nodup → wfr (q.filter fun y => decide (p ≤ y)) = (wfr q).filter fun y => decide (p ≤ y.1)
  | 0, q, hl, _ => by
    have := List.length_eq_zero_iff.mp hl
    subst this; rfl
  | n + 1, q, hl, hn => by
    have hne : q ≠ [] := fun e => by rw [e] at hl; cases hl
    obtain ⟨pre, z, rfl⟩ : ∃ pre p, q = pre ++ [p] := ⟨q.dropLast, q.getLast hne, (List.dropLast_concat_getLast hne).symm⟩
    obtain ⟨npre, _, _⟩ := List.nodup_append.mp hn
    rw [wfr_snoc, insW_taller (wfr_fst _ rfl npre).1, List.filter_append, ← wfr_taller n (by simpa using hl) npre]
    by_cases h : p ≤ z
    · rw [if_pos h, ← wfr_snoc]; simp [h]
    · rw [if_neg h]; simp [h]
/-- what is there stays -/
theorem insW_lk {z p : Int} (hne : z ≠ p) : ∀ {l : List (Int × Int)} {s : Int}, lk (insW z l s) p = lk l p
  | [], s => by show (if z = p then s else 0) = 0; rw [if_neg hne]
  | (y, w) :: l, s => by
    show lk (if y < z then _ else _) p = _
    split
    · show (if z = p then s else _) = _
      rw [if_neg hne]
    · show (if y = p then w else lk (insW z l _) p) = if y = p then w else lk l p
      rw [insW_lk hne]
theorem fold_lk {p : Int} : ∀ (post : List Int) (l : List (Int × Int)), p ∉ post → lk (post.foldl (fun l p => insW p l 0) l) p = lk l p
  | [], l, _ => rfl
  | z :: post, l, h => by
    rw [List.foldl_cons, fold_lk post _ fun hp => h (List.mem_cons_of_mem _ hp), insW_lk fun e => h (by rw [e]; exact List.mem_cons_self)]
theorem wfr_lk {p : Int} {pre : List Int} (post : List Int) (h : p ∉ post) : lk (wfr (pre ++ post)) p = lk (wfr pre) p := by
  unfold wfr
  rw [List.foldl_append, fold_lk post _ h]
theorem lk_filter {p : Int} : ∀ {l : List (Int × Int)}, lk (l.filter fun y => decide (p ≤ y.1)) p = lk l p
  | [] => rfl
  | (y, w) :: l => by
    rw [List.filter_cons]
    by_cases h : p ≤ y
    · rw [if_pos (by simpa using h)]
      show (if y = p then w else lk _ p) = if y = p then w else lk l p
      rw [lk_filter]
    · rw [if_neg (by simpa using h), lk_filter]
      show _ = if y = p then w else lk l p
      rw [if_neg (by omega)]
/-- the last one is the shortest -/
theorem last_lk {p : Int} : ∀ {l : List (Int × Int)}, (l.map (·.1)).Pairwise (· > ·) → p ∈ l.map (·.1) → (∀ z ∈ l, p ≤ z.1) → l.getLast? = some (p, lk l p)
  | [], _, h, _ => by cases h
  | [(y, w)], _, h, _ => by
    have e : p = y := by simpa using h
    subst e
    show some (p, w) = some (p, if p = p then w else _)
    rw [if_pos rfl]
  | (y, w) :: x :: l, hs, h, hm => by
    obtain ⟨h1, h2⟩ := List.pairwise_cons.mp (show (y :: (x :: l).map (·.1)).Pairwise (· > ·) from hs)
    have hx := hm x (List.mem_cons_of_mem _ List.mem_cons_self)
    have hy : y ≠ p := fun e => by
      have := h1 x.1 (by simp)
      omega
    have h' : p ∈ (x :: l).map (·.1) := (List.mem_cons.mp (show p ∈ y :: (x :: l).map (·.1) from h)).resolve_left fun e => hy e.symm
    rw [List.getLast?_cons_cons, last_lk h2 h' fun z hz => hm z (List.mem_cons_of_mem _ hz)]
    show some (p, lk (x :: l) p) = some (p, if y = p then w else lk (x :: l) p)
    rw [if_neg hy]
/-- moves_before's own sum -/
theorem tall_last {q : List Int} {p : Int} (hn : q.Nodup) {pre post : List Int} (e : q = pre ++ p :: post) : (wfr ((pre ++ [p]).filter fun y => decide (p ≤ y))).getLast? = some (p, lk (wfr q) p) := by
  subst e
  have hn1 : (pre ++ [p]).Nodup := hn.sublist (List.Sublist.append_left (by simp) _)
  have hpost : p ∉ post := fun h => (List.nodup_cons.mp (List.nodup_append.mp hn).2.1).1 h
  have f1 := (wfr_fst _ rfl hn1).2
  rw [wfr_taller _ rfl hn1]
  have key := last_lk (p := p) (l := (wfr (pre ++ [p])).filter fun y => decide (p ≤ y.1)) ?_ ?_ ?_
  · rw [key, lk_filter, show pre ++ p :: post = (pre ++ [p]) ++ post by simp, wfr_lk post hpost]
  · rw [← wfr_taller _ rfl hn1]; exact (wfr_fst _ rfl (hn1.filter _)).1
  · rw [← wfr_taller _ rfl hn1]; exact (wfr_fst _ rfl (hn1.filter _)).2.mem_iff.mpr (by simp)
  · exact fun z hz => by simpa using (List.mem_filter.mp hz).2
end Mw
end
section
set_option linter.all false
namespace Mw
/-- the step of the move number k (from 0 on) -/
def mv (q D : List Int) (p : Int) (k : Int) : Int := gs p (wl (pos q) [] D) (1 + (if D.head? = some p then k else 2 * k) + waitOf q D p)
theorem mv_zero (q D : List Int) (p : Int) : mv q D p 0 = stepOf q D p := by
  unfold mv stepOf
  have : (1 + (if D.head? = some p then (0 : Int) else 2 * 0) + waitOf q D p) = waitOf q D p + 1 := by split <;> omega
  rw [this]
theorem head_iff {x : Int} {DA DB : List Int} (hA : ∀ z ∈ DA, x < z) : (DA ++ x :: DB).head? = some x ↔ DA = [] := by
  cases DA with
  | nil => simp
  | cons z DA => have := hA z List.mem_cons_self; simp; omega
section
variable {x : Int} {xs DA DB : List Int} (hn : (x :: xs).Nodup) (hp : (DA ++ x :: DB).Perm (x :: xs)) (hA : ∀ z ∈ DA, x < z) (hB : ∀ z ∈ DB, z < x)
include hn hp hA hB
theorem mv_other {p k : Int} (hpD : p ∈ DA ++ DB) (hk : 0 ≤ k) : mv (x :: xs) (DA ++ x :: DB) p k = 1 + mv (insQ x xs) (DA ++ x :: DB) p k := by
  have hpD' : p ∈ DA ++ x :: DB := by
    rcases List.mem_append.mp hpD with h | h
    · exact List.mem_append_left _ h
    · exact List.mem_append_right _ (List.mem_cons_of_mem _ h)
  have w0 := waitOf_nn (q := x :: xs) hpD'
  have hw := (over_step hn hp hA hB hpD).1
  unfold mv
  generalize hb : (1 + (if (DA ++ x :: DB).head? = some p then k else 2 * k)) = b
  have hb1 : 1 ≤ b := by rw [← hb]; split <;> omega
  have a := any_step hn hp hA hB hpD' (s := b + waitOf (x :: xs) (DA ++ x :: DB) p) (by omega)
  by_cases c : x < p
  · rw [if_pos c] at hw a
    rw [hw]; omega
  · rw [if_neg c] at hw a
    rw [hw, show b + (waitOf (x :: xs) (DA ++ x :: DB) p - 1) = b + waitOf (x :: xs) (DA ++ x :: DB) p - 1 by omega]; omega
theorem mv_self {k : Int} (hk : 0 ≤ k) : mv (x :: xs) (DA ++ x :: DB) x (k + 1) = 1 + mv (insQ x xs) (DA ++ x :: DB) x k := by
  have m := mover_wait hn hp hA hB
  have f := (at_front hn hp hA hB).1
  have hh := head_iff (DB := DB) hA
  have mem : x ∈ DA ++ x :: DB := by simp
  unfold mv
  rw [m, f]
  by_cases e : DA = []
  · rw [if_pos (hh.mpr e), if_pos (hh.mpr e), if_pos e]
    have a := any_step hn hp hA hB mem (s := 1 + (k + 1) + 0) (by omega)
    rw [if_neg (Int.lt_irrefl x)] at a
    rw [show 1 + k + 0 = 1 + (k + 1) + 0 - 1 by omega]; omega
  · rw [if_neg fun z => e (hh.mp z), if_neg fun z => e (hh.mp z), if_neg e]
    have a := any_step hn hp hA hB mem (s := 1 + 2 * (k + 1) + 0) (by omega)
    rw [if_neg (Int.lt_irrefl x)] at a
    rw [show 1 + 2 * k + 1 = 1 + 2 * (k + 1) + 0 - 1 by omega]; omega
end
/-- rows of steps, counted -/
structure Rows (D q0 : List Int) (t : Int) (here : List Int) (row : Int → List Int) : Prop where
  perm : here.Perm q0
  t0 : 0 ≤ t
  old : ∀ p ∈ q0, ∀ (k : Nat) (e : Int), (row p)[k]? = some e → e = mv q0 D p k
  nxt : ∀ p ∈ q0, ∀ j : Nat, mv q0 D p (((row p).length + j : Nat) : Int) = t + mv here D p j
  cnt : ∀ p ∈ q0, ∀ u : Int, 0 ≤ u → mvs q0 D p (t + u) = (row p).length + mvs here D p u
  tot : ∀ p ∈ q0, ∀ s : Int, 0 ≤ s → s ≤ t → mvs q0 D p s = ((row p).filter fun e => decide (e ≤ s)).length
  le : ∀ p ∈ q0, ∀ e ∈ row p, 1 ≤ e ∧ e ≤ t
theorem rows_start {D q0 : List Int} (hp : D.Perm q0) : Rows D q0 0 q0 fun _ => [] :=
  ⟨List.Perm.refl _, Int.le_refl 0, fun p h k e z => by simp at z, fun p h j => by simp, fun p h u hu => by simp, fun p h s h0 h1 => by
    have : s = 0 := by omega
    subst this
    rw [mvs_zero _ _ (hp.mem_iff.mpr h)]; simp, fun p h e z => by cases z⟩
theorem filter_all {l : List Int} {s : Int} (h : ∀ e ∈ l, e ≤ s) : l.filter (fun e => decide (e ≤ s)) = l := List.filter_eq_self.mpr fun e he => by simpa using h e he
theorem rows_step {D q0 : List Int} {t x : Int} {xs : List Int} {row row' : Int → List Int} (hs : D.Pairwise (· > ·)) (hp : D.Perm q0) (hn : q0.Nodup) (S : Rows D q0 t (x :: xs) row)
    (hx : row' x = row x ++ [t + 1]) (ho : ∀ p, p ≠ x → row' p = row p) : Rows D q0 (t + 1) (insQ x xs) row' := by
  have hD : D.Perm (x :: xs) := hp.trans S.perm.symm
  have nq : (x :: xs).Nodup := S.perm.nodup_iff.mpr hn
  have xq : x ∈ q0 := S.perm.mem_iff.mp List.mem_cons_self
  obtain ⟨a, b, e, hA, hB⟩ := split_desc hs (hD.mem_iff.mpr List.mem_cons_self)
  have hD' : (a ++ x :: b).Perm (x :: xs) := e ▸ hD
  have t0 := S.t0
  have inAB : ∀ p ∈ q0, p ≠ x → p ∈ a ++ b := fun p h hne => by
    have : p ∈ a ++ x :: b := by rw [← e]; exact hp.mem_iff.mpr h
    rcases List.mem_append.mp this with q | q
    · exact List.mem_append_left _ q
    · rcases List.mem_cons.mp q with q | q
      · exact absurd q hne
      · exact List.mem_append_right _ q
  have front : mv (x :: xs) D x 0 = 1 := by rw [mv_zero, e]; exact (at_front nq hD' hA hB).2
  have cntS : ∀ p ∈ q0, ∀ u : Int, 0 ≤ u → mvs q0 D p (t + 1 + u) = (row' p).length + mvs (insQ x xs) D p u := fun p h u hu => by
    have c1 := S.cnt p h (u + 1) (by omega)
    have c2 := mvs_step nq hD' hA hB (p := p) (u := u + 1) (by rw [← e]; exact hp.mem_iff.mpr h) (by omega)
    rw [← e] at c2
    rw [show t + 1 + u = t + (u + 1) by omega, c1, c2, show u + 1 - 1 = u by omega]
    by_cases q : x = p
    · subst q; rw [if_pos rfl, hx, List.length_append]; simp; omega
    · rw [if_neg q, ho p fun z => q z.symm]; omega
  refine ⟨(insQ_perm x xs).trans S.perm, by omega, fun p h k ee he => ?_, fun p h j => ?_, cntS, fun p h s h0 h1 => ?_, fun p h ee he => ?_⟩
  · by_cases q : p = x
    · subst q
      rw [hx] at he
      by_cases hk : k < (row p).length
      · rw [List.getElem?_append_left hk] at he
        exact S.old p h k ee he
      · rw [List.getElem?_append_right (by omega)] at he
        have hk' : k = (row p).length := by
          have := (List.getElem?_eq_some_iff.mp he).1
          simp at this; omega
        subst hk'
        simp at he
        have := S.nxt p h 0
        simp only [Nat.add_zero] at this
        rw [this, show ((0 : Nat) : Int) = 0 from rfl, front]; omega
    · rw [ho p q] at he; exact S.old p h k ee he
  · by_cases q : p = x
    · subst q
      have n1 := S.nxt p h (j + 1)
      rw [hx, List.length_append, List.length_singleton, show (row p).length + 1 + j = (row p).length + (j + 1) by omega, n1]
      have := mv_self nq hD' hA hB (k := (j : Int)) (by omega)
      rw [← e] at this
      rw [show ((j + 1 : Nat) : Int) = (j : Int) + 1 by omega, this]; omega
    · have n1 := S.nxt p h j
      rw [ho p q, n1]
      have := mv_other nq hD' hA hB (inAB p h q) (k := (j : Int)) (by omega)
      rw [← e] at this
      rw [this]; omega
  · by_cases hle : s ≤ t
    · have o := S.tot p h s h0 hle
      rw [o]
      by_cases q : p = x
      · subst q
        rw [hx, List.filter_append]
        have : [t + 1].filter (fun e => decide (e ≤ s)) = [] := by simp; omega
        rw [this, List.append_nil]
      · rw [ho p q]
    · have hs1 : s = t + 1 := by omega
      subst hs1
      have c := cntS p h 0 (Int.le_refl 0)
      have pD : p ∈ D := hp.mem_iff.mpr h
      rw [mvs_zero _ _ pD, Int.add_zero, Int.add_zero] at c
      rw [c, filter_all fun ee he => ?_]
      by_cases q : p = x
      · subst q
        rw [hx] at he
        rcases List.mem_append.mp he with he | he
        · have := S.le p h ee he; omega
        · simp at he; omega
      · rw [ho p q] at he; have := S.le p h ee he; omega
  · by_cases q : p = x
    · subst q
      rw [hx] at he
      rcases List.mem_append.mp he with he | he
      · have := S.le p h ee he; omega
      · simp at he; omega
    · rw [ho p q] at he; have := S.le p h ee he; omega
end Mw
end
section
set_option linter.all false
namespace Mw
/-! far steps: the waits after t steps, and the queue from its waits -/
def stepQ : List Int → List Int
  | [] => []
  | x :: xs => insQ x xs
def itr : Nat → List Int → List Int
  | 0, q => q
  | t + 1, q => itr t (stepQ q)
theorem itr_succ (t : Nat) : ∀ q, itr (t + 1) q = stepQ (itr t q) := by
  induction t with
  | zero => intro q; rfl
  | succ t ih => intro q; show itr (t + 1) (stepQ q) = _; rw [ih]; rfl
theorem itr_add (a b : Nat) (q : List Int) : itr (a + b) q = itr b (itr a q) := by
  induction a generalizing q with
  | zero => rw [Nat.zero_add]; rfl
  | succ a ih => rw [Nat.succ_add]; show itr (a + b) (stepQ q) = _; rw [ih]; rfl
theorem stepQ_perm : ∀ q : List Int, (stepQ q).Perm q
  | [] => List.Perm.refl _
  | x :: xs => insQ_perm x xs
theorem itr_perm (t : Nat) : ∀ q : List Int, (itr t q).Perm q := by
  induction t with
  | zero => intro q; exact List.Perm.refl _
  | succ t ih => intro q; exact (ih _).trans (stepQ_perm q)
def wlft (w u : Int) : Int := if u ≤ w then w - u else (u - w) % 2
theorem cnt_nn {q D : List Int} {p u : Int} (hu : 0 ≤ u) : 0 ≤ cnt q D p u := by
  unfold cnt
  have : ∀ (l : List (Int × Int)) (u : Int), 0 ≤ u → (∀ z ∈ l, 0 ≤ z.2) → 0 ≤ ch l u := by
    intro l
    induction l with
    | nil => intro u h _; exact h
    | cons z l ih =>
      intro u h hz
      rw [ch_cons]
      refine ih _ ?_ fun y hy => hz y (List.mem_cons_of_mem _ hy)
      have := hz z List.mem_cons_self
      unfold tn; omega
  exact this _ _ hu fun z hz => entry_nn (suf_sub (List.mem_reverse.mp hz))
/-- the waits after t steps -/
theorem wait_far (t : Nat) : ∀ {q D : List Int}, q.Nodup → D.Pairwise (· > ·) → D.Perm q → ∀ p ∈ D, D.head? ≠ some p → waitOf (itr t q) D p = wlft (waitOf q D p) (cnt q D p t) := by
  induction t with
  | zero =>
    intro q D hn hs hp p hm hne
    show waitOf q D p = wlft _ (cnt q D p 0)
    rw [cnt_zero]
    have := waitOf_nn (q := q) hm
    unfold wlft
    rw [if_pos this]; omega
  | succ t ih =>
    intro q D hn hs hp p hm hne
    obtain ⟨x, xs, rfl⟩ : ∃ x xs, q = x :: xs := by
      cases q with
      | nil => rw [List.perm_nil.mp hp] at hm; cases hm
      | cons x xs => exact ⟨x, xs, rfl⟩
    obtain ⟨a, b, e, hA, hB⟩ := split_desc hs (hp.mem_iff.mpr List.mem_cons_self)
    have hp' : (a ++ x :: b).Perm (x :: xs) := e ▸ hp
    have hm' : p ∈ a ++ x :: b := e ▸ hm
    have step := ih (q := insQ x xs) ((insQ_perm x xs).nodup_iff.mpr hn) hs (hp.trans (insQ_perm x xs).symm) p hm hne
    show waitOf (itr t (insQ x xs)) D p = _
    rw [step]
    have c := cnt_step hn hp' hA hB (p := p) (u := (t : Int) + 1) hm' (by omega)
    rw [← e, show ((t : Int) + 1) - 1 = t by omega] at c
    rw [c, show ((t + 1 : Nat) : Int) = (t : Int) + 1 by omega]
    have c0 := cnt_nn (q := x :: xs) (D := D) (p := p) (u := (t : Int) + 1) (by omega)
    by_cases ep : x = p
    · subst ep
      have v1 := cnt_pos hn hp' hA hB (u := (t : Int) + 1) (by omega)
      rw [← e] at v1
      have mw := mover_wait hn hp' hA hB
      have f := (at_front hn hp' hA hB).1
      rw [← e] at mw f
      have ha : a ≠ [] := fun z => hne (by rw [e, z]; rfl)
      rw [if_neg (Int.lt_irrefl x), mw, if_neg ha, f]
      generalize cnt (x :: xs) D x ((t : Int) + 1) = cc at *
      unfold wlft
      by_cases h1 : cc ≤ 0
      · omega
      · rw [if_neg h1]
        by_cases h2 : cc - 1 ≤ 1
        · rw [if_pos h2]; omega
        · rw [if_neg h2]; omega
    · have hpAB : p ∈ a ++ b := by
        rcases List.mem_append.mp hm' with q | q
        · exact List.mem_append_left _ q
        · rcases List.mem_cons.mp q with q | q
          · exact absurd q.symm ep
          · exact List.mem_append_right _ q
      have o := (over_step hn hp' hA hB hpAB).1
      rw [← e] at o
      rw [o]
      by_cases h : x < p
      · rw [if_pos h, if_pos h]; congr 1; omega
      · rw [if_neg h, if_neg h]
        generalize cnt (x :: xs) D p ((t : Int) + 1) = cc at *
        generalize waitOf (x :: xs) D p = w at *
        unfold wlft
        by_cases h1 : cc ≤ w
        · rw [if_pos h1, if_pos (by omega)]; omega
        · rw [if_neg h1, if_neg (by omega)]; congr 1; omega
theorem head_wait {q D : List Int} {d : Int} (h : D.head? = some d) : waitOf q D d = 0 := by
  cases D with
  | nil => cases h
  | cons x xs =>
    have e : x = d := by simpa using h
    subst e
    unfold waitOf
    show lk (wl (pos q) [(x, fw (pos q) x [] 0)] xs) x = 0
    obtain ⟨R, e1, _⟩ := wl_prefix (pos q) xs [(x, fw (pos q) x [] 0)]
    rw [e1]
    show (if x = x then fw (pos q) x [] 0 else _) = 0
    rw [if_pos rfl]; rfl
/-- the list of waits by persons -/
theorem wl_map {q : List Int} : ∀ {D : List Int}, D.Nodup → wl (pos q) [] D = D.map fun p => (p, waitOf q D p) := fun {D} hn => by
  have fst := wl_fst (pos q) D []
  have key : ∀ (l : List (Int × Int)), (l.map (·.1)).Nodup → l = (l.map (·.1)).map fun p => (p, lk l p) := by
    intro l
    induction l with
    | nil => intro _; rfl
    | cons z l ih =>
      intro h
      obtain ⟨h1, h2⟩ := List.nodup_cons.mp (show (z.1 :: l.map (·.1)).Nodup from h)
      show z :: l = (z.1, if z.1 = z.1 then z.2 else lk l z.1) :: (l.map (·.1)).map fun p => (p, if z.1 = p then z.2 else lk l p)
      rw [if_pos rfl]
      have e2 : (l.map (·.1)).map (fun p => (p, if z.1 = p then z.2 else lk l p)) = (l.map (·.1)).map fun p => (p, lk l p) := List.map_congr_left fun p hp => by
        rw [if_neg fun e : z.1 = p => h1 (by rw [e]; exact hp)]
      rw [e2, ← ih h2]
  have fst' : (wl (pos q) [] D).map (·.1) = D := by rw [fst]; rfl
  have := key (wl (pos q) [] D) (by rw [fst']; exact hn)
  rw [fst'] at this
  exact this
/-! ### the queue from its waits -/
def part : List Nat → Nat → Int
  | _, 0 => 0
  | [], _ + 1 => 0
  | k :: ks, j + 1 => 2 ^ k + part ks j
def findJ : List Nat → Int → Nat
  | [], _ => 0
  | k :: ks, w => if 0 < w then findJ ks (w - 2 ^ k) + 1 else 0
theorem part_nn : ∀ (ks : List Nat) (j : Nat), 0 ≤ part ks j
  | _, 0 => by unfold part; omega
  | [], _ + 1 => Int.le_refl 0
  | k :: ks, j + 1 => by
    have := part_nn ks j
    have h2 : (0 : Int) < 2 ^ k := Int.pow_pos (by decide)
    show 0 ≤ 2 ^ k + part ks j
    omega
theorem findJ_part : ∀ (ks : List Nat) (j : Nat), j ≤ ks.length → findJ ks (part ks j) = j
  | [], 0, _ => rfl
  | [], j + 1, h => by simp at h
  | k :: ks, 0, _ => by show (if (0 : Int) < part (k :: ks) 0 then _ else _) = _; rw [if_neg (by unfold part; omega)]
  | k :: ks, j + 1, h => by
    have h2 : (0 : Int) < 2 ^ k := Int.pow_pos (by decide)
    have := part_nn ks j
    show (if (0 : Int) < 2 ^ k + part ks j then findJ ks (2 ^ k + part ks j - 2 ^ k) + 1 else 0) = _
    rw [if_pos (by omega), show (2 : Int) ^ k + part ks j - 2 ^ k = part ks j by omega, findJ_part ks j (by simpa using h)]
/-- a person put in by its wait -/
def putW (z : Int × Int) (s : List Int × List Nat) : List Int × List Nat :=
  (s.1.take (findJ s.2 z.2) ++ z.1 :: s.1.drop (findJ s.2 z.2), s.2.take (findJ s.2 z.2) ++ 0 :: (s.2.drop (findJ s.2 z.2)).map (· + 1))
def lineOf (l : List (Int × Int)) : List Int × List Nat := l.foldl (fun s z => putW z s) ([], [])
def fm (S : List Int) (acc : List (Int × Int)) (s : Int) : Int := acc.foldl (fun s z => if z.1 ∈ S then s + (1 + s - z.2) else s) s
theorem fm_snoc (S : List Int) (acc : List (Int × Int)) (z : Int × Int) (s : Int) : fm S (acc ++ [z]) s = if z.1 ∈ S then fm S acc s + (1 + fm S acc s - z.2) else fm S acc s := by
  unfold fm; rw [List.foldl_append]; rfl
theorem fm_congr {S T : List Int} : ∀ {acc : List (Int × Int)} {s : Int}, (∀ z ∈ acc, z.1 ∈ S ↔ z.1 ∈ T) → fm S acc s = fm T acc s
  | [], _, _ => rfl
  | z :: acc, s, h => by
    show fm S acc (if z.1 ∈ S then _ else _) = fm T acc (if z.1 ∈ T then _ else _)
    rw [fm_congr fun y hy => h y (List.mem_cons_of_mem _ hy)]
    by_cases c : z.1 ∈ S
    · rw [if_pos c, if_pos ((h z List.mem_cons_self).mp c)]
    · rw [if_neg c, if_neg fun q => c ((h z List.mem_cons_self).mpr q)]
theorem fw_fm {pos : Int → Int} {p : Int} {S : List Int} : ∀ {acc : List (Int × Int)} {s : Int}, (∀ z ∈ acc, pos z.1 < pos p ↔ z.1 ∈ S) → fw pos p acc s = fm S acc s
  | [], _, _ => rfl
  | z :: acc, s, h => by
    rw [fw_cons]
    show _ = fm S acc (if z.1 ∈ S then _ else _)
    rw [fw_fm fun y hy => h y (List.mem_cons_of_mem _ hy)]
    by_cases c : z.1 ∈ S
    · rw [if_pos c, if_pos ((h z List.mem_cons_self).mpr c)]
    · rw [if_neg c, if_neg fun q => c ((h z List.mem_cons_self).mp q)]
theorem part_take : ∀ (a b : List Nat) (j : Nat), j ≤ a.length → part (a ++ b) j = part a j
  | _, _, 0, _ => by unfold part; rfl
  | [], b, j + 1, h => by simp at h
  | k :: a, b, j + 1, h => by
    show 2 ^ k + part (a ++ b) j = 2 ^ k + part a j
    rw [part_take a b j (by simpa using h)]
theorem part_app : ∀ (a b : List Nat) (i : Nat), part (a ++ b) (a.length + i) = part a a.length + part b i
  | [], b, i => by
    show part b (0 + i) = part [] 0 + part b i
    rw [Nat.zero_add]; unfold part; omega
  | k :: a, b, i => by
    rw [List.length_cons, show a.length + 1 + i = (a.length + i) + 1 by omega]
    show 2 ^ k + part (a ++ b) (a.length + i) = 2 ^ k + part a a.length + part b i
    rw [part_app a b i]; omega
theorem part_up : ∀ (b : List Nat) (i : Nat), part (b.map (· + 1)) i = 2 * part b i
  | _, 0 => by unfold part; rfl
  | [], _ + 1 => rfl
  | k :: b, i + 1 => by
    show 2 ^ (k + 1) + part (b.map (· + 1)) i = 2 * (2 ^ k + part b i)
    rw [part_up b i, Int.pow_succ]; omega
structure Plc (q A : List Int) (s : List Int × List Nat) : Prop where
  line : s.1 = q.filter fun z => decide (z ∈ A)
  len : s.2.length = s.1.length
  sums : ∀ j, j ≤ s.1.length → part s.2 j = fm (s.1.take j) (wl (pos q) [] A) 0
  first : ∀ k, s.2[0]? = some k → k = 0
theorem plc_step {q A : List Int} {p : Int} {s : List Int × List Nat} (hq : q.Nodup) {pre post : List Int} (e : q = pre ++ p :: post) (hA : p ∉ A) (hAq : ∀ z ∈ A, z ∈ q) (S : Plc q A s) : Plc q (A ++ [p]) (putW (p, fw (pos q) p (wl (pos q) [] A) 0) s) ∧ (pre.filter fun z => decide (z ∈ A)).length ≤ s.2.length ∧ fw (pos q) p (wl (pos q) [] A) 0 = part s.2 (pre.filter fun z => decide (z ∈ A)).length := by
  obtain ⟨line, ks⟩ := s
  obtain ⟨h1, h2, h3, h0⟩ := S
  simp only at h1 h2 h3 h0
  have hnd := hq
  rw [e] at hnd
  have npre : p ∉ pre := fun z => (List.nodup_append.mp hnd).2.2 p z p List.mem_cons_self rfl
  have npost : p ∉ post := (List.nodup_cons.mp (List.nodup_append.mp hnd).2.1).1
  have disj : ∀ z ∈ pre, z ∉ post := fun z hz hz2 => (List.nodup_append.mp hnd).2.2 z hz z (List.mem_cons_of_mem _ hz2) rfl
  obtain ⟨a, ha⟩ : ∃ a, pre.filter (fun z => decide (z ∈ A)) = a := ⟨_, rfl⟩
  obtain ⟨b, hb⟩ : ∃ b, post.filter (fun z => decide (z ∈ A)) = b := ⟨_, rfl⟩
  have eline : line = a ++ b := by
    rw [h1, e, List.filter_append, List.filter_cons, if_neg (by simpa using hA), ha, hb]
  have inA : ∀ z ∈ wl (pos q) [] A, z.1 ∈ A := fun z hz => by
    have : (wl (pos q) [] A).map (·.1) = A := by rw [wl_fst]; rfl
    rw [← this]; exact List.mem_map_of_mem hz
  have ahead : ∀ z ∈ wl (pos q) [] A, pos q z.1 < pos q p ↔ z.1 ∈ a := fun z hz => by
    have hzA := inA z hz
    have hzq := hAq _ hzA
    have hne : z.1 ≠ p := fun c => hA (c ▸ hzA)
    rw [← ha, List.mem_filter]
    have pp : pos q p = pre.length := by rw [e, pos_append, if_neg npre, pos_cons_self]; omega
    rw [pp]
    constructor
    · intro hlt
      refine ⟨?_, by simpa using hzA⟩
      rw [e, List.mem_append, List.mem_cons] at hzq
      rcases hzq with c | c | c
      · exact c
      · exact absurd c hne
      · exfalso
        have : pos q z.1 = pre.length + (pos post z.1 + 1) := by
          rw [e, pos_append, if_neg fun d => disj _ d c, pos_cons_ne _ hne]
        have := pos_nn post z.1
        omega
    · intro ⟨c, _⟩
      rw [e, pos_append, if_pos c]
      exact pos_lt c
  have ew : fw (pos q) p (wl (pos q) [] A) 0 = part ks a.length := by
    rw [fw_fm ahead, h3 a.length (by rw [eline, List.length_append]; omega), eline]
    congr 1
    rw [List.take_left]
  have hj : findJ ks (fw (pos q) p (wl (pos q) [] A) 0) = a.length := by
    rw [ew]
    exact findJ_part ks a.length (by rw [h2, eline, List.length_append]; omega)
  have ewl : wl (pos q) [] (A ++ [p]) = wl (pos q) [] A ++ [(p, fw (pos q) p (wl (pos q) [] A) 0)] := wl_snoc _ _ _
  have eput : putW (p, fw (pos q) p (wl (pos q) [] A) 0) (line, ks) = (a ++ p :: b, ks.take a.length ++ 0 :: (ks.drop a.length).map (· + 1)) := by
    unfold putW
    simp only
    rw [hj, eline, List.take_left, List.drop_left]
  have lk1 : (ks.take a.length).length = a.length := by rw [List.length_take, h2, eline, List.length_append]; omega
  refine ⟨?_, by rw [ha]; show a.length ≤ ks.length; rw [h2, eline, List.length_append]; omega, by rw [ha]; exact ew⟩
  rw [eput]
  refine ⟨?_, ?_, ?_, ?_⟩
  · show a ++ p :: b = _
    rw [e, List.filter_append, List.filter_cons, if_pos (by simp)]
    have f1 : pre.filter (fun z => decide (z ∈ A ++ [p])) = a := by
      rw [← ha]
      refine List.filter_congr fun z hz => ?_
      have : z ≠ p := fun c => npre (c ▸ hz)
      simp [this]
    have f2 : post.filter (fun z => decide (z ∈ A ++ [p])) = b := by
      rw [← hb]
      refine List.filter_congr fun z hz => ?_
      have : z ≠ p := fun c => npost (c ▸ hz)
      simp [this]
    rw [f1, f2]
  · show (ks.take a.length ++ 0 :: (ks.drop a.length).map (· + 1)).length = (a ++ p :: b).length
    rw [List.length_append, lk1, List.length_cons, List.length_map, List.length_drop, h2, eline, List.length_append, List.length_append, List.length_cons]; omega
  · intro j hjl
    show part (ks.take a.length ++ 0 :: (ks.drop a.length).map (· + 1)) j = fm ((a ++ p :: b).take j) (wl (pos q) [] (A ++ [p])) 0
    rw [ewl, fm_snoc]
    have pna : p ∉ a := fun z => npre (by rw [← ha] at z; exact (List.mem_filter.mp z).1)
    by_cases c : j ≤ a.length
    · have t1 : (a ++ p :: b).take j = line.take j := by rw [eline, List.take_append_of_le_length c, List.take_append_of_le_length c]
      have t2 : (p ∉ (a ++ p :: b).take j) := by
        rw [List.take_append_of_le_length c]
        exact fun z => pna (List.mem_of_mem_take z)
      rw [if_neg t2, t1, ← h3 j (by rw [eline, List.length_append]; omega), part_take _ _ _ (by omega)]
      conv => rhs; rw [← List.take_append_drop a.length ks]
      rw [part_take _ _ _ (by omega)]
    · obtain ⟨i, rfl⟩ : ∃ i, j = a.length + (i + 1) := ⟨j - a.length - 1, by omega⟩
      have tk : (a ++ p :: b).take (a.length + (i + 1)) = a ++ p :: b.take i := by rw [List.take_length_add_append, List.take_succ_cons]
      have t2 : p ∈ (a ++ p :: b).take (a.length + (i + 1)) := by rw [tk]; simp
      have t3 : fm ((a ++ p :: b).take (a.length + (i + 1))) (wl (pos q) [] A) 0 = part ks (a.length + i) := by
        rw [h3 (a.length + i) (by rw [eline, List.length_append]; simp at hjl; omega), eline, tk, List.take_length_add_append]
        refine fm_congr fun z hz => ?_
        have : z.1 ≠ p := fun c => hA (c ▸ inA z hz)
        simp [this]
      rw [if_pos t2, t3, ew]
      have p1 : part (ks.take a.length ++ 0 :: (ks.drop a.length).map (· + 1)) (a.length + (i + 1)) = part (ks.take a.length) a.length + (1 + 2 * part (ks.drop a.length) i) := by
        have := part_app (ks.take a.length) (0 :: (ks.drop a.length).map (· + 1)) (i + 1)
        rw [lk1] at this
        rw [this]
        show _ + (2 ^ 0 + part ((ks.drop a.length).map (· + 1)) i) = _
        rw [part_up]; omega
      have p2 : part ks (a.length + i) = part (ks.take a.length) a.length + part (ks.drop a.length) i := by
        have := part_app (ks.take a.length) (ks.drop a.length) i
        rw [lk1, List.take_append_drop] at this
        exact this
      have p3 : part ks a.length = part (ks.take a.length) a.length := by
        conv => lhs; rw [← List.take_append_drop a.length ks]
        rw [part_take _ _ _ (by omega)]
      rw [p1, p2, p3]; omega
  · intro k hk
    have hk' : (ks.take a.length ++ 0 :: (ks.drop a.length).map (· + 1))[0]? = some k := hk
    cases a with
    | nil => simpa using hk'.symm
    | cons y a =>
      rw [List.getElem?_append_left (by rw [lk1]; simp)] at hk'
      rw [List.getElem?_take_of_lt (by simp)] at hk'
      exact h0 k hk'
/-- each wait is a sum of what stands in front -/
def good : List (Int × Int) → List Int × List Nat → Prop
  | [], _ => True
  | z :: R, s => (∃ j, j ≤ s.2.length ∧ z.2 = part s.2 j) ∧ good R (putW z s)
theorem plc_all {q : List Int} (hq : q.Nodup) : ∀ (B A : List Int) (s : List Int × List Nat), (A ++ B).Nodup → (∀ z ∈ A ++ B, z ∈ q) → Plc q A s → ∃ R, wl (pos q) [] (A ++ B) = wl (pos q) [] A ++ R ∧ Plc q (A ++ B) (R.foldl (fun s z => putW z s) s) ∧ good R s
  | [], A, s, _, _, S => ⟨[], by simp, by simpa using S, trivial⟩
  | p :: B, A, s, hn, hsub, S => by
    have hA : p ∉ A := fun z => (List.nodup_append.mp hn).2.2 p z p List.mem_cons_self rfl
    obtain ⟨pre, post, eq⟩ := List.append_of_mem (hsub p (by simp))
    obtain ⟨S', hj1, hj2⟩ := plc_step hq eq hA (fun z hz => hsub z (List.mem_append_left _ hz)) S
    obtain ⟨R, e1, e2, e3⟩ := plc_all hq B (A ++ [p]) _ (by rw [List.append_assoc]; exact hn) (by rw [List.append_assoc]; exact hsub) S'
    refine ⟨(p, fw (pos q) p (wl (pos q) [] A) 0) :: R, ?_, ?_, ⟨_, hj1, hj2⟩, e3⟩
    · rw [List.append_assoc] at e1
      rw [show A ++ p :: B = A ++ ([p] ++ B) from rfl, e1, wl_snoc]; simp
    · rw [List.append_assoc] at e2
      exact e2
theorem lineOf_wl {q D : List Int} (hq : q.Nodup) (hD : D.Nodup) (hp : D.Perm q) : (lineOf (wl (pos q) [] D)).1 = q ∧ good (wl (pos q) [] D) ([], []) := by
  obtain ⟨R, e1, e2, e3⟩ := plc_all hq D [] ([], []) (by simpa using hD) (fun z hz => hp.mem_iff.mp (by simpa using hz)) ⟨by simp, rfl, fun j hj => by
    have : j = 0 := by simpa using hj
    subst this
    simp [part, fm, wl], fun k hk => by simp at hk⟩
  have : wl (pos q) [] D = R := by simpa [wl] using e1
  unfold lineOf
  rw [this, e2.line]
  refine ⟨List.filter_eq_self.mpr fun z hz => ?_, e3⟩
  simpa using hp.mem_iff.mpr hz
/-- the exponents stay small -/
theorem putW_le {n : Nat} {z : Int × Int} {s : List Int × List Nat} (h : ∀ k ∈ s.2, k ≤ n) : ∀ k ∈ (putW z s).2, k ≤ n + 1 := fun k hk => by
  unfold putW at hk
  simp only at hk
  rcases List.mem_append.mp hk with c | c
  · have := h k (List.mem_of_mem_take c); omega
  · rcases List.mem_cons.mp c with c | c
    · omega
    · obtain ⟨y, hy, rfl⟩ := List.mem_map.mp c
      have := h y (List.mem_of_mem_drop hy); omega
end Mw
end
section
set_option Elab.async false
set_option linter.all false
set_option maxRecDepth 100000
set_option exponentiation.threshold 600
set_option maxHeartbeats 8000000
namespace Sd
open PySem L2
/-! small facts, of PLq, for laws of other families -/
theorem cut_mem {α : Type} {xs : List α} {lo hi : Option Int} {x : α} (h : x ∈ cutP xs lo hi) : x ∈ xs := List.mem_of_mem_drop (List.mem_of_mem_take h)
theorem cut_len {α : Type} (xs : List α) (lo hi : Option Int) : (cutP xs lo hi).length ≤ xs.length := by
  unfold cutP
  rw [List.length_take, List.length_drop]; omega
theorem ints_get {l : List Int} {i : Nat} {x : PV} (h : (l.map PV.int)[i]? = some x) : ∃ k, x = .int k ∧ k ∈ l := by
  rw [List.getElem?_map] at h
  obtain ⟨k, hk, rfl⟩ := Option.map_eq_some_iff.mp h
  exact ⟨k, rfl, List.mem_of_getElem? hk⟩
theorem rng_get {n i : Nat} {lo : Int} {x : PV} (h : (rng lo n)[i]? = some x) : i < n ∧ x = .int (lo + i) := by
  have hi : i < n := by have := (List.getElem?_eq_some_iff.mp h).1; simpa [rng] using this
  refine ⟨hi, ?_⟩
  unfold rng at h
  rw [List.getElem?_map, List.getElem?_range hi] at h
  simpa using h.symm
theorem rng_len (lo : Int) (n : Nat) : (rng lo n).length = n := by simp [rng]
theorem Que.itr {xs : List Int} (h : Que xs) (t : Nat) : Que (Mw.itr t xs) := by
  have p := Mw.itr_perm t xs
  exact ⟨p.nodup_iff.mpr h.nd, fun e => h.ne (by rw [e] at p; exact List.nil_perm.mp p), by rw [p.length_eq]; exact h.le, fun x hx => h.bd x (p.mem_iff.mp hx)⟩
theorem Que.sh {xs : List Int} (h : Que xs) : Shw 23000 2 (.tup (xs.map PV.int)) := by
  refine (Shw.tup (n := 571) (d := 1) fun x hx => ?_).wide (by rw [List.length_map]; have := h.le; omega) (by decide)
  obtain ⟨i, hi, rfl⟩ := List.mem_map.mp hx
  have := h.bd i hi
  have : i.natAbs ≤ 10 ^ 30 := by omega
  exact .int (Nat.lt_of_le_of_lt this (by decide +kernel))
theorem Que.shows {xs : List Int} (h : Que xs) : (PV.tup (xs.map PV.int)).shows = true := shows_of h.sh (by unfold big; omega) (by decide)
end Sd
end
section
set_option Elab.async false
set_option linter.all false
set_option maxRecDepth 100000
set_option exponentiation.threshold 600
set_option maxHeartbeats 8000000
namespace Sd
open PySem L2
/-! ### people -/
abbrev X30 : Int := 1000000000000000000000000000000
noncomputable abbrev body_pp : List Sl → SRes := (dSeq (dSet 7 (eOp gIx (eLst [.val (eOp gPowB (eC (.int 10)) (eC (.int 3))), .val (eOp gPowB (eC (.int 10)) (eC (.int 7))), .val (eOp gPowB (eC (.int 10)) (eC (.int 13))), .val (eOp gPowB (eC (.int 10)) (eC (.int 20))), .val (eOp gPowB (eC (.int 10)) (eC (.int 27)))]) (eUser 2 f_law_sip [.io 0, .val (eC (.int 5))])))
      (dSeq (dSet 3 (eOp gAdd (eOp gAdd (eVar 3) (eC (.int 1))) (eUser 2 f_law_sip [.io 0, .val (eOp gIx (eLst [.val (eC (.int 1)), .val (eC (.int 7)), .val (eOp gMulI (eC (.int 5)) (eOp gPowB (eC (.int 10)) (eC (.int 28)))), .val (eC (.int 9)), .val (eVar 7)]) (eVar 5))])))
      (dSeq (dDrop (eMeth 6 gAppend [.val (eVar 3)]))
      (dNil))))
theorem pp_body (s1 s2 s4 s7 : Sl) (n7 : NBo s7) {o : Ob} {c last st W : Int} {xs : List Int} (po : Fnt c o) (hc : c < 2 ^ 57) (hl : xs.length ≤ 100)
    (hW : ∀ w : Int, 0 < w → w ≤ 1000000000000000000000000000 → ∃ b : Int, atI [PV.int 1, .int 7, .int 50000000000000000000000000000, .int 9, .int w] st = some (.int b) ∧ 0 < b ∧ b ≤ W) (hW2 : W ≤ 50000000000000000000000000000) :
    ∃ (o' : Ob) (t7 : Sl) (last' : Int), NBo t7 ∧ Fnt (c + 2) o' ∧ last < last' ∧ last' ≤ last + W ∧ body_pp [.bor o, s1, s2, .pv (.int last), s4, .pv (.int st), .own (.lst (xs.map PV.int)), s7] = .nx [.bor o', s1, s2, .pv (.int last'), s4, .pv (.int st), .own (.lst ((xs ++ [last']).map PV.int)), t7] := by
  obtain ⟨i, o1, p1, i0, i1, e1⟩ := sip_ok (n := 5) po (by omega) (by decide) (by decide)
  obtain ⟨w, hw, w0, w1⟩ : ∃ w : Int, atI [PV.int 1000, .int 10000000, .int 10000000000000, .int 100000000000000000000, .int 1000000000000000000000000000] i = some (.int w) ∧ 0 < w ∧ w ≤ 1000000000000000000000000000 := by
    have : i = 0 ∨ i = 1 ∨ i = 2 ∨ i = 3 ∨ i = 4 := by omega
    rcases this with rfl | rfl | rfl | rfl | rfl
    · exact ⟨_, rfl, by omega, by omega⟩
    · exact ⟨_, rfl, by omega, by omega⟩
    · exact ⟨_, rfl, by omega, by omega⟩
    · exact ⟨_, rfl, by omega, by omega⟩
    · exact ⟨_, rfl, by omega, by omega⟩
  obtain ⟨b, hb, b0, b1⟩ := hW w w0 w1
  obtain ⟨v, o2, p2, v0, v1, e2⟩ := sip_ok (n := b) p1 (by omega) b0 (fits_of (by omega) (by omega))
  have lx : (xs.map PV.int).length < big := by rw [List.length_map]; unfold big; omega
  have g5 : 5 ≤ big := by unfold big; omega
  have f10 : fits 10 = true := by decide
  have f5 : fits 5 = true := by decide
  have fP : fits 10000000000000000000000000000 = true := by decide +kernel
  have P3 : gPowB (.int 10) (.int 3) = some (.pv (.int 1000)) := by simp [f10]
  have P7 : gPowB (.int 10) (.int 7) = some (.pv (.int 10000000)) := by simp [f10]
  have P13 : gPowB (.int 10) (.int 13) = some (.pv (.int 10000000000000)) := by simp [f10]
  have P20 : gPowB (.int 10) (.int 20) = some (.pv (.int 100000000000000000000)) := by simp [f10]
  have P27 : gPowB (.int 10) (.int 27) = some (.pv (.int 1000000000000000000000000000)) := by simp [f10]
  have P28 : gPowB (.int 10) (.int 28) = some (.pv (.int 10000000000000000000000000000)) := by simp [f10]
  refine ⟨o2, .pv (.int w), last + 1 + v, (fun q z => nomatch z), by simpa [show c + 1 + 1 = c + 2 by omega] using p2, by omega, by omega, ?_⟩
  rw [List.map_append, List.map_cons, List.map_nil]
  unfold body_pp
  generalize gPowB = gp at *
  generalize f_law_sip = gs at *
  generalize xs.map PV.int = X at *
  have t7 : dSet 7 (eOp gIx (eLst [.val (eOp gp (eC (.int 10)) (eC (.int 3))), .val (eOp gp (eC (.int 10)) (eC (.int 7))), .val (eOp gp (eC (.int 10)) (eC (.int 13))), .val (eOp gp (eC (.int 10)) (eC (.int 20))), .val (eOp gp (eC (.int 10)) (eC (.int 27)))]) (eUser 2 gs [.io 0, .val (eC (.int 5))])) [.bor o, s1, s2, .pv (.int last), s4, .pv (.int st), .own (.lst X), s7] = .nx [.bor o1, s1, s2, .pv (.int last), s4, .pv (.int st), .own (.lst X), .pv (.int w)] := by
    cases s7 with
    | bor o => exact absurd rfl (n7 o)
    | _ => simp [P3, P7, P13, P20, P27, e1, hw, g5]
  have t3 : dSet 3 (eOp gAdd (eOp gAdd (eVar 3) (eC (.int 1))) (eUser 2 gs [.io 0, .val (eOp gIx (eLst [.val (eC (.int 1)), .val (eC (.int 7)), .val (eOp gMulI (eC (.int 5)) (eOp gp (eC (.int 10)) (eC (.int 28)))), .val (eC (.int 9)), .val (eVar 7)]) (eVar 5))])) [.bor o1, s1, s2, .pv (.int last), s4, .pv (.int st), .own (.lst X), .pv (.int w)] = .nx [.bor o2, s1, s2, .pv (.int (last + 1 + v)), s4, .pv (.int st), .own (.lst X), .pv (.int w)] := by
    simp [P28, f5, fP, hb, e2, g5]
  simp only [dSeq, t7, t3, SRes.thn_nx]
  simp [lx]
/-- an ascending list of n, all between -/
def Up (n : Nat) (lo hi : Int) (xs : List Int) : Prop := xs.Pairwise (· < ·) ∧ xs.length = n ∧ ∀ x ∈ xs, lo < x ∧ x ≤ hi
theorem pp_loop (s1 s2 : Sl) {st W : Int} (hW : ∀ w : Int, 0 < w → w ≤ 1000000000000000000000000000 → ∃ b : Int, atI [PV.int 1, .int 7, .int 50000000000000000000000000000, .int 9, .int w] st = some (.int b) ∧ 0 < b ∧ b ≤ W) (hW2 : W ≤ 50000000000000000000000000000) {o : Ob} {c base : Int} (po : Fnt c o) (hc : c < 2 ^ 56) (W0 : 0 ≤ W) (n : Nat) (hn : n ≤ 40) :
    ∃ (o' : Ob) (xs : List Int) (last : Int) (t4 t7 : Sl), Fnt (c + 2 * n) o' ∧ Up n base (base + n * W) xs ∧ forL (gNm 4) body_pp (rng 0 n) [.bor o, s1, s2, .pv (.int base), .un, .pv (.int st), .own (.lst []), .un] = .nx [.bor o', s1, s2, .pv (.int last), t4, .pv (.int st), .own (.lst (xs.map PV.int)), t7] := by
  obtain ⟨m', e, o', xs, last, t4, t7, n4, n7, po', up, lb, lh, rfl⟩ := forL_inv (tgt := gNm 4) (d := body_pp) (xs := rng 0 n) (fun i m => ∃ (o' : Ob) (xs : List Int) (last : Int) (t4 t7 : Sl), NBo t4 ∧ NBo t7 ∧ Fnt (c + 2 * i) o' ∧ Up i base last xs ∧ base ≤ last ∧ last ≤ base + i * W ∧ m = [.bor o', s1, s2, .pv (.int last), t4, .pv (.int st), .own (.lst (xs.map PV.int)), t7]) (fun i x m hx ⟨o', xs, last, t4, t7, n4, n7, po', up, lb, lh, em⟩ => by
    subst em
    obtain ⟨hi, rfl⟩ := rng_get hx
    obtain ⟨o2, u7, last', m7, p2, l1, l2, eb⟩ := pp_body s1 s2 (.pv (.int (0 + i))) t7 n7 (st := st) (last := last) (xs := xs) po' (by omega) (by have := up.2.1; omega) hW hW2
    refine ⟨[.bor o', s1, s2, .pv (.int last), .pv (.int (0 + i)), .pv (.int st), .own (.lst (xs.map PV.int)), t7], _, ?_, .inl eb, o2, xs ++ [last'], last', .pv (.int (0 + i)), u7, (fun q z => nomatch z), m7, by rw [show c + 2 * ((i + 1 : Nat) : Int) = c + 2 * i + 2 by omega]; exact p2, ⟨?_, by rw [List.length_append, up.2.1]; rfl, fun y hy => ?_⟩, by omega, ?_, rfl⟩
    · generalize xs.map PV.int = X at *
      cases t4 with
      | bor o => exact absurd rfl (n4 o)
      | _ => simp
    · rw [List.pairwise_append]
      refine ⟨up.1, List.pairwise_singleton _ _, fun a ha b hb => ?_⟩
      rw [List.mem_singleton.mp hb]
      have := up.2.2 a ha
      omega
    · rcases List.mem_append.mp hy with q | q
      · have := up.2.2 y q
        omega
      · rw [List.mem_singleton.mp q]; omega
    · have : ((i + 1 : Nat) : Int) * W = i * W + W := by rw [Int.natCast_add, Int.add_mul]; simp
      omega) [.bor o, s1, s2, .pv (.int base), .un, .pv (.int st), .own (.lst []), .un] ⟨o, [], base, .un, .un, (fun q z => nomatch z), (fun q z => nomatch z), by simpa using po, ⟨List.Pairwise.nil, rfl, fun x hx => nomatch hx⟩, Int.le_refl _, by simp, rfl⟩
  rw [rng_len] at po' up lh
  refine ⟨o', xs, last, t4, t7, po', ⟨up.1, up.2.1, fun x hx => ?_⟩, e⟩
  have := up.2.2 x hx
  omega
theorem f_people {most : Int} (h1 : 1 ≤ most) (hm : most ≤ 40) {o : Ob} {c : Int} (po : Fnt c o) (hc : c < 2 ^ 55) : ∃ (xs : List Int) (o' : Ob), xs.Pairwise (· < ·) ∧ Que xs ∧ (xs.length : Int) ≤ most ∧ Fnt (c + 90) o' ∧ f_law_people [.bor o, .pv (.int most)] = .ok (.pv (.lst (xs.map PV.int))) [.bor o', .un] := by
  obtain ⟨v1, o1, p1, a1, b1, e1⟩ := sip_ok (n := most) po (by omega) (by omega) (fits_of (by omega) (by omega))
  obtain ⟨m5, hm5, m50, m51⟩ : ∃ m5 : Int, (if 5 < most then (5 : Int) else most) = m5 ∧ 0 < m5 ∧ m5 ≤ most := ⟨_, rfl, by split <;> omega, by split <;> omega⟩
  obtain ⟨v2, o2, p2, a2, b2, e2⟩ := sip_ok (n := m5) p1 (by omega) (by omega) (fits_of (by omega) (by omega))
  obtain ⟨v3, o3, p3, a3, b3, e3⟩ := sip_ok (n := 3) p2 (by omega) (by decide) (by decide)
  obtain ⟨n, hn, n1, n2⟩ : ∃ n : Int, atI [PV.int (1 + v1), .int most, .int (1 + v2)] v3 = some (.int n) ∧ 1 ≤ n ∧ n ≤ most := by
    have : v3 = 0 ∨ v3 = 1 ∨ v3 = 2 := by omega
    rcases this with rfl | rfl | rfl
    · exact ⟨_, rfl, by omega, by omega⟩
    · exact ⟨_, rfl, by omega, by omega⟩
    · exact ⟨_, rfl, by omega, by omega⟩
  obtain ⟨n, rfl⟩ : ∃ k : Nat, n = k := ⟨n.toNat, by omega⟩
  obtain ⟨st, o4, p4, a4, b4, e4⟩ := sip_ok (n := 5) p3 (by omega) (by decide) (by decide)
  obtain ⟨v5, o5, p5, a5, b5, e5⟩ := sip_ok (n := 50) p4 (by omega) (by decide) (by decide)
  obtain ⟨v6, o6, p6, a6, b6, e6⟩ := sip_ok (n := 100000000000000000000) p5 (by omega) (by decide) (by decide +kernel)
  obtain ⟨base, W, hb, hW, W0, W2, k1, k2⟩ : ∃ base W : Int, atI [PV.int 0, .int (v5 - 25), .int (-1000000000000000000000000000001), .int 999999999999999999999999999600, .int (-v6)] st = some (.int base) ∧ (∀ w : Int, 0 < w → w ≤ 1000000000000000000000000000 → ∃ b : Int, atI [PV.int 1, .int 7, .int 50000000000000000000000000000, .int 9, .int w] st = some (.int b) ∧ 0 < b ∧ b ≤ W) ∧ 0 ≤ W ∧ W ≤ 50000000000000000000000000000 ∧ -1000000000000000000000000000000 ≤ base + 1 ∧ base + 40 * W ≤ 1000000000000000000000000000000 := by
    have : st = 0 ∨ st = 1 ∨ st = 2 ∨ st = 3 ∨ st = 4 := by omega
    rcases this with rfl | rfl | rfl | rfl | rfl
    · exact ⟨_, 1, rfl, fun w _ _ => ⟨_, rfl, by omega, by omega⟩, by omega, by omega, by omega, by omega⟩
    · exact ⟨_, 7, rfl, fun w _ _ => ⟨_, rfl, by omega, by omega⟩, by omega, by omega, by omega, by omega⟩
    · exact ⟨_, 50000000000000000000000000000, rfl, fun w _ _ => ⟨_, rfl, by omega, by omega⟩, by omega, by omega, by omega, by omega⟩
    · exact ⟨_, 9, rfl, fun w _ _ => ⟨_, rfl, by omega, by omega⟩, by omega, by omega, by omega, by omega⟩
    · exact ⟨_, 1000000000000000000000000000, rfl, fun w q1 q2 => ⟨w, rfl, q1, q2⟩, by omega, by omega, by omega, by omega⟩
  obtain ⟨o7, xs, last, t4, t7, p7, up, el⟩ := pp_loop (.pv (.int most)) (.pv (.int n)) hW W2 (base := base) p6 (by omega) W0 n (by omega)
  have nW : (n : Int) * W ≤ 40 * W := Int.mul_le_mul_of_nonneg_right (by omega) W0
  refine ⟨xs, o7, up.1, ⟨up.1.imp fun h z => by omega, fun z => by have := up.2.1; rw [z] at this; simp at this; omega, by rw [up.2.1]; omega, fun x hx => by have := up.2.2 x hx; omega⟩, by rw [up.2.1]; omega, p7.le (by omega), ?_⟩
  have hd : d_law_people = dSeq (dSet 2 (eOp gIx (eLst [.val (eOp gAdd (eC (.int 1)) (eUser 2 f_law_sip [.io 0, .val (eVar 1)])), .val (eVar 1), .val (eOp gAdd (eC (.int 1)) (eUser 2 f_law_sip [.io 0, .val (eOp gMin2 (eVar 1) (eC (.int 5)))]))]) (eUser 2 f_law_sip [.io 0, .val (eC (.int 3))])))
      (dSeq (dPar [5, 6] [.val (eUser 2 f_law_sip [.io 0, .val (eC (.int 5))]), .val (eLst [])])
      (dSeq (dSet 3 (eOp gIx (eLst [.val (eC (.int 0)), .val (eOp gMin (eUser 2 f_law_sip [.io 0, .val (eC (.int 50))]) (eC (.int 25))), .val (eOp gMin (eOp gMin (eC (.int 0)) (eOp gPowB (eC (.int 10)) (eC (.int 30)))) (eC (.int 1))), .val (eOp gMin (eOp gPowB (eC (.int 10)) (eC (.int 30))) (eC (.int 400))), .val (eOp gMin (eC (.int 0)) (eUser 2 f_law_sip [.io 0, .val (eOp gPowB (eC (.int 10)) (eC (.int 20)))]))]) (eVar 5)))
      (dSeq (dFor (sRng1 (eVar 2)) (gNm 4) body_pp)
      (dSeq (dRet (eVar 6))
      (dNil))))) := rfl
  have g3' : 3 ≤ big := by unfold big; omega
  have g5 : 5 ≤ big := by unfold big; omega
  have f10 : fits 10 = true := by decide
  have P20 : gPowB (.int 10) (.int 20) = some (.pv (.int 100000000000000000000)) := by simp [f10]
  have P30 : gPowB (.int 10) (.int 30) = some (.pv (.int 1000000000000000000000000000000)) := by simp [f10]
  have ok : okR (n : Int) = true := okR_of (by omega) (by omega)
  unfold f_law_people
  rw [hd]
  generalize body_pp = bp at *
  generalize gPowB = gp at *
  generalize f_law_sip = gs at *
  generalize xs.map PV.int = X at *
  simp only [runB, List.length_cons, List.length_nil, List.replicate, List.cons_append, List.nil_append, Nat.reduceAdd, Nat.reduceSub]
  have u2 : dSet 2 (eOp gIx (eLst [.val (eOp gAdd (eC (.int 1)) (eUser 2 gs [.io 0, .val (eVar 1)])), .val (eVar 1), .val (eOp gAdd (eC (.int 1)) (eUser 2 gs [.io 0, .val (eOp gMin2 (eVar 1) (eC (.int 5)))]))]) (eUser 2 gs [.io 0, .val (eC (.int 3))])) [.bor o, .pv (.int most), .un, .un, .un, .un, .un, .un] = .nx [.bor o3, .pv (.int most), .pv (.int n), .un, .un, .un, .un, .un] := by simp [e1, hm5, e2, e3, hn, g3']
  have u5 : dPar [5, 6] [.val (eUser 2 gs [.io 0, .val (eC (.int 5))]), .val (eLst [])] [.bor o3, .pv (.int most), .pv (.int n), .un, .un, .un, .un, .un] = .nx [.bor o4, .pv (.int most), .pv (.int n), .un, .un, .pv (.int st), .own (.lst []), .un] := by simp [e4, putAll]
  have u3 : dSet 3 (eOp gIx (eLst [.val (eC (.int 0)), .val (eOp gMin (eUser 2 gs [.io 0, .val (eC (.int 50))]) (eC (.int 25))), .val (eOp gMin (eOp gMin (eC (.int 0)) (eOp gp (eC (.int 10)) (eC (.int 30)))) (eC (.int 1))), .val (eOp gMin (eOp gp (eC (.int 10)) (eC (.int 30))) (eC (.int 400))), .val (eOp gMin (eC (.int 0)) (eUser 2 gs [.io 0, .val (eOp gp (eC (.int 10)) (eC (.int 20)))]))]) (eVar 5)) [.bor o4, .pv (.int most), .pv (.int n), .un, .un, .pv (.int st), .own (.lst []), .un] = .nx [.bor o6, .pv (.int most), .pv (.int n), .pv (.int base), .un, .pv (.int st), .own (.lst []), .un] := by simp [e5, P30, P20, e6, hb, g5]
  have u4 : dFor (sRng1 (eVar 2)) (gNm 4) bp [.bor o6, .pv (.int most), .pv (.int n), .pv (.int base), .un, .pv (.int st), .own (.lst []), .un] = .nx [.bor o7, .pv (.int most), .pv (.int n), .pv (.int last), t4, .pv (.int st), .own (.lst X), t7] := by
    generalize hR : rng 0 n = R at *
    simp [ok, hR, el]
  simp only [dSeq, u2, u5, u3, u4, SRes.thn_nx]
  simp
end Sd
end
section
set_option Elab.async false
set_option linter.all false
set_option maxRecDepth 100000
set_option exponentiation.threshold 600
set_option maxHeartbeats 8000000
namespace Sd
open PySem L2
theorem srt_rise {xs : List Int} (h : xs.Nodup) : (srt xs).Pairwise (· < ·) := by
  have wn : (srt xs).Nodup := (srt_perm xs).nodup_iff.mpr h
  exact ((srt_sorted xs).and (List.nodup_iff_pairwise_ne.mp wn)).imp fun h => by have := h.1; have := h.2; omega
/-- ascending heights -/
def Asc (n : Nat) (ps : List Int) : Prop := ps.Pairwise (· < ·) ∧ ps.length = n ∧ ∀ x ∈ ps, -1000000000000000000000000000000 ≤ x ∧ x ≤ 1000000000000000000000000000000
theorem Asc.que {n : Nat} {ps : List Int} (h : Asc n ps) (h1 : 1 ≤ n) (hn : n ≤ 40) : Que ps :=
  ⟨h.1.imp fun h z => by omega, fun e => by have := h.2.1; rw [e] at this; simp at this; omega, by rw [h.2.1]; exact hn, h.2.2⟩
end Sd
end
section
set_option Elab.async false
set_option linter.all false
set_option maxRecDepth 100000
set_option exponentiation.threshold 600
set_option maxHeartbeats 8000000
namespace Sd
open PySem L2
theorem s_cut_rot {α : Type} (xs : List α) : cutP xs (some 1) none ++ cutP xs none (some 1) = xs.drop 1 ++ xs.take 1 := by
  unfold cutP
  have a := HT.sIx_nat xs.length 0 1
  have b := HT.sIx_nat xs.length xs.length 1
  rw [show ((1 : Nat) : Int) = 1 from rfl] at a b
  rw [a, b, show HT.sIx xs.length xs.length none = xs.length from rfl, show HT.sIx xs.length 0 none = 0 from rfl, List.drop_zero, Nat.sub_zero]
  by_cases h : 1 ≤ xs.length
  · rw [Nat.min_eq_left h, List.take_of_length_le (by rw [List.length_drop]; omega)]
  · have : xs = [] := List.length_eq_zero_iff.mp (by omega)
    subst this
    simp
theorem s_cut_lo {α : Type} (xs : List α) (k : Nat) (h : k ≤ xs.length) : cutP xs (some (k : Int)) none = xs.drop k := by
  unfold cutP
  rw [HT.sIx_nat, show HT.sIx xs.length xs.length none = xs.length from rfl, Nat.min_eq_left h, List.take_of_length_le (by rw [List.length_drop]; omega)]
theorem s_cut_hi {α : Type} (xs : List α) (k : Nat) (h : k ≤ xs.length) : cutP xs none (some (k : Int)) = xs.take k := by
  unfold cutP
  rw [HT.sIx_nat, show HT.sIx xs.length 0 none = 0 from rfl, List.drop_zero, Nat.sub_zero, Nat.min_eq_left h]
theorem s_at {l : List PV} {k : Nat} (h : k < l.length) : atI l (k : Int) = some l[k] := by
  unfold atI ixN
  rw [if_pos (by omega), if_pos (by omega)]
  simp [h]
theorem seqIxS {v : Int} {n : Nat} (h0 : 0 ≤ v) (h : v < n) : seqIndex? v n = some v.toNat := by
  unfold seqIndex?
  simp
  omega
theorem erase_perm {α : Type} : ∀ (xs : List α) (i : Nat) (h : i < xs.length), (xs[i] :: xs.eraseIdx i).Perm xs
  | x :: xs, 0, _ => List.Perm.refl _
  | x :: xs, i + 1, h => by
    have h' : i < xs.length := by simpa using h
    have ih := erase_perm xs i h'
    simp only [List.getElem_cons_succ, List.eraseIdx_cons_succ]
    exact (List.Perm.swap _ _ _).trans (ih.cons x)
theorem ins_perm {α : Type} (xs : List α) (k : Nat) (v : α) : (xs.take k ++ v :: xs.drop k).Perm (v :: xs) := by
  refine List.perm_middle.trans ?_
  rw [List.take_append_drop]
theorem map_permS {ys : List PV} {xs : List Int} (p : ys.Perm (xs.map PV.int)) : ∃ zs : List Int, ys = zs.map PV.int ∧ zs.Perm xs := by
  have h : ∀ {ys : List PV}, (∀ y ∈ ys, ∃ i, y = PV.int i) → ∃ zs : List Int, ys = zs.map PV.int := fun {ys} => by
    induction ys with
    | nil => exact fun _ => ⟨[], rfl⟩
    | cons y ys ih =>
      intro h
      obtain ⟨i, rfl⟩ := h y List.mem_cons_self
      obtain ⟨zs, rfl⟩ := ih fun z hz => h z (List.mem_cons_of_mem _ hz)
      exact ⟨i :: zs, rfl⟩
  obtain ⟨zs, rfl⟩ := h fun y hy => by
    obtain ⟨i, _, e⟩ := List.mem_map.mp (p.mem_iff.mp hy)
    exact ⟨i, e.symm⟩
  refine ⟨zs, rfl, ?_⟩
  have := p.map fun v => match v with | .int i => i | _ => 0
  simpa [List.map_map, Function.comp_def] using this
end Sd
end
section
set_option Elab.async false
set_option linter.all false
set_option maxRecDepth 100000
set_option exponentiation.threshold 600
set_option maxHeartbeats 8000000
namespace Sd
open PySem L2
theorem map_permQ {ys : List PV} {xs : List Int} (p : ys.Perm (xs.map PV.int)) : ∃ zs : List Int, ys = zs.map PV.int ∧ zs.Perm xs := by
  have h : ∀ {ys : List PV}, (∀ y ∈ ys, ∃ i, y = PV.int i) → ∃ zs : List Int, ys = zs.map PV.int := fun {ys} => by
    induction ys with
    | nil => exact fun _ => ⟨[], rfl⟩
    | cons y ys ih =>
      intro h
      obtain ⟨i, rfl⟩ := h y List.mem_cons_self
      obtain ⟨zs, rfl⟩ := ih fun z hz => h z (List.mem_cons_of_mem _ hz)
      exact ⟨i :: zs, rfl⟩
  obtain ⟨zs, rfl⟩ := h fun y hy => by
    obtain ⟨i, _, e⟩ := List.mem_map.mp (p.mem_iff.mp hy)
    exact ⟨i, e.symm⟩
  refine ⟨zs, rfl, ?_⟩
  have := p.map fun v => match v with | .int i => i | _ => 0
  simpa [List.map_map, Function.comp_def] using this
theorem Que.perm' {xs ys : List Int} (h : Que xs) (p : ys.Perm xs) : Que ys :=
  ⟨p.nodup_iff.mpr h.nd, fun z => h.ne (by rw [z] at p; exact List.nil_perm.mp p), by rw [p.length_eq]; exact h.le, fun x hx => h.bd x (p.mem_iff.mp hx)⟩
theorem f_lineF {most : Int} (h1 : 1 ≤ most) (hm : most ≤ 40) {o : Ob} {c : Int} (po : Fnt c o) (hc : c < 2 ^ 54) : ∃ (xs : List Int) (o' : Ob), Que xs ∧ Fnt (c + 200) o' ∧ f_law_line [.bor o, .pv (.int most)] = .ok (.pv (.tup (xs.map PV.int))) [.bor o', .un] := by
  obtain ⟨ps, o1, _, hq, _, p1, e1⟩ := f_people h1 hm po (by omega)
  have lle := hq.le
  have lX : (ps.map PV.int).length = ps.length := List.length_map ..
  obtain ⟨ya, o2, e2, ma, p2⟩ := f_mixedF (xs := ps.map PV.int) (by rw [lX]; exact lle) p1 (by omega)
  obtain ⟨yb, o3, e3, mb, p3⟩ := f_mixedF (xs := ps.map PV.int) (by rw [lX]; exact lle) p2 (by omega)
  obtain ⟨w, o4, p4, w0, w1, e4⟩ := sip_ok (n := 5) p3 (by omega) (by decide) (by decide)
  have lpos := List.length_pos_iff.mpr hq.ne
  have c1 := s_cut_lo (ps.map PV.int) 1 (by rw [lX]; omega)
  have c2 := s_cut_hi (ps.map PV.int) 1 (by rw [lX]; omega)
  have c1' : cutP (ps.map PV.int) (some 1) none = (ps.map PV.int).drop 1 := c1
  have c2' : cutP (ps.map PV.int) none (some 1) = (ps.map PV.int).take 1 := c2
  have lr : ((ps.map PV.int).drop 1).length + ((ps.map PV.int).take 1).length ≤ big := by rw [List.length_drop, List.length_take, lX]; unfold big; omega
  obtain ⟨zs, hz, pz⟩ : ∃ zs : List PV, atI [PV.lst (ps.map PV.int), .lst (ps.map PV.int).reverse, .lst ya, .lst yb, .lst ((ps.map PV.int).drop 1 ++ (ps.map PV.int).take 1)] w = some (.lst zs) ∧ zs.Perm (ps.map PV.int) := by
    have : w = 0 ∨ w = 1 ∨ w = 2 ∨ w = 3 ∨ w = 4 := by omega
    rcases this with rfl | rfl | rfl | rfl | rfl
    · exact ⟨_, rfl, List.Perm.refl _⟩
    · exact ⟨_, rfl, List.reverse_perm _⟩
    · exact ⟨_, rfl, ma⟩
    · exact ⟨_, rfl, mb⟩
    · exact ⟨_, rfl, List.perm_append_comm.trans (by rw [List.take_append_drop])⟩
  obtain ⟨xs, rfl, px⟩ := map_permQ pz
  refine ⟨xs, o4, hq.perm' px, p4.le (by omega), ?_⟩
  have hd : d_law_line = dSeq (dSet 2 (eUser 2 f_law_people [.io 0, .val (eVar 1)]))
      (dSeq (dSet 3 (eLst [.val (eVar 2), .val (eRevA (eVar 2)), .val (eUser 2 f_law_mixed [.io 0, .val (eVar 2)]), .val (eUser 2 f_law_mixed [.io 0, .val (eVar 2)]), .val (eOp gAdd (eCut (eVar 2) (some (eC (.int 1))) none) (eCut (eVar 2) none (some (eC (.int 1)))))]))
      (dSeq (dRet (eCall1 gTuple (eOp gIx (eVar 3) (eUser 2 f_law_sip [.io 0, .val (eC (.int 5))]))))
      (dNil))) := rfl
  have g5 : 5 ≤ big := by unfold big; omega
  unfold f_law_line
  rw [hd]
  generalize f_law_people = gpp at *
  generalize f_law_mixed = gm at *
  generalize f_law_sip = gs at *
  generalize hD : (ps.map PV.int).drop 1 = D at *
  generalize hT : (ps.map PV.int).take 1 = T at *
  generalize ps.map PV.int = P at *
  generalize xs.map PV.int = X at *
  simp [e1, e2, e3, e4, g5, c1', c2', lr, hz]
end Sd
end
section
set_option Elab.async false
set_option linter.all false
set_option maxRecDepth 100000
namespace Tx
open PySem L2
/-! ### texts of ints, and texts that are cut at blanks -/
def nd (n : Nat) : List Nat := (Nat.toDigits 10 n).map Char.toNat
theorem dc (d : Nat) (h : d < 10) : (Nat.digitChar d).toNat = 48 + d := by
  have : ∀ d : Fin 10, (Nat.digitChar d.val).toNat = 48 + d.val := by decide
  exact this ⟨d, h⟩
theorem nd_small {n : Nat} (h : n < 10) : nd n = [48 + n] := by
  unfold nd
  rw [Nat.toDigits_of_lt_base h, List.map_cons, List.map_nil, dc n h]
theorem nd_step {n : Nat} (h : 10 ≤ n) : nd n = nd (n / 10) ++ [48 + n % 10] := by
  unfold nd
  rw [Nat.toDigits_of_base_le (by decide) h, List.map_append, List.map_cons, List.map_nil, dc _ (Nat.mod_lt _ (by decide))]
theorem nd_all : ∀ n : Nat, NumText.AllDigits (nd n) := fun n => by
  induction n using Nat.strongRecOn with
  | ind n ih =>
    by_cases h : n < 10
    · rw [nd_small h]
      intro c hc
      rw [List.mem_singleton.mp hc]; omega
    · rw [nd_step (by omega)]
      intro c hc
      rcases List.mem_append.mp hc with q | q
      · exact ih (n / 10) (by omega) c q
      · rw [List.mem_singleton.mp q]; omega
theorem nd_val : ∀ n : Nat, NumText.digitsVal (nd n) = n := fun n => by
  induction n using Nat.strongRecOn with
  | ind n ih =>
    by_cases h : n < 10
    · rw [nd_small h]
      show 0 * 10 + (48 + n - 48) = n
      omega
    · rw [nd_step (by omega)]
      have := ih (n / 10) (by omega)
      unfold NumText.digitsVal at this ⊢
      rw [List.foldl_append, this]
      show n / 10 * 10 + (48 + n % 10 - 48) = n
      omega
theorem nd_head : ∀ n : Nat, n ≠ 0 → ∃ c r, nd n = c :: r ∧ 49 ≤ c := fun n => by
  induction n using Nat.strongRecOn with
  | ind n ih =>
    intro hn
    by_cases h : n < 10
    · exact ⟨48 + n, [], nd_small h, by omega⟩
    · obtain ⟨c, r, e, hc⟩ := ih (n / 10) (by omega) (by omega)
      exact ⟨c, r ++ [48 + n % 10], by rw [nd_step (by omega), e]; rfl, hc⟩
theorem nd_ne (n : Nat) : nd n ≠ [] := by
  by_cases h : n < 10
  · rw [nd_small h]; simp
  · rw [nd_step (by omega)]; simp
theorem nd_len {n k : Nat} (hk : 0 < k) (h : n < 10 ^ k) : (nd n).length ≤ k := by
  unfold nd
  rw [List.length_map]
  exact (Nat.length_toDigits_le_iff (by decide) hk).mpr h
/-- the text of an int -/
def it (i : Int) : List Nat := if i < 0 then 45 :: nd i.natAbs else nd i.natAbs
theorem it_cps (i : Int) : (Str.ofString (toString i)).cps.toList = it i := by
  rw [Str.ofString_eq_toList]
  show ((toString i : String).toList.map Char.toNat) = it i
  have hn : ∀ n : Nat, (toString n : String).toList = Nat.toDigits 10 n := fun n => by
    show (Nat.repr n).toList = _
    unfold Nat.repr
    exact String.toList_ofList
  cases i with
  | ofNat n =>
    have e : (toString (Int.ofNat n) : String) = toString n := rfl
    rw [e, hn]
    unfold it nd
    rw [if_neg (show ¬ Int.ofNat n < 0 from Int.not_lt.mpr (Int.natCast_nonneg n))]
    rfl
  | negSucc n =>
    have e : (toString (Int.negSucc n) : String) = "-" ++ toString (n + 1) := rfl
    rw [e, String.toList_append, hn]
    unfold it nd
    rw [if_pos (Int.negSucc_lt_zero n)]
    rfl
/-! ### cut at blanks -/
def pos : Nat → List Nat → List Nat
  | _, [] => []
  | o, c :: l => if c = 32 then o :: pos (o + 1) l else pos (o + 1) l
theorem pos_cons (o c : Nat) (l : List Nat) : pos o (c :: l) = if c = 32 then o :: pos (o + 1) l else pos (o + 1) l := rfl
theorem pos_snoc : ∀ (l : List Nat) (o c : Nat), pos o (l ++ [c]) = pos o l ++ if c = 32 then [o + l.length] else []
  | [], o, c => by
    show (if c = 32 then [o] else []) = _
    simp [pos]
  | d :: l, o, c => by
    have ih := pos_snoc l (o + 1) c
    show (if d = 32 then o :: pos (o + 1) (l ++ [c]) else pos (o + 1) (l ++ [c])) = _
    rw [ih, pos_cons, List.length_cons, show o + 1 + l.length = o + (l.length + 1) by omega]
    by_cases h : d = 32
    · rw [if_pos h, if_pos h]; rfl
    · rw [if_neg h, if_neg h]
theorem pos_free : ∀ {w : List Nat} (o : Nat) (l : List Nat), 32 ∉ w → pos o (w ++ l) = pos (o + w.length) l
  | [], o, l, _ => rfl
  | c :: w, o, l, h => by
    have hc : ¬ c = 32 := fun z => h (by rw [z]; exact List.mem_cons_self)
    show (if c = 32 then _ else pos (o + 1) (w ++ l)) = _
    rw [if_neg hc, pos_free (o + 1) l fun z => h (List.mem_cons_of_mem _ z), List.length_cons, show o + 1 + w.length = o + (w.length + 1) by omega]
theorem pos_le : ∀ (l : List Nat) (o : Nat), (pos o l).length ≤ l.length
  | [], _ => Nat.le_refl _
  | c :: l, o => by
    have := pos_le l (o + 1)
    unfold pos
    split <;> simp <;> omega
abbrev sp : Str := Str.ofString " "
theorem sp_eq : sp = ⟨#[32]⟩ := by decide
def fS (x : Str) (s : Array Nat × Nat) (i : Nat) : Array Nat × Nat := if (decide (s.1.size < x.length + 1) && decide (s.2 ≤ i) && decide (i + sp.length ≤ x.length) && Builtin.Str.subAt x sp i) = true then (s.1.push i, i + sp.length) else s
theorem occ_fold (x : Str) : Builtin.Str.occurrences x sp 0 x.length (x.length + 1) = ((List.range' 0 (x.length + 1)).foldl (fS x) (#[], 0)).1.toList := by
  unfold Builtin.Str.occurrences
  simp only [Std.Legacy.Range.forIn_eq_forIn_range']
  have e : (fun (i : Nat) (s : Array Nat × Nat) => if (decide (s.1.size < x.length + 1) && decide (s.2 ≤ i) && decide (i + sp.length ≤ x.length) && Builtin.Str.subAt x sp i) = true then (pure (ForInStep.yield (s.1.push i, i + sp.length)) : Id _) else pure (ForInStep.yield (s.1, s.2))) = fun i s => pure (ForInStep.yield (fS x s i)) := by
    funext i s
    unfold fS
    split <;> rfl
  have hs : ([:x.length + 1] : Std.Legacy.Range).size = x.length + 1 := by simp [Std.Legacy.Range.size]
  rw [e, List.forIn_pure_yield_eq_foldl, hs]
  rfl
theorem sub_at (x : Str) {i : Nat} (h : i < x.length) : Builtin.Str.subAt x sp i = decide (x.cps.toList[i]'h = 32) := by
  unfold Builtin.Str.subAt
  have e1 : sp.length = 1 := by rw [sp_eq]; rfl
  have e2 : sp.cps = #[32] := by rw [sp_eq]
  rw [e1, e2]
  have hx : (x.cps.extract i (i + 1)).toList = [x.cps.toList[i]'h] := by
    rw [Array.toList_extract]
    have hl : i < x.cps.toList.length := h
    simp [List.extract_eq_take_drop, List.drop_eq_getElem_cons hl]
    rfl
  by_cases c : x.cps.toList[i]'h = 32
  · rw [decide_eq_true c, beq_iff_eq]
    apply Array.toList_inj.mp
    rw [hx, c]
  · rw [decide_eq_false c, beq_eq_false_iff_ne]
    intro z
    rw [z] at hx
    exact c (by simpa using hx.symm)
theorem occ_at (x : Str) : ∀ (n j : Nat) (s : Array Nat × Nat), j + n = x.length → s.1.toList = pos 0 (x.cps.toList.take j) → s.2 ≤ j → ((List.range' j (n + 1)).foldl (fS x) s).1.toList = pos 0 x.cps.toList
  | 0, j, s, hn, h1, h2 => by
    have hl : x.cps.toList.length = x.length := rfl
    have e1 : sp.length = 1 := by rw [sp_eq]; rfl
    show (fS x s j).1.toList = _
    unfold fS
    rw [decide_eq_false (show ¬ j + sp.length ≤ x.length by rw [e1]; omega), Bool.and_false, Bool.false_and, if_neg (by decide), h1, List.take_of_length_le (by omega)]
  | n + 1, j, s, hn, h1, h2 => by
    have hl : x.cps.toList.length = x.length := rfl
    have e1 : sp.length = 1 := by rw [sp_eq]; rfl
    have hj : j < x.length := by omega
    rw [List.range'_succ, List.foldl_cons]
    have sz : s.1.size < x.length + 1 := by
      have := congrArg List.length h1
      rw [Array.length_toList] at this
      have h3 := pos_le (x.cps.toList.take j) 0
      rw [List.length_take] at h3
      omega
    have tk : x.cps.toList.take (j + 1) = x.cps.toList.take j ++ [x.cps.toList[j]'hj] := by
      exact List.take_succ_eq_append_getElem hj
    refine occ_at x n (j + 1) (fS x s j) (by omega) ?_ ?_
    · unfold fS
      rw [decide_eq_true sz, decide_eq_true h2, decide_eq_true (show j + sp.length ≤ x.length by rw [e1]; omega), sub_at x hj, tk, pos_snoc, List.length_take, Nat.min_eq_left (by omega), Nat.zero_add]
      by_cases c : x.cps.toList[j]'hj = 32
      · rw [decide_eq_true c, if_pos c]
        simp [h1]
      · rw [decide_eq_false c, if_neg c]
        simp [h1]
    · unfold fS
      split
      · show j + sp.length ≤ j + 1
        rw [e1]; omega
      · omega
theorem occ_eq (x : Str) : Builtin.Str.occurrences x sp 0 x.length (x.length + 1) = pos 0 x.cps.toList := by
  rw [occ_fold]
  exact occ_at x x.length 0 (#[], 0) (by omega) rfl (Nat.le_refl _)
/-- words with one blank between each two -/
def jn : List (List Nat) → List Nat
  | [] => []
  | [w] => w
  | w :: v :: ws => w ++ 32 :: jn (v :: ws)
theorem parts_eq (x : Str) : ∀ (ws : List (List Nat)) (pre : List Nat), ws ≠ [] → (∀ w ∈ ws, 32 ∉ w) → x.cps.toList = pre ++ jn ws →
    ((pre.length :: (pos pre.length (jn ws)).map (· + 1)).zip (pos pre.length (jn ws) ++ [x.length])).map (fun z => (Builtin.Str.strSub x z.1 z.2).cps.toList) = ws
  | [], _, h, _, _ => absurd rfl h
  | [w], pre, _, hf, hx => by
    have hw := hf w List.mem_cons_self
    have hl : x.cps.toList.length = x.length := rfl
    have p0 : pos pre.length (jn [w]) = [] := by
      have := pos_free pre.length [] hw
      rw [List.append_nil] at this
      exact this
    rw [p0]
    show [(Builtin.Str.strSub x pre.length x.length).cps.toList] = [w]
    unfold Builtin.Str.strSub
    have : (x.cps.extract pre.length x.length).toList = w := by
      rw [Array.toList_extract, List.extract_eq_take_drop, hx]
      have : x.length = pre.length + w.length := by rw [← hl, hx, List.length_append]; rfl
      rw [this]
      simp [jn]
    rw [this]
  | w :: v :: ws, pre, _, hf, hx => by
    have hw := hf w List.mem_cons_self
    have hj : jn (w :: v :: ws) = w ++ 32 :: jn (v :: ws) := rfl
    have pw : pos pre.length (jn (w :: v :: ws)) = (pre.length + w.length) :: pos (pre.length + w.length + 1) (jn (v :: ws)) := by
      rw [hj, pos_free pre.length _ hw, pos_cons, if_pos rfl]
    have ih := parts_eq x (v :: ws) (pre ++ w ++ [32]) (by simp) (fun u hu => hf u (List.mem_cons_of_mem _ hu)) (by rw [hx, hj]; simp)
    have lp : (pre ++ w ++ [32]).length = pre.length + w.length + 1 := by simp; omega
    rw [lp] at ih
    rw [pw, List.map_cons, List.cons_append, List.zip_cons_cons, List.map_cons, ih]
    congr 1
    show (x.cps.extract pre.length (pre.length + w.length)).toList = w
    rw [Array.toList_extract, List.extract_eq_take_drop, hx, hj]
    simp
theorem str_ext {a b : Str} (h : a.cps.toList = b.cps.toList) : a = b := by
  cases a with
  | mk a => cases b with
    | mk b =>
      have : a = b := Array.toList_inj.mp h
      rw [this]
theorem split_jn {x : Str} {ws : List Str} (hne : ws ≠ []) (hf : ∀ w ∈ ws, 32 ∉ w.cps.toList) (hx : x.cps.toList = jn (ws.map fun w => w.cps.toList)) (hk : Builtin.Str.strKind sp ≤ Builtin.Str.strKind x) : Txt.split x sp = ws := by
  have oe := occ_eq x
  have pe := parts_eq x (ws.map fun w => w.cps.toList) [] (by simpa using hne) (fun w hw => by
    obtain ⟨u, hu, rfl⟩ := List.mem_map.mp hw
    exact hf u hu) (by rw [hx]; rfl)
  rw [← hx] at pe
  unfold Txt.split
  have e1 : sp.length = 1 := by rw [sp_eq]; rfl
  rw [oe]
  have parts : Builtin.Str.partsBetween x (pos 0 x.cps.toList) sp.length = ws := by
    rw [e1]
    unfold Builtin.Str.partsBetween
    have : ∀ {l : List (Nat × Nat)} {ws : List Str}, l.map (fun z => (Builtin.Str.strSub x z.1 z.2).cps.toList) = ws.map (fun w => w.cps.toList) → l.map (fun z => match z with | (i, j) => Builtin.Str.strSub x i j) = ws := fun {l} => by
      induction l with
      | nil => intro ws h; cases ws with
        | nil => rfl
        | cons w ws => simp at h
      | cons z l ih =>
        intro ws h
        cases ws with
        | nil => simp at h
        | cons w ws =>
          rw [List.map_cons, List.map_cons] at h
          injection h with h1 h2
          rw [List.map_cons, ih h2]
          exact congrArg (· :: ws) (str_ext h1)
    exact this pe
  by_cases c : (pos 0 x.cps.toList).isEmpty = true
  · have p0 : pos 0 x.cps.toList = [] := List.isEmpty_iff.mp c
    have one : ws = [x] := by
      rw [p0] at parts
      rw [← parts]
      unfold Builtin.Str.partsBetween
      have : Builtin.Str.strSub x 0 x.length = x := str_ext (by
        unfold Builtin.Str.strSub
        rw [Array.toList_extract, List.extract_eq_take_drop]
        exact List.take_of_length_le (Nat.le_refl _))
      show [Builtin.Str.strSub x 0 x.length] = [x]
      rw [this]
    rw [if_pos c, one]
    split <;> rfl
  · have k1 : ¬ x.length < sp.length := fun z => by
      rw [e1] at z
      have : x.cps.toList = [] := List.length_eq_zero_iff.mp (show x.length = 0 by omega)
      rw [this] at c
      exact c rfl
    have k2 : ¬ Builtin.Str.strKind x < Builtin.Str.strKind sp := by omega
    rw [decide_eq_false k1, decide_eq_false k2, if_neg (by decide), if_neg c]
    exact parts
end Tx
end
section
set_option Elab.async false
set_option linter.all false
set_option maxRecDepth 100000
set_option exponentiation.threshold 600
namespace Tx
open PySem L2
theorem jn_cons : ∀ (w : List Nat) (ws : List (List Nat)), jn (w :: ws) = w ++ (ws.map (32 :: ·)).flatten
  | w, [] => by simp [jn]
  | w, v :: ws => by
    show w ++ 32 :: jn (v :: ws) = _
    rw [jn_cons v ws]
    simp
theorem glue_fold : ∀ (ws : List Str) (acc : Array Nat), (ws.foldl (fun acc p => acc ++ sp.cps ++ p.cps) acc).toList = acc.toList ++ (ws.map fun w => 32 :: w.cps.toList).flatten
  | [], acc => by simp
  | w :: ws, acc => by
    rw [List.foldl_cons, glue_fold ws]
    have e2 : sp.cps = #[32] := by rw [sp_eq]
    rw [e2]
    simp
theorem join_cps {ws : List Str} (h : ws ≠ []) : (Txt.join sp ws).cps.toList = jn (ws.map fun w => w.cps.toList) := by
  cases ws with
  | nil => exact absurd rfl h
  | cons w ws =>
    show (Builtin.Str.glued sp (w :: ws)).cps.toList = _
    rw [Builtin.Str.glued.eq_1]
    show ((List.drop 1 (w :: ws)).foldl (fun acc p => acc ++ sp.cps ++ p.cps) ((w :: ws).headD Str.empty).cps).toList = _
    rw [glue_fold, List.map_cons, jn_cons, List.map_map]
    rfl
theorem kind1 (x : Str) : Builtin.Str.strKind sp ≤ Builtin.Str.strKind x := by
  have e : Builtin.Str.strKind sp = 1 := by
    rw [sp_eq]
    unfold Builtin.Str.strKind
    rw [if_pos]
    simp
  rw [e]
  unfold Builtin.Str.strKind
  split
  · exact Nat.le_refl _
  · split <;> decide
theorem split_join {ws : List Str} (hne : ws ≠ []) (hf : ∀ w ∈ ws, 32 ∉ w.cps.toList) : Txt.split (Txt.join sp ws) sp = ws :=
  split_jn hne hf (join_cps hne) (kind1 _)
theorem jn_len {k : Nat} : ∀ ws : List (List Nat), (∀ w ∈ ws, w.length ≤ k) → (jn ws).length ≤ ws.length * (k + 1)
  | [], _ => by simp [jn]
  | [w], h => by
    have := h w List.mem_cons_self
    simp [jn]; omega
  | w :: v :: ws, h => by
    have h1 := h w List.mem_cons_self
    have ih := jn_len (v :: ws) fun u hu => h u (List.mem_cons_of_mem _ hu)
    show (w ++ 32 :: jn (v :: ws)).length ≤ _
    rw [List.length_append, List.length_cons, List.length_cons (a := w), Nat.add_mul]
    omega
theorem starts_cons {x : Str} {d c : Nat} {r : List Nat} (h : x.cps.toList = d :: r) : Txt.startswith x ⟨#[c]⟩ = decide (d = c) := by
  unfold Txt.startswith
  have hl : x.length = r.length + 1 := by
    have := congrArg List.length h
    rw [List.length_cons] at this
    exact this
  have e1 : (⟨#[c]⟩ : Str).length = 1 := rfl
  rw [e1, decide_eq_true (show 0 + 1 ≤ x.length by omega), Bool.true_and]
  unfold Builtin.Str.subAt
  rw [e1]
  have hx : (x.cps.extract 0 (0 + 1)).toList = [d] := by
    rw [Array.toList_extract, List.extract_eq_take_drop, h]; rfl
  by_cases q : d = c
  · rw [decide_eq_true q, beq_iff_eq]
    apply Array.toList_inj.mp
    rw [hx, q]
  · rw [decide_eq_false q, beq_eq_false_iff_ne]
    intro z
    rw [z] at hx
    exact q (by simpa using hx.symm)
theorem ascii_ok {x : Str} (h : NumText.AllDigits x.cps.toList) : Txt.isascii x = true := by
  unfold Txt.isascii
  rw [← Array.all_toList, List.all_eq_true]
  intro c hc
  have := h c hc
  exact decide_eq_true (by omega)
theorem digit_ok {x : Str} (h : NumText.AllDigits x.cps.toList) (hn : x.cps.toList ≠ []) : Txt.isdigit x = true := by
  unfold Txt.isdigit
  have hl : x.length > 0 := List.length_pos_iff.mpr hn
  rw [decide_eq_true hl, Bool.true_and, ← Array.all_toList, List.all_eq_true]
  intro c hc
  have := h c hc
  have k : ∀ d : Fin 10, Unicode.isDigit (48 + d.val) = true := by decide +kernel
  have := k ⟨c - 48, by omega⟩
  rw [show c = 48 + (c - 48) by omega]
  exact this
/-- the text of an int, as Python writes it -/
abbrev tx (i : Int) : Str := Str.ofString (toString i)
theorem tx_free (i : Int) : 32 ∉ (tx i).cps.toList := fun h => (PyProof.Rows.intText_free_32 i).mp h
theorem tx_int {i : Int} (h : i.natAbs < 10 ^ 100) : intText? (tx i) = some i := by
  have e := it_cps i
  have ll := nd_len (k := 100) (by decide) h
  unfold it at e
  by_cases c : i < 0
  · rw [if_pos c] at e
    have hl : (tx i).length ≤ 4300 := by
      show (tx i).cps.toList.length ≤ 4300
      rw [e, List.length_cons]; omega
    rw [intText_neg e (nd_all _) (nd_ne _) hl, nd_val]
    congr 1
    omega
  · rw [if_neg c] at e
    have hl : (tx i).length ≤ 4300 := by
      show (tx i).cps.toList.length ≤ 4300
      rw [e]; omega
    rw [intText_digits (by rw [e]; exact nd_all _) (by rw [e]; exact nd_ne _) hl, e, nd_val]
    congr 1
    omega
theorem tx_len {i : Int} {k : Nat} (hk : 0 < k) (h : i.natAbs < 10 ^ k) : (tx i).length ≤ k + 1 := by
  have e := it_cps i
  have ll := nd_len hk h
  show (tx i).cps.toList.length ≤ _
  rw [e]
  unfold it
  split
  · rw [List.length_cons]; omega
  · omega
theorem tx_inj {i j : Int} (h : tx i = tx j) (hi : i.natAbs < 10 ^ 100) (hj : j.natAbs < 10 ^ 100) : i = j := by
  have a := tx_int hi
  rw [h, tx_int hj] at a
  exact (Option.some.inj a).symm
end Tx
end
section
set_option Elab.async false
set_option linter.all false
set_option maxRecDepth 100000
set_option exponentiation.threshold 600
set_option maxHeartbeats 8000000
namespace Sd
open PySem L2
/-! ### is_count, is_number -/
theorem sz : ("0" : Str) = ⟨#[48]⟩ := by decide
theorem sm : ("-" : Str) = ⟨#[45]⟩ := by decide
theorem smz : ("-0" : Str) = ⟨#[45, 48]⟩ := by decide
theorem v_is_count {x : Str} {n : Nat} (h : x.cps.toList = Tx.nd n) (hn : n < 10 ^ 31) : f_is_count [.pv (.str x)] = .ok (.pv (.bl true)) [.un] := by
  have al : NumText.AllDigits x.cps.toList := by rw [h]; exact Tx.nd_all n
  have a1 := Tx.ascii_ok al
  have a2 := Tx.digit_ok al (by rw [h]; exact Tx.nd_ne n)
  have ll : x.length ≤ 31 := by
    show x.cps.toList.length ≤ 31
    rw [h]; exact Tx.nd_len (by decide) hn
  have lb : x.length ≤ big := by unfold big; omega
  have l31 : ¬ (31 : Int) < (x.length : Int) := by omega
  unfold f_is_count d_is_count
  by_cases z : n = 0
  · have e : x = "0" := Tx.str_ext (by rw [h, z, sz]; rfl)
    rw [e] at a1 a2 lb l31 ⊢
    generalize ("0" : Str) = zz at *
    simp [a1, a2, lb, l31]
  · obtain ⟨c, r, e, hc⟩ := Tx.nd_head n z
    have e1 : Txt.startswith x "0" = false := by
      rw [sz, Tx.starts_cons (h.trans e)]
      exact decide_eq_false (by omega)
    have e2 : decide (x = ("0" : Str)) = false := decide_eq_false fun q => by
      rw [q, sz] at h
      have h' : [48] = Tx.nd n := h
      rw [e] at h'
      injection h' with h1 h2
      omega
    generalize ("0" : Str) = zz at *
    simp [a1, a2, lb, l31, e1, e2]
theorem v_is_number {i : Int} (hi : i.natAbs < 10 ^ 31) : f_is_number [.pv (.str (Tx.tx i))] = .ok (.pv (.bl true)) [.un] := by
  have e : (Tx.tx i).cps.toList = Tx.it i := Tx.it_cps i
  unfold Tx.it at e
  by_cases c : i < 0
  · rw [if_pos c] at e
    have s1 : Txt.startswith (Tx.tx i) "-" = true := by
      rw [sm, Tx.starts_cons e]; rfl
    have hcut : (cutS (Tx.tx i) (some 1) none).cps.toList = Tx.nd i.natAbs := by
      have hl : (Tx.tx i).length = (Tx.nd i.natAbs).length + 1 := by
        show (Tx.tx i).cps.toList.length = _
        rw [e, List.length_cons]
      unfold cutS
      have k1 : HT.sIx (Tx.tx i).length 0 (some 1) = 1 := by
        rw [show (1 : Int) = ((1 : Nat) : Int) from rfl, HT.sIx_nat]; omega
      rw [k1, HT.sIx_none, e]
      show (List.take ((Tx.tx i).length - 1) (Tx.nd i.natAbs)) = _
      exact List.take_of_length_le (by omega)
    have ic := v_is_count hcut hi
    have ne : decide (Tx.tx i = ("-0" : Str)) = false := decide_eq_false fun q => by
      rw [q, smz] at e
      have h' : [45, 48] = 45 :: Tx.nd i.natAbs := e
      obtain ⟨c', r, e', hc⟩ := Tx.nd_head i.natAbs (by omega)
      rw [e'] at h'
      injection h' with h1 h2
      injection h2 with h3 h4
      omega
    have ll : (Tx.tx i).length ≤ 1000000 := by
      have := Tx.tx_len (k := 31) (by decide) hi
      omega
    unfold f_is_number d_is_number
    generalize f_is_count = g at *
    generalize hy : cutS (Tx.tx i) (some 1) none = y at *
    generalize Tx.tx i = x at *
    generalize ("-0" : Str) = z1 at *
    generalize ("-" : Str) = z2 at *
    simp [s1, ne, ll, ic, hy]
  · rw [if_neg c] at e
    have ic := v_is_count e hi
    have s1 : Txt.startswith (Tx.tx i) "-" = false := by
      obtain ⟨d, r, e'⟩ : ∃ d r, Tx.nd i.natAbs = d :: r := List.exists_cons_of_ne_nil (Tx.nd_ne _)
      rw [sm, Tx.starts_cons (e.trans e')]
      have := Tx.nd_all i.natAbs d (by rw [e']; exact List.mem_cons_self)
      exact decide_eq_false (by omega)
    unfold f_is_number d_is_number
    generalize f_is_count = g at *
    generalize Tx.tx i = x at *
    generalize ("-" : Str) = z2 at *
    simp [s1, ic]
/-! ### show_queue, read_queue -/
abbrev S (xs : List Int) : Str := Txt.join Tx.sp (xs.map Tx.tx)
theorem que_abs {xs : List Int} (h : Que xs) : ∀ x ∈ xs, x.natAbs < 10 ^ 31 := fun x hx => by
  have := h.bd x hx
  omega
theorem show_lc (s0 : Sl) {xs : List Int} (h : Que xs) : lcL [1] (gNm 1) sYes (eCall1 gStr (eVar 1)) (xs.map PV.int) [] [s0, .un] = .ok ((xs.map Tx.tx).map PV.str) [s0, .un] := by
  have lle := h.le
  have key : ∀ (xs : List Int) (acc : List PV), (∀ x ∈ xs, x.natAbs < 10 ^ 31) → acc.length + xs.length ≤ 1000 → lcL [1] (gNm 1) sYes (eCall1 gStr (eVar 1)) (xs.map PV.int) acc [s0, .un] = .ok (acc ++ (xs.map Tx.tx).map PV.str) [s0, .un] := by
    intro xs
    induction xs with
    | nil => intro acc _ _; simp [lcL]
    | cons x xs ih =>
      intro acc hb hl
      have hz : acc.length < big := by unfold big; simp at hl; omega
      have lg : x.natAbs.log2 < 1920 := by
        by_cases z : x.natAbs = 0
        · rw [z]; decide
        · refine (Nat.log2_lt z).mpr (Nat.lt_trans (hb x List.mem_cons_self) (by decide +kernel))
      have ih' := ih (acc ++ [.str (Tx.tx x)]) (fun y hy => hb y (List.mem_cons_of_mem _ hy)) (by simp at hl ⊢; omega)
      have et : (toString x : Str) = Tx.tx x := rfl
      rw [List.map_cons, List.map_cons, List.map_cons]
      unfold lcL
      simp [hz, lg, et]
      simp at ih'
      exact ih'
  have := key xs [] (que_abs h) (by simp; omega)
  rw [List.nil_append] at this
  exact this
theorem sum_le {l : List Nat} {k : Nat} (h : ∀ x ∈ l, x ≤ k) : l.sum ≤ l.length * k := by
  induction l with
  | nil => simp
  | cons x l ih =>
    have a := h x List.mem_cons_self
    have b := ih fun y hy => h y (List.mem_cons_of_mem _ hy)
    rw [List.sum_cons, List.length_cons, Nat.add_mul]
    omega
theorem tx_sum {xs : List Int} (h : Que xs) : (((xs.map Tx.tx).map (·.length)).sum + (xs.map Tx.tx).length * Tx.sp.length) ≤ 1000000 := by
  have lle := h.le
  have a := sum_le (l := (xs.map Tx.tx).map (·.length)) (k := 32) fun y hy => by
    obtain ⟨t, ht, rfl⟩ := List.mem_map.mp hy
    obtain ⟨x, hx, rfl⟩ := List.mem_map.mp ht
    exact Tx.tx_len (k := 31) (by decide) (que_abs h x hx)
  have e1 : Tx.sp.length = 1 := by rw [Tx.sp_eq]; rfl
  rw [List.length_map, List.length_map] at a
  rw [e1, List.length_map]
  omega
theorem v_text {xs : List Int} (h : Que xs) : f_law_text [.pv (.tup (xs.map PV.int))] = .ok (.pv (.str (S xs))) [.un] := by
  have e1 := show_lc (.pv (.tup (xs.map PV.int))) h
  have e2 := tx_sum h
  have e3 := strs?_map (xs.map Tx.tx)
  unfold f_law_text d_law_text S
  have esp : (" " : Str) = Tx.sp := rfl
  rw [esp]
  generalize hT : (xs.map Tx.tx).map PV.str = TT at *
  generalize xs.map Tx.tx = TX at *
  generalize xs.map PV.int = X at *
  generalize Tx.sp = sp at *
  generalize gNm 1 = g1 at *
  generalize eCall1 gStr (eVar 1) = ec at *
  simp [e1, e2, e3]
theorem v_show {xs : List Int} (h : Que xs) : f_show_queue [.pv (.tup (xs.map PV.int))] = .ok (.pv (.str (S xs))) [.un] := by
  have e0 := v_check_queue h
  have e1 := show_lc (.pv (.tup (xs.map PV.int))) h
  have e2 := tx_sum h
  have e3 := strs?_map (xs.map Tx.tx)
  unfold f_show_queue d_show_queue S
  have esp : (" " : Str) = Tx.sp := rfl
  rw [esp]
  generalize f_check_queue = gq at *
  generalize hT : (xs.map Tx.tx).map PV.str = TT at *
  generalize xs.map Tx.tx = TX at *
  generalize xs.map PV.int = X at *
  generalize Tx.sp = sp at *
  generalize gNm 1 = g1 at *
  generalize eCall1 gStr (eVar 1) = ec at *
  simp [e0, e1, e2, e3]
end Sd
end
section
set_option Elab.async false
set_option linter.all false
set_option maxRecDepth 100000
set_option exponentiation.threshold 600
set_option maxHeartbeats 8000000
namespace Sd
open PySem L2
theorem all_true : ∀ {α : Type} (l : List α), bls? (l.map fun _ => PV.bl true) = some (l.map fun _ => true)
  | _, [] => rfl
  | _, x :: l => by rw [List.map_cons]; simp [bls?, all_true l]
theorem v_read {xs : List Int} (h : Que xs) : f_read_queue [.pv (.str (S xs))] = .ok (.pv (.tup (xs.map PV.int))) [.un] := by
  have lle := h.le
  have ne : xs.map Tx.tx ≠ [] := by simpa using h.ne
  have sp := Tx.split_join ne (fun w hw => by
    obtain ⟨x, _, rfl⟩ := List.mem_map.mp hw
    exact Tx.tx_free x)
  have e3 := v_heights h
  have ll : (S xs).length ≤ 1000000 := by
    show (S xs).cps.toList.length ≤ 1000000
    have a := Tx.jn_len (k := 32) ((xs.map Tx.tx).map fun w => w.cps.toList) fun w hw => by
      obtain ⟨t, ht, rfl⟩ := List.mem_map.mp hw
      obtain ⟨x, hx, rfl⟩ := List.mem_map.mp ht
      exact Tx.tx_len (k := 31) (by decide) (que_abs h x hx)
    rw [List.length_map, List.length_map] at a
    show (Txt.join Tx.sp (xs.map Tx.tx)).cps.toList.length ≤ 1000000
    rw [Tx.join_cps ne]
    omega
  have lsp : Tx.sp.length ≠ 0 := by rw [Tx.sp_eq]; decide
  -- all are numbers
  have lc1 : ∀ s0 s1 s2 : Sl, lcL [3] (gNm 3) sYes (eUser 1 f_is_number [.val (eVar 3)]) ((xs.map Tx.tx).map PV.str) [] [s0, s1, s2, .un] = .ok (xs.map fun _ => PV.bl true) [s0, s1, s2, .un] := fun s0 s1 s2 => by
    have key : ∀ (xs : List Int) (acc : List PV), (∀ x ∈ xs, x.natAbs < 10 ^ 31) → acc.length + xs.length ≤ 1000 → lcL [3] (gNm 3) sYes (eUser 1 f_is_number [.val (eVar 3)]) ((xs.map Tx.tx).map PV.str) acc [s0, s1, s2, .un] = .ok (acc ++ xs.map fun _ => PV.bl true) [s0, s1, s2, .un] := by
      intro xs
      induction xs with
      | nil => intro acc _ _; simp [lcL]
      | cons x xs ih =>
        intro acc hb hl
        have hz : acc.length < big := by unfold big; simp at hl; omega
        have e := v_is_number (hb x List.mem_cons_self)
        have ih' := ih (acc ++ [.bl true]) (fun y hy => hb y (List.mem_cons_of_mem _ hy)) (by simp at hl ⊢; omega)
        rw [List.map_cons, List.map_cons, List.map_cons]
        unfold lcL
        generalize f_is_number = g at *
        generalize Tx.tx x = t at *
        simp [hz, e]
        simp at ih'
        exact ih'
    have := key xs [] (que_abs h) (by simp; omega)
    rw [List.nil_append] at this
    exact this
  have lc2 : ∀ s0 s1 s2 : Sl, lcL [3] (gNm 3) sYes (eCall1 gIntS (eVar 3)) ((xs.map Tx.tx).map PV.str) [] [s0, s1, s2, .un] = .ok (xs.map PV.int) [s0, s1, s2, .un] := fun s0 s1 s2 => by
    have key : ∀ (xs : List Int) (acc : List PV), (∀ x ∈ xs, x.natAbs < 10 ^ 31) → acc.length + xs.length ≤ 1000 → lcL [3] (gNm 3) sYes (eCall1 gIntS (eVar 3)) ((xs.map Tx.tx).map PV.str) acc [s0, s1, s2, .un] = .ok (acc ++ xs.map PV.int) [s0, s1, s2, .un] := by
      intro xs
      induction xs with
      | nil => intro acc _ _; simp [lcL]
      | cons x xs ih =>
        intro acc hb hl
        have hz : acc.length < big := by unfold big; simp at hl; omega
        have hx := hb x List.mem_cons_self
        have e1 := Tx.tx_int (i := x) (Nat.lt_trans hx (by decide +kernel))
        have e2 := Tx.tx_len (k := 31) (by decide) hx
        have e : gIntS (.str (Tx.tx x)) = some (.pv (.int x)) := by
          unfold gIntS
          dsimp only
          rw [if_pos (by omega), e1]; rfl
        have ih' := ih (acc ++ [.int x]) (fun y hy => hb y (List.mem_cons_of_mem _ hy)) (by simp at hl ⊢; omega)
        rw [List.map_cons, List.map_cons, List.map_cons]
        unfold lcL
        generalize gIntS = g at *
        generalize Tx.tx x = t at *
        simp [hz, e]
        simp at ih'
        exact ih'
    have := key xs [] (que_abs h) (by simp; omega)
    rw [List.nil_append] at this
    exact this
  have ba := all_true xs
  have bt : (xs.map fun _ => true).all id = true := by simp
  have esp : (" " : Str) = Tx.sp := rfl
  have hd : d_read_queue = dSeq (dIf (sTru (eOp gIsi (eVar 0) (eC (.ty "str")))) (dSeq (dSet 1 (eSplit (eVar 0) (eC (.str " "))))
      (dSeq (dIf (sTru (eCall1 gAll (eLc [3] (sSeq (eVar 1)) (gNm 3) sYes (eUser 1 f_is_number [.val (eVar 3)])))) (dSeq (dSet 2 (eCall1 gTuple (eLc [3] (sSeq (eVar 1)) (gNm 3) sYes (eCall1 gIntS (eVar 3)))))
      (dSeq (dIf (sTru (eUser 1 f_has_different_heights [.val (eVar 2)])) (dSeq (dRet (eVar 2))
      (dNil)) (dNil))
      (dNil))) (dNil))
      (dNil))) (dNil))
      (dSeq (dStuck)
      (dNil)) := rfl
  unfold f_read_queue
  rw [hd, esp]
  generalize hsx : S xs = sx at *
  have sp' : Txt.split sx Tx.sp = xs.map Tx.tx := by rw [← hsx]; exact sp
  clear sp
  generalize (eUser 1 f_is_number [.val (eVar 3)]) = e1 at *
  generalize (eCall1 gIntS (eVar 3)) = e2 at *
  generalize f_has_different_heights = gh at *
  generalize (xs.map fun _ => PV.bl true) = BL at *
  generalize hbb : (xs.map fun _ => true) = BB at *
  generalize xs.map Tx.tx = TX at *
  generalize hTT : TX.map PV.str = TT at *
  generalize xs.map PV.int = X at *
  generalize Tx.sp = spc at *
  have v1 := fun a b c => lc1 a b c
  simp [ll, lsp, sp', hTT, lc1, ba, bt, lc2, e3]
/-! ### _law_same -/
theorem v_same0 (i : Int) : f_law_same [.pv (.int i), .pv (.int i)] = .ok (.pv (.bl true)) [.un, .un] := by
  unfold f_law_same d_law_same
  simp [gEqB_bl]
theorem v_same {xs : List Int} (h : Que xs) : f_law_same2 [.pv (.tup (xs.map PV.int)), .pv (.tup (xs.map PV.int))] = .ok (.pv (.bl true)) [.un, .un] := by
  have lle := h.le
  have lc := lc_all (vs := [2]) (tgt := gNm 2) (e := eUser 2 f_law_same [.val (eOp gIx (eVar 0) (eVar 2)), .val (eOp gIx (eVar 1) (eVar 2))]) (m := [.pv (.tup (xs.map PV.int)), .pv (.tup (xs.map PV.int)), .un]) (fun _ => PV.bl true) (rng 0 xs.length) [] (fun x hx => by
    obtain ⟨i, hi⟩ := List.mem_iff_getElem?.mp hx
    obtain ⟨hk, rfl⟩ := rng_get hi
    rw [Int.zero_add]
    have a1 : atI (xs.map PV.int) (i : Int) = some (.int xs[i]) := by
      unfold atI ixN
      rw [if_pos (by omega), if_pos (by rw [List.length_map]; omega)]
      simp [hk]
    have e := v_same0 xs[i]
    refine ⟨[.pv (.tup (xs.map PV.int)), .pv (.tup (xs.map PV.int)), .pv (.int i)], by simp, .pv (.bl true), [.pv (.tup (xs.map PV.int)), .pv (.tup (xs.map PV.int)), .pv (.int i)], ?_, rfl, by simp⟩
    generalize f_law_same = g at *
    generalize xs[i] = z at *
    generalize xs.map PV.int = X at *
    simp [a1, e]) (by rw [rng_len]; simp; omega)
  rw [List.nil_append] at lc
  have ba := all_true (rng 0 xs.length)
  have ok : okR (xs.length : Int) = true := okR_of (by omega) (by omega)
  have lX : (xs.map PV.int).length = xs.length := List.length_map ..
  unfold f_law_same2 d_law_same2
  generalize (eUser 2 f_law_same [.val (eOp gIx (eVar 0) (eVar 2)), .val (eOp gIx (eVar 1) (eVar 2))]) = ec at *
  generalize ((rng 0 xs.length).map fun _ => PV.bl true) = BL at *
  have bt : ((rng 0 xs.length).map fun _ => true).all id = true := by simp
  generalize ((rng 0 xs.length).map fun _ => true) = BB at *
  generalize hR : rng 0 xs.length = R at *
  generalize xs.map PV.int = X at *
  simp [gEqB_bl, lX, ok, hR, lc, ba, bt]
end Sd
end
section
set_option Elab.async false
set_option linter.all false
set_option maxRecDepth 100000
set_option exponentiation.threshold 600
set_option maxHeartbeats 8000000
namespace Sd
open PySem L2
theorem S_inj {xs ys : List Int} (h : Que xs) (k : Que ys) (e : S ys = S xs) : ys = xs := by
  have a := Tx.split_join (ws := xs.map Tx.tx) (by simpa using h.ne) (fun w hw => by
    obtain ⟨x, _, rfl⟩ := List.mem_map.mp hw
    exact Tx.tx_free x)
  have b := Tx.split_join (ws := ys.map Tx.tx) (by simpa using k.ne) (fun w hw => by
    obtain ⟨x, _, rfl⟩ := List.mem_map.mp hw
    exact Tx.tx_free x)
  have c : Txt.split (S ys) Tx.sp = ys.map Tx.tx := b
  rw [e] at c
  have d : ys.map Tx.tx = xs.map Tx.tx := c.symm.trans a
  have big31 : (10 : Nat) ^ 31 < 10 ^ 100 := by decide +kernel
  have key : ∀ {ys xs : List Int}, (∀ x ∈ ys, x.natAbs < 10 ^ 31) → (∀ x ∈ xs, x.natAbs < 10 ^ 31) → ys.map Tx.tx = xs.map Tx.tx → ys = xs := fun {ys} => by
    induction ys with
    | nil => intro xs _ _ h; cases xs with
      | nil => rfl
      | cons x xs => simp at h
    | cons y ys ih =>
      intro xs h1 h2 h
      cases xs with
      | nil => simp at h
      | cons x xs =>
        rw [List.map_cons, List.map_cons] at h
        injection h with h3 h4
        rw [ih (fun z hz => h1 z (List.mem_cons_of_mem _ hz)) (fun z hz => h2 z (List.mem_cons_of_mem _ hz)) h4, Tx.tx_inj h3 (Nat.lt_trans (h1 y List.mem_cons_self) big31) (Nat.lt_trans (h2 x List.mem_cons_self) big31)]
  exact key (que_abs k) (que_abs h) d
noncomputable abbrev body_law : List Sl → SRes := (dSeq (dSet 3 (eUser 2 f_law_fount [.val (eVar 0), .val (eVar 1)]))
      (dSeq (dSet 4 (eUser 2 f_law_line [.io 3, .val (eOp gIx (eLst [.val (eC (.int 8)), .val (eC (.int 40))]) (eUser 2 f_law_sip [.io 3, .val (eC (.int 2))]))]))
      (dSeq (dSet 5 (eUser 1 f_law_text [.val (eVar 4)]))
      (dSeq (dIf (sOr (sBool (eOp gNe (eUser 1 f_show_queue [.val (eVar 4)]) (eVar 5))) (sNot (sTru (eUser 2 f_law_same2 [.val (eUser 1 f_read_queue [.val (eVar 5)]), .val (eVar 4)])))) (dSeq (dRet (eC (.bl false)))
      (dNil)) (dNil))
      (dSeq (dSet 6 (eUser 2 f_law_sip [.io 3, .val (eCall1 gLen (eVar 4))]))
      (dSeq (dSet 7 (eOp gAdd (eOp gAdd (eCut (eVar 4) none (some (eVar 6))) (eCut (eVar 4) (some (eOp gAdd (eVar 6) (eC (.int 1)))) none)) (eCut (eVar 4) (some (eVar 6)) (some (eOp gAdd (eVar 6) (eC (.int 1)))))))
      (dSeq (dIf (sOr (sBool (eOp gNe (eOp gEq (eUser 1 f_show_queue [.val (eVar 7)]) (eVar 5)) (eOp gEq (eVar 7) (eVar 4)))) (sBool (eOp gNe (eUser 1 f_read_queue [.val (eUser 1 f_show_queue [.val (eVar 7)])]) (eVar 7)))) (dSeq (dRet (eC (.bl false)))
      (dNil)) (dNil))
      (dSeq (dSet 8 (eCall1 gTuple (eLc [9] (sSeq (eVar 4)) (gNm 9) sYes (eOp gMin (eC (.int 0)) (eVar 9)))))
      (dSeq (dIf (sNot (sTru (eUser 2 f_law_same2 [.val (eUser 1 f_read_queue [.val (eUser 1 f_show_queue [.val (eVar 8)])]), .val (eVar 8)]))) (dSeq (dRet (eC (.bl false)))
      (dNil)) (dNil))
      (dNil))))))))))
theorem lw_body (N : List PV) (i : Nat) (hi : i < 10) {ns : List Int} (hN : N = ns.map PV.int) (hl : ns.length ≤ 63) (s2 s3 s4 s5 s6 s7 s8 : Sl) (n3 : NBo s3) (n4 : NBo s4) (n5 : NBo s5) (n6 : NBo s6) (n7 : NBo s7) (n8 : NBo s8) :
    ∃ t3 t4 t5 t6 t7 t8, NBo t3 ∧ NBo t4 ∧ NBo t5 ∧ NBo t6 ∧ NBo t7 ∧ NBo t8 ∧ body_law [.pv (.lst N), .pv (.int (0 + (i : Int))), s2, s3, s4, s5, s6, s7, s8, .un] = .nx [.pv (.lst N), .pv (.int (0 + (i : Int))), s2, t3, t4, t5, t6, t7, t8, .un] := by
  subst hN
  obtain ⟨o0, p0, e0⟩ := f_fount (ns := ns) (k := 0 + (i : Int)) (by omega) (by omega) hl
  obtain ⟨j, o1, p1, j0, j1, e1⟩ := sip_ok (n := 2) p0 (by decide) (by decide) (by decide)
  obtain ⟨most, hm, m1, m2⟩ : ∃ most : Int, atI [PV.int 8, .int 40] j = some (.int most) ∧ 1 ≤ most ∧ most ≤ 40 := by
    have : j = 0 ∨ j = 1 := by omega
    rcases this with rfl | rfl
    · exact ⟨_, rfl, by omega, by omega⟩
    · exact ⟨_, rfl, by omega, by omega⟩
  obtain ⟨xs, o2, h, p2, e2⟩ := f_lineF m1 m2 p1 (by decide)
  have lle := h.le
  have lpos := List.length_pos_iff.mpr h.ne
  have etx := v_text h
  have esh := v_show h
  have erd := v_read h
  have esa := v_same h
  obtain ⟨k, o3, p3, k0, k1, e3⟩ := sip_ok (n := (xs.length : Int)) p2 (by omega) (by omega) (fits_of (by omega) (by omega))
  obtain ⟨k, rfl⟩ : ∃ q : Nat, k = q := ⟨k.toNat, by omega⟩
  have hk : k < xs.length := by omega
  obtain ⟨ys, hys⟩ : ∃ ys, ys = xs.take k ++ xs.drop (k + 1) ++ [xs[k]] := ⟨_, rfl⟩
  have py : ys.Perm xs := by
    rw [hys, List.append_assoc]
    refine (List.Perm.append_left _ (List.perm_append_singleton _ _)).trans ?_
    rw [← List.drop_eq_getElem_cons hk, List.take_append_drop]
  have hy := h.perm' py
  have fsh := v_show hy
  have frd := v_read hy
  have q1 := gEqB_tup ys xs
  have q2 := gEqB_tup ys ys
  rw [decide_eq_true rfl] at q2
  have same : decide (S ys = S xs) = decide (ys = xs) := decide_eq_decide.mpr ⟨fun e => S_inj h hy e, fun e => by rw [e]⟩
  obtain ⟨zs, hzs⟩ : ∃ zs, zs = xs.map fun x => 0 - x := ⟨_, rfl⟩
  have hz : Que zs := by
    rw [hzs]
    refine ⟨?_, by simpa using h.ne, by rw [List.length_map]; exact lle, fun x hx => ?_⟩
    · have := h.nd
      unfold List.Nodup at this ⊢
      rw [List.pairwise_map]
      exact this.imp fun q z => q (by omega)
    · obtain ⟨y, hy', rfl⟩ := List.mem_map.mp hx
      have := h.bd y hy'
      omega
  have gsh := v_show hz
  have grd := v_read hz
  have gsa := v_same hz
  have lX : (xs.map PV.int).length = xs.length := List.length_map ..
  have c1 := s_cut_hi (xs.map PV.int) k (by rw [lX]; omega)
  have c2 := s_cut_lo (xs.map PV.int) (k + 1) (by rw [lX]; omega)
  have c2' : cutP (xs.map PV.int) (some ((k : Int) + 1)) none = (xs.map PV.int).drop (k + 1) := by
    rw [show (k : Int) + 1 = ((k + 1 : Nat) : Int) by omega]; exact c2
  have c3 : cutP (xs.map PV.int) (some (k : Int)) (some ((k : Int) + 1)) = [.int xs[k]] := by
    rw [show (k : Int) + 1 = ((k + 1 : Nat) : Int) by omega]
    unfold cutP
    rw [HT.sIx_nat, HT.sIx_nat, lX, Nat.min_eq_left (by omega), Nat.min_eq_left (by omega), ← List.map_drop, ← List.map_take, show k + 1 - k = 1 by omega, List.drop_eq_getElem_cons hk]
    rfl
  have ym : ys.map PV.int = (xs.map PV.int).take k ++ (xs.map PV.int).drop (k + 1) ++ [.int xs[k]] := by
    rw [hys, List.map_append, List.map_append, List.map_take, List.map_drop]; rfl
  have l1 : ((xs.map PV.int).take k).length + ((xs.map PV.int).drop (k + 1)).length ≤ big := by rw [List.length_take, List.length_drop, lX]; unfold big; omega
  have l2 : ((xs.map PV.int).take k ++ (xs.map PV.int).drop (k + 1)).length + 1 ≤ big := by rw [List.length_append, List.length_take, List.length_drop, lX]; unfold big; omega
  have g2 : 2 ≤ big := by unfold big; omega
  have lc : ∀ a b c d e f g h i : Sl, lcL [9] (gNm 9) sYes (eOp gMin (eC (.int 0)) (eVar 9)) (xs.map PV.int) [] [a, b, c, d, e, f, g, h, i, .un] = .ok (zs.map PV.int) [a, b, c, d, e, f, g, h, i, .un] := fun a b c d e f g h i => by
    have := lc_all (vs := [9]) (tgt := gNm 9) (e := eOp gMin (eC (.int 0)) (eVar 9)) (m := [a, b, c, d, e, f, g, h, i, .un]) (fun z => match z with | .int x => .int (0 - x) | _ => .non) (xs.map PV.int) [] (fun z hz => by
      obtain ⟨x, _, rfl⟩ := List.mem_map.mp hz
      refine ⟨[a, b, c, d, e, f, g, h, i, .pv (.int x)], by simp, .pv (.int (0 - x)), [a, b, c, d, e, f, g, h, i, .pv (.int x)], by simp, rfl, by simp⟩) (by simp; omega)
    rw [List.nil_append, List.map_map] at this
    rw [this, hzs, List.map_map]
    rfl
  refine ⟨.own o3, .pv (.tup (xs.map PV.int)), .pv (.str (S xs)), .pv (.int k), .pv (.tup (ys.map PV.int)), .pv (.tup (zs.map PV.int)), (fun q z => nomatch z), (fun q z => nomatch z), (fun q z => nomatch z), (fun q z => nomatch z), (fun q z => nomatch z), (fun q z => nomatch z), ?_⟩
  unfold body_law
  generalize (0 + (i : Int)) = ii at *
  generalize f_law_fount = g0 at *
  generalize f_law_sip = g1 at *
  generalize f_law_line = g3 at *
  generalize f_law_text = g4 at *
  generalize f_show_queue = g5 at *
  generalize f_read_queue = g6 at *
  generalize f_law_same2 = g7 at *
  generalize (eOp gMin (eC (.int 0)) (eVar 9)) = ec at *
  generalize S ys = Sy at *
  generalize S xs = Sx at *
  generalize S zs = Sz at *
  generalize decide (ys = xs) = bb at *
  generalize hTK : (xs.map PV.int).take k = TK at *
  generalize hDK : (xs.map PV.int).drop (k + 1) = DK at *
  generalize zs.map PV.int = Z at *
  generalize hY : ys.map PV.int = Y at *
  generalize xs.map PV.int = X at *
  generalize ns.map PV.int = NN at *
  generalize xs[k] = xk at *
  have l2' : TK.length + DK.length + 1 ≤ big := by rw [List.length_append] at l2; exact l2
  have l2'' : TK.length + (DK.length + 1) ≤ big := by omega
  have t3 : dSet 3 (eUser 2 g0 [.val (eVar 0), .val (eVar 1)]) [.pv (.lst NN), .pv (.int ii), s2, s3, s4, s5, s6, s7, s8, .un] = .nx [.pv (.lst NN), .pv (.int ii), s2, .own o0, s4, s5, s6, s7, s8, .un] := by
    cases s3 with
    | bor o => exact absurd rfl (n3 o)
    | _ => simp [e0]
  have t4 : dSet 4 (eUser 2 g3 [.io 3, .val (eOp gIx (eLst [.val (eC (.int 8)), .val (eC (.int 40))]) (eUser 2 g1 [.io 3, .val (eC (.int 2))]))]) [.pv (.lst NN), .pv (.int ii), s2, .own o0, s4, s5, s6, s7, s8, .un] = .nx [.pv (.lst NN), .pv (.int ii), s2, .own o2, .pv (.tup X), s5, s6, s7, s8, .un] := by
    cases s4 with
    | bor o => exact absurd rfl (n4 o)
    | _ => simp [e1, hm, e2, g2]
  have t5 : dSet 5 (eUser 1 g4 [.val (eVar 4)]) [.pv (.lst NN), .pv (.int ii), s2, .own o2, .pv (.tup X), s5, s6, s7, s8, .un] = .nx [.pv (.lst NN), .pv (.int ii), s2, .own o2, .pv (.tup X), .pv (.str Sx), s6, s7, s8, .un] := by
    cases s5 with
    | bor o => exact absurd rfl (n5 o)
    | _ => simp [etx]
  have i1 : dIf (sOr (sBool (eOp gNe (eUser 1 g5 [.val (eVar 4)]) (eVar 5))) (sNot (sTru (eUser 2 g7 [.val (eUser 1 g6 [.val (eVar 5)]), .val (eVar 4)])))) (dSeq (dRet (eC (.bl false))) (dNil)) (dNil) [.pv (.lst NN), .pv (.int ii), s2, .own o2, .pv (.tup X), .pv (.str Sx), s6, s7, s8, .un] = .nx [.pv (.lst NN), .pv (.int ii), s2, .own o2, .pv (.tup X), .pv (.str Sx), s6, s7, s8, .un] := by
    simp [esh, erd, esa]
  have t6 : dSet 6 (eUser 2 g1 [.io 3, .val (eCall1 gLen (eVar 4))]) [.pv (.lst NN), .pv (.int ii), s2, .own o2, .pv (.tup X), .pv (.str Sx), s6, s7, s8, .un] = .nx [.pv (.lst NN), .pv (.int ii), s2, .own o3, .pv (.tup X), .pv (.str Sx), .pv (.int k), s7, s8, .un] := by
    cases s6 with
    | bor o => exact absurd rfl (n6 o)
    | _ => simp [lX, e3]
  have t7 : dSet 7 (eOp gAdd (eOp gAdd (eCut (eVar 4) none (some (eVar 6))) (eCut (eVar 4) (some (eOp gAdd (eVar 6) (eC (.int 1)))) none)) (eCut (eVar 4) (some (eVar 6)) (some (eOp gAdd (eVar 6) (eC (.int 1)))))) [.pv (.lst NN), .pv (.int ii), s2, .own o3, .pv (.tup X), .pv (.str Sx), .pv (.int k), s7, s8, .un] = .nx [.pv (.lst NN), .pv (.int ii), s2, .own o3, .pv (.tup X), .pv (.str Sx), .pv (.int k), .pv (.tup Y), s8, .un] := by
    rw [ym]
    cases s7 with
    | bor o => exact absurd rfl (n7 o)
    | _ => simp [c1, c2', c3, l1, l2', l2'']
  have i2 : dIf (sOr (sBool (eOp gNe (eOp gEq (eUser 1 g5 [.val (eVar 7)]) (eVar 5)) (eOp gEq (eVar 7) (eVar 4)))) (sBool (eOp gNe (eUser 1 g6 [.val (eUser 1 g5 [.val (eVar 7)])]) (eVar 7)))) (dSeq (dRet (eC (.bl false))) (dNil)) (dNil) [.pv (.lst NN), .pv (.int ii), s2, .own o3, .pv (.tup X), .pv (.str Sx), .pv (.int k), .pv (.tup Y), s8, .un] = .nx [.pv (.lst NN), .pv (.int ii), s2, .own o3, .pv (.tup X), .pv (.str Sx), .pv (.int k), .pv (.tup Y), s8, .un] := by
    simp [fsh, frd, q1, q2, same, gEqB_bl]
  have t8 : dSet 8 (eCall1 gTuple (eLc [9] (sSeq (eVar 4)) (gNm 9) sYes ec)) [.pv (.lst NN), .pv (.int ii), s2, .own o3, .pv (.tup X), .pv (.str Sx), .pv (.int k), .pv (.tup Y), s8, .un] = .nx [.pv (.lst NN), .pv (.int ii), s2, .own o3, .pv (.tup X), .pv (.str Sx), .pv (.int k), .pv (.tup Y), .pv (.tup Z), .un] := by
    cases s8 with
    | bor o => exact absurd rfl (n8 o)
    | _ => simp [lc]
  have i3 : dIf (sNot (sTru (eUser 2 g7 [.val (eUser 1 g6 [.val (eUser 1 g5 [.val (eVar 8)])]), .val (eVar 8)]))) (dSeq (dRet (eC (.bl false))) (dNil)) (dNil) [.pv (.lst NN), .pv (.int ii), s2, .own o3, .pv (.tup X), .pv (.str Sx), .pv (.int k), .pv (.tup Y), .pv (.tup Z), .un] = .nx [.pv (.lst NN), .pv (.int ii), s2, .own o3, .pv (.tup X), .pv (.str Sx), .pv (.int k), .pv (.tup Y), .pv (.tup Z), .un] := by
    simp [gsh, grd, gsa]
  have sq : ∀ {a b : List Sl → SRes} {m m' : List Sl}, a m = .nx m' → dSeq a b m = b m' := fun {a b m m'} h => by
    show (a m).thn b = _
    rw [h]; rfl
  rw [sq t3, sq t4, sq t5, sq i1, sq t6, sq t7, sq i2, sq t8, sq i3]
  rfl
theorem law_loop (ns : List Int) (hl : ns.length ≤ 63) (n : Nat) (hn : n ≤ 10) : ∃ t1 t3 t4 t5 t6 t7 t8, forL (gNm 1) body_law (rng 0 n) [.pv (.lst (ns.map PV.int)), .un, .un, .un, .un, .un, .un, .un, .un, .un] = .nx [.pv (.lst (ns.map PV.int)), t1, .un, t3, t4, t5, t6, t7, t8, .un] := by
  obtain ⟨m', e, t1, t3, t4, t5, t6, t7, t8, _, _, _, _, _, _, _, rfl⟩ := forL_inv (tgt := gNm 1) (d := body_law) (xs := rng 0 n) (fun i m => ∃ t1 t3 t4 t5 t6 t7 t8, NBo t1 ∧ NBo t3 ∧ NBo t4 ∧ NBo t5 ∧ NBo t6 ∧ NBo t7 ∧ NBo t8 ∧ m = [.pv (.lst (ns.map PV.int)), t1, .un, t3, t4, t5, t6, t7, t8, .un]) (fun i x m hx ⟨t1, t3, t4, t5, t6, t7, t8, n1, n3, n4, n5, n6, n7, n8, em⟩ => by
    subst em
    obtain ⟨hi, rfl⟩ := rng_get hx
    obtain ⟨u3, u4, u5, u6, u7, u8, m3, m4, m5, m6, m7, m8, eb⟩ := lw_body (ns.map PV.int) i (by omega) rfl hl .un t3 t4 t5 t6 t7 t8 n3 n4 n5 n6 n7 n8
    refine ⟨[.pv (.lst (ns.map PV.int)), .pv (.int (0 + (i : Int))), .un, t3, t4, t5, t6, t7, t8, .un], _, ?_, .inl eb, .pv (.int (0 + (i : Int))), u3, u4, u5, u6, u7, u8, (fun q z => nomatch z), m3, m4, m5, m6, m7, m8, rfl⟩
    cases t1 with
    | bor o => exact absurd rfl (n1 o)
    | _ => simp) [.pv (.lst (ns.map PV.int)), .un, .un, .un, .un, .un, .un, .un, .un, .un] ⟨.un, .un, .un, .un, .un, .un, .un, (fun q z => nomatch z), (fun q z => nomatch z), (fun q z => nomatch z), (fun q z => nomatch z), (fun q z => nomatch z), (fun q z => nomatch z), (fun q z => nomatch z), rfl⟩
  exact ⟨t1, t3, t4, t5, t6, t7, t8, e⟩
theorem S352 : S [3, -5, 2] = "3 -5 2" := by
  apply Tx.str_ext
  show (Txt.join Tx.sp ([3, -5, 2].map Tx.tx)).cps.toList = _
  rw [Tx.join_cps (by simp)]
  have a := Tx.it_cps 3
  have b := Tx.it_cps (-5)
  have c := Tx.it_cps 2
  show Tx.jn [(Tx.tx 3).cps.toList, (Tx.tx (-5)).cps.toList, (Tx.tx 2).cps.toList] = _
  rw [show (Tx.tx 3).cps.toList = Tx.it 3 from a, show (Tx.tx (-5)).cps.toList = Tx.it (-5) from b, show (Tx.tx 2).cps.toList = Tx.it 2 from c]
  have n3 : Tx.it 3 = [51] := Tx.nd_small (n := 3) (by decide)
  have n5 : Tx.it (-5) = [45, 53] := by
    unfold Tx.it
    rw [if_pos (by decide)]
    exact congrArg (45 :: ·) (Tx.nd_small (n := 5) (by decide))
  have n2 : Tx.it 2 = [50] := Tx.nd_small (n := 2) (by decide)
  rw [n3, n5, n2]
  have : ("3 -5 2" : Str) = ⟨#[51, 32, 45, 53, 32, 50]⟩ := by decide
  rw [this]
  rfl
theorem law_true : ∀ ns : List Int, ns.length ≤ 63 → (∀ z ∈ ns, Builtin.Int.intBits z ≤ 1048576) → ∃ m', f_law [.pv (.lst (ns.map PV.int))] = .ok (.pv (.bl true)) m' := fun ns hl _ => by
  obtain ⟨cn, hcn, cn1, cn2⟩ : ∃ cn : Int, (if 1 < if ((ns.map PV.int).length : Int) < 6 then ((ns.map PV.int).length : Int) else 6 then if ((ns.map PV.int).length : Int) < 6 then ((ns.map PV.int).length : Int) else 6 else 1) = cn ∧ 1 ≤ cn ∧ cn ≤ 6 := ⟨_, rfl, by split <;> (try split) <;> omega, by split <;> (try split) <;> omega⟩
  obtain ⟨t1, t3, t4, t5, t6, t7, t8, e⟩ := law_loop ns hl cn.toNat (by omega)
  have qa : Que [3, -5, 2] := ⟨by decide, by decide, by decide, by decide⟩
  have qg : Que [1000000000000000000000000000000, 0, -1000000000000000000000000000000, 1, -1] := ⟨by decide, by decide, by decide, by decide⟩
  have ea := v_show qa
  rw [S352] at ea
  have eg := v_show qg
  have er := v_read qg
  have q := gEqB_tup [1000000000000000000000000000000, 0, -1000000000000000000000000000000, 1, -1] [1000000000000000000000000000000, 0, -1000000000000000000000000000000, 1, -1]
  rw [decide_eq_true rfl] at q
  have hd : d_law = dSeq (dFor (sRng1 (eOp gMax2 (eC (.int 1)) (eOp gMin2 (eC (.int 6)) (eCall1 gLen (eVar 0))))) (gNm 1) body_law)
      (dSeq (dSet 2 (eTup [.val (eOp gPowB (eC (.int 10)) (eC (.int 30))), .val (eC (.int 0)), .val (eOp gMin (eC (.int 0)) (eOp gPowB (eC (.int 10)) (eC (.int 30)))), .val (eC (.int 1)), .val (eNeg (eC (.int 1)))]))
      (dSeq (dRet (eAnd (eOp gEq (eUser 1 f_show_queue [.val (eTup [.val (eC (.int 3)), .val (eNeg (eC (.int 5))), .val (eC (.int 2))])]) (eC (.str "3 -5 2"))) (eOp gEq (eUser 1 f_read_queue [.val (eUser 1 f_show_queue [.val (eVar 2)])]) (eVar 2))))
      (dNil))) := rfl
  have ok : okR cn = true := okR_of (by omega) (by omega)
  have g3 : 3 ≤ big := by unfold big; omega
  have g5 : 5 ≤ big := by unfold big; omega
  have f10 : fits 10 = true := by decide
  have P30 : gPowB (.int 10) (.int 30) = some (.pv (.int 1000000000000000000000000000000)) := by simp [f10]
  simp only [List.map_cons, List.map_nil] at ea eg er q
  refine ⟨[.un], ?_⟩
  unfold f_law
  rw [hd]
  generalize body_law = bl at *
  generalize gPowB = gp at *
  generalize f_show_queue = g1 at *
  generalize f_read_queue = g2 at *
  generalize S [1000000000000000000000000000000, 0, -1000000000000000000000000000000, 1, -1] = SG at *
  generalize ("3 -5 2" : Str) = SA at *
  generalize ns.map PV.int = N at *
  simp [hcn, ok, e, ea, eg, er, q, P30, g3, g5]
end Sd
end
section
set_option Elab.async false
set_option linter.all false
set_option maxRecDepth 100000
set_option maxHeartbeats 0
namespace Sd
open PySem PySem.W PySem.Spec PyProof.Rows L2
noncomputable section
def topS (i : Nat) : Stmt := PySem.Challenge.pw_tallerfirst_k51_texts_both_ways.main.body.getD i (.Pass ⟨0, 0, 0, 0⟩)
section
variable {P : Program} {w : World} {K : PySem.W.Frag} {mg : Str → Option Value} {base : Heap}
abbrev N_law_fount : List Str := ["script", "k", "cell"]
abbrev s_law_fount : Stmt := topS 18
theorem sc_law_fount : FnScope N_law_fount ["script", "k"] (defScope s_law_fount) := ⟨rfl, rfl, rfl, by decide +kernel, rfl, by decide +kernel, by decide +kernel⟩
theorem ok_law_fount (nb_len : mg "len" = none) (nb_max : mg "max" = none) {f : Addr} {fd : FuncData} (F : FunD K "_law_fount" "_law_fount" (defArgs s_law_fount) (defBody s_law_fount) (defScope s_law_fount) [] [] f fd) : FnG P w K mg base 1 f fd ["script", "k"] f_law_fount := by
  refine fnG_ofD F sc_law_fount fun cdv A outer s H E B hr hgd => ?_
  have nd := (sc_law_fount).nd
  have tkE : Takes (cxOf (L2.CX P w) P w K mg base N_law_fount "_law_fount" (defScope s_law_fount) f cdv A outer s H E) (fun cls d _ H' => E cls d H') := takes_of rfl rfl rfl rfl
  exact sss_cons (ss_set (ps_set (i := 2) nd rfl (by first | exact Or.inl rfl | exact Or.inr rfl) (se_int)))
      (sss_cons (ss_if (st_cmp op_lt op2_lt (nomark _) (se_var (pv 1)) (se_blt1 call_len op1_len (by rfl) nb_len bb_len (se_var (pv 0)) (by decide) (by decide) rfl)) (sss_cons (ss_set (ps_set (i := 2) nd rfl (by first | exact Or.inl rfl | exact Or.inr rfl) (se_ix rfl (se_var (pv 0)) (se_var (pv 1)) (fun _ _ => rfl))))
      (sss_nil)) (sss_nil))
      (sss_cons (ss_ret (se_lst (sa_val (se_blt2 (call_max2 rfl) op1b_max2 (by rfl) nb_max bb_max (se_int) (se_sub (se_var (pv 2)) (se_powB (se_int) (se_int))) (by decide) (by decide) rfl rfl rfl) (sa_val (se_add rfl (se_mul (se_mod (se_var (pv 2)) (se_add rfl (se_powB (se_int) (se_int)) (se_int))) (se_int)) (se_var (pv 1))) (sa_val (se_int) (sa_nil) rfl) rfl) rfl)))
      (sss_nil)))
abbrev N_law_same : List Str := ["found", "due", "k"]
abbrev s_law_same : Stmt := topS 23
theorem sc_law_same : FnScope N_law_same ["found", "due"] (defScope s_law_same) := ⟨rfl, rfl, rfl, by decide +kernel, rfl, by decide +kernel, by decide +kernel⟩
theorem ok_law_same (nb_all : mg "all" = none) (nb_bool : mg "bool" = none) (nb_isinstance : mg "isinstance" = none) (nb_len : mg "len" = none) (nb_list : mg "list" = none) (nb_range : mg "range" = none) (nb_tuple : mg "tuple" = none) {f : Addr} {fd : FuncData} (F : FunD K "_law_same" "_law_same" (defArgs s_law_same) (defBody s_law_same) (defScope s_law_same) [] [] f fd) : FnG P w K mg base 1 f fd ["found", "due"] f_law_same := by
  refine fnG_ofD F sc_law_same fun cdv A outer s H E B hr hgd => ?_
  have nd := (sc_law_same).nd
  have tkE : Takes (cxOf (L2.CX P w) P w K mg base N_law_same "_law_same" (defScope s_law_same) f cdv A outer s H E) (fun cls d _ H' => E cls d H') := takes_of rfl rfl rfl rfl
  exact sss_cons (ss_if (st_tru rfl (se_isiT (by rfl) nb_isinstance bb_isinstance rfl (se_var (pv 1)) (pe_bltn (by rfl) nb_list bb_list (v := .ty "list") rfl (by decide) (by decide)) (pe_bltn (by rfl) nb_tuple bb_tuple (v := .ty "tuple") rfl (by decide) (by decide)) (by decide) (by decide) rfl rfl rfl rfl rfl) (fun _ => rfl)) (sss_cons (ss_if (SW.st (sw_or (st_cmp (op_neA hr) op2_ne (nomark _) (se_blt2 call_isi op1b_isi (by rfl) nb_isinstance bb_isinstance (se_var (pv 0)) (se_tyN (by rfl) nb_list bb_list (by decide) (by decide)) (by decide) (by decide) rfl rfl rfl) (se_blt2 call_isi op1b_isi (by rfl) nb_isinstance bb_isinstance (se_var (pv 1)) (se_tyN (by rfl) nb_list bb_list (by decide) (by decide)) (by decide) (by decide) rfl rfl rfl)) (sw_or1 (st_cmp (op_neA hr) op2_ne (nomark _) (se_blt2 call_isi op1b_isi (by rfl) nb_isinstance bb_isinstance (se_var (pv 0)) (se_tyN (by rfl) nb_tuple bb_tuple (by decide) (by decide)) (by decide) (by decide) rfl rfl rfl) (se_blt2 call_isi op1b_isi (by rfl) nb_isinstance bb_isinstance (se_var (pv 1)) (se_tyN (by rfl) nb_tuple bb_tuple (by decide) (by decide)) (by decide) (by decide) rfl rfl rfl))))) (sss_cons (ss_ret (se_bl))
      (sss_nil)) (sss_nil))
      (sss_cons (ss_ret (se_and (se_cmp (op_eqA hr) op2_eq (nomark _) (se_blt1 call_len op1_len (by rfl) nb_len bb_len (se_var (pv 0)) (by decide) (by decide) rfl) (se_blt1 call_len op1_len (by rfl) nb_len bb_len (se_var (pv 1)) (by decide) (by decide) rfl)) (se_one (se_blt1 (cr_all rfl) op1_all (by rfl) nb_all bb_all (se_lc (own := [("k", 2)]) rfl nd (si_rng1 (by rfl) nb_range (se_blt1 call_len op1_len (by rfl) nb_len bb_len (se_var (pv 1)) (by decide) (by decide) rfl) rfl) (blkOk_by (own := [("k", 2)]) (N := N_law_same) (sc := defScope s_law_same) (by decide +kernel)) (tgg_name) (by decide) (fun s H C cl fp => pg_name (i := 2) nd rfl (by first | exact Or.inl rfl | exact Or.inr rfl)) (fun s H C cl fp => se_stuck) (fun _ => rfl)) (by decide) (by decide) rfl))))
      (sss_nil))) (sss_nil))
      (sss_cons (ss_ret (se_and (se_cmp (op_eqA hr) op2_eq (nomark _) (se_blt2 call_isi op1b_isi (by rfl) nb_isinstance bb_isinstance (se_var (pv 0)) (se_tyN (by rfl) nb_bool bb_bool (by decide) (by decide)) (by decide) (by decide) rfl rfl rfl) (se_blt2 call_isi op1b_isi (by rfl) nb_isinstance bb_isinstance (se_var (pv 1)) (se_tyN (by rfl) nb_bool bb_bool (by decide) (by decide)) (by decide) (by decide) rfl rfl rfl)) (se_one (se_cmp (op_eqA hr) op2_eq (nomark _) (se_var (pv 0)) (se_var (pv 1))))))
      (sss_nil))
abbrev N_law_sip : List Str := ["fount", "many", "mixed", "found"]
abbrev s_law_sip : Stmt := topS 19
theorem sc_law_sip : FnScope N_law_sip ["fount", "many"] (defScope s_law_sip) := ⟨rfl, rfl, rfl, by decide +kernel, rfl, by decide +kernel, by decide +kernel⟩
theorem ok_law_sip {f : Addr} {fd : FuncData} (F : FunD K "_law_sip" "_law_sip" (defArgs s_law_sip) (defBody s_law_sip) (defScope s_law_sip) [] [] f fd) : FnG P w K mg base 1 f fd ["fount", "many"] f_law_sip := by
  refine fnG_ofD F sc_law_sip fun cdv A outer s H E B hr hgd => ?_
  have nd := (sc_law_sip).nd
  have tkE : Takes (cxOf (L2.CX P w) P w K mg base N_law_sip "_law_sip" (defScope s_law_sip) f cdv A outer s H E) (fun cls d _ H' => E cls d H') := takes_of rfl rfl rfl rfl
  exact sss_cons (ss_if (st_cmp op_gt op2_gt (nomark _) (se_ixP rfl (pv 0) (se_int) (fun _ _ => rfl)) (se_int)) (sss_cons (ss_set (ps_set (i := 3) nd rfl (by first | exact Or.inl rfl | exact Or.inr rfl) (se_mod (se_ixP rfl (pv 0) (se_int) (fun _ _ => rfl)) (se_var (pv 1)))))
      (sss_cons (ss_setIx (ps_asg (se_fdiv (se_ixP rfl (pv 0) (se_int) (fun _ _ => rfl)) (se_var (pv 1))) (pg_sub (pv 0) (se_int) set_list (fun _ => rfl))))
      (sss_cons (ss_ret (se_var (pv 3)))
      (sss_nil)))) (sss_nil))
      (sss_cons (ss_setIx (ps_asg (se_add rfl (se_ixP rfl (pv 0) (se_int) (fun _ _ => rfl)) (se_int)) (pg_sub (pv 0) (se_int) set_list (fun _ => rfl))))
      (sss_cons (ss_set (ps_set (i := 2) nd rfl (by first | exact Or.inl rfl | exact Or.inr rfl) (se_mod (se_powB (se_add rfl (se_ixP rfl (pv 0) (se_int) (fun _ _ => rfl)) (se_mul (se_int) (se_ixP rfl (pv 0) (se_int) (fun _ _ => rfl)))) (se_int)) (se_add rfl (se_powB (se_int) (se_int)) (se_int)))))
      (sss_cons (ss_set (ps_set (i := 2) nd rfl (by first | exact Or.inl rfl | exact Or.inr rfl) (se_mod (se_powB (se_add rfl (se_var (pv 2)) (se_mul (se_int) (se_ixP rfl (pv 0) (se_int) (fun _ _ => rfl)))) (se_int)) (se_add rfl (se_powB (se_int) (se_int)) (se_int)))))
      (sss_cons (ss_ret (se_mod (se_fdiv (se_var (pv 2)) (se_int)) (se_var (pv 1))))
      (sss_nil)))))
abbrev N_law_text : List Str := ["line", "person"]
abbrev s_law_text : Stmt := topS 24
theorem sc_law_text : FnScope N_law_text ["line"] (defScope s_law_text) := ⟨rfl, rfl, rfl, by decide +kernel, rfl, by decide +kernel, by decide +kernel⟩
theorem ok_law_text (nb_str : mg "str" = none) {f : Addr} {fd : FuncData} (F : FunD K "_law_text" "_law_text" (defArgs s_law_text) (defBody s_law_text) (defScope s_law_text) [] [] f fd) : FnG P w K mg base 1 f fd ["line"] f_law_text := by
  refine fnG_ofD F sc_law_text fun cdv A outer s H E B hr hgd => ?_
  have nd := (sc_law_text).nd
  have tkE : Takes (cxOf (L2.CX P w) P w K mg base N_law_text "_law_text" (defScope s_law_text) f cdv A outer s H E) (fun cls d _ H' => E cls d H') := takes_of rfl rfl rfl rfl
  exact sss_cons (ss_ret (se_join rfl (se_str) (se_lc (own := [("person", 1)]) rfl nd (si_seq rfl (se_var (pv 0))) (blkOk_by (own := [("person", 1)]) (N := N_law_text) (sc := defScope s_law_text) (by decide +kernel)) (tgg_name) (by decide) (fun s H C cl fp => pg_name (i := 1) nd rfl (by first | exact Or.inl rfl | exact Or.inr rfl)) (fun s H C cl fp => se_ty1 call_str_int op1_str (by rfl) nb_str bb_str (se_var (pv 1)) (by decide) (by decide) rfl) (fun _ => rfl)) rfl rfl rfl))
      (sss_nil)
abbrev N_is_count : List Str := ["word"]
abbrev s_is_count : Stmt := topS 16
theorem sc_is_count : FnScope N_is_count ["word"] (defScope s_is_count) := ⟨rfl, rfl, rfl, by decide +kernel, rfl, by decide +kernel, by decide +kernel⟩
theorem ok_is_count {tc_MOST_DIGITS : Tok} (nb_len : mg "len" = none) (mc_MOST_DIGITS : mg "MOST_DIGITS" = some (.int 31 tc_MOST_DIGITS)) {f : Addr} {fd : FuncData} (F : FunD K "is_count" "is_count" (defArgs s_is_count) (defBody s_is_count) (defScope s_is_count) [] [] f fd) : FnG P w K mg base 1 f fd ["word"] f_is_count := by
  refine fnG_ofD F sc_is_count fun cdv A outer s H E B hr hgd => ?_
  have nd := (sc_is_count).nd
  have tkE : Takes (cxOf (L2.CX P w) P w K mg base N_is_count "is_count" (defScope s_is_count) f cdv A outer s H E) (fun cls d _ H' => E cls d H') := takes_of rfl rfl rfl rfl
  exact sss_cons (ss_if (SW.st (sw_or (st_not (st_tru rfl (se_isascii (se_var (pv 0)) rfl rfl) (fun _ => rfl))) (sw_or (st_not (st_tru rfl (se_isdigit (se_var (pv 0)) rfl rfl) (fun _ => rfl))) (sw_or1 (st_cmp op_gt op2_gt (nomark _) (se_blt1 call_len op1_len (by rfl) nb_len bb_len (se_var (pv 0)) (by decide) (by decide) rfl) (se_glob (pe_glob (v := .int 31) (by rfl) mc_MOST_DIGITS ⟨_, rfl⟩) (fun _ _ => .int _))))))) (sss_cons (ss_ret (se_bl))
      (sss_nil)) (sss_nil))
      (sss_cons (ss_ret (se_or (se_cmp (op_eqA hr) op2_eq (nomark _) (se_var (pv 0)) (se_str)) (se_one (se_notT rfl (se_starts (se_var (pv 0)) (se_str) rfl rfl rfl)))))
      (sss_nil))
abbrev N_is_integer : List Str := ["value", "least", "most"]
abbrev s_is_integer : Stmt := topS 7
theorem sc_is_integer : FnScope N_is_integer ["value", "least", "most"] (defScope s_is_integer) := ⟨rfl, rfl, rfl, by decide +kernel, rfl, by decide +kernel, by decide +kernel⟩
theorem ok_is_integer (nb_bool : mg "bool" = none) (nb_int : mg "int" = none) (nb_isinstance : mg "isinstance" = none) {f : Addr} {fd : FuncData} (F : FunD K "is_integer" "is_integer" (defArgs s_is_integer) (defBody s_is_integer) (defScope s_is_integer) [] [] f fd) : FnG P w K mg base 1 f fd ["value", "least", "most"] f_is_integer := by
  refine fnG_ofD F sc_is_integer fun cdv A outer s H E B hr hgd => ?_
  have nd := (sc_is_integer).nd
  have tkE : Takes (cxOf (L2.CX P w) P w K mg base N_is_integer "is_integer" (defScope s_is_integer) f cdv A outer s H E) (fun cls d _ H' => E cls d H') := takes_of rfl rfl rfl rfl
  exact sss_cons (ss_if (SW.st (sw_or (st_not (st_tru rfl (se_blt2 call_isi op1b_isi (by rfl) nb_isinstance bb_isinstance (se_var (pv 0)) (se_tyN (by rfl) nb_int bb_int (by decide) (by decide)) (by decide) (by decide) rfl rfl rfl) (fun _ => rfl))) (sw_or1 (st_tru rfl (se_blt2 call_isi op1b_isi (by rfl) nb_isinstance bb_isinstance (se_var (pv 0)) (se_tyN (by rfl) nb_bool bb_bool (by decide) (by decide)) (by decide) (by decide) rfl rfl rfl) (fun _ => rfl))))) (sss_cons (ss_ret (se_bl))
      (sss_nil)) (sss_nil))
      (sss_cons (ss_ret (se_chain op_le op2_le op_le op2_le (se_var (pv 1)) (se_var (pv 0)) (se_var (pv 2)) (by with_unfolding_all rfl)))
      (sss_nil))
abbrev N_law_mixed : List Str := ["fount", "items", "left", "turn"]
abbrev s_law_mixed : Stmt := topS 20
theorem sc_law_mixed : FnScope N_law_mixed ["fount", "items"] (defScope s_law_mixed) := ⟨rfl, rfl, rfl, by decide +kernel, rfl, by decide +kernel, by decide +kernel⟩
theorem ok_law_mixed (F_law_sip : FnB P w K mg base "_law_sip" 1 ["fount", "many"] f_law_sip) (nb_len : mg "len" = none) (nb_list : mg "list" = none) (nb_range : mg "range" = none) {f : Addr} {fd : FuncData} (F : FunD K "_law_mixed" "_law_mixed" (defArgs s_law_mixed) (defBody s_law_mixed) (defScope s_law_mixed) [] [] f fd) : FnG P w K mg base 2 f fd ["fount", "items"] f_law_mixed := by
  refine fnG_ofD F sc_law_mixed fun cdv A outer s H E B hr hgd => ?_
  have nd := (sc_law_mixed).nd
  have tkE : Takes (cxOf (L2.CX P w) P w K mg base N_law_mixed "_law_mixed" (defScope s_law_mixed) f cdv A outer s H E) (fun cls d _ H' => E cls d H') := takes_of rfl rfl rfl rfl
  exact sss_cons (ss_set (ps_set (i := 2) nd rfl (by first | exact Or.inl rfl | exact Or.inr rfl) (se_ty1 call_list_of op1_list (by rfl) nb_list bb_list (se_var (pv 1)) (by decide) (by decide) rfl)))
      (sss_cons (ss_ret (se_lc (own := [("turn", 3)]) rfl nd (si_rng1 (by rfl) nb_range (se_blt1P call_len op1_len (by rfl) nb_len bb_len (pv 2) (by decide) (by decide) rfl) rfl) (blkOk_by (own := [("turn", 3)]) (N := N_law_mixed) (sc := defScope s_law_mixed) (by decide +kernel)) (tgg_name) (by decide) (fun s H C cl fp => pg_name (i := 3) nd rfl (by first | exact Or.inl rfl | exact Or.inr rfl)) (fun s H C cl fp => se_meth (pe_bm PySem.F.plainAttrs_list PySem.F.slot_list_pop PySem.F.type_list_pop mt_popAt (pv 2) (sa_val (se_userB F_law_sip (hr.mono (by decide)) hgd (by rfl) takes0 (sa_io (pv 0) (sa_val (se_blt1P call_len op1_len (by rfl) nb_len bb_len (pv 2) (by decide) (by decide) rfl) (sa_nil) rfl) rfl) (by decide) rfl rfl rfl) (sa_nil) rfl)) mts_popAt) (fun _ => rfl)))
      (sss_nil))
abbrev N_law_people : List Str := ["fount", "most", "count", "last", "at", "style", "found", "wide"]
abbrev s_law_people : Stmt := topS 21
theorem sc_law_people : FnScope N_law_people ["fount", "most"] (defScope s_law_people) := ⟨rfl, rfl, rfl, by decide +kernel, rfl, by decide +kernel, by decide +kernel⟩
theorem ok_law_people (F_law_sip : FnB P w K mg base "_law_sip" 1 ["fount", "many"] f_law_sip) (nb_min : mg "min" = none) (nb_range : mg "range" = none) {f : Addr} {fd : FuncData} (F : FunD K "_law_people" "_law_people" (defArgs s_law_people) (defBody s_law_people) (defScope s_law_people) [] [] f fd) : FnG P w K mg base 2 f fd ["fount", "most"] f_law_people := by
  refine fnG_ofD F sc_law_people fun cdv A outer s H E B hr hgd => ?_
  have nd := (sc_law_people).nd
  have tkE : Takes (cxOf (L2.CX P w) P w K mg base N_law_people "_law_people" (defScope s_law_people) f cdv A outer s H E) (fun cls d _ H' => E cls d H') := takes_of rfl rfl rfl rfl
  exact sss_cons (ss_set (ps_set (i := 2) nd rfl (by first | exact Or.inl rfl | exact Or.inr rfl) (se_ix rfl (se_lst (sa_val (se_add rfl (se_int) (se_userB F_law_sip (hr.mono (by decide)) hgd (by rfl) tkE (sa_io (pv 0) (sa_val (se_var (pv 1)) (sa_nil) rfl) rfl) (by decide) rfl rfl rfl)) (sa_val (se_var (pv 1)) (sa_val (se_add rfl (se_int) (se_userB F_law_sip (hr.mono (by decide)) hgd (by rfl) tkE (sa_io (pv 0) (sa_val (se_blt2 (call_min2 rfl) op1b_min2 (by rfl) nb_min bb_min (se_var (pv 1)) (se_int) (by decide) (by decide) rfl rfl rfl) (sa_nil) rfl) rfl) (by decide) rfl rfl rfl)) (sa_nil) rfl) rfl) rfl)) (se_userB F_law_sip (hr.mono (by decide)) hgd (by rfl) tkE (sa_io (pv 0) (sa_val (se_int) (sa_nil) rfl) rfl) (by decide) rfl rfl rfl) (fun _ _ => rfl))))
      (sss_cons (ss_par2 rfl nd rfl rfl (by decide) rfl rfl (sa_val (se_userB F_law_sip (hr.mono (by decide)) hgd (by rfl) tkE (sa_io (pv 0) (sa_val (se_int) (sa_nil) rfl) rfl) (by decide) rfl rfl rfl) (sa_val (se_lst (sa_nil)) (sa_nil) rfl) rfl) (by rfl) (by rfl))
      (sss_cons (ss_set (ps_set (i := 3) nd rfl (by first | exact Or.inl rfl | exact Or.inr rfl) (se_ix rfl (se_lst (sa_val (se_int) (sa_val (se_sub (se_userB F_law_sip (hr.mono (by decide)) hgd (by rfl) tkE (sa_io (pv 0) (sa_val (se_int) (sa_nil) rfl) rfl) (by decide) rfl rfl rfl) (se_int)) (sa_val (se_sub (se_sub (se_int) (se_powB (se_int) (se_int))) (se_int)) (sa_val (se_sub (se_powB (se_int) (se_int)) (se_int)) (sa_val (se_sub (se_int) (se_userB F_law_sip (hr.mono (by decide)) hgd (by rfl) tkE (sa_io (pv 0) (sa_val (se_powB (se_int) (se_int)) (sa_nil) rfl) rfl) (by decide) rfl rfl rfl)) (sa_nil) rfl) rfl) rfl) rfl) rfl)) (se_var (pv 5)) (fun _ _ => rfl))))
      (sss_cons (ss_for (passes_of rfl) rfl (si_rng1 (by rfl) nb_range (se_var (pv 2)) rfl) ⟨_, pg_name (i := 4) nd rfl (by first | exact Or.inl rfl | exact Or.inr rfl), tgg_name⟩ (sss_cons (ss_set (ps_set (i := 7) nd rfl (by first | exact Or.inl rfl | exact Or.inr rfl) (se_ix rfl (se_lst (sa_val (se_powB (se_int) (se_int)) (sa_val (se_powB (se_int) (se_int)) (sa_val (se_powB (se_int) (se_int)) (sa_val (se_powB (se_int) (se_int)) (sa_val (se_powB (se_int) (se_int)) (sa_nil) rfl) rfl) rfl) rfl) rfl)) (se_userB F_law_sip (hr.mono (by decide)) hgd (by rfl) tkE (sa_io (pv 0) (sa_val (se_int) (sa_nil) rfl) rfl) (by decide) rfl rfl rfl) (fun _ _ => rfl))))
      (sss_cons (ss_set (ps_set (i := 3) nd rfl (by first | exact Or.inl rfl | exact Or.inr rfl) (se_add rfl (se_add rfl (se_var (pv 3)) (se_int)) (se_userB F_law_sip (hr.mono (by decide)) hgd (by rfl) tkE (sa_io (pv 0) (sa_val (se_ix rfl (se_lst (sa_val (se_int) (sa_val (se_int) (sa_val (se_mul (se_int) (se_powB (se_int) (se_int))) (sa_val (se_int) (sa_val (se_var (pv 7)) (sa_nil) rfl) rfl) rfl) rfl) rfl)) (se_var (pv 5)) (fun _ _ => rfl)) (sa_nil) rfl) rfl) (by decide) rfl rfl rfl))))
      (sss_cons (ss_expr (se_meth (pe_bm PySem.F.plainAttrs_list PySem.F.slot_list_append PySem.F.type_list_append mt_append (pv 6) (sa_val (se_var (pv 3)) (sa_nil) rfl)) mts_append) (by rfl))
      (sss_nil)))) (fun _ => rfl))
      (sss_cons (ss_ret (se_var (pv 6)))
      (sss_nil)))))
abbrev N_law_same2 : List Str := ["found", "due", "k"]
abbrev s_law_same2 : Stmt := topS 23
theorem sc_law_same2 : FnScope N_law_same2 ["found", "due"] (defScope s_law_same2) := ⟨rfl, rfl, rfl, by decide +kernel, rfl, by decide +kernel, by decide +kernel⟩
theorem ok_law_same2 (F_law_same : FnB P w K mg base "_law_same" 1 ["found", "due"] f_law_same) (nb_all : mg "all" = none) (nb_bool : mg "bool" = none) (nb_isinstance : mg "isinstance" = none) (nb_len : mg "len" = none) (nb_list : mg "list" = none) (nb_range : mg "range" = none) (nb_tuple : mg "tuple" = none) {f : Addr} {fd : FuncData} (F : FunD K "_law_same" "_law_same" (defArgs s_law_same2) (defBody s_law_same2) (defScope s_law_same2) [] [] f fd) : FnG P w K mg base 2 f fd ["found", "due"] f_law_same2 := by
  refine fnG_ofD F sc_law_same2 fun cdv A outer s H E B hr hgd => ?_
  have nd := (sc_law_same2).nd
  have tkE : Takes (cxOf (L2.CX P w) P w K mg base N_law_same2 "_law_same" (defScope s_law_same2) f cdv A outer s H E) (fun cls d _ H' => E cls d H') := takes_of rfl rfl rfl rfl
  exact sss_cons (ss_if (st_tru rfl (se_isiT (by rfl) nb_isinstance bb_isinstance rfl (se_var (pv 1)) (pe_bltn (by rfl) nb_list bb_list (v := .ty "list") rfl (by decide) (by decide)) (pe_bltn (by rfl) nb_tuple bb_tuple (v := .ty "tuple") rfl (by decide) (by decide)) (by decide) (by decide) rfl rfl rfl rfl rfl) (fun _ => rfl)) (sss_cons (ss_if (SW.st (sw_or (st_cmp (op_neA hr) op2_ne (nomark _) (se_blt2 call_isi op1b_isi (by rfl) nb_isinstance bb_isinstance (se_var (pv 0)) (se_tyN (by rfl) nb_list bb_list (by decide) (by decide)) (by decide) (by decide) rfl rfl rfl) (se_blt2 call_isi op1b_isi (by rfl) nb_isinstance bb_isinstance (se_var (pv 1)) (se_tyN (by rfl) nb_list bb_list (by decide) (by decide)) (by decide) (by decide) rfl rfl rfl)) (sw_or1 (st_cmp (op_neA hr) op2_ne (nomark _) (se_blt2 call_isi op1b_isi (by rfl) nb_isinstance bb_isinstance (se_var (pv 0)) (se_tyN (by rfl) nb_tuple bb_tuple (by decide) (by decide)) (by decide) (by decide) rfl rfl rfl) (se_blt2 call_isi op1b_isi (by rfl) nb_isinstance bb_isinstance (se_var (pv 1)) (se_tyN (by rfl) nb_tuple bb_tuple (by decide) (by decide)) (by decide) (by decide) rfl rfl rfl))))) (sss_cons (ss_ret (se_bl))
      (sss_nil)) (sss_nil))
      (sss_cons (ss_ret (se_and (se_cmp (op_eqA hr) op2_eq (nomark _) (se_blt1 call_len op1_len (by rfl) nb_len bb_len (se_var (pv 0)) (by decide) (by decide) rfl) (se_blt1 call_len op1_len (by rfl) nb_len bb_len (se_var (pv 1)) (by decide) (by decide) rfl)) (se_one (se_blt1 (cr_all rfl) op1_all (by rfl) nb_all bb_all (se_lc (own := [("k", 2)]) rfl nd (si_rng1 (by rfl) nb_range (se_blt1 call_len op1_len (by rfl) nb_len bb_len (se_var (pv 1)) (by decide) (by decide) rfl) rfl) (blkOk_by (own := [("k", 2)]) (N := N_law_same2) (sc := defScope s_law_same2) (by decide +kernel)) (tgg_name) (by decide) (fun s H C cl fp => pg_name (i := 2) nd rfl (by first | exact Or.inl rfl | exact Or.inr rfl)) (fun s H C cl fp => se_userB F_law_same (hr.mono (by decide)) hgd (by rfl) takes0 (sa_val (se_ix rfl (se_var (pv 0)) (se_var (pv 2)) (fun _ _ => rfl)) (sa_val (se_ix rfl (se_var (pv 1)) (se_var (pv 2)) (fun _ _ => rfl)) (sa_nil) rfl) rfl) (by decide) rfl rfl rfl) (fun _ => rfl)) (by decide) (by decide) rfl))))
      (sss_nil))) (sss_nil))
      (sss_cons (ss_ret (se_and (se_cmp (op_eqA hr) op2_eq (nomark _) (se_blt2 call_isi op1b_isi (by rfl) nb_isinstance bb_isinstance (se_var (pv 0)) (se_tyN (by rfl) nb_bool bb_bool (by decide) (by decide)) (by decide) (by decide) rfl rfl rfl) (se_blt2 call_isi op1b_isi (by rfl) nb_isinstance bb_isinstance (se_var (pv 1)) (se_tyN (by rfl) nb_bool bb_bool (by decide) (by decide)) (by decide) (by decide) rfl rfl rfl)) (se_one (se_cmp (op_eqA hr) op2_eq (nomark _) (se_var (pv 0)) (se_var (pv 1))))))
      (sss_nil))
abbrev N_is_height : List Str := ["value"]
abbrev s_is_height : Stmt := topS 8
theorem sc_is_height : FnScope N_is_height ["value"] (defScope s_is_height) := ⟨rfl, rfl, rfl, by decide +kernel, rfl, by decide +kernel, by decide +kernel⟩
theorem ok_is_height {tc_MOST_HEIGHT : Tok} (F_is_integer : FnB P w K mg base "is_integer" 1 ["value", "least", "most"] f_is_integer) (mc_MOST_HEIGHT : mg "MOST_HEIGHT" = some (.int 1000000000000000000000000000000 tc_MOST_HEIGHT)) {f : Addr} {fd : FuncData} (F : FunD K "is_height" "is_height" (defArgs s_is_height) (defBody s_is_height) (defScope s_is_height) [] [] f fd) : FnG P w K mg base 2 f fd ["value"] f_is_height := by
  refine fnG_ofD F sc_is_height fun cdv A outer s H E B hr hgd => ?_
  have nd := (sc_is_height).nd
  have tkE : Takes (cxOf (L2.CX P w) P w K mg base N_is_height "is_height" (defScope s_is_height) f cdv A outer s H E) (fun cls d _ H' => E cls d H') := takes_of rfl rfl rfl rfl
  exact sss_cons (ss_ret (se_userB F_is_integer (hr.mono (by decide)) hgd (by rfl) tkE (sa_val (se_var (pv 0)) (sa_val (se_neg (se_glob (pe_glob (v := .int 1000000000000000000000000000000) (by rfl) mc_MOST_HEIGHT ⟨_, rfl⟩) (fun _ _ => .int _))) (sa_val (se_glob (pe_glob (v := .int 1000000000000000000000000000000) (by rfl) mc_MOST_HEIGHT ⟨_, rfl⟩) (fun _ _ => .int _)) (sa_nil) rfl) rfl) rfl) (by decide) rfl rfl rfl))
      (sss_nil)
abbrev N_is_number : List Str := ["word"]
abbrev s_is_number : Stmt := topS 15
theorem sc_is_number : FnScope N_is_number ["word"] (defScope s_is_number) := ⟨rfl, rfl, rfl, by decide +kernel, rfl, by decide +kernel, by decide +kernel⟩
theorem ok_is_number (F_is_count : FnB P w K mg base "is_count" 1 ["word"] f_is_count) {f : Addr} {fd : FuncData} (F : FunD K "is_number" "is_number" (defArgs s_is_number) (defBody s_is_number) (defScope s_is_number) [] [] f fd) : FnG P w K mg base 2 f fd ["word"] f_is_number := by
  refine fnG_ofD F sc_is_number fun cdv A outer s H E B hr hgd => ?_
  have nd := (sc_is_number).nd
  have tkE : Takes (cxOf (L2.CX P w) P w K mg base N_is_number "is_number" (defScope s_is_number) f cdv A outer s H E) (fun cls d _ H' => E cls d H') := takes_of rfl rfl rfl rfl
  exact sss_cons (ss_if (st_tru rfl (se_starts (se_var (pv 0)) (se_str) rfl rfl rfl) (fun _ => rfl)) (sss_cons (ss_ret (se_and (se_cmp (op_neA hr) op2_ne (nomark _) (se_var (pv 0)) (se_str)) (se_one (se_userB F_is_count (hr.mono (by decide)) hgd (by rfl) tkE (sa_val (se_cutS (se_var (pv 0))) (sa_nil) rfl) (by decide) rfl rfl rfl))))
      (sss_nil)) (sss_nil))
      (sss_cons (ss_ret (se_userB F_is_count (hr.mono (by decide)) hgd (by rfl) tkE (sa_val (se_var (pv 0)) (sa_nil) rfl) (by decide) rfl rfl rfl))
      (sss_nil))
abbrev N_law_line : List Str := ["fount", "most", "found", "lines"]
abbrev s_law_line : Stmt := topS 22
theorem sc_law_line : FnScope N_law_line ["fount", "most"] (defScope s_law_line) := ⟨rfl, rfl, rfl, by decide +kernel, rfl, by decide +kernel, by decide +kernel⟩
theorem ok_law_line (F_law_mixed : FnB P w K mg base "_law_mixed" 2 ["fount", "items"] f_law_mixed) (F_law_people : FnB P w K mg base "_law_people" 2 ["fount", "most"] f_law_people) (F_law_sip : FnB P w K mg base "_law_sip" 1 ["fount", "many"] f_law_sip) (nb_tuple : mg "tuple" = none) {f : Addr} {fd : FuncData} (F : FunD K "_law_line" "_law_line" (defArgs s_law_line) (defBody s_law_line) (defScope s_law_line) [] [] f fd) : FnG P w K mg base 3 f fd ["fount", "most"] f_law_line := by
  refine fnG_ofD F sc_law_line fun cdv A outer s H E B hr hgd => ?_
  have nd := (sc_law_line).nd
  have tkE : Takes (cxOf (L2.CX P w) P w K mg base N_law_line "_law_line" (defScope s_law_line) f cdv A outer s H E) (fun cls d _ H' => E cls d H') := takes_of rfl rfl rfl rfl
  exact sss_cons (ss_set (ps_set (i := 2) nd rfl (by first | exact Or.inl rfl | exact Or.inr rfl) (se_userB F_law_people (hr.mono (by decide)) hgd (by rfl) tkE (sa_io (pv 0) (sa_val (se_var (pv 1)) (sa_nil) rfl) rfl) (by decide) rfl rfl rfl)))
      (sss_cons (ss_set (ps_set (i := 3) nd rfl (by first | exact Or.inl rfl | exact Or.inr rfl) (se_lst (sa_val (se_var (pv 2)) (sa_val (se_revA rfl (se_var (pv 2)) (fun _ _ => by with_unfolding_all rfl)) (sa_val (se_userB F_law_mixed (hr.mono (by decide)) hgd (by rfl) tkE (sa_io (pv 0) (sa_val (se_var (pv 2)) (sa_nil) rfl) rfl) (by decide) rfl rfl rfl) (sa_val (se_userB F_law_mixed (hr.mono (by decide)) hgd (by rfl) tkE (sa_io (pv 0) (sa_val (se_var (pv 2)) (sa_nil) rfl) rfl) (by decide) rfl rfl rfl) (sa_val (se_add rfl (se_cut rfl (se_var (pv 2)) (po_some' (se_int)) po_none') (se_cut rfl (se_var (pv 2)) po_none' (po_some' (se_int)))) (sa_nil) rfl) rfl) rfl) rfl) rfl))))
      (sss_cons (ss_ret (se_ty1 call_tupleN op1_tuple (by rfl) nb_tuple bb_tuple (se_ix rfl (se_var (pv 3)) (se_userB F_law_sip (hr.mono (by decide)) hgd (by rfl) tkE (sa_io (pv 0) (sa_val (se_int) (sa_nil) rfl) rfl) (by decide) rfl rfl rfl) (fun _ _ => rfl)) (by decide) (by decide) rfl))
      (sss_nil)))
abbrev N_has_different_heights : List Str := ["value", "item"]
abbrev s_has_different_heights : Stmt := topS 9
theorem sc_has_different_heights : FnScope N_has_different_heights ["value"] (defScope s_has_different_heights) := ⟨rfl, rfl, rfl, by decide +kernel, rfl, by decide +kernel, by decide +kernel⟩
theorem ok_has_different_heights {tc_MOST_HEIGHT : Tok} {tc_MOST_PERSONS : Tok} (F_is_height : FnB P w K mg base "is_height" 2 ["value"] f_is_height) (nb_int : mg "int" = none) (nb_isinstance : mg "isinstance" = none) (nb_len : mg "len" = none) (nb_max : mg "max" = none) (nb_min : mg "min" = none) (nb_set : mg "set" = none) (nb_tuple : mg "tuple" = none) (nb_type : mg "type" = none) (mc_MOST_HEIGHT : mg "MOST_HEIGHT" = some (.int 1000000000000000000000000000000 tc_MOST_HEIGHT)) (mc_MOST_PERSONS : mg "MOST_PERSONS" = some (.int 40 tc_MOST_PERSONS)) {f : Addr} {fd : FuncData} (F : FunD K "has_different_heights" "has_different_heights" (defArgs s_has_different_heights) (defBody s_has_different_heights) (defScope s_has_different_heights) [] [] f fd) : FnG P w K mg base 3 f fd ["value"] f_has_different_heights := by
  refine fnG_ofD F sc_has_different_heights fun cdv A outer s H E B hr hgd => ?_
  have nd := (sc_has_different_heights).nd
  have tkE : Takes (cxOf (L2.CX P w) P w K mg base N_has_different_heights "has_different_heights" (defScope s_has_different_heights) f cdv A outer s H E) (fun cls d _ H' => E cls d H') := takes_of rfl rfl rfl rfl
  exact sss_cons (ss_if (SW.st (sw_or (st_not (st_tru rfl (se_blt2 call_isi op1b_isi (by rfl) nb_isinstance bb_isinstance (se_var (pv 0)) (se_tyN (by rfl) nb_tuple bb_tuple (by decide) (by decide)) (by decide) (by decide) rfl rfl rfl) (fun _ => rfl))) (sw_or1 (st_not (st_chain op_le op2_le op_le op2_le (se_int) (se_blt1 call_len op1_len (by rfl) nb_len bb_len (se_var (pv 0)) (by decide) (by decide) rfl) (se_glob (pe_glob (v := .int 40) (by rfl) mc_MOST_PERSONS ⟨_, rfl⟩) (fun _ _ => .int _)) (by with_unfolding_all rfl)))))) (sss_cons (ss_ret (se_bl))
      (sss_nil)) (sss_nil))
      (sss_cons (ss_for (passes_of rfl) rfl (si_seq rfl (se_var (pv 0))) ⟨_, pg_name (i := 1) nd rfl (by first | exact Or.inl rfl | exact Or.inr rfl), tgg_name⟩ (sss_cons (ss_if (SW.st (sw_and (st_cmp op_notA op2_isnot (nomark _) (se_ty1 call_typeX op1_typ (by rfl) nb_type bb_type (se_var (pv 1)) (by decide) (by decide) rfl) (se_tyN (by rfl) nb_int bb_int (by decide) (by decide))) (sw_and1 (st_not (st_tru rfl (se_userB F_is_height (hr.mono (by decide)) hgd (by rfl) tkE (sa_val (se_var (pv 1)) (sa_nil) rfl) (by decide) rfl rfl rfl) (fun _ => rfl)))))) (sss_cons (ss_ret (se_bl))
      (sss_nil)) (sss_nil))
      (sss_nil)) (fun _ => rfl))
      (sss_cons (ss_ret (se_and (se_cmp op_le op2_le (nomark _) (se_neg (se_glob (pe_glob (v := .int 1000000000000000000000000000000) (by rfl) mc_MOST_HEIGHT ⟨_, rfl⟩) (fun _ _ => .int _))) (se_blt1 (cr_mn rfl) op1_min1 (by rfl) nb_min bb_min (se_var (pv 0)) (by decide) (by decide) rfl)) (se_and (se_cmp op_le op2_le (nomark _) (se_blt1 (cr_mx rfl) op1_max1 (by rfl) nb_max bb_max (se_var (pv 0)) (by decide) (by decide) rfl) (se_glob (pe_glob (v := .int 1000000000000000000000000000000) (by rfl) mc_MOST_HEIGHT ⟨_, rfl⟩) (fun _ _ => .int _))) (se_one (se_cmp (op_eqA hr) op2_eq (nomark _) (se_lenSet rfl rfl (by rfl) nb_len (by rfl) nb_set (se_var (pv 0)) rfl rfl) (se_blt1 call_len op1_len (by rfl) nb_len bb_len (se_var (pv 0)) (by decide) (by decide) rfl))))))
      (sss_nil)))
abbrev N_check_queue : List Str := ["value"]
abbrev s_check_queue : Stmt := topS 10
theorem sc_check_queue : FnScope N_check_queue ["value"] (defScope s_check_queue) := ⟨rfl, rfl, rfl, by decide +kernel, rfl, by decide +kernel, by decide +kernel⟩
theorem ok_check_queue (F_has_different_heights : FnB P w K mg base "has_different_heights" 3 ["value"] f_has_different_heights) {f : Addr} {fd : FuncData} (F : FunD K "check_queue" "check_queue" (defArgs s_check_queue) (defBody s_check_queue) (defScope s_check_queue) [] [] f fd) : FnG P w K mg base 4 f fd ["value"] f_check_queue := by
  refine fnG_ofD F sc_check_queue fun cdv A outer s H E B hr hgd => ?_
  have nd := (sc_check_queue).nd
  have tkE : Takes (cxOf (L2.CX P w) P w K mg base N_check_queue "check_queue" (defScope s_check_queue) f cdv A outer s H E) (fun cls d _ H' => E cls d H') := takes_of rfl rfl rfl rfl
  exact sss_cons (ss_if (st_not (st_tru rfl (se_userB F_has_different_heights (hr.mono (by decide)) hgd (by rfl) tkE (sa_val (se_var (pv 0)) (sa_nil) rfl) (by decide) rfl rfl rfl) (fun _ => rfl))) (sss_cons (ss_stuck)
      (sss_nil)) (sss_nil))
      (sss_nil)
abbrev N_read_queue : List Str := ["text", "words", "queue", "word"]
abbrev s_read_queue : Stmt := topS 14
theorem sc_read_queue : FnScope N_read_queue ["text"] (defScope s_read_queue) := ⟨rfl, rfl, rfl, by decide +kernel, rfl, by decide +kernel, by decide +kernel⟩
theorem ok_read_queue (F_has_different_heights : FnB P w K mg base "has_different_heights" 3 ["value"] f_has_different_heights) (F_is_number : FnB P w K mg base "is_number" 2 ["word"] f_is_number) (nb_all : mg "all" = none) (nb_int : mg "int" = none) (nb_isinstance : mg "isinstance" = none) (nb_str : mg "str" = none) (nb_tuple : mg "tuple" = none) {f : Addr} {fd : FuncData} (F : FunD K "read_queue" "read_queue" (defArgs s_read_queue) (defBody s_read_queue) (defScope s_read_queue) [] [] f fd) : FnG P w K mg base 4 f fd ["text"] f_read_queue := by
  refine fnG_ofD F sc_read_queue fun cdv A outer s H E B hr hgd => ?_
  have nd := (sc_read_queue).nd
  have tkE : Takes (cxOf (L2.CX P w) P w K mg base N_read_queue "read_queue" (defScope s_read_queue) f cdv A outer s H E) (fun cls d _ H' => E cls d H') := takes_of rfl rfl rfl rfl
  exact sss_cons (ss_if (st_tru rfl (se_blt2 call_isi op1b_isi (by rfl) nb_isinstance bb_isinstance (se_var (pv 0)) (se_tyN (by rfl) nb_str bb_str (by decide) (by decide)) (by decide) (by decide) rfl rfl rfl) (fun _ => rfl)) (sss_cons (ss_set (ps_set (i := 1) nd rfl (by first | exact Or.inl rfl | exact Or.inr rfl) (se_split (se_var (pv 0)) (se_str) rfl rfl rfl)))
      (sss_cons (ss_if (st_tru rfl (se_blt1 (cr_all rfl) op1_all (by rfl) nb_all bb_all (se_lc (own := [("word", 3)]) rfl nd (si_seq rfl (se_var (pv 1))) (blkOk_by (own := [("word", 3)]) (N := N_read_queue) (sc := defScope s_read_queue) (by decide +kernel)) (tgg_name) (by decide) (fun s H C cl fp => pg_name (i := 3) nd rfl (by first | exact Or.inl rfl | exact Or.inr rfl)) (fun s H C cl fp => se_userB F_is_number (hr.mono (by decide)) hgd (by rfl) takes0 (sa_val (se_var (pv 3)) (sa_nil) rfl) (by decide) rfl rfl rfl) (fun _ => rfl)) (by decide) (by decide) rfl) (fun _ => rfl)) (sss_cons (ss_set (ps_set (i := 2) nd rfl (by first | exact Or.inl rfl | exact Or.inr rfl) (se_ty1 call_tupleN op1_tuple (by rfl) nb_tuple bb_tuple (se_lc (own := [("word", 3)]) rfl nd (si_seq rfl (se_var (pv 1))) (blkOk_by (own := [("word", 3)]) (N := N_read_queue) (sc := defScope s_read_queue) (by decide +kernel)) (tgg_name) (by decide) (fun s H C cl fp => pg_name (i := 3) nd rfl (by first | exact Or.inl rfl | exact Or.inr rfl)) (fun s H C cl fp => se_ty1 call_int_str op1_intS (by rfl) nb_int bb_int (se_var (pv 3)) (by decide) (by decide) rfl) (fun _ => rfl)) (by decide) (by decide) rfl)))
      (sss_cons (ss_if (st_tru rfl (se_userB F_has_different_heights (hr.mono (by decide)) hgd (by rfl) tkE (sa_val (se_var (pv 2)) (sa_nil) rfl) (by decide) rfl rfl rfl) (fun _ => rfl)) (sss_cons (ss_ret (se_var (pv 2)))
      (sss_nil)) (sss_nil))
      (sss_nil))) (sss_nil))
      (sss_nil))) (sss_nil))
      (sss_cons (ss_stuck)
      (sss_nil))
abbrev N_show_queue : List Str := ["queue", "person"]
abbrev s_show_queue : Stmt := topS 13
theorem sc_show_queue : FnScope N_show_queue ["queue"] (defScope s_show_queue) := ⟨rfl, rfl, rfl, by decide +kernel, rfl, by decide +kernel, by decide +kernel⟩
theorem ok_show_queue (F_check_queue : FnB P w K mg base "check_queue" 4 ["value"] f_check_queue) (nb_str : mg "str" = none) {f : Addr} {fd : FuncData} (F : FunD K "show_queue" "show_queue" (defArgs s_show_queue) (defBody s_show_queue) (defScope s_show_queue) [] [] f fd) : FnG P w K mg base 5 f fd ["queue"] f_show_queue := by
  refine fnG_ofD F sc_show_queue fun cdv A outer s H E B hr hgd => ?_
  have nd := (sc_show_queue).nd
  have tkE : Takes (cxOf (L2.CX P w) P w K mg base N_show_queue "show_queue" (defScope s_show_queue) f cdv A outer s H E) (fun cls d _ H' => E cls d H') := takes_of rfl rfl rfl rfl
  exact sss_cons (ss_expr (se_userB F_check_queue (hr.mono (by decide)) hgd (by rfl) tkE (sa_val (se_var (pv 0)) (sa_nil) rfl) (by decide) rfl rfl rfl) (by rfl))
      (sss_cons (ss_ret (se_join rfl (se_str) (se_lc (own := [("person", 1)]) rfl nd (si_seq rfl (se_var (pv 0))) (blkOk_by (own := [("person", 1)]) (N := N_show_queue) (sc := defScope s_show_queue) (by decide +kernel)) (tgg_name) (by decide) (fun s H C cl fp => pg_name (i := 1) nd rfl (by first | exact Or.inl rfl | exact Or.inr rfl)) (fun s H C cl fp => se_ty1 call_str_int op1_str (by rfl) nb_str bb_str (se_var (pv 1)) (by decide) (by decide) rfl) (fun _ => rfl)) rfl rfl rfl))
      (sss_nil))
abbrev N_law : List Str := ["script", "k", "great", "fount", "line", "text", "at", "turned", "mirrored", "person"]
abbrev s_law : Stmt := topS 25
theorem sc_law : FnScope N_law ["script"] (defScope s_law) := ⟨rfl, rfl, rfl, by decide +kernel, rfl, by decide +kernel, by decide +kernel⟩
theorem ok_law (F_law_fount : FnB P w K mg base "_law_fount" 1 ["script", "k"] f_law_fount) (F_law_line : FnB P w K mg base "_law_line" 3 ["fount", "most"] f_law_line) (F_law_same2 : FnB P w K mg base "_law_same" 2 ["found", "due"] f_law_same2) (F_law_sip : FnB P w K mg base "_law_sip" 1 ["fount", "many"] f_law_sip) (F_law_text : FnB P w K mg base "_law_text" 1 ["line"] f_law_text) (F_read_queue : FnB P w K mg base "read_queue" 4 ["text"] f_read_queue) (F_show_queue : FnB P w K mg base "show_queue" 5 ["queue"] f_show_queue) (nb_len : mg "len" = none) (nb_max : mg "max" = none) (nb_min : mg "min" = none) (nb_range : mg "range" = none) (nb_tuple : mg "tuple" = none) {f : Addr} {fd : FuncData} (F : FunD K "law" "law" (defArgs s_law) (defBody s_law) (defScope s_law) [] [] f fd) : FnG P w K mg base 6 f fd ["script"] f_law := by
  refine fnG_ofD F sc_law fun cdv A outer s H E B hr hgd => ?_
  have nd := (sc_law).nd
  have tkE : Takes (cxOf (L2.CX P w) P w K mg base N_law "law" (defScope s_law) f cdv A outer s H E) (fun cls d _ H' => E cls d H') := takes_of rfl rfl rfl rfl
  exact sss_cons (ss_for (passes_of rfl) rfl (si_rng1 (by rfl) nb_range (se_blt2 (call_max2 rfl) op1b_max2 (by rfl) nb_max bb_max (se_int) (se_blt2 (call_min2 rfl) op1b_min2 (by rfl) nb_min bb_min (se_int) (se_blt1 call_len op1_len (by rfl) nb_len bb_len (se_var (pv 0)) (by decide) (by decide) rfl) (by decide) (by decide) rfl rfl rfl) (by decide) (by decide) rfl rfl rfl) rfl) ⟨_, pg_name (i := 1) nd rfl (by first | exact Or.inl rfl | exact Or.inr rfl), tgg_name⟩ (sss_cons (ss_set (ps_set (i := 3) nd rfl (by first | exact Or.inl rfl | exact Or.inr rfl) (se_userB F_law_fount (hr.mono (by decide)) hgd (by rfl) tkE (sa_val (se_var (pv 0)) (sa_val (se_var (pv 1)) (sa_nil) rfl) rfl) (by decide) rfl rfl rfl)))
      (sss_cons (ss_set (ps_set (i := 4) nd rfl (by first | exact Or.inl rfl | exact Or.inr rfl) (se_userB F_law_line (hr.mono (by decide)) hgd (by rfl) tkE (sa_io (pv 3) (sa_val (se_ix rfl (se_lst (sa_val (se_int) (sa_val (se_int) (sa_nil) rfl) rfl)) (se_userB F_law_sip (hr.mono (by decide)) hgd (by rfl) tkE (sa_io (pv 3) (sa_val (se_int) (sa_nil) rfl) rfl) (by decide) rfl rfl rfl) (fun _ _ => rfl)) (sa_nil) rfl) rfl) (by decide) rfl rfl rfl)))
      (sss_cons (ss_set (ps_set (i := 5) nd rfl (by first | exact Or.inl rfl | exact Or.inr rfl) (se_userB F_law_text (hr.mono (by decide)) hgd (by rfl) tkE (sa_val (se_var (pv 4)) (sa_nil) rfl) (by decide) rfl rfl rfl)))
      (sss_cons (ss_if (SW.st (sw_or (st_cmp (op_neA hr) op2_ne (nomark _) (se_userB F_show_queue (hr.mono (by decide)) hgd (by rfl) tkE (sa_val (se_var (pv 4)) (sa_nil) rfl) (by decide) rfl rfl rfl) (se_var (pv 5))) (sw_or1 (st_not (st_tru rfl (se_userB F_law_same2 (hr.mono (by decide)) hgd (by rfl) tkE (sa_val (se_userB F_read_queue (hr.mono (by decide)) hgd (by rfl) tkE (sa_val (se_var (pv 5)) (sa_nil) rfl) (by decide) rfl rfl rfl) (sa_val (se_var (pv 4)) (sa_nil) rfl) rfl) (by decide) rfl rfl rfl) (fun _ => rfl)))))) (sss_cons (ss_ret (se_bl))
      (sss_nil)) (sss_nil))
      (sss_cons (ss_set (ps_set (i := 6) nd rfl (by first | exact Or.inl rfl | exact Or.inr rfl) (se_userB F_law_sip (hr.mono (by decide)) hgd (by rfl) tkE (sa_io (pv 3) (sa_val (se_blt1 call_len op1_len (by rfl) nb_len bb_len (se_var (pv 4)) (by decide) (by decide) rfl) (sa_nil) rfl) rfl) (by decide) rfl rfl rfl)))
      (sss_cons (ss_set (ps_set (i := 7) nd rfl (by first | exact Or.inl rfl | exact Or.inr rfl) (se_add rfl (se_add rfl (se_cut rfl (se_var (pv 4)) po_none' (po_some' (se_var (pv 6)))) (se_cut rfl (se_var (pv 4)) (po_some' (se_add rfl (se_var (pv 6)) (se_int))) po_none')) (se_cut rfl (se_var (pv 4)) (po_some' (se_var (pv 6))) (po_some' (se_add rfl (se_var (pv 6)) (se_int)))))))
      (sss_cons (ss_if (SW.st (sw_or (st_cmp (op_neA hr) op2_ne (nomark _) (se_cmp (op_eqA hr) op2_eq (nomark _) (se_userB F_show_queue (hr.mono (by decide)) hgd (by rfl) tkE (sa_val (se_var (pv 7)) (sa_nil) rfl) (by decide) rfl rfl rfl) (se_var (pv 5))) (se_cmp (op_eqA hr) op2_eq (nomark _) (se_var (pv 7)) (se_var (pv 4)))) (sw_or1 (st_cmp (op_neA hr) op2_ne (nomark _) (se_userB F_read_queue (hr.mono (by decide)) hgd (by rfl) tkE (sa_val (se_userB F_show_queue (hr.mono (by decide)) hgd (by rfl) tkE (sa_val (se_var (pv 7)) (sa_nil) rfl) (by decide) rfl rfl rfl) (sa_nil) rfl) (by decide) rfl rfl rfl) (se_var (pv 7)))))) (sss_cons (ss_ret (se_bl))
      (sss_nil)) (sss_nil))
      (sss_cons (ss_set (ps_set (i := 8) nd rfl (by first | exact Or.inl rfl | exact Or.inr rfl) (se_ty1 call_tupleN op1_tuple (by rfl) nb_tuple bb_tuple (se_lc (own := [("person", 9)]) rfl nd (si_seq rfl (se_var (pv 4))) (blkOk_by (own := [("person", 9)]) (N := N_law) (sc := defScope s_law) (by decide +kernel)) (tgg_name) (by decide) (fun s H C cl fp => pg_name (i := 9) nd rfl (by first | exact Or.inl rfl | exact Or.inr rfl)) (fun s H C cl fp => se_sub (se_int) (se_var (pv 9))) (fun _ => rfl)) (by decide) (by decide) rfl)))
      (sss_cons (ss_if (st_not (st_tru rfl (se_userB F_law_same2 (hr.mono (by decide)) hgd (by rfl) tkE (sa_val (se_userB F_read_queue (hr.mono (by decide)) hgd (by rfl) tkE (sa_val (se_userB F_show_queue (hr.mono (by decide)) hgd (by rfl) tkE (sa_val (se_var (pv 8)) (sa_nil) rfl) (by decide) rfl rfl rfl) (sa_nil) rfl) (by decide) rfl rfl rfl) (sa_val (se_var (pv 8)) (sa_nil) rfl) rfl) (by decide) rfl rfl rfl) (fun _ => rfl))) (sss_cons (ss_ret (se_bl))
      (sss_nil)) (sss_nil))
      (sss_nil)))))))))) (fun _ => rfl))
      (sss_cons (ss_set (ps_set (i := 2) nd rfl (by first | exact Or.inl rfl | exact Or.inr rfl) (se_tup (sa_val (se_powB (se_int) (se_int)) (sa_val (se_int) (sa_val (se_sub (se_int) (se_powB (se_int) (se_int))) (sa_val (se_int) (sa_val (se_neg (se_int)) (sa_nil) rfl) rfl) rfl) rfl) rfl))))
      (sss_cons (ss_ret (se_and (se_cmp (op_eqA hr) op2_eq (nomark _) (se_userB F_show_queue (hr.mono (by decide)) hgd (by rfl) tkE (sa_val (se_tup (sa_val (se_int) (sa_val (se_neg (se_int)) (sa_val (se_int) (sa_nil) rfl) rfl) rfl)) (sa_nil) rfl) (by decide) rfl rfl rfl) (se_str)) (se_one (se_cmp (op_eqA hr) op2_eq (nomark _) (se_userB F_read_queue (hr.mono (by decide)) hgd (by rfl) tkE (sa_val (se_userB F_show_queue (hr.mono (by decide)) hgd (by rfl) tkE (sa_val (se_var (pv 2)) (sa_nil) rfl) (by decide) rfl rfl rfl) (sa_nil) rfl) (by decide) rfl rfl rfl) (se_var (pv 2))))))
      (sss_nil)))
end
def dd_law_fount : He.DefD := ⟨("_law_fount", none), "_law_fount", "_law_fount", defArgs s_law_fount, defBody s_law_fount, defScope s_law_fount, [], []⟩
def dd_law_same : He.DefD := ⟨("_law_same", none), "_law_same", "_law_same", defArgs s_law_same, defBody s_law_same, defScope s_law_same, [], []⟩
def dd_law_sip : He.DefD := ⟨("_law_sip", none), "_law_sip", "_law_sip", defArgs s_law_sip, defBody s_law_sip, defScope s_law_sip, [], []⟩
def dd_law_text : He.DefD := ⟨("_law_text", none), "_law_text", "_law_text", defArgs s_law_text, defBody s_law_text, defScope s_law_text, [], []⟩
def dd_is_count : He.DefD := ⟨("is_count", none), "is_count", "is_count", defArgs s_is_count, defBody s_is_count, defScope s_is_count, [], []⟩
def dd_is_integer : He.DefD := ⟨("is_integer", none), "is_integer", "is_integer", defArgs s_is_integer, defBody s_is_integer, defScope s_is_integer, [], []⟩
def dd_law_mixed : He.DefD := ⟨("_law_mixed", none), "_law_mixed", "_law_mixed", defArgs s_law_mixed, defBody s_law_mixed, defScope s_law_mixed, [], []⟩
def dd_law_people : He.DefD := ⟨("_law_people", none), "_law_people", "_law_people", defArgs s_law_people, defBody s_law_people, defScope s_law_people, [], []⟩
def dd_law_same2 : He.DefD := ⟨("_law_same", none), "_law_same", "_law_same", defArgs s_law_same2, defBody s_law_same2, defScope s_law_same2, [], []⟩
def dd_is_height : He.DefD := ⟨("is_height", none), "is_height", "is_height", defArgs s_is_height, defBody s_is_height, defScope s_is_height, [], []⟩
def dd_is_number : He.DefD := ⟨("is_number", none), "is_number", "is_number", defArgs s_is_number, defBody s_is_number, defScope s_is_number, [], []⟩
def dd_law_line : He.DefD := ⟨("_law_line", none), "_law_line", "_law_line", defArgs s_law_line, defBody s_law_line, defScope s_law_line, [], []⟩
def dd_has_different_heights : He.DefD := ⟨("has_different_heights", none), "has_different_heights", "has_different_heights", defArgs s_has_different_heights, defBody s_has_different_heights, defScope s_has_different_heights, [], []⟩
def dd_check_queue : He.DefD := ⟨("check_queue", none), "check_queue", "check_queue", defArgs s_check_queue, defBody s_check_queue, defScope s_check_queue, [], []⟩
def dd_read_queue : He.DefD := ⟨("read_queue", none), "read_queue", "read_queue", defArgs s_read_queue, defBody s_read_queue, defScope s_read_queue, [], []⟩
def dd_show_queue : He.DefD := ⟨("show_queue", none), "show_queue", "show_queue", defArgs s_show_queue, defBody s_show_queue, defScope s_show_queue, [], []⟩
def dd_law : He.DefD := ⟨("law", none), "law", "law", defArgs s_law, defBody s_law, defScope s_law, [], []⟩
def fnL : List He.DefD := [dd_law_fount, dd_law_same, dd_law_sip, dd_law_text, dd_is_count, dd_is_integer, dd_law_mixed, dd_law_people, dd_law_same2, dd_is_height, dd_is_number, dd_law_line, dd_has_different_heights, dd_check_queue, dd_read_queue, dd_show_queue, dd_law]
def faL : List He.Fa := [.glo "_law_fount", .glo "_law_same", .glo "_law_sip", .glo "_law_text", .glo "is_count", .glo "is_integer", .glo "_law_mixed", .glo "_law_people", .glo "is_height", .glo "is_number", .glo "_law_line", .glo "has_different_heights", .glo "check_queue", .glo "read_queue", .glo "show_queue", .glo "law", .free "all", .free "bool", .free "int", .free "isinstance", .free "len", .free "list", .free "max", .free "min", .free "range", .free "set", .free "str", .free "tuple", .free "type", .int "MOST_DIGITS" 31, .int "MOST_HEIGHT" 1000000000000000000000000000000, .int "MOST_PERSONS" 40]
abbrev RR : PySem.W.OpenRow := PySem.W.OpenLaw.row PySem.Challenge.rw_tallerfirst_k51_texts_both_ways
abbrev hk : PySem.W.Hook := He.hookD 4 faL fnL
def obH (s : PySem.W.SharedT) : He.AlD := He.obsDG 4 faL fnL (HandSHeadRun.getT s)
theorem obH_eq (s : PySem.W.SharedT) : obH s = hk.obs s.abs := He.obsDG_eq (HandSHeadRun.getT_eq s)
def lz0 : List PySem.Str := ["__name__", "QueueError", "NoQueue", "NoText", "MOST_PERSONS", "MOST_HEIGHT", "is_integer", "is_height", "has_different_heights", "check_queue", "MOST_DIGITS", "show_queue", "read_queue", "is_number", "is_count", "_law_fount", "_law_sip", "_law_mixed", "_law_people", "_law_line", "_law_same", "_law_text"]
def lzs : List PySem.Str := lz0
theorem runH (w : World) : HandSHeadRun.RunEq RR (PySem.W.view RR.prog [25]) hk obH 6000 lzs w := by
  intro os
  kernel_rfl
theorem factsH {P : Program} {w : World} {K : PySem.W.Frag} {h : Heap} {mg : Str → Option Value} {f : Addr} (X : K.In h) (G : h.Ns mainGlobals mg) (hfa : mg ("law" : Str) = some (.ref f)) (c : He.SaysD faL fnL K) :
    ∃ fd : FuncData, (∀ (s : Shared) (v : Value), BindsTo s fd ⟨[v], []⟩ [("script", v)]) ∧ ∀ base : Heap, K.In base → base.Ns mainGlobals mg → FnG P w K mg base 6 f fd ["script"] f_law := by
  have nb_all := He.free_ok X G (c.fact 16 (f := .free "all") rfl)
  have nb_bool := He.free_ok X G (c.fact 17 (f := .free "bool") rfl)
  have nb_int := He.free_ok X G (c.fact 18 (f := .free "int") rfl)
  have nb_isinstance := He.free_ok X G (c.fact 19 (f := .free "isinstance") rfl)
  have nb_len := He.free_ok X G (c.fact 20 (f := .free "len") rfl)
  have nb_list := He.free_ok X G (c.fact 21 (f := .free "list") rfl)
  have nb_max := He.free_ok X G (c.fact 22 (f := .free "max") rfl)
  have nb_min := He.free_ok X G (c.fact 23 (f := .free "min") rfl)
  have nb_range := He.free_ok X G (c.fact 24 (f := .free "range") rfl)
  have nb_set := He.free_ok X G (c.fact 25 (f := .free "set") rfl)
  have nb_str := He.free_ok X G (c.fact 26 (f := .free "str") rfl)
  have nb_tuple := He.free_ok X G (c.fact 27 (f := .free "tuple") rfl)
  have nb_type := He.free_ok X G (c.fact 28 (f := .free "type") rfl)
  obtain ⟨tc_MOST_DIGITS, mc_MOST_DIGITS⟩ := He.int_ok X G (c.fact 29 (f := .int "MOST_DIGITS" 31) rfl)
  obtain ⟨tc_MOST_HEIGHT, mc_MOST_HEIGHT⟩ := He.int_ok X G (c.fact 30 (f := .int "MOST_HEIGHT" 1000000000000000000000000000000) rfl)
  obtain ⟨tc_MOST_PERSONS, mc_MOST_PERSONS⟩ := He.int_ok X G (c.fact 31 (f := .int "MOST_PERSONS" 40) rfl)
  obtain ⟨fd_law_fount, D_law_fount⟩ := c.def_ 0 (d := dd_law_fount) rfl
  have g_law_fount := He.glo_ok X G (c.fact 0 (f := .glo "_law_fount") rfl)
  obtain ⟨fd_law_same, D_law_same⟩ := c.def_ 1 (d := dd_law_same) rfl
  have g_law_same := He.glo_ok X G (c.fact 1 (f := .glo "_law_same") rfl)
  obtain ⟨fd_law_sip, D_law_sip⟩ := c.def_ 2 (d := dd_law_sip) rfl
  have g_law_sip := He.glo_ok X G (c.fact 2 (f := .glo "_law_sip") rfl)
  obtain ⟨fd_law_text, D_law_text⟩ := c.def_ 3 (d := dd_law_text) rfl
  have g_law_text := He.glo_ok X G (c.fact 3 (f := .glo "_law_text") rfl)
  obtain ⟨fd_is_count, D_is_count⟩ := c.def_ 4 (d := dd_is_count) rfl
  have g_is_count := He.glo_ok X G (c.fact 4 (f := .glo "is_count") rfl)
  obtain ⟨fd_is_integer, D_is_integer⟩ := c.def_ 5 (d := dd_is_integer) rfl
  have g_is_integer := He.glo_ok X G (c.fact 5 (f := .glo "is_integer") rfl)
  obtain ⟨fd_law_mixed, D_law_mixed⟩ := c.def_ 6 (d := dd_law_mixed) rfl
  have g_law_mixed := He.glo_ok X G (c.fact 6 (f := .glo "_law_mixed") rfl)
  obtain ⟨fd_law_people, D_law_people⟩ := c.def_ 7 (d := dd_law_people) rfl
  have g_law_people := He.glo_ok X G (c.fact 7 (f := .glo "_law_people") rfl)
  obtain ⟨fd_law_same2, D_law_same2⟩ := c.def_ 8 (d := dd_law_same2) rfl
  have g_law_same2 := He.glo_ok X G (c.fact 1 (f := .glo "_law_same") rfl)
  obtain ⟨fd_is_height, D_is_height⟩ := c.def_ 9 (d := dd_is_height) rfl
  have g_is_height := He.glo_ok X G (c.fact 8 (f := .glo "is_height") rfl)
  obtain ⟨fd_is_number, D_is_number⟩ := c.def_ 10 (d := dd_is_number) rfl
  have g_is_number := He.glo_ok X G (c.fact 9 (f := .glo "is_number") rfl)
  obtain ⟨fd_law_line, D_law_line⟩ := c.def_ 11 (d := dd_law_line) rfl
  have g_law_line := He.glo_ok X G (c.fact 10 (f := .glo "_law_line") rfl)
  obtain ⟨fd_has_different_heights, D_has_different_heights⟩ := c.def_ 12 (d := dd_has_different_heights) rfl
  have g_has_different_heights := He.glo_ok X G (c.fact 11 (f := .glo "has_different_heights") rfl)
  obtain ⟨fd_check_queue, D_check_queue⟩ := c.def_ 13 (d := dd_check_queue) rfl
  have g_check_queue := He.glo_ok X G (c.fact 12 (f := .glo "check_queue") rfl)
  obtain ⟨fd_read_queue, D_read_queue⟩ := c.def_ 14 (d := dd_read_queue) rfl
  have g_read_queue := He.glo_ok X G (c.fact 13 (f := .glo "read_queue") rfl)
  obtain ⟨fd_show_queue, D_show_queue⟩ := c.def_ 15 (d := dd_show_queue) rfl
  have g_show_queue := He.glo_ok X G (c.fact 14 (f := .glo "show_queue") rfl)
  obtain ⟨fd_law, D_law⟩ := c.def_ 16 (d := dd_law) rfl
  have g_law := He.glo_ok X G (c.fact 15 (f := .glo "law") rfl)
  have e := hfa.symm.trans g_law
  cases e
  have bl := FunD.bindsA (ps := ["script"]) D_law fun _ _ _ _ _ _ us hl => match us, hl with | [_], _ => rfl
  refine ⟨fd_law, fun s v => bl s [v] rfl, fun base _ _ => ?_⟩
  have G_law_fount : FnG P w K mg base 1 (He.ga K "_law_fount") fd_law_fount ["script", "k"] f_law_fount := ok_law_fount nb_len nb_max D_law_fount
  have F_law_fount : FnB P w K mg base "_law_fount" 1 ["script", "k"] f_law_fount := ⟨_, _, G_law_fount, g_law_fount, D_law_fount.kp, D_law_fount.bindsN fun _ _ _ _ _ _ us hl => match us, hl with | [_, _], _ => rfl⟩
  have G_law_same : FnG P w K mg base 1 (He.ga K "_law_same") fd_law_same ["found", "due"] f_law_same := ok_law_same nb_all nb_bool nb_isinstance nb_len nb_list nb_range nb_tuple D_law_same
  have F_law_same : FnB P w K mg base "_law_same" 1 ["found", "due"] f_law_same := ⟨_, _, G_law_same, g_law_same, D_law_same.kp, D_law_same.bindsN fun _ _ _ _ _ _ us hl => match us, hl with | [_, _], _ => rfl⟩
  have G_law_sip : FnG P w K mg base 1 (He.ga K "_law_sip") fd_law_sip ["fount", "many"] f_law_sip := ok_law_sip  D_law_sip
  have F_law_sip : FnB P w K mg base "_law_sip" 1 ["fount", "many"] f_law_sip := ⟨_, _, G_law_sip, g_law_sip, D_law_sip.kp, D_law_sip.bindsN fun _ _ _ _ _ _ us hl => match us, hl with | [_, _], _ => rfl⟩
  have G_law_text : FnG P w K mg base 1 (He.ga K "_law_text") fd_law_text ["line"] f_law_text := ok_law_text nb_str D_law_text
  have F_law_text : FnB P w K mg base "_law_text" 1 ["line"] f_law_text := ⟨_, _, G_law_text, g_law_text, D_law_text.kp, D_law_text.bindsN fun _ _ _ _ _ _ us hl => match us, hl with | [_], _ => rfl⟩
  have G_is_count : FnG P w K mg base 1 (He.ga K "is_count") fd_is_count ["word"] f_is_count := ok_is_count nb_len mc_MOST_DIGITS D_is_count
  have F_is_count : FnB P w K mg base "is_count" 1 ["word"] f_is_count := ⟨_, _, G_is_count, g_is_count, D_is_count.kp, D_is_count.bindsN fun _ _ _ _ _ _ us hl => match us, hl with | [_], _ => rfl⟩
  have G_is_integer : FnG P w K mg base 1 (He.ga K "is_integer") fd_is_integer ["value", "least", "most"] f_is_integer := ok_is_integer nb_bool nb_int nb_isinstance D_is_integer
  have F_is_integer : FnB P w K mg base "is_integer" 1 ["value", "least", "most"] f_is_integer := ⟨_, _, G_is_integer, g_is_integer, D_is_integer.kp, D_is_integer.bindsN fun _ _ _ _ _ _ us hl => match us, hl with | [_, _, _], _ => rfl⟩
  have G_law_mixed : FnG P w K mg base 2 (He.ga K "_law_mixed") fd_law_mixed ["fount", "items"] f_law_mixed := ok_law_mixed F_law_sip nb_len nb_list nb_range D_law_mixed
  have F_law_mixed : FnB P w K mg base "_law_mixed" 2 ["fount", "items"] f_law_mixed := ⟨_, _, G_law_mixed, g_law_mixed, D_law_mixed.kp, D_law_mixed.bindsN fun _ _ _ _ _ _ us hl => match us, hl with | [_, _], _ => rfl⟩
  have G_law_people : FnG P w K mg base 2 (He.ga K "_law_people") fd_law_people ["fount", "most"] f_law_people := ok_law_people F_law_sip nb_min nb_range D_law_people
  have F_law_people : FnB P w K mg base "_law_people" 2 ["fount", "most"] f_law_people := ⟨_, _, G_law_people, g_law_people, D_law_people.kp, D_law_people.bindsN fun _ _ _ _ _ _ us hl => match us, hl with | [_, _], _ => rfl⟩
  have G_law_same2 : FnG P w K mg base 2 (He.ga K "_law_same") fd_law_same2 ["found", "due"] f_law_same2 := ok_law_same2 F_law_same nb_all nb_bool nb_isinstance nb_len nb_list nb_range nb_tuple D_law_same2
  have F_law_same2 : FnB P w K mg base "_law_same" 2 ["found", "due"] f_law_same2 := ⟨_, _, G_law_same2, g_law_same2, D_law_same2.kp, D_law_same2.bindsN fun _ _ _ _ _ _ us hl => match us, hl with | [_, _], _ => rfl⟩
  have G_is_height : FnG P w K mg base 2 (He.ga K "is_height") fd_is_height ["value"] f_is_height := ok_is_height F_is_integer mc_MOST_HEIGHT D_is_height
  have F_is_height : FnB P w K mg base "is_height" 2 ["value"] f_is_height := ⟨_, _, G_is_height, g_is_height, D_is_height.kp, D_is_height.bindsN fun _ _ _ _ _ _ us hl => match us, hl with | [_], _ => rfl⟩
  have G_is_number : FnG P w K mg base 2 (He.ga K "is_number") fd_is_number ["word"] f_is_number := ok_is_number F_is_count D_is_number
  have F_is_number : FnB P w K mg base "is_number" 2 ["word"] f_is_number := ⟨_, _, G_is_number, g_is_number, D_is_number.kp, D_is_number.bindsN fun _ _ _ _ _ _ us hl => match us, hl with | [_], _ => rfl⟩
  have G_law_line : FnG P w K mg base 3 (He.ga K "_law_line") fd_law_line ["fount", "most"] f_law_line := ok_law_line F_law_mixed F_law_people F_law_sip nb_tuple D_law_line
  have F_law_line : FnB P w K mg base "_law_line" 3 ["fount", "most"] f_law_line := ⟨_, _, G_law_line, g_law_line, D_law_line.kp, D_law_line.bindsN fun _ _ _ _ _ _ us hl => match us, hl with | [_, _], _ => rfl⟩
  have G_has_different_heights : FnG P w K mg base 3 (He.ga K "has_different_heights") fd_has_different_heights ["value"] f_has_different_heights := ok_has_different_heights F_is_height nb_int nb_isinstance nb_len nb_max nb_min nb_set nb_tuple nb_type mc_MOST_HEIGHT mc_MOST_PERSONS D_has_different_heights
  have F_has_different_heights : FnB P w K mg base "has_different_heights" 3 ["value"] f_has_different_heights := ⟨_, _, G_has_different_heights, g_has_different_heights, D_has_different_heights.kp, D_has_different_heights.bindsN fun _ _ _ _ _ _ us hl => match us, hl with | [_], _ => rfl⟩
  have G_check_queue : FnG P w K mg base 4 (He.ga K "check_queue") fd_check_queue ["value"] f_check_queue := ok_check_queue F_has_different_heights D_check_queue
  have F_check_queue : FnB P w K mg base "check_queue" 4 ["value"] f_check_queue := ⟨_, _, G_check_queue, g_check_queue, D_check_queue.kp, D_check_queue.bindsN fun _ _ _ _ _ _ us hl => match us, hl with | [_], _ => rfl⟩
  have G_read_queue : FnG P w K mg base 4 (He.ga K "read_queue") fd_read_queue ["text"] f_read_queue := ok_read_queue F_has_different_heights F_is_number nb_all nb_int nb_isinstance nb_str nb_tuple D_read_queue
  have F_read_queue : FnB P w K mg base "read_queue" 4 ["text"] f_read_queue := ⟨_, _, G_read_queue, g_read_queue, D_read_queue.kp, D_read_queue.bindsN fun _ _ _ _ _ _ us hl => match us, hl with | [_], _ => rfl⟩
  have G_show_queue : FnG P w K mg base 5 (He.ga K "show_queue") fd_show_queue ["queue"] f_show_queue := ok_show_queue F_check_queue nb_str D_show_queue
  have F_show_queue : FnB P w K mg base "show_queue" 5 ["queue"] f_show_queue := ⟨_, _, G_show_queue, g_show_queue, D_show_queue.kp, D_show_queue.bindsN fun _ _ _ _ _ _ us hl => match us, hl with | [_], _ => rfl⟩
  exact ok_law F_law_fount F_law_line F_law_same2 F_law_sip F_law_text F_read_queue F_show_queue nb_len nb_max nb_min nb_range nb_tuple D_law
end
end Sd
end
open PySem PySem.W PySem.Calls PyProof.Rows
set_option maxHeartbeats 0 in
theorem PySem.Challenge.cw_tallerfirst_k51_texts_both_ways_holds : PySem.Challenge.rw_tallerfirst_k51_texts_both_ways.Holds := by
  w_on; o_law
  refine HandSHeadRun.head_any (r := OpenLaw.row PySem.Challenge.rw_tallerfirst_k51_texts_both_ways) (q := view (OpenLaw.row PySem.Challenge.rw_tallerfirst_k51_texts_both_ways).prog [25]) (H := Sd.hk) (ob := Sd.obH) (M := 6000) (loose := Sd.lzs) (d := HandSHeadRun.topDef (OpenLaw.row PySem.Challenge.rw_tallerfirst_k51_texts_both_ways).prog 25) (kwd := []) Sd.obH_eq
    (by kernel_rfl) (fun s => by kernel_rfl) Sd.runH (by kernel_rfl) (by kernel_rfl) (by kernel_rfl) (by rfl) (by first | assumption | decide +kernel) (by decide +kernel) ⟨rfl, rfl, rfl, rfl, rfl, by decide +kernel⟩ ?hw ?hc
  case hw => w_witness2
  case hc =>
    refine Sd.walk_ofGE (l := PySem.Challenge.rw_tallerfirst_k51_texts_both_ways) (n := 63) (k := 6) (x := "script") (φ := Sd.f_law) rfl (by decide) (by kernel_rfl) ⟨rfl, by decide, by decide⟩ ?F Sd.law_true
    intro w mg fa h Y G hmg0
    obtain ⟨K, KX, c⟩ := Y
    have hmg : mg ("law" : PySem.Str) = some (.ref fa) := by
      have e : (HandSHeadRun.topDef (OpenLaw.row PySem.Challenge.rw_tallerfirst_k51_texts_both_ways).prog 25).name = ("law" : PySem.Str) := by kernel_rfl
      rw [← e]
      exact hmg0
    obtain ⟨fd, hb, hF⟩ := Sd.factsH (P := (PySem.Challenge.rw_tallerfirst_k51_texts_both_ways).prog) (w := w) KX G hmg c
    exact ⟨K, fd, KX, hb, hF⟩
