import PyProof.Rows.All
import Wide.All
import OpenK.AllK
import Wide.FinOn
import HandS.ForMost
import HandS.ForExc
import HandS.ExcInit
import HandS.ExcIs
import HandS.ExcField
import HandS.CallSlots
import HandS.Wide
import HandS.Comp
import HandS.Iter
import KE.KExcInit
import HandS.IsInst
import KE.KExcIs
import HandS.TryMany
import PyProof.ReprRoads
import PyProof.CallFns
import HandS.Dict
import PyProof.ReprLen
import PyProof.EqLayable
import PyProof.StrOps2
import HandS.Text
import HandS.TupAny
import HandS.EndBits
import KE.KStateDown
import HandS.Head0
import HandS.Head1
import HandS.Head2
import HandS.HeadHook1
import PySem.Challenge.RW_loosebeats_k17_errors_by_families
set_option Elab.async false
set_option linter.all false
set_option maxRecDepth 100000
set_option maxHeartbeats  4000000
set_option autoImplicit false
/-! The core: data, what it is on the abstract heap, the state of a body. -/
namespace Lb
open PySem PySem.Spec PyProof.Rows L2
/-- data, as trees -/
inductive DV where
  | non | bl (b : Bool) | int (i : Int) | str (x : Str)
  | lst (xs : List DV) | tup (xs : List DV) | dct (kvs : List (Key × DV))
  | ins (c : Str) (fs : List (Str × DV))
  /-- the script -/
  | scr (ns : List Int)
  /-- an exception that is held as data -/
  | exn (c : Str) (fs : List (Str × DV))
/-- the globals that matter: which class stands under a name -/
abbrev Mg := Str → Option Value
mutual
inductive Rep (mg : Mg) (B : Hp) : V → DV → Prop
  | non : Rep mg B .non .non
  | bl (b : Bool) : Rep mg B (.bl b) (.bl b)
  | int (i : Int) : Rep mg B (.int i) (.int i)
  | str (x : Str) : Rep mg B (.str x) (.str x)
  | lst {a : Addr} {xs : List V} {ds : List DV} : B a = some (.lst xs) → Reps mg B xs ds → Rep mg B (.ref a) (.lst ds)
  | tup {a : Addr} {xs : List V} {ds : List DV} : B a = some (.tup xs) → Reps mg B xs ds → Rep mg B (.ref a) (.tup ds)
  | dct {a : Addr} {kvs : List (Key × V)} {ds : List (Key × DV)} : Rd B a (.dK kvs) → RepK mg B kvs ds → Rep mg B (.ref a) (.dct ds)
  | ins {a C dx : Addr} {fs : List (Str × V)} {c : Str} {gs : List (Str × DV)} : mg c = some (.ref C) → B a = some (.ins C dx fs) → RepF mg B fs gs → Rep mg B (.ref a) (.ins c gs)
  | scr {a : Addr} {ns : List Int} : Rd B a (.lst (ns.map V.int)) → Rep mg B (.ref a) (.scr ns)
  | exn {a C : Addr} {c : Str} : mg c = some (.ref C) → B a = some (exo a C none) → Rep mg B (.ref a) (.exn c [])
  | exd {a C dx : Addr} {fs : List (Str × V)} {c : Str} {gs : List (Str × DV)} : mg c = some (.ref C) → B a = some (exo a C (some dx)) → B dx = some (exd dx fs) → RepF mg B fs gs → Rep mg B (.ref a) (.exn c gs)
inductive Reps (mg : Mg) (B : Hp) : List V → List DV → Prop
  | nil : Reps mg B [] []
  | cons {x : V} {d : DV} {xs : List V} {ds : List DV} : Rep mg B x d → Reps mg B xs ds → Reps mg B (x :: xs) (d :: ds)
inductive RepK (mg : Mg) (B : Hp) : List (Key × V) → List (Key × DV) → Prop
  | nil : RepK mg B [] []
  | cons {k : Key} {x : V} {d : DV} {xs : List (Key × V)} {ds : List (Key × DV)} : Rep mg B x d → RepK mg B xs ds → RepK mg B ((k, x) :: xs) ((k, d) :: ds)
inductive RepF (mg : Mg) (B : Hp) : List (Str × V) → List (Str × DV) → Prop
  | nil : RepF mg B [] []
  | cons {k : Str} {x : V} {d : DV} {xs : List (Str × V)} {ds : List (Str × DV)} : Rep mg B x d → RepF mg B xs ds → RepF mg B ((k, x) :: xs) ((k, d) :: ds)
end
/-- all but dicts, which may be locked for a while -/
def solid : HO → Bool
  | .dK _ => false
  | .frz _ (.dK _) => false
  | _ => true
/-- what is read off the one is read off the other -/
structure Sub (B B' : Hp) : Prop where
  keep : ∀ a o, B a = some o → solid o = true → B' a = some o
  rd : ∀ a kvs, Rd B a (.dK kvs) → Rd B' a (.dK kvs)
theorem Sub.refl (B : Hp) : Sub B B := ⟨fun _ _ h _ => h, fun _ _ h => h⟩
theorem Sub.trans {B B1 B2 : Hp} (a : Sub B B1) (b : Sub B1 B2) : Sub B B2 := ⟨fun c o h s => b.keep c o (a.keep c o h s) s, fun c u h => b.rd c u (a.rd c u h)⟩
theorem Sub.of {B B' : Hp} (h : Same B B') : Sub B B' := ⟨fun a o e _ => h _ _ e, fun a u r => r.elim (fun e => .inl (h _ _ e)) fun ⟨o, e⟩ => .inr ⟨o, h _ _ e⟩⟩
theorem same_upd {B : Hp} {a : Addr} {o : HO} (h : B a = none) : Same B (upd B a o) := fun b u e => by rw [upd_ne (ne_of_none e h)]; exact e
theorem Sub.upd {B : Hp} {a : Addr} {o : HO} (h : B a = none) : Sub B (L2.upd B a o) := .of (same_upd h)
theorem not_solid {o : HO} (h : ¬ solid o = true) : ∃ kvs, o = .dK kvs ∨ ∃ ob, o = .frz ob (.dK kvs) := by
  unfold solid at h
  split at h
  · exact ⟨_, .inl rfl⟩
  · exact ⟨_, .inr ⟨_, rfl⟩⟩
  · exact absurd rfl h
theorem Sub.none {B H : Hp} (le : Sub B H) {a : Addr} (h : H a = none) : B a = none := by
  cases q : B a with
  | none => rfl
  | some o =>
    by_cases s : solid o = true
    · have := le.keep a o q s
      rw [h] at this; cases this
    · obtain ⟨kvs, e⟩ := not_solid s
      have r : Rd B a (.dK kvs) := by
        rcases e with e | ⟨ob, e⟩
        · subst e; exact .inl q
        · subst e; exact .inr ⟨ob, q⟩
      rcases le.rd a kvs r with z | ⟨ob, z⟩ <;> rw [h] at z <;> cases z
theorem Sub.rdl {B B' : Hp} (s : Sub B B') {a : Addr} {xs : List V} (r : Rd B a (.lst xs)) : Rd B' a (.lst xs) :=
  r.elim (fun e => .inl (s.keep _ _ e rfl)) fun ⟨o, e⟩ => .inr ⟨o, s.keep _ _ e rfl⟩
section
variable {mg : Mg} {B B' : Hp}
mutual
theorem Rep.mono (s : Sub B B') : ∀ {v : V} {d : DV}, Rep mg B v d → Rep mg B' v d
  | _, _, .non => .non
  | _, _, .bl b => .bl b
  | _, _, .int i => .int i
  | _, _, .str x => .str x
  | _, _, .lst r q => .lst (s.keep _ _ r rfl) (Reps.mono s q)
  | _, _, .tup r q => .tup (s.keep _ _ r rfl) (Reps.mono s q)
  | _, _, .scr r => .scr (s.rdl r)
  | _, _, .dct r q => .dct (s.rd _ _ r) (RepK.mono s q)
  | _, _, .ins m r q => .ins m (s.keep _ _ r rfl) (RepF.mono s q)
  | _, _, .exn m r => .exn m (s.keep _ _ r rfl)
  | _, _, .exd m r e q => .exd m (s.keep _ _ r rfl) (s.keep _ _ e rfl) (RepF.mono s q)
theorem Reps.mono (s : Sub B B') : ∀ {v : List V} {d : List DV}, Reps mg B v d → Reps mg B' v d
  | _, _, .nil => .nil
  | _, _, .cons r q => .cons (Rep.mono s r) (Reps.mono s q)
theorem RepK.mono (s : Sub B B') : ∀ {v : List (Key × V)} {d : List (Key × DV)}, RepK mg B v d → RepK mg B' v d
  | _, _, .nil => .nil
  | _, _, .cons r q => .cons (Rep.mono s r) (RepK.mono s q)
theorem RepF.mono (s : Sub B B') : ∀ {v : List (Str × V)} {d : List (Str × DV)}, RepF mg B v d → RepF mg B' v d
  | _, _, .nil => .nil
  | _, _, .cons r q => .cons (Rep.mono s r) (RepF.mono s q)
end
theorem Reps.length : ∀ {v : List V} {d : List DV}, Reps mg B v d → v.length = d.length
  | _, _, .nil => rfl
  | _, _, .cons _ q => congrArg (· + 1) (Reps.length q)
theorem Reps.get : ∀ {v : List V} {d : List DV} {i : Nat} {x : V}, Reps mg B v d → v[i]? = some x → ∃ e, d[i]? = some e ∧ Rep mg B x e
  | _, _, _, _, .nil, h => by simp at h
  | _, _, 0, _, .cons r _, h => by simp at h; subst h; exact ⟨_, rfl, r⟩
  | _, _, i + 1, _, .cons _ q, h => by
    obtain ⟨e, h1, h2⟩ := Reps.get (i := i) q (by simpa using h)
    exact ⟨e, by simpa using h1, h2⟩
theorem Reps.getD' : ∀ {v : List V} {d : List DV} {i : Nat} {e : DV}, Reps mg B v d → d[i]? = some e → ∃ x, v[i]? = some x ∧ Rep mg B x e
  | _, _, _, _, .nil, h => by simp at h
  | _, _, 0, _, .cons r _, h => by simp at h; subst h; exact ⟨_, rfl, r⟩
  | _, _, i + 1, _, .cons _ q, h => by
    obtain ⟨e, h1, h2⟩ := Reps.getD' (i := i) q (by simpa using h)
    exact ⟨e, by simpa using h1, h2⟩
theorem Reps.append : ∀ {v w : List V} {d e : List DV}, Reps mg B v d → Reps mg B w e → Reps mg B (v ++ w) (d ++ e)
  | _, _, _, _, .nil, q => q
  | _, _, _, _, .cons r p, q => .cons r (Reps.append p q)
theorem Reps.take : ∀ {v : List V} {d : List DV} (n : Nat), Reps mg B v d → Reps mg B (v.take n) (d.take n)
  | _, _, 0, _ => by simpa using .nil
  | _, _, _ + 1, .nil => .nil
  | _, _, n + 1, .cons r p => .cons r (Reps.take n p)
theorem Reps.drop : ∀ {v : List V} {d : List DV} (n : Nat), Reps mg B v d → Reps mg B (v.drop n) (d.drop n)
  | _, _, 0, r => r
  | _, _, _ + 1, .nil => .nil
  | _, _, n + 1, .cons r p => Reps.drop n p
theorem Reps.set : ∀ {v : List V} {d : List DV} {x : V} {e : DV} (n : Nat), Reps mg B v d → Rep mg B x e → Reps mg B (v.set n x) (d.set n e)
  | _, _, _, _, _, .nil, _ => .nil
  | _, _, _, _, 0, .cons _ p, q => .cons q p
  | _, _, _, _, n + 1, .cons r p, q => .cons r (Reps.set n p q)
theorem Reps.eraseIdx : ∀ {v : List V} {d : List DV} (n : Nat), Reps mg B v d → Reps mg B (v.eraseIdx n) (d.eraseIdx n)
  | _, _, _, .nil => .nil
  | _, _, 0, .cons _ p => p
  | _, _, n + 1, .cons r p => .cons r (Reps.eraseIdx n p)
theorem Reps.snoc {v : List V} {d : List DV} {x : V} {e : DV} (r : Reps mg B v d) (q : Rep mg B x e) : Reps mg B (v ++ [x]) (d ++ [e]) := r.append (.cons q .nil)
theorem RepK.length : ∀ {v : List (Key × V)} {d : List (Key × DV)}, RepK mg B v d → v.length = d.length
  | _, _, .nil => rfl
  | _, _, .cons _ q => congrArg (· + 1) (RepK.length q)
end
/-- what an expression gives: data, or a new list | dict that nothing else holds (pin: handed in, stays where it is) -/
inductive RV where
  | v (d : DV)
  | ol (pin : Bool) (ds : List DV)
  | od (pin : Bool) (kvs : List (Key × DV))
def RV.dv : RV → DV
  | .v d => d
  | .ol _ ds => .lst ds
  | .od _ kvs => .dct kvs
def RV.isOwn : RV → Bool
  | .v _ => false
  | _ => true
def RV.isPin : RV → Bool
  | .v _ => false
  | .ol p _ => p
  | .od p _ => p
inductive RVR (mg : Mg) (B H : Hp) : V → RV → Prop
  | v {x : V} {d : DV} : Rep mg B x d → RVR mg B H x (.v d)
  | ol {a : Addr} {p : Bool} {xs : List V} {ds : List DV} : B a = none → H a = some (.lst xs) → Reps mg B xs ds → RVR mg B H (.ref a) (.ol p ds)
  | od {a : Addr} {p : Bool} {xs : List (Key × V)} {ds : List (Key × DV)} : B a = none → H a = some (.dK xs) → RepK mg B xs ds → RVR mg B H (.ref a) (.od p ds)
abbrev Sg := L2.St
abbrev Sl := List (Option RV)
/-- the slot i holds the own object at a -/
def OwnAt (σ : Sg) (S : Sl) (i : Nat) (a : Addr) : Prop := (∃ r : RV, S[i]? = some (some r) ∧ r.isOwn = true) ∧ σ[i]? = some (some (.ref a))
def OwnA (σ : Sg) (S : Sl) (a : Addr) : Prop := ∃ i, OwnAt σ S i a
structure StR (mg : Mg) (B H : Hp) (σ : Sg) (S : Sl) : Prop where
  le : Sub B H
  len : σ.length = S.length
  at_ : ∀ (i : Nat) (r : RV), S[i]? = some (some r) → ∃ v, σ[i]? = some (some v) ∧ RVR mg B H v r
  dis : ∀ (i j : Nat) (a : Addr), OwnAt σ S i a → OwnAt σ S j a → i = j
/-- from one state to a later one: M may be changed -/
structure Grow (B H B' H' : Hp) (M : Addr → Prop) : Prop where
  sub : Sub B B'
  keep : ∀ a o, H a = some o → ¬ M a → H' a = some o
  there : ∀ a, H a ≠ none → H' a ≠ none
  new : ∀ a, B' a ≠ none → B a ≠ none ∨ H a = none ∨ M a
def PinAt (S : Sl) (i : Nat) : Prop := ∃ r : RV, S[i]? = some (some r) ∧ r.isPin = true
structure Stp (mg : Mg) (B H : Hp) (σ : Sg) (S : Sl) (B' H' : Hp) (σ' : Sg) (S' : Sl) : Prop where
  grow : Grow B H B' H' (OwnA σ S)
  st : StR mg B' H' σ' S'
  own : ∀ a, OwnA σ' S' a → OwnA σ S a ∨ H a = none
  pin : ∀ i, PinAt S i → PinAt S' i ∧ σ'[i]? = σ[i]?
  len : S'.length = S.length
theorem Grow.refl {B H : Hp} {M : Addr → Prop} : Grow B H B H M := ⟨.refl _, fun _ _ h _ => h, fun _ h => h, fun _ h => .inl h⟩
theorem Grow.trans {B H B1 H1 B2 H2 : Hp} {M M1 : Addr → Prop} (a : Grow B H B1 H1 M) (b : Grow B1 H1 B2 H2 M1) (hm : ∀ a, M1 a → M a ∨ H a = none) : Grow B H B2 H2 M where
  sub := a.sub.trans b.sub
  keep := fun c o h n => b.keep c o (a.keep c o h n) fun z => (hm c z).elim n fun z => by rw [z] at h; cases h
  there := fun c h => b.there c (a.there c h)
  new := fun c h => by
    rcases b.new c h with z | z | z
    · exact a.new c z
    · by_cases q : H c = none
      · exact .inr (.inl q)
      · exact absurd z (a.there c q)
    · rcases hm c z with z | z
      · exact .inr (.inr z)
      · exact .inr (.inl z)
theorem Grow.imp {B H B' H' : Hp} {M M' : Addr → Prop} (g : Grow B H B' H' M) (h : ∀ a, M a → M' a) : Grow B H B' H' M' :=
  ⟨g.sub, fun a o e n => g.keep a o e fun z => n (h a z), g.there, fun a e => (g.new a e).imp id (Or.imp id (h a))⟩
section
variable {mg : Mg} {B H B1 H1 B2 H2 : Hp} {σ σ1 σ2 : Sg} {S S1 S2 : Sl}
theorem Stp.refl (x : StR mg B H σ S) : Stp mg B H σ S B H σ S := ⟨.refl, x, fun _ h => .inl h, fun _ h => ⟨h, rfl⟩, rfl⟩
theorem Stp.trans (a : Stp mg B H σ S B1 H1 σ1 S1) (b : Stp mg B1 H1 σ1 S1 B2 H2 σ2 S2) : Stp mg B H σ S B2 H2 σ2 S2 where
  grow := a.grow.trans b.grow a.own
  st := b.st
  own := fun c h => by
    rcases b.own c h with z | z
    · exact a.own c z
    · by_cases q : H c = none
      · exact .inr q
      · exact absurd z (a.grow.there c q)
  pin := fun i h => by
    obtain ⟨h1, e1⟩ := a.pin i h
    obtain ⟨h2, e2⟩ := b.pin i h1
    exact ⟨h2, e2.trans e1⟩
  len := b.len.trans a.len
end
/-- an operand: a value, or the slot it stands in -/
inductive Opd where
  | v (r : RV)
  | sl (i : Nat)
inductive OpdR (mg : Mg) (B H : Hp) (σ : Sg) (S : Sl) : V → Opd → Prop
  | v {x : V} {r : RV} : RVR mg B H x r → (∀ a, r.isOwn = true → x = .ref a → ¬ OwnA σ S a) → OpdR mg B H σ S x (.v r)
  | sl {x : V} {i : Nat} : σ[i]? = some (some x) → (∃ r : RV, S[i]? = some (some r)) → OpdR mg B H σ S x (.sl i)
def Opd.dv (S : Sl) : Opd → Option DV
  | .v r => some r.dv
  | .sl i => match S[i]? with
    | some (some r) => some r.dv
    | _ => none
section
variable {mg : Mg} {B H B' H' : Hp} {σ σ' : Sg} {S S' : Sl} {x : V}
/-- a value that stands in no slot lives on -/
theorem RVR.step {r : RV} (q : RVR mg B H x r) (n : ∀ a, r.isOwn = true → x = .ref a → ¬ OwnA σ S a) (s : Stp mg B H σ S B' H' σ' S') : RVR mg B' H' x r ∧ ∀ a, r.isOwn = true → x = .ref a → ¬ OwnA σ' S' a := by
  have key : ∀ a o, x = .ref a → r.isOwn = true → B a = none → H a = some o → B' a = none ∧ H' a = some o ∧ ¬ OwnA σ' S' a := fun a o e hr hb hh => by
    have nm := n a hr e
    refine ⟨?_, s.grow.keep a o hh nm, fun z => ?_⟩
    · cases q : B' a with
      | none => rfl
      | some u =>
        rcases s.grow.new a (by rw [q]; simp) with z | z | z
        · exact absurd hb z
        · rw [z] at hh; cases hh
        · exact absurd z nm
    · rcases s.own a z with z | z
      · exact nm z
      · rw [z] at hh; cases hh
  cases q with
  | v q => exact ⟨.v (q.mono s.grow.sub), fun a h => by cases h⟩
  | @ol a p xs ds hb hh q =>
    obtain ⟨k1, k2, k3⟩ := key a _ rfl rfl hb hh
    exact ⟨.ol k1 k2 (q.mono s.grow.sub), fun b _ e => by cases e; exact k3⟩
  | @od a p xs ds hb hh q =>
    obtain ⟨k1, k2, k3⟩ := key a _ rfl rfl hb hh
    exact ⟨.od k1 k2 (q.mono s.grow.sub), fun b _ e => by cases e; exact k3⟩
end
end Lb
/-! The judgements: a piece of syntax and the plain function that it is. -/
namespace Lb
open PySem PySem.Spec PyProof.Rows L2
inductive Out (α : Type) where
  | stuck
  | ok (a : α) (S : Sl)
  | exc (c : Str) (fs : List (Str × DV)) (S : Sl)
abbrev M (α : Type) := Sl → Out α
def M.pure {α : Type} (a : α) : M α := fun S => .ok a S
def M.bind {α β : Type} (m : M α) (f : α → M β) : M β := fun S => match m S with
  | .stuck => .stuck
  | .ok a S' => f a S'
  | .exc c fs S' => .exc c fs S'
def M.stuck {α : Type} : M α := fun _ => .stuck
instance : Monad M where
  pure := M.pure
  bind := M.bind
def M.of {α : Type} : Option α → M α
  | some a => M.pure a
  | none => M.stuck
def deref (o : Opd) : M DV := fun S => match o.dv S with
  | some d => .ok d S
  | none => .stuck
/-- held by others from now on -/
def frz (o : Opd) : M DV := fun S => match o with
  | .v r => .ok r.dv S
  | .sl i => match S[i]? with
    | some (some (.v d)) => .ok d S
    | some (some r) => if r.isPin then .stuck else .ok r.dv (S.set i (some (.v r.dv)))
    | _ => .stuck
def Has (S S' : Sl) : Prop := ∀ (i : Nat), (∃ r : RV, S[i]? = some (some r)) → ∃ r : RV, S'[i]? = some (some r)
theorem Has.refl (S : Sl) : Has S S := fun _ h => h
theorem Has.trans {S S1 S2 : Sl} (a : Has S S1) (b : Has S1 S2) : Has S S2 := fun i h => b i (a i h)
/-- an own result is younger than H -/
def Young (H : Hp) (v : V) : Opd → Prop
  | .v r => ∀ a, r.isOwn = true → v = .ref a → H a = none
  | .sl _ => True
/-- what is wanted of an exception -/
def xPost (mg : Mg) (W : WX) (B H : Hp) (σ : Sg) (S : Sl) (c : Str) (fs : List (Str × DV)) (S' : Sl) : Prop :=
  ∀ C B' H' σ' d, mg c = some (.ref C) → Stp mg B H σ S B' H' σ' S' →
    (match d with | none => fs = [] | some dx => ∃ xs, H' dx = some (.xd xs) ∧ RepF mg B' xs fs) → W (.ref C) d σ' H'
/-- what holds of an outcome -/
def Out.spec {α : Type} (o : Out α) (K : α → Sl → Prop) (E : Str → List (Str × DV) → Sl → Prop) : Prop := match o with
  | .stuck => False
  | .ok a S' => K a S'
  | .exc c fs S' => E c fs S'
theorem spec_bind {α β : Type} {m : M α} {f : α → M β} {S : Sl} {K : β → Sl → Prop} {E : Str → List (Str × DV) → Sl → Prop} : (M.bind m f S).spec K E ↔ (m S).spec (fun a S1 => (f a S1).spec K E) E := by
  unfold M.bind
  cases m S <;> exact Iff.rfl
theorem Out.spec.imp {α : Type} {o : Out α} {K K' : α → Sl → Prop} {E E' : Str → List (Str × DV) → Sl → Prop} (h : o.spec K E) (k : ∀ a S', o = .ok a S' → K a S' → K' a S') (e : ∀ c fs S', E c fs S' → E' c fs S') : o.spec K' E' := by
  cases o with
  | stuck => exact h
  | ok a S' => exact k a S' rfl h
  | exc c fs S' => exact e c fs S' h
def tM (mg : Mg) (m : M Opd) (W : WX) : TE := fun σ H Q => ∃ B S, StR mg B H σ S ∧ (m S).spec
  (fun o S' => ∀ v B' H', Stp mg B H σ S B' H' σ S' → Has S S' → OpdR mg B' H' σ S' v o → Young H v o → Q v H') (xPost mg W B H σ S)
def tF (mg : Mg) (m : M DV) (W : WX) : TE := fun σ H Q => ∃ B S, StR mg B H σ S ∧ (m S).spec
  (fun d S' => ∀ v B' H', Stp mg B H σ S B' H' σ S' → Has S S' → Rep mg B' v d → Q v H') (xPost mg W B H σ S)
def tB (mg : Mg) (m : M Bool) (W : WX) : TT := fun σ H Q => ∃ B S, StR mg B H σ S ∧ (m S).spec
  (fun b S' => ∀ B' H', Stp mg B H σ S B' H' σ S' → Has S S' → Q b H') (xPost mg W B H σ S)
def tFs (mg : Mg) (m : M (List DV)) (W : WX) : TA := fun σ H Q => ∃ B S, StR mg B H σ S ∧ (m S).spec
  (fun ds S' => ∀ vs B' H', Stp mg B H σ S B' H' σ S' → Has S S' → Reps mg B' vs ds → Q vs H') (xPost mg W B H σ S)
/-- operands, each as it stands -/
inductive OpdsR (mg : Mg) (B H : Hp) (σ : Sg) (S : Sl) : List V → List Opd → Prop
  | nil : OpdsR mg B H σ S [] []
  | cons {v : V} {o : Opd} {vs : List V} {os : List Opd} : OpdR mg B H σ S v o → OpdsR mg B H σ S vs os → OpdsR mg B H σ S (v :: vs) (o :: os)
def tOs (mg : Mg) (m : M (List Opd)) (W : WX) : TA := fun σ H Q => ∃ B S, StR mg B H σ S ∧ (m S).spec
  (fun os S' => ∀ vs B' H', Stp mg B H σ S B' H' σ S' → Has S S' → OpdsR mg B' H' σ S' vs os → Q vs H') (xPost mg W B H σ S)
def PX (X : Cx) (e : Expr) (m : M Opd) : Prop := ∀ W, Takes X W → PE X e (tM X.mg m W)
def FX (X : Cx) (e : Expr) (m : M DV) : Prop := ∀ W, Takes X W → PE X e (tF X.mg m W)
def BX (X : Cx) (e : Expr) (m : M Bool) : Prop := ∀ W, Takes X W → PT X e (tB X.mg m W)
def FXs (X : Cx) (es : List Expr) (m : M (List DV)) : Prop := ∀ W, Takes X W → PA X es (tFs X.mg m W)
def OXs (X : Cx) (es : List Expr) (m : M (List Opd)) : Prop := ∀ W, Takes X W → PA X es (tOs X.mg m W)
theorem PE.imp {X : Cx} {e : Expr} {t t' : TE} (h : PE X e t) (i : ∀ σ H Q, t' σ H Q → t σ H Q) : PE X e t' := ⟨fun p s σ H Q I q => h.run p s σ H Q I (i σ H Q q)⟩
theorem PT.imp {X : Cx} {e : Expr} {t t' : TT} (h : PT X e t) (i : ∀ σ H Q, t' σ H Q → t σ H Q) : PT X e t' := ⟨fun p s σ H Q I q => h.run p s σ H Q I (i σ H Q q)⟩
theorem PA.imp {X : Cx} {e : List Expr} {t t' : TA} (h : PA X e t) (i : ∀ σ H Q, t' σ H Q → t σ H Q) : PA X e t' := ⟨fun p q s σ H Q I r => h.run p q s σ H Q I (i σ H Q r)⟩
theorem PS.imp {X : Cx} {e : Stmt} {t t' : TS} (h : PS X e t) (i : ∀ D σ H, t' D σ H → t D σ H) : PS X e t' := ⟨fun p s σ H D I q => h.run p s σ H D I (i D σ H q)⟩
theorem PSs.imp {X : Cx} {e : List Stmt} {t t' : TS} (h : PSs X e t) (i : ∀ D σ H, t' D σ H → t D σ H) : PSs X e t' := ⟨fun p s σ H D I q => h.run p s σ H D I (i D σ H q)⟩
theorem xPost.pre {mg : Mg} {W : WX} {B H B1 H1 : Hp} {σ σ1 : Sg} {S S1 S' : Sl} {c : Str} {fs : List (Str × DV)} (s : Stp mg B H σ S B1 H1 σ1 S1) (x : xPost mg W B H σ S c fs S') : xPost mg W B1 H1 σ1 S1 c fs S' :=
  fun C B' H' σ' d hC s' h => x C B' H' σ' d hC (s.trans s') h
/-! ### operands live on -/
section
variable {mg : Mg} {B H B' H' : Hp} {σ : Sg} {S S' : Sl}
theorem OpdR.step {v : V} {o : Opd} (q : OpdR mg B H σ S v o) (s : Stp mg B H σ S B' H' σ S') (h : Has S S') : OpdR mg B' H' σ S' v o := by
  cases q with
  | v q n =>
    obtain ⟨q', n'⟩ := q.step n s
    exact .v q' n'
  | sl e r => exact .sl e (h _ r)
theorem OpdsR.step : ∀ {vs : List V} {os : List Opd}, OpdsR mg B H σ S vs os → Stp mg B H σ S B' H' σ S' → Has S S' → OpdsR mg B' H' σ S' vs os
  | _, _, .nil, _, _ => .nil
  | _, _, .cons q r, s, h => .cons (q.step s h) (r.step s h)
/-- what an operand is, seen from outside: its spine in H, what it holds in B -/
inductive View (mg : Mg) (B H : Hp) : V → DV → Prop
  | r {v : V} {d : DV} : Rep mg B v d → View mg B H v d
  | lst {a : Addr} {xs : List V} {ds : List DV} : H a = some (.lst xs) → Reps mg B xs ds → View mg B H (.ref a) (.lst ds)
  | dct {a : Addr} {xs : List (Key × V)} {ds : List (Key × DV)} : H a = some (.dK xs) → RepK mg B xs ds → View mg B H (.ref a) (.dct ds)
theorem RVR.view {v : V} {r : RV} (q : RVR mg B H v r) : View mg B H v r.dv := by
  cases q with
  | v q => exact .r q
  | ol _ h q => exact .lst h q
  | od _ h q => exact .dct h q
theorem OpdR.view (x : StR mg B H σ S) {v : V} {o : Opd} {d : DV} (q : OpdR mg B H σ S v o) (e : o.dv S = some d) : View mg B H v d := by
  cases q with
  | v q _ =>
    cases e
    exact q.view
  | sl e1 r =>
    obtain ⟨r, hr⟩ := r
    obtain ⟨v', e2, q⟩ := x.at_ _ r hr
    rw [e1] at e2
    cases e2
    have : d = r.dv := by
      simp only [Opd.dv, hr] at e
      exact (Option.some.inj e).symm
    subst this
    exact q.view
/-- it may be read as a list -/
theorem View.list (le : Sub B H) {v : V} {ds : List DV} (q : View mg B H v (.lst ds)) : ∃ a xs, v = .ref a ∧ H a = some (.lst xs) ∧ Reps mg B xs ds := by
  cases q with
  | r q =>
    cases q with
    | lst h q => exact ⟨_, _, rfl, le.keep _ _ h rfl, q⟩
  | lst h q => exact ⟨_, _, rfl, h, q⟩
theorem View.tuple (le : Sub B H) {v : V} {ds : List DV} (q : View mg B H v (.tup ds)) : ∃ a xs, v = .ref a ∧ H a = some (.tup xs) ∧ Reps mg B xs ds := by
  cases q with
  | r q =>
    cases q with
    | tup h q => exact ⟨_, _, rfl, le.keep _ _ h rfl, q⟩
theorem View.dict (le : Sub B H) {v : V} {ds : List (Key × DV)} (q : View mg B H v (.dct ds)) : ∃ a xs, v = .ref a ∧ Rd H a (.dK xs) ∧ RepK mg B xs ds := by
  cases q with
  | r q =>
    cases q with
    | dct h q => exact ⟨_, _, rfl, le.rd _ _ h, q⟩
  | dct h q => exact ⟨_, _, rfl, .inl h, q⟩
theorem View.int {v : V} {i : Int} (q : View mg B H v (.int i)) : v = .int i := by cases q with | r q => cases q; rfl
theorem View.bl {v : V} {b : Bool} (q : View mg B H v (.bl b)) : v = .bl b := by cases q with | r q => cases q; rfl
theorem View.str {v : V} {x : Str} (q : View mg B H v (.str x)) : v = .str x := by cases q with | r q => cases q; rfl
theorem View.non {v : V} (q : View mg B H v .non) : v = .non := by cases q with | r q => cases q; rfl
end
/-! ### what is new -/
section
variable {mg : Mg} {B H : Hp} {σ : Sg} {S : Sl} {a : Addr}
/-- a new object that is held by none -/
theorem StR.alloc (x : StR mg B H σ S) (hn : H a = none) (o : HO) : Stp mg B H σ S B (upd H a o) σ S := by
  have same : Same H (upd H a o) := same_upd hn
  have nB : ∀ b, B b ≠ none → b ≠ a ∨ True := fun _ _ => .inr trivial
  refine ⟨⟨.refl _, fun b u e _ => same b u e, fun b e => ?_, fun b e => .inl e⟩, ⟨x.le.trans (.of same), x.len, fun i r e => ?_, x.dis⟩, fun b h => .inl h, fun i h => ⟨h, rfl⟩, rfl⟩
  · cases q : H b with
    | none => exact absurd q e
    | some u => rw [same b u q]; simp
  · obtain ⟨v, e1, q⟩ := x.at_ i r e
    refine ⟨v, e1, ?_⟩
    cases q with
    | v q => exact .v q
    | ol h1 h2 q => exact .ol h1 (same _ _ h2) q
    | od h1 h2 q => exact .od h1 (same _ _ h2) q
theorem StR.notOwn (x : StR mg B H σ S) (hn : H a = none) : ¬ OwnA σ S a := fun ⟨i, ⟨r, e, hr⟩, e2⟩ => by
  obtain ⟨v, e1, q⟩ := x.at_ i r e
  rw [e2] at e1
  cases e1
  cases q with
  | v q => cases hr
  | ol _ h _ => rw [hn] at h; cases h
  | od _ h _ => rw [hn] at h; cases h
/-- nothing of B stands at an own place -/
theorem StR.noB (x : StR mg B H σ S) (o : OwnA σ S a) : B a = none := by
  obtain ⟨i, ⟨r, e, hr⟩, e2⟩ := o
  obtain ⟨v, e1, q⟩ := x.at_ i r e
  rw [e2] at e1
  cases e1
  cases q with
  | v q => cases hr
  | ol h _ _ => exact h
  | od h _ _ => exact h
end
end Lb
/-! Held by others from now on; arguments; the simplest expressions. -/
namespace Lb
open PySem PySem.Spec PyProof.Rows L2
section
variable {mg : Mg} {B H B0 H0 : Hp} {σ : Sg} {S S0 S' : Sl} {a : Addr} {o : HO}
theorem sub_upd_le (le : Sub B H) (hh : H a = some o) : Sub (upd B a o) H := ⟨fun b u e s => by
    by_cases hb : b = a
    · subst hb; rw [upd_same] at e; cases e; exact hh
    · rw [upd_ne hb] at e; exact le.keep b u e s,
  fun b u r => by
    by_cases hb : b = a
    · subst hb
      rcases r with r | ⟨ob, r⟩
      · rw [upd_same] at r; cases r; exact .inl hh
      · rw [upd_same] at r; cases r; exact .inr ⟨ob, hh⟩
    · exact le.rd b u (by unfold Rd at r ⊢; rw [upd_ne hb] at r; exact r)⟩
theorem StR.frz (x : StR mg B H σ S) (hb : B a = none) (hh : H a = some o) (hl : S'.length = S.length)
    (hS : ∀ (i : Nat) (r : RV), S'[i]? = some (some r) → (S[i]? = some (some r) ∧ ¬ OwnAt σ S i a) ∨ ∃ d v, r = .v d ∧ σ[i]? = some (some v) ∧ Rep mg (upd B a o) v d) :
    StR mg (upd B a o) H σ S' ∧ ∀ b, OwnA σ S' b → OwnA σ S b ∧ b ≠ a := by
  have own : ∀ i b, OwnAt σ S' i b → OwnAt σ S i b ∧ b ≠ a := fun i b ⟨⟨r, e, hr⟩, e2⟩ => by
    rcases hS i r e with ⟨h1, h2⟩ | ⟨d, v, h1, _⟩
    · exact ⟨⟨⟨r, h1, hr⟩, e2⟩, fun z => h2 (by subst z; exact ⟨⟨r, h1, hr⟩, e2⟩)⟩
    · subst h1; cases hr
  refine ⟨⟨sub_upd_le x.le hh, by rw [hl]; exact x.len, fun i r e => ?_, fun i j b h1 h2 => x.dis i j b (own i b h1).1 (own j b h2).1⟩, fun b ⟨i, h⟩ => ⟨⟨i, (own i b h).1⟩, (own i b h).2⟩⟩
  rcases hS i r e with ⟨h1, h2⟩ | ⟨d, v, h1, h2, h3⟩
  · obtain ⟨v, e1, q⟩ := x.at_ i r h1
    refine ⟨v, e1, ?_⟩
    cases q with
    | v q => exact .v (q.mono (Sub.upd hb))
    | @ol c p xs ds g1 g2 q =>
      have nc : c ≠ a := fun z => h2 (by subst z; exact ⟨⟨_, h1, rfl⟩, e1⟩)
      exact .ol (by rw [upd_ne nc]; exact g1) g2 (q.mono (Sub.upd hb))
    | @od c p xs ds g1 g2 q =>
      have nc : c ≠ a := fun z => h2 (by subst z; exact ⟨⟨_, h1, rfl⟩, e1⟩)
      exact .od (by rw [upd_ne nc]; exact g1) g2 (q.mono (Sub.upd hb))
  · subst h1
    exact ⟨v, h2, .v h3⟩
/-- .. and what came before stands as it stood -/
theorem Stp.frz (s : Stp mg B0 H0 σ S0 B H σ S) (hb : B a = none) (hh : H a = some o) (hl : S'.length = S.length) (hy : H0 a = none ∨ OwnA σ S0 a)
    (hp : ∀ i, PinAt S i → PinAt S' i)
    (hS : ∀ (i : Nat) (r : RV), S'[i]? = some (some r) → (S[i]? = some (some r) ∧ ¬ OwnAt σ S i a) ∨ ∃ d v, r = .v d ∧ σ[i]? = some (some v) ∧ Rep mg (upd B a o) v d) :
    Stp mg B0 H0 σ S0 (upd B a o) H σ S' := by
  obtain ⟨x, ow⟩ := s.st.frz hb hh hl hS
  refine ⟨⟨s.grow.sub.trans (Sub.upd hb), s.grow.keep, s.grow.there, fun b e => ?_⟩, x, fun b e => s.own b (ow b e).1, fun i h => ?_, hl.trans s.len⟩
  · by_cases hba : b = a
    · subst hba; exact .inr hy
    · rw [upd_ne hba] at e; exact s.grow.new b e
  · obtain ⟨h1, h2⟩ := s.pin i h
    exact ⟨hp i h1, h2⟩
end
theorem set_some_cases {S : Sl} {i j : Nat} {x : Option RV} {r : RV} (h : (S.set i x)[j]? = some (some r)) : (j = i ∧ x = some r) ∨ (j ≠ i ∧ S[j]? = some (some r)) := by
  by_cases hj : i = j
  · subst hj
    by_cases hl : i < S.length
    · rw [List.getElem?_set_self hl] at h
      exact .inl ⟨rfl, Option.some.inj h⟩
    · rw [List.getElem?_eq_none (by simpa using hl)] at h; cases h
  · rw [List.getElem?_set_ne hj] at h
    exact .inr ⟨fun z => hj z.symm, h⟩
theorem set_other {S : Sl} {i j : Nat} {x : Option RV} (h : j ≠ i) : (S.set i x)[j]? = S[j]? := List.getElem?_set_ne (Ne.symm h)
section
variable {mg : Mg} {B H B1 H1 : Hp} {σ : Sg} {S S1 S2 : Sl} {v : V} {o : Opd} {d : DV}
/-- an operand is frozen -/
theorem frz_ok (s : Stp mg B H σ S B1 H1 σ S1) (hs : Has S S1) (q : OpdR mg B1 H1 σ S1 v o) (y : Young H v o) (e : frz o S1 = .ok d S2) :
    ∃ B2, Stp mg B H σ S B2 H1 σ S2 ∧ Has S S2 ∧ Rep mg B2 v d := by
  cases q with
  | v q n =>
    simp only [frz, Out.ok.injEq] at e
    obtain ⟨rfl, rfl⟩ := e
    cases q with
    | v q => exact ⟨B1, s, hs, q⟩
    | @ol a p xs ds hb hh q =>
      refine ⟨upd B1 a (.lst xs), s.frz hb hh rfl (.inl (y a rfl rfl)) (fun _ h => h) (fun i r e => .inl ⟨e, fun h => n a rfl rfl ⟨i, h⟩⟩), hs, .lst upd_same (q.mono (Sub.upd hb))⟩
    | @od a p xs ds hb hh q =>
      refine ⟨upd B1 a (.dK xs), s.frz hb hh rfl (.inl (y a rfl rfl)) (fun _ h => h) (fun i r e => .inl ⟨e, fun h => n a rfl rfl ⟨i, h⟩⟩), hs, .dct (.inl upd_same) (q.mono (Sub.upd hb))⟩
  | @sl i e1 hr =>
    obtain ⟨r, hr⟩ := hr
    obtain ⟨v', e2, q⟩ := s.st.at_ i r hr
    rw [e1] at e2
    cases e2
    have hilt : i < S1.length := (List.getElem?_eq_some_iff.mp hr).1
    have fin : ∀ (a : Addr) (ob : HO), v = .ref a → B1 a = none → H1 a = some ob → r.isOwn = true → r.isPin = false → S2 = S1.set i (some (.v r.dv)) → (Rep mg (upd B1 a ob) (.ref a) r.dv) →
        Stp mg B H σ S (upd B1 a ob) H1 σ S2 ∧ Has S S2 := fun a ob ev hb hh hro hrp e2 hrep => by
      subst ev
      have at_i : OwnAt σ S1 i a := ⟨⟨r, hr, hro⟩, e1⟩
      subst e2
      refine ⟨s.frz hb hh (by simp) ?_ (fun j hj => ?_) (fun j r' h => ?_), fun j hj => ?_⟩
      · exact (s.own a ⟨i, at_i⟩).symm
      · obtain ⟨r', h1, h2⟩ := hj
        have nj : j ≠ i := fun z => by subst z; rw [hr] at h1; cases h1; rw [hrp] at h2; cases h2
        exact ⟨r', by rw [set_other nj]; exact h1, h2⟩
      · rcases set_some_cases h with ⟨h1, h2⟩ | ⟨h1, h2⟩
        · subst h1
          exact .inr ⟨_, _, (Option.some.inj h2).symm, e1, hrep⟩
        · exact .inl ⟨h2, fun z => h1 (s.st.dis _ _ _ z at_i)⟩
      · obtain ⟨r', h1⟩ := hs j hj
        by_cases nj : j = i
        · subst nj
          exact ⟨_, List.getElem?_set_self hilt⟩
        · exact ⟨r', by rw [set_other nj]; exact h1⟩
    cases q with
    | v q =>
      simp only [Lb.frz, hr, Out.ok.injEq] at e
      obtain ⟨rfl, rfl⟩ := e
      exact ⟨B1, s, hs, q⟩
    | @ol a p xs ds hb hh q =>
      simp only [Lb.frz, hr, RV.isPin, RV.dv] at e
      cases p with
      | true => simp at e
      | false =>
        simp only [Bool.false_eq_true, if_false, Out.ok.injEq] at e
        obtain ⟨e1', e2'⟩ := e
        subst e1'
        have rep : Rep mg (upd B1 a (.lst xs)) (.ref a) (.lst ds) := .lst upd_same (q.mono (Sub.upd hb))
        obtain ⟨k1, k2⟩ := fin a _ rfl hb hh rfl rfl e2'.symm rep
        exact ⟨_, k1, k2, rep⟩
    | @od a p xs ds hb hh q =>
      simp only [Lb.frz, hr, RV.isPin, RV.dv] at e
      cases p with
      | true => simp at e
      | false =>
        simp only [Bool.false_eq_true, if_false, Out.ok.injEq] at e
        obtain ⟨e1', e2'⟩ := e
        subst e1'
        have rep : Rep mg (upd B1 a (.dK xs)) (.ref a) (.dct ds) := .dct (.inl upd_same) (q.mono (Sub.upd hb))
        obtain ⟨k1, k2⟩ := fin a _ rfl hb hh rfl rfl e2'.symm rep
        exact ⟨_, k1, k2, rep⟩
end
theorem frz_noexc {o : Opd} {S : Sl} {c : Str} {fs : List (Str × DV)} {S' : Sl} (e : frz o S = .exc c fs S') : False := by
  unfold frz at e; cases o <;> simp at e <;> (repeat' split at e) <;> simp at e
section
variable {X : Cx} {e : Expr} {m : M Opd}
theorem fx_of (h : PX X e m) : FX X e (M.bind m frz) := fun W tk => PE.imp (h W tk) fun σ H Q ⟨B, S, st, q⟩ => by
  refine ⟨B, S, st, (spec_bind.mp q).imp (fun o S1 _ q v B1 H1 s hs or y => ?_) fun _ _ _ h => h⟩
  cases ef : frz o S1 with
  | stuck => rw [ef] at q; exact q.elim
  | exc c fs S' => exact (frz_noexc ef).elim
  | ok d S2 =>
    rw [ef] at q
    obtain ⟨B2, s2, h2, r⟩ := frz_ok s hs or y ef
    exact q v B2 H1 s2 h2 r
/-- back: a frozen value is an operand -/
def M.map {α β : Type} (f : α → β) (m : M α) : M β := M.bind m fun a => M.pure (f a)
theorem px_of {m : M DV} (h : FX X e m) : PX X e (M.map (fun d => .v (.v d)) m) := fun W tk => PE.imp (h W tk) fun σ H Q ⟨B, S, st, q⟩ =>
  ⟨B, S, st, (spec_bind.mp q).imp (fun d S1 _ q v B1 H1 s hs r => q v B1 H1 s hs (.v (.v r) fun a h => by cases h) fun a h => by cases h) fun _ _ _ h => h⟩
/-- a name -/
def getSl (i : Nat) : M Opd := fun S => match S[i]? with
  | some (some _) => .ok (.sl i) S
  | _ => .stuck
theorem px_var (i : Nat) {x : Str} {pos : Pos} (hN : X.N[i]? = some x := by rfl) (hv : Vis X.env.scope x := by first | exact Or.inl rfl | exact Or.inr (Or.inl rfl) | exact Or.inr (Or.inr rfl)) (hd : (x == ("__debug__" : Str)) = false := by decide)
    (hcd : (x == ("__classdict__" : Str)) = false := by decide) : PX X (.Name x pos) (getSl i) := fun W tk => PE.imp (pe_var hN hv hd hcd) fun σ H Q ⟨B, S, st, q⟩ => by
  unfold getSl at q
  cases hr : S[i]? with
  | none => rw [hr] at q; exact q.elim
  | some z =>
    rw [hr] at q
    cases z with
    | none => exact q.elim
    | some r =>
      obtain ⟨v, e, _⟩ := st.at_ i r hr
      exact ⟨v, e, q v B H (.refl st) (.refl S) (.sl e ⟨r, hr⟩) trivial⟩
def kst (d : DV) : M Opd := M.pure (.v (.v d))
theorem kst_of {t : TE} {v : V} {d : DV} (h : PE X e t) (ht : ∀ σ H Q, Q v H → t σ H Q) (hr : ∀ B, Rep X.mg B v d) : PX X e (kst d) := fun W tk => PE.imp h fun σ H Q ⟨B, S, st, q⟩ =>
  ht σ H Q (q v B H (.refl st) (.refl S) (.v (.v (hr B)) fun a h => by cases h) fun a h => by cases h)
theorem px_int {i j pos} : PX X (.Constant (.int i) j pos) (kst (.int i)) := kst_of pe_int (fun _ _ _ h => h) fun _ => .int i
theorem px_str {x j pos} : PX X (.Constant (.str x) j pos) (kst (.str x)) := kst_of pe_str (fun _ _ _ h => h) fun _ => .str x
theorem px_bl {b j pos} : PX X (.Constant (.bool b) j pos) (kst (.bl b)) := kst_of pe_bl (fun _ _ _ h => h) fun _ => .bl b
theorem px_non {j pos} : PX X (.Constant .none j pos) (kst .non) := kst_of pe_non (fun _ _ _ h => h) fun _ => .non
end
/-! ### arguments -/
section
variable {X : Cx} {e : Expr} {es : List Expr}
theorem oxs_nil : OXs X [] (M.pure []) := fun W tk => PA.imp pa_nil fun σ H Q ⟨B, S, st, q⟩ => q [] B H (.refl st) (.refl S) .nil
theorem oxs_cons {m : M Opd} {ms : M (List Opd)} (h : PX X e m) (hs : OXs X es ms) (hst : starEach (e :: es) X.env = (false, eval e X.env) :: starEach es X.env := by rfl) :
    OXs X (e :: es) (M.bind m fun o => M.bind ms fun os => M.pure (o :: os)) := fun W tk => PA.imp (pa_cons (h W tk) (hs W tk) hst) fun σ H Q ⟨B, S, st, q⟩ =>
  ⟨B, S, st, (spec_bind.mp q).imp (fun o S1 _ q v B1 H1 s hs or y => ⟨B1, S1, s.st, (spec_bind.mp q).imp (fun os S2 _ q vs B2 H2 s2 hs2 ors =>
    q (v :: vs) B2 H2 (s.trans s2) (hs.trans hs2) (.cons (or.step s2 hs2) ors)) fun _ _ _ h => h.pre s⟩) fun _ _ _ h => h⟩
theorem fxs_nil : FXs X [] (M.pure []) := fun W tk => PA.imp pa_nil fun σ H Q ⟨B, S, st, q⟩ => q [] B H (.refl st) (.refl S) .nil
theorem fxs_cons {m : M DV} {ms : M (List DV)} (h : FX X e m) (hs : FXs X es ms) (hst : starEach (e :: es) X.env = (false, eval e X.env) :: starEach es X.env := by rfl) :
    FXs X (e :: es) (M.bind m fun o => M.bind ms fun os => M.pure (o :: os)) := fun W tk => PA.imp (pa_cons (h W tk) (hs W tk) hst) fun σ H Q ⟨B, S, st, q⟩ =>
  ⟨B, S, st, (spec_bind.mp q).imp (fun o S1 _ q v B1 H1 s hs or => ⟨B1, S1, s.st, (spec_bind.mp q).imp (fun os S2 _ q vs B2 H2 s2 hs2 ors =>
    q (v :: vs) B2 H2 (s.trans s2) (hs.trans hs2) (.cons (or.mono s2.grow.sub) ors)) fun _ _ _ h => h.pre s⟩) fun _ _ _ h => h⟩
end
end Lb
/-! Operations on what operands are: the result is data or new. -/
namespace Lb
open PySem PySem.Spec PyProof.Rows L2
/-- all that stood stands; what B has besides is new -/
structure New (B H B' H' : Hp) : Prop where
  same : Same H H'
  sub : Sub B B'
  le : Sub B' H'
  new : ∀ a, B' a ≠ none → B a ≠ none ∨ H a = none
theorem New.refl {B H : Hp} (le : Sub B H) : New B H B H := ⟨.refl H, .refl B, le, fun _ h => .inl h⟩
theorem New.trans {B H B1 H1 B2 H2 : Hp} (a : New B H B1 H1) (b : New B1 H1 B2 H2) : New B H B2 H2 :=
  ⟨a.same.trans b.same, a.sub.trans b.sub, b.le, fun c h => by
    rcases b.new c h with z | z
    · exact a.new c z
    · exact .inr (a.same.free z)⟩
/-- a new object for all -/
theorem New.alloc {B H : Hp} (le : Sub B H) {a : Addr} {o : HO} (hn : H a = none) : New B H (upd B a o) (upd H a o) :=
  have hb := le.none hn
  ⟨same_upd hn, Sub.upd hb, ⟨fun b u e s => by
    by_cases q : b = a
    · subst q; rw [upd_same] at e ⊢; exact e
    · rw [upd_ne q] at e ⊢; exact le.keep b u e s, fun b u r => by
    by_cases q : b = a
    · subst q; unfold Rd at r ⊢; rw [upd_same] at r ⊢; exact r
    · unfold Rd at r ⊢; rw [upd_ne q] at r ⊢; exact le.rd b u r⟩, fun b h => by
    by_cases q : b = a
    · subst q; exact .inr hn
    · rw [upd_ne q] at h; exact .inl h⟩
/-- a new object that one holds -/
theorem New.own {B H : Hp} (le : Sub B H) {a : Addr} {o : HO} (hn : H a = none) : New B H B (upd H a o) :=
  ⟨same_upd hn, .refl B, le.trans (.upd hn), fun b h => .inl h⟩
section
variable {mg : Mg} {B H B' H' : Hp} {σ : Sg} {S : Sl}
/-- B is empty where H is (as far as reading goes) -/
theorem StR.step (x : StR mg B H σ S) (n : New B H B' H') : Stp mg B H σ S B' H' σ S := by
  refine ⟨⟨n.sub, fun a o e _ => n.same a o e, fun a e => ?_, fun a e => (n.new a e).imp id .inl⟩, ⟨n.le, x.len, fun i r e => ?_, x.dis⟩, fun a h => .inl h, fun i h => ⟨h, rfl⟩, rfl⟩
  · cases q : H a with
    | none => exact absurd q e
    | some o => rw [n.same a o q]; simp
  · obtain ⟨v, e1, q⟩ := x.at_ i r e
    have nb : ∀ a o, B a = none → H a = some o → B' a = none := fun a o h1 h2 => by
      cases q : B' a with
      | none => rfl
      | some u =>
        rcases n.new a (by rw [q]; simp) with z | z
        · exact absurd h1 z
        · rw [h2] at z; cases z
    refine ⟨v, e1, ?_⟩
    cases q with
    | v q => exact .v (q.mono n.sub)
    | ol h1 h2 q => exact .ol (nb _ _ h1 h2) (n.same _ _ h2) (q.mono n.sub)
    | od h1 h2 q => exact .od (nb _ _ h1 h2) (n.same _ _ h2) (q.mono n.sub)
/-- a result: data, or own and new -/
structure Res (mg : Mg) (B H : Hp) (v : V) (r : RV) (B' H' : Hp) : Prop where
  new : New B H B' H'
  rv : RVR mg B' H' v r
  young : ∀ a, r.isOwn = true → v = .ref a → H a = none
theorem Res.v {v : V} {d : DV} (le : Sub B H) (h : Rep mg B v d) : Res mg B H v (.v d) B H := ⟨.refl le, .v h, fun a h => by cases h⟩
theorem Res.opd (x : StR mg B H σ S) {v : V} {r : RV} (q : Res mg B H v r B' H') : Stp mg B H σ S B' H' σ S ∧ OpdR mg B' H' σ S v (.v r) ∧ Young H v (.v r) :=
  ⟨x.step q.new, .v q.rv fun a h1 h2 h3 => x.notOwn (q.young a h1 h2) h3, q.young⟩
end
/-- B holds nothing where H holds nothing: kept by all steps -/
inductive Views (mg : Mg) (B H : Hp) : List V → List DV → Prop
  | nil : Views mg B H [] []
  | cons {v : V} {d : DV} {vs : List V} {ds : List DV} : View mg B H v d → Views mg B H vs ds → Views mg B H (v :: vs) (d :: ds)
def Opd.dvs (S : Sl) : List Opd → Option (List DV)
  | [] => some []
  | o :: os => match o.dv S, Opd.dvs S os with
    | some d, some ds => some (d :: ds)
    | _, _ => none
theorem OpdsR.views {mg : Mg} {B H : Hp} {σ : Sg} {S : Sl} (x : StR mg B H σ S) : ∀ {vs : List V} {os : List Opd} {ds : List DV}, OpdsR mg B H σ S vs os → Opd.dvs S os = some ds → Views mg B H vs ds
  | _, _, _, .nil, e => by cases e; exact .nil
  | _, _, _, .cons (o := o) (os := os) q r, e => by
    unfold Opd.dvs at e
    split at e
    · rename_i d ds h1 h2
      cases e
      exact .cons (q.view x h1) (r.views x h2)
    · cases e
/-- a two-place operation of values is the function F of data -/
def Prim2 (mg : Mg) (r : R2) (F : DV → DV → Option RV) : Prop := ∀ (B H : Hp) (x y : V) (dx dy : DV) (rv : RV) (Q : VK), Sub B H → View mg B H x dx → View mg B H y dy → F dx dy = some rv →
  (∀ v B' H', Res mg B H v rv B' H' → Q v H') → r x y H Q
def PrimN (mg : Mg) (r : List V → Hp → VK → Prop) (F : List DV → Option RV) : Prop := ∀ (B H : Hp) (xs : List V) (ds : List DV) (rv : RV) (Q : VK), Sub B H → Views mg B H xs ds → F ds = some rv →
  (∀ v B' H', Res mg B H v rv B' H' → Q v H') → r xs H Q
def op2 (F : DV → DV → Option RV) (x y : Opd) : M Opd := fun S => match x.dv S, y.dv S with
  | some dx, some dy => match F dx dy with
    | some r => .ok (.v r) S
    | none => .stuck
  | _, _ => .stuck
def opN (F : List DV → Option RV) (xs : List Opd) : M Opd := fun S => match Opd.dvs S xs with
  | some ds => match F ds with
    | some r => .ok (.v r) S
    | none => .stuck
  | none => .stuck
end Lb
/-! Expressions. -/
namespace Lb
open PySem PySem.Spec PyProof.Rows L2
section
variable {mg : Mg} {B H B1 H1 : Hp} {σ σ1 : Sg} {S S1 : Sl}
theorem Stp.free (s : Stp mg B H σ S B1 H1 σ1 S1) {a : Addr} (h : H1 a = none) : H a = none := by
  cases q : H a with
  | none => rfl
  | some o => exact absurd h (s.grow.there a (by rw [q]; simp))
theorem Young.pre (s : Stp mg B H σ S B1 H1 σ1 S1) {v : V} {o : Opd} (y : Young H1 v o) : Young H v o := by
  cases o with
  | v r => exact fun a h e => s.free (y a h e)
  | sl i => trivial
theorem op2_spec {F : DV → DV → Option RV} {x y : Opd} {S : Sl} {K : Opd → Sl → Prop} {E : Str → List (Str × DV) → Sl → Prop} (h : (op2 F x y S).spec K E) :
    ∃ dx dy r, x.dv S = some dx ∧ y.dv S = some dy ∧ F dx dy = some r ∧ K (.v r) S := by
  unfold op2 at h
  split at h
  · rename_i dx dy h1 h2
    split at h
    · rename_i r h3
      exact ⟨dx, dy, r, h1, h2, h3, h⟩
    · exact h.elim
  · exact h.elim
theorem opN_spec {F : List DV → Option RV} {xs : List Opd} {S : Sl} {K : Opd → Sl → Prop} {E : Str → List (Str × DV) → Sl → Prop} (h : (opN F xs S).spec K E) :
    ∃ ds r, Opd.dvs S xs = some ds ∧ F ds = some r ∧ K (.v r) S := by
  unfold opN at h
  split at h
  · rename_i ds h1
    split at h
    · rename_i r h3
      exact ⟨ds, r, h1, h3, h⟩
    · exact h.elim
  · exact h.elim
end
section
variable {X : Cx} {a b c e : Expr} {es : List Expr} {ma mb mc : M Opd} {pos p : Pos}
/-- the last step of a two-place operation -/
theorem op2_end {mg : Mg} {r : R2} {F : DV → DV → Option RV} (hp : Prim2 mg r F) {B H B1 H1 B2 H2 : Hp} {σ : Sg} {S S1 S2 : Sl} {v w : V} {x y : Opd} {Q : VK} {E : Str → List (Str × DV) → Sl → Prop}
    (s : Stp mg B H σ S B1 H1 σ S1) (hs : Has S S1) (or : OpdR mg B1 H1 σ S1 v x) (s2 : Stp mg B1 H1 σ S1 B2 H2 σ S2) (hs2 : Has S1 S2) (or2 : OpdR mg B2 H2 σ S2 w y)
    (q : (op2 F x y S2).spec (fun o S' => ∀ v B' H', Stp mg B H σ S B' H' σ S' → Has S S' → OpdR mg B' H' σ S' v o → Young H v o → Q v H') E) : r v w H2 Q := by
  obtain ⟨dx, dy, rv, hx, hy, hF, q⟩ := op2_spec q
  have or' := or.step s2 hs2
  refine hp B2 H2 v w dx dy rv Q s2.st.le (or'.view s2.st hx) (or2.view s2.st hy) hF fun v' B' H' res => ?_
  obtain ⟨s3, opd, yg⟩ := res.opd s2.st
  exact q v' B' H' ((s.trans s2).trans s3) (hs.trans hs2) opd ((yg.pre s2).pre s)
theorem px_op2 {op : Operator} {r : R2} {F : DV → DV → Option RV} (ho : OpR X (binaryOp op) r) (hp : Prim2 X.mg r F) (ha : PX X a ma) (hb : PX X b mb) :
    PX X (.BinOp a op b pos) (M.bind ma fun x => M.bind mb fun y => op2 F x y) := fun W tk => PE.imp (pe_op ho (ha W tk) (hb W tk)) fun σ H Q ⟨B, S, st, q⟩ =>
  ⟨B, S, st, (spec_bind.mp q).imp (fun x S1 _ q v B1 H1 s hs or _ => ⟨B1, S1, s.st, (spec_bind.mp q).imp (fun y S2 _ q w B2 H2 s2 hs2 or2 _ =>
    op2_end hp s hs or s2 hs2 or2 q) fun _ _ _ h => h.pre s⟩) fun _ _ _ h => h⟩
theorem px_cmp {op : CmpOp} {r : R2} {F : DV → DV → Option RV} (ho : OpR X (compareOp op) r) (hp : Prim2 X.mg r F) (ha : PX X a ma) (hb : PX X b mb) (hm : behindInMarks op b = false) :
    PX X (.Compare a [op] [b] pos) (M.bind ma fun x => M.bind mb fun y => op2 F x y) := fun W tk => PE.imp (pe_cmpR ho (ha W tk) (hb W tk) hm) fun σ H Q ⟨B, S, st, q⟩ =>
  ⟨B, S, st, (spec_bind.mp q).imp (fun x S1 _ q v B1 H1 s hs or _ => ⟨B1, S1, s.st, (spec_bind.mp q).imp (fun y S2 _ q w B2 H2 s2 hs2 or2 _ =>
    op2_end hp s hs or s2 hs2 or2 q) fun _ _ _ h => h.pre s⟩) fun _ _ _ h => h⟩
/-- a comparison whose answer is a truth -/
def cmpB (F : DV → DV → Option Bool) (x y : Opd) : M Bool := fun S => match x.dv S, y.dv S with
  | some dx, some dy => match F dx dy with
    | some r => .ok r S
    | none => .stuck
  | _, _ => .stuck
def rvB (F : DV → DV → Option Bool) : DV → DV → Option RV := fun x y => (F x y).map fun b => .v (.bl b)
theorem cmpB_op2 {F : DV → DV → Option Bool} {x y : Opd} {S : Sl} {K : Bool → Sl → Prop} {E : Str → List (Str × DV) → Sl → Prop} (h : (cmpB F x y S).spec K E) :
    (op2 (rvB F) x y S).spec (fun o S' => ∃ b, o = .v (.v (.bl b)) ∧ K b S') E := by
  unfold cmpB at h
  unfold op2 rvB
  split at h
  · rename_i dx dy h1 h2
    try rw [h1, h2]
    try dsimp only
    cases h3 : F dx dy with
    | none => rw [h3] at h; exact h.elim
    | some r =>
      rw [h3] at h
      exact ⟨r, rfl, h⟩
  · exact h.elim
theorem bx_cmp {op : CmpOp} {r : R2} {F : DV → DV → Option Bool} (ho : OpR X (compareOp op) r) (hp : Prim2 X.mg r (rvB F)) (ha : PX X a ma) (hb : PX X b mb) (hm : behindInMarks op b = false) :
    BX X (.Compare a [op] [b] pos) (M.bind ma fun x => M.bind mb fun y => cmpB F x y) := fun W tk => PT.imp (pt_cmpR ho (ha W tk) (hb W tk) hm) fun σ H Q ⟨B, S, st, q⟩ =>
  ⟨B, S, st, (spec_bind.mp q).imp (fun x S1 _ q v B1 H1 s hs or _ => ⟨B1, S1, s.st, (spec_bind.mp q).imp (fun y S2 _ q w B2 H2 s2 hs2 or2 _ =>
    op2_end (E := xPost X.mg W B H σ S) hp s hs or s2 hs2 or2 ((cmpB_op2 q).imp (fun o S' _ ⟨b, eo, k⟩ v B' H' s' hs' or' _ => by
      subst eo
      cases or' with
      | v qv _ =>
        cases qv with
        | v qv =>
          cases qv
          exact ⟨b, rfl, k B' H' s' hs'⟩) fun _ _ _ h => h)) fun _ _ _ h => h.pre s⟩) fun _ _ _ h => h⟩
/-! ### calls of built-ins -/
theorem opN_end {mg : Mg} {r : List V → Hp → VK → Prop} {F : List DV → Option RV} (hp : PrimN mg r F) {B H B1 H1 : Hp} {σ : Sg} {S S1 : Sl} {vs : List V} {xs : List Opd} {Q : VK} {E : Str → List (Str × DV) → Sl → Prop}
    (s : Stp mg B H σ S B1 H1 σ S1) (hs : Has S S1) (or : OpdsR mg B1 H1 σ S1 vs xs)
    (q : (opN F xs S1).spec (fun o S' => ∀ v B' H', Stp mg B H σ S B' H' σ S' → Has S S' → OpdR mg B' H' σ S' v o → Young H v o → Q v H') E) : r vs H1 Q := by
  obtain ⟨ds, rv, hx, hF, q⟩ := opN_spec q
  refine hp B1 H1 vs ds rv Q s.st.le (or.views s.st hx) hF fun v' B' H' res => ?_
  obtain ⟨s3, opd, yg⟩ := res.opd s.st
  exact q v' B' H' (s.trans s3) hs opd (yg.pre s)
variable {x : Str} {id T : String} {r : List V → Hp → VK → Prop} {F : List DV → Option RV} {ms : M (List Opd)}
theorem px_callB (hc : CallR X (.builtin id) r) (hp : PrimN X.mg r F) (hg : Gl X x) (hm : X.mg x = none) (hv : bootBuiltins x = some (.builtin id)) (ha : OXs X (e :: es) ms) (hn : x ≠ "__name__" := by decide) (hdb : (x == ("__debug__" : Str)) = false := by decide)
    (he : starEach (e :: es) X.env = (false, eval e X.env) :: starEach es X.env := by rfl) (hpl : (backTo pos (starEach es X.env)).any (·.1) = false := by rfl) :
    PX X (.Call (.Name x p) (e :: es) [] pos) (M.bind ms (opN F)) := fun W tk => PE.imp (pe_callB hc hg hm hv (ha W tk) hn hdb he hpl) fun σ H Q ⟨B, S, st, q⟩ =>
  ⟨B, S, st, (spec_bind.mp q).imp (fun xs S1 _ q vs B1 H1 s hs or => opN_end hp s hs or q) fun _ _ _ h => h⟩
theorem px_callTy (hc : CallR X (.type T) r) (hp : PrimN X.mg r F) (hg : Gl X x) (hm : X.mg x = none) (hv : bootBuiltins x = some (.type T)) (ha : OXs X (e :: es) ms) (hn : x ≠ "__name__" := by decide) (hdb : (x == ("__debug__" : Str)) = false := by decide)
    (he : starEach (e :: es) X.env = (false, eval e X.env) :: starEach es X.env := by rfl) (hpl : (backTo pos (starEach es X.env)).any (·.1) = false := by rfl) :
    PX X (.Call (.Name x p) (e :: es) [] pos) (M.bind ms (opN F)) := fun W tk => PE.imp (pe_callTy hc hg hm hv (ha W tk) hn hdb he hpl) fun σ H Q ⟨B, S, st, q⟩ =>
  ⟨B, S, st, (spec_bind.mp q).imp (fun xs S1 _ q vs B1 H1 s hs or => opN_end hp s hs or q) fun _ _ _ h => h⟩
/-! ### displays -/
def mkL (ds : List DV) : M Opd := fun S => if ds.length ≤ sizeLine then .ok (.v (.ol false ds)) S else .stuck
def mkT (ds : List DV) : M Opd := fun S => if ds.length ≤ sizeLine then .ok (.v (.v (.tup ds))) S else .stuck
variable {fs : M (List DV)}
theorem if_spec {α : Type} {c : Prop} [Decidable c] {a : Out α} {K : α → Sl → Prop} {E : Str → List (Str × DV) → Sl → Prop} (h : (if c then a else Out.stuck).spec K E) : c ∧ a.spec K E := by
  split at h
  · exact ⟨by assumption, h⟩
  · exact h.elim
theorem px_lst (ha : FXs X es fs) : PX X (.List es pos) (M.bind fs mkL) := fun W tk => PE.imp (pe_lst (ha W tk)) fun σ H Q ⟨B, S, st, q⟩ =>
  ⟨B, S, st, (spec_bind.mp q).imp (fun ds S1 _ q vs B1 H1 s hs r => by
    obtain ⟨hl, q⟩ := if_spec q
    refine ⟨by rw [r.length]; exact hl, fun a ha => ?_⟩
    have res : Res X.mg B1 H1 (.ref a) (.ol false ds) B1 (upd H1 a (.lst vs)) := ⟨.own s.st.le ha, .ol (s.st.le.none ha) upd_same r, fun b _ e => by cases e; exact ha⟩
    obtain ⟨s3, opd, yg⟩ := res.opd s.st
    exact q _ _ _ (s.trans s3) hs opd (yg.pre s)) fun _ _ _ h => h⟩
theorem px_tup {k : Nat} (ha : FXs X es fs) : PX X (.Tuple es k pos) (M.bind fs mkT) := fun W tk => PE.imp (pe_tup (ha W tk)) fun σ H Q ⟨B, S, st, q⟩ =>
  ⟨B, S, st, (spec_bind.mp q).imp (fun ds S1 _ q vs B1 H1 s hs r => by
    obtain ⟨hl, q⟩ := if_spec q
    refine ⟨by rw [r.length]; exact hl, fun a ha => ?_⟩
    have n : New B1 H1 (upd B1 a (.tup vs)) (upd H1 a (.tup vs)) := .alloc s.st.le ha
    have res : Res X.mg B1 H1 (.ref a) (.v (.tup ds)) (upd B1 a (.tup vs)) (upd H1 a (.tup vs)) := ⟨n, .v (.tup upd_same (r.mono n.sub)), fun b h => by cases h⟩
    obtain ⟨s3, opd, yg⟩ := res.opd s.st
    exact q _ _ _ (s.trans s3) hs opd (yg.pre s)) fun _ _ _ h => h⟩
/-! ### truth -/
def truDV : DV → Option Bool
  | .non => some false
  | .bl b => some b
  | .int i => some (i != 0)
  | .str x => if x.length ≤ sizeLine then some (x.length != 0) else none
  | .lst ds => some (!ds.isEmpty)
  | .tup ds => some (!ds.isEmpty)
  | .dct ds => some (!ds.isEmpty)
  | .ins _ _ => none
  | .scr _ => none
  | .exn _ _ => none
def tru (o : Opd) : M Bool := fun S => match o.dv S with
  | some d => match truDV d with
    | some b => .ok b S
    | none => .stuck
  | none => .stuck
theorem reps_isEmpty {mg : Mg} {B : Hp} {xs : List V} {ds : List DV} (r : Reps mg B xs ds) : xs.isEmpty = ds.isEmpty := by cases r <;> rfl
theorem repk_isEmpty {mg : Mg} {B : Hp} {xs : List (Key × V)} {ds : List (Key × DV)} (r : RepK mg B xs ds) : xs.isEmpty = ds.isEmpty := by cases r <;> rfl
end
end Lb
/-! Statements. -/
namespace Lb
open PySem PySem.Spec PyProof.Rows L2
inductive SOut where
  | stuck
  | nx (S : Sl)
  | rt (o : Opd) (S : Sl)
  | bk (S : Sl)
  | ct (S : Sl)
  | exc (c : Str) (fs : List (Str × DV)) (S : Sl)
abbrev SM := Sl → SOut
def SOut.spec (o : SOut) (N : Sl → Prop) (R : Opd → Sl → Prop) (Bk Ct : Sl → Prop) (E : Str → List (Str × DV) → Sl → Prop) : Prop := match o with
  | .stuck => False
  | .nx S => N S
  | .rt o S => R o S
  | .bk S => Bk S
  | .ct S => Ct S
  | .exc c fs S => E c fs S
theorem SOut.spec.imp {o : SOut} {N N' : Sl → Prop} {R R' : Opd → Sl → Prop} {Bk Bk' Ct Ct' : Sl → Prop} {E E' : Str → List (Str × DV) → Sl → Prop} (h : o.spec N R Bk Ct E)
    (a : ∀ S, N S → N' S) (b : ∀ o S, R o S → R' o S) (c : ∀ S, Bk S → Bk' S) (d : ∀ S, Ct S → Ct' S) (e : ∀ c fs S, E c fs S → E' c fs S) : o.spec N' R' Bk' Ct' E' := by
  cases o with
  | stuck => exact h
  | nx S => exact a S h
  | rt o S => exact b o S h
  | bk S => exact c S h
  | ct S => exact d S h
  | exc k fs S => exact e k fs S h
def SM.seq (m k : SM) : SM := fun S => match m S with
  | .nx S' => k S'
  | o => o
/-- an expression ahead of a statement -/
def M.thn {α : Type} (m : M α) (k : α → SM) : SM := fun S => match m S with
  | .stuck => .stuck
  | .ok a S' => k a S'
  | .exc c fs S' => .exc c fs S'
theorem spec_seq {m k : SM} {S : Sl} {N : Sl → Prop} {R : Opd → Sl → Prop} {Bk Ct : Sl → Prop} {E : Str → List (Str × DV) → Sl → Prop} : (SM.seq m k S).spec N R Bk Ct E ↔ (m S).spec (fun S1 => (k S1).spec N R Bk Ct E) R Bk Ct E := by
  unfold SM.seq
  cases m S <;> exact Iff.rfl
theorem spec_thn {α : Type} {m : M α} {k : α → SM} {S : Sl} {N : Sl → Prop} {R : Opd → Sl → Prop} {Bk Ct : Sl → Prop} {E : Str → List (Str × DV) → Sl → Prop} : (M.thn m k S).spec N R Bk Ct E ↔ (m S).spec (fun a S1 => (k a S1).spec N R Bk Ct E) E := by
  unfold M.thn
  cases m S <;> exact Iff.rfl
def tS (mg : Mg) (m : SM) (W : WX) : TS := fun D σ H => ∃ B S, StR mg B H σ S ∧ (m S).spec
  (fun S' => ∀ B' H' σ', Stp mg B H σ S B' H' σ' S' → D.nx σ' H')
  (fun o S' => ∀ v B' H' σ', Stp mg B H σ S B' H' σ' S' → OpdR mg B' H' σ' S' v o → Young H v o → D.rt v H')
  (fun S' => ∀ B' H' σ', Stp mg B H σ S B' H' σ' S' → D.bk σ' H')
  (fun S' => ∀ B' H' σ', Stp mg B H σ S B' H' σ' S' → D.ct σ' H')
  (xPost mg W B H σ S)
abbrev Ps (X : Cx) : Prop := PassesOwn (model X.prog X.w) X.A X.env X.xe
def SX (X : Cx) (st : Stmt) (m : SM) : Prop := ∀ W, Takes X W → Ps X → PS X st (tS X.mg m W)
def SXs (X : Cx) (st : List Stmt) (m : SM) : Prop := ∀ W, Takes X W → Ps X → PSs X st (tS X.mg m W)
def SM.nil : SM := fun S => .nx S
/-- what is wanted, told from a later state on -/
theorem tS_pre {mg : Mg} {W : WX} {D : Ends} {B H B1 H1 : Hp} {σ σ1 : Sg} {S S1 : Sl} {o : SOut} (s : Stp mg B H σ S B1 H1 σ1 S1)
    (h : o.spec (fun S' => ∀ B' H' σ', Stp mg B H σ S B' H' σ' S' → D.nx σ' H') (fun o S' => ∀ v B' H' σ', Stp mg B H σ S B' H' σ' S' → OpdR mg B' H' σ' S' v o → Young H v o → D.rt v H')
      (fun S' => ∀ B' H' σ', Stp mg B H σ S B' H' σ' S' → D.bk σ' H') (fun S' => ∀ B' H' σ', Stp mg B H σ S B' H' σ' S' → D.ct σ' H') (xPost mg W B H σ S)) :
    o.spec (fun S' => ∀ B' H' σ', Stp mg B1 H1 σ1 S1 B' H' σ' S' → D.nx σ' H') (fun o S' => ∀ v B' H' σ', Stp mg B1 H1 σ1 S1 B' H' σ' S' → OpdR mg B' H' σ' S' v o → Young H1 v o → D.rt v H')
      (fun S' => ∀ B' H' σ', Stp mg B1 H1 σ1 S1 B' H' σ' S' → D.bk σ' H') (fun S' => ∀ B' H' σ', Stp mg B1 H1 σ1 S1 B' H' σ' S' → D.ct σ' H') (xPost mg W B1 H1 σ1 S1) :=
  h.imp (fun S k B' H' σ' s' => k B' H' σ' (s.trans s')) (fun o S k v B' H' σ' s' r y => k v B' H' σ' (s.trans s') r (y.pre s)) (fun S k B' H' σ' s' => k B' H' σ' (s.trans s')) (fun S k B' H' σ' s' => k B' H' σ' (s.trans s')) fun c fs S k => k.pre s
section
variable {X : Cx} {st : Stmt} {rest body orelse : List Stmt} {m k : SM} {e : Expr} {me : M Opd} {pos : Pos}
theorem sxs_nil : SXs X [] SM.nil := fun W tk pp => PSs.imp pss_nil fun D σ H ⟨B, S, x, q⟩ => q B H σ (.refl x)
theorem sxs_cons (h1 : SX X st m) (h2 : SXs X rest k) : SXs X (st :: rest) (SM.seq m k) := fun W tk pp => PSs.imp (pss_cons (h1 W tk pp) (h2 W tk pp)) fun D σ H ⟨B, S, x, q⟩ =>
  ⟨B, S, x, (spec_seq.mp q).imp (fun S1 q B1 H1 σ1 s => ⟨B1, S1, s.st, tS_pre s q⟩) (fun _ _ h => h) (fun _ h => h) (fun _ h => h) fun _ _ _ h => h⟩
theorem sxs_one (h1 : SX X st m) : SXs X [st] m := fun W tk pp => pss_one (h1 W tk pp)
theorem sx_pass : SX X (.Pass pos) SM.nil := fun W tk pp => PS.imp ps_pass fun D σ H ⟨B, S, x, q⟩ => q B H σ (.refl x)
theorem sx_break : SX X (.Break pos) (fun S => .bk S) := fun W tk pp => PS.imp ps_break fun D σ H ⟨B, S, x, q⟩ => q B H σ (.refl x)
theorem sx_continue : SX X (.Continue pos) (fun S => .ct S) := fun W tk pp => PS.imp ps_continue fun D σ H ⟨B, S, x, q⟩ => q B H σ (.refl x)
theorem sx_expr (he : PX X e me) (hs : swapsWith e none pos.line X.env = pure false := by rfl) : SX X (.Expr e pos) (M.thn me fun _ => SM.nil) := fun W tk pp => PS.imp (ps_expr (he W tk) hs) fun D σ H ⟨B, S, x, q⟩ =>
  ⟨B, S, x, (spec_thn.mp q).imp (fun o S1 _ q v B1 H1 s hs r y => q B1 H1 σ s) fun _ _ _ h => h⟩
theorem sx_ret (he : PX X e me) : SX X (.Return (some e) pos) (M.thn me fun o S => .rt o S) := fun W tk pp => PS.imp (ps_ret (he W tk)) fun D σ H ⟨B, S, x, q⟩ =>
  ⟨B, S, x, (spec_thn.mp q).imp (fun o S1 _ q v B1 H1 s hs r y => q v B1 H1 σ s r y) fun _ _ _ h => h⟩
theorem sx_retN : SX X (.Return none pos) (fun S => .rt (.v (.v .non)) S) := fun W tk pp => PS.imp ps_retN fun D σ H ⟨B, S, x, q⟩ =>
  q .non B H σ (.refl x) (.v (.v .non) fun a h => by cases h) fun a h => by cases h
variable {t : Expr} {mt : M Bool} {ma mb : SM}
theorem sx_if (ht : BX X t mt) (ha : SXs X body ma) (hb : SXs X orelse mb) : SX X (.If t body orelse pos) (M.thn mt fun b => if b then ma else mb) := fun W tk pp => PS.imp (ps_if (ht W tk) (ha W tk pp) (hb W tk pp)) fun D σ H ⟨B, S, x, q⟩ =>
  ⟨B, S, x, (spec_thn.mp q).imp (fun b S1 _ q B1 H1 s hs => by
    cases b with
    | true => exact ⟨B1, S1, s.st, tS_pre s q⟩
    | false => exact ⟨B1, S1, s.st, tS_pre s q⟩) fun _ _ _ h => h⟩
end
/-! ### a slot is set -/
section
variable {mg : Mg} {B H B0 H0 B1 H1 : Hp} {σ σ0 : Sg} {S S0 S1 S2 : Sl} {v : V} {r : RV} {i : Nat}
theorem set_len {α : Type} {l : List α} {i : Nat} {x : α} : (l.set i x).length = l.length := List.length_set ..
theorem sig_set_cases {σ : Sg} {i j : Nat} {x : Option V} {y : V} (h : (σ.set i x)[j]? = some (some y)) : (j = i ∧ x = some y) ∨ (j ≠ i ∧ σ[j]? = some (some y)) := by
  by_cases hj : i = j
  · subst hj
    by_cases hl : i < σ.length
    · rw [List.getElem?_set_self hl] at h; exact .inl ⟨rfl, Option.some.inj h⟩
    · rw [List.getElem?_eq_none (by simpa using hl)] at h; cases h
  · rw [List.getElem?_set_ne hj] at h; exact .inr ⟨fun z => hj z.symm, h⟩
/-- a value goes into a slot that was not handed in -/
theorem Stp.set (s : Stp mg B0 H0 σ0 S0 B H σ S) (q : RVR mg B H v r) (n : ∀ a, r.isOwn = true → v = .ref a → ¬ OwnA σ S a) (y : ∀ a, r.isOwn = true → v = .ref a → H0 a = none) (hp : ¬ PinAt S i) (hr : r.isPin = false) :
    Stp mg B0 H0 σ0 S0 B H (σ.set i (some v)) (S.set i (some r)) := by
  have own : ∀ j a, OwnAt (σ.set i (some v)) (S.set i (some r)) j a → (j = i ∧ r.isOwn = true ∧ v = .ref a) ∨ (j ≠ i ∧ OwnAt σ S j a) := fun j a ⟨⟨r', e1, h1⟩, e2⟩ => by
    rcases set_some_cases e1 with ⟨g1, g2⟩ | ⟨g1, g2⟩
    · rcases sig_set_cases e2 with ⟨_, g4⟩ | ⟨g3, _⟩
      · cases g2; cases g4
        exact .inl ⟨g1, h1, rfl⟩
      · exact absurd g1 g3
    · rcases sig_set_cases e2 with ⟨g3, _⟩ | ⟨g3, g4⟩
      · exact absurd g3 g1
      · exact .inr ⟨g1, ⟨r', g2, h1⟩, g4⟩
  refine ⟨s.grow, ⟨s.st.le, by rw [set_len, set_len]; exact s.st.len, fun j r' e => ?_, fun j k a h1 h2 => ?_⟩, fun a ⟨j, h⟩ => ?_, fun j hj => ?_, set_len.trans s.len⟩
  · rcases set_some_cases e with ⟨g1, g2⟩ | ⟨g1, g2⟩
    · cases g2
      subst g1
      have hl : j < σ.length := by
        rw [s.st.len]
        have := (List.getElem?_eq_some_iff.mp e).1
        rw [set_len] at this
        exact this
      exact ⟨v, List.getElem?_set_self hl, q⟩
    · obtain ⟨w, e1, q'⟩ := s.st.at_ j r' g2
      exact ⟨w, by rw [List.getElem?_set_ne (Ne.symm g1)]; exact e1, q'⟩
  · rcases own j a h1 with ⟨a1, a2, a3⟩ | ⟨a1, a2⟩
    · rcases own k a h2 with ⟨b1, b2, b3⟩ | ⟨b1, b2⟩
      · rw [a1, b1]
      · exact absurd ⟨k, b2⟩ (n a ‹_› ‹_›)
    · rcases own k a h2 with ⟨b1, b2, b3⟩ | ⟨b1, b2⟩
      · exact absurd ⟨j, a2⟩ (n a ‹_› ‹_›)
      · exact s.st.dis j k a a2 b2
  · rcases own j a h with ⟨a1, a2, a3⟩ | ⟨a1, a2⟩
    · exact .inr (y a a2 a3)
    · exact s.own a ⟨j, a2⟩
  · obtain ⟨h1, h2⟩ := s.pin j hj
    have nj : j ≠ i := fun z => hp (z ▸ h1)
    obtain ⟨r', h3, h4⟩ := h1
    exact ⟨⟨r', by rw [set_other nj]; exact h3, h4⟩, by rw [List.getElem?_set_ne (Ne.symm nj)]; exact h2⟩
/-- an own list in a slot is changed -/
theorem Stp.mutL (s : Stp mg B0 H0 σ0 S0 B H σ S) {a : Addr} {p : Bool} {ds ds' : List DV} {xs' : List V} (e : S[i]? = some (some (.ol p ds))) (ev : σ[i]? = some (some (.ref a))) (q : Reps mg B xs' ds') :
    Stp mg B0 H0 σ0 S0 B (upd H a (.lst xs')) σ (S.set i (some (.ol p ds'))) := by
  have oi : OwnAt σ S i a := ⟨⟨_, e, rfl⟩, ev⟩
  have na : B a = none := s.st.noB ⟨i, oi⟩
  have il : i < S.length := (List.getElem?_eq_some_iff.mp e).1
  have hth : H a ≠ none := by
    obtain ⟨v, e1, q⟩ := s.st.at_ i _ e
    rw [ev] at e1; cases e1
    cases q with
    | ol _ h _ => rw [h]; simp
  have own : ∀ j b, OwnAt σ (S.set i (some (.ol p ds'))) j b → OwnAt σ S j b := fun j b ⟨⟨r', e1, h1⟩, e2⟩ => by
    rcases set_some_cases e1 with ⟨g1, g2⟩ | ⟨g1, g2⟩
    · subst g1; exact ⟨⟨_, e, rfl⟩, e2⟩
    · exact ⟨⟨r', g2, h1⟩, e2⟩
  have le : Sub B (upd H a (.lst xs')) := ⟨fun b u h sl => by
      have hb : b ≠ a := fun z => by subst z; rw [na] at h; cases h
      rw [upd_ne hb]; exact s.st.le.keep b u h sl,
    fun b u r => by
      have hb : b ≠ a := fun z => by subst z; rcases r with r | ⟨_, r⟩ <;> rw [na] at r <;> cases r
      unfold Rd; rw [upd_ne hb]; exact s.st.le.rd b u r⟩
  have om : OwnA σ0 S0 a ∨ H0 a = none := s.own a ⟨i, oi⟩
  refine ⟨⟨s.grow.sub, fun b o h n => ?_, fun b h => ?_, s.grow.new⟩, ⟨le, by rw [set_len]; exact s.st.len, fun j r' e1 => ?_, fun j k b h1 h2 => s.st.dis j k b (own j b h1) (own k b h2)⟩, fun b ⟨j, h⟩ => s.own b ⟨j, own j b h⟩, fun j hj => ?_, set_len.trans s.len⟩
  · have hb : b ≠ a := fun z => by
      subst z
      rcases om with z | z
      · exact n z
      · rw [z] at h; cases h
    rw [upd_ne hb]; exact s.grow.keep b o h n
  · by_cases hb : b = a
    · subst hb; rw [upd_same]; simp
    · rw [upd_ne hb]; exact s.grow.there b h
  · rcases set_some_cases e1 with ⟨g1, g2⟩ | ⟨g1, g2⟩
    · cases g2
      subst g1
      exact ⟨.ref a, ev, .ol na upd_same q⟩
    · obtain ⟨w, e2, q'⟩ := s.st.at_ j r' g2
      refine ⟨w, e2, ?_⟩
      cases q' with
      | v q' => exact .v q'
      | @ol b p' ys es h1 h2 q' =>
        have hb : b ≠ a := fun z => g1 (s.st.dis j i a ⟨⟨_, g2, rfl⟩, z ▸ e2⟩ oi)
        exact .ol h1 (by rw [upd_ne hb]; exact h2) q'
      | @od b p' ys es h1 h2 q' =>
        have hb : b ≠ a := fun z => g1 (s.st.dis j i a ⟨⟨_, g2, rfl⟩, z ▸ e2⟩ oi)
        exact .od h1 (by rw [upd_ne hb]; exact h2) q'
  · obtain ⟨⟨r', h1, h2⟩, h3⟩ := s.pin j hj
    refine ⟨?_, h3⟩
    by_cases nj : j = i
    · subst nj
      rw [e] at h1; cases h1
      exact ⟨_, List.getElem?_set_self il, h2⟩
    · exact ⟨r', by rw [set_other nj]; exact h1, h2⟩
end
/-- a name is stored -/
def stores (i : Nat) (r : RV) : SM := fun S => match S[i]? with
  | none => .stuck
  | some x => if (x.map RV.isPin).getD false || r.isPin then .stuck else .nx (S.set i (some r))
def setSl (i : Nat) (o : Opd) : SM := match o with
  | .v r => stores i r
  | .sl j => M.thn (frz (.sl j)) fun d => stores i (.v d)
theorem stores_spec {i : Nat} {r : RV} {S : Sl} {N : Sl → Prop} {R : Opd → Sl → Prop} {Bk Ct : Sl → Prop} {E : Str → List (Str × DV) → Sl → Prop} (h : (stores i r S).spec N R Bk Ct E) : ¬ PinAt S i ∧ r.isPin = false ∧ N (S.set i (some r)) := by
  unfold stores at h
  cases e : S[i]? with
  | none => rw [e] at h; exact h.elim
  | some x =>
    rw [e] at h
    dsimp only at h
    split at h
    · exact h.elim
    · rename_i hn
      simp only [Bool.not_eq_true, Bool.or_eq_false_iff] at hn
      refine ⟨fun ⟨r', h1, h2⟩ => ?_, hn.2, h⟩
      rw [e] at h1; cases h1
      have := hn.1
      simp only [Option.map_some, Option.getD_some] at this
      rw [this] at h2; cases h2
section
variable {X : Cx} {e : Expr} {me : M Opd} {pos pos' : Pos}
theorem sx_set (i : Nat) {x : Str} (hN : X.N.Nodup) (hi : X.N[i]? = some x) (hx : Loc X.env.scope x) (he : PX X e me) (hs : swapsWith e (some (.Name x pos')) pos.line X.env = pure false := by rfl)
    (hf : X.fn x = true ∨ X.env.scope.names.lookup x = some .local := by first | exact .inl rfl | exact .inr rfl | assumption) :
    SX X (.Assign [.Name x pos'] e pos) (M.thn me (setSl i)) := fun W tk pp => PS.imp (ps_set hN hi hx (he W tk) hs hf) fun D σ H ⟨B, S, x, q⟩ =>
  ⟨B, S, x, (spec_thn.mp q).imp (fun o S1 _ q v B1 H1 s hs r y => by
    cases r with
    | v r n =>
      obtain ⟨h1, h2, k⟩ := stores_spec q
      exact k B1 H1 _ (s.set r n y h1 h2)
    | @sl j e1 hr =>
      refine (spec_thn.mp q : (frz (.sl j) S1).spec _ _) |> fun q => ?_
      cases ef : frz (.sl j) S1 with
      | stuck => rw [ef] at q; exact q.elim
      | exc c fs S' => exact (frz_noexc ef).elim
      | ok d S2 =>
        rw [ef] at q
        obtain ⟨B2, s2, _, rep⟩ := frz_ok s hs (.sl e1 hr) trivial ef
        obtain ⟨h1, h2, k⟩ := stores_spec q
        exact k B2 H1 _ (s2.set (.v rep) (fun a h => by cases h) (fun a h => by cases h) h1 h2)) fun _ _ _ h => h⟩
end
end Lb
/-! Defs that are called while nothing is being told by repr. -/
namespace Lb
open PySem PySem.Spec PyProof.Rows L2
structure FnG (P : Program) (w : World) (K : PySem.W.Frag) (mg : Mg) (base : Heap) (CX : CXT) (k : Nat) (f : Addr) (fd : FuncData) (ps : List Str) (sp : Sp) : Prop where
  len : ∀ vs H Q E, sp vs H Q E → vs.length = ps.length
  run : ∀ (A : Around) (outer : List Env) (s : Shared) (H : Hp) (args : Args) (us : List Value) (vs : List V) (Q : VK) (E : XK), Room k A → A.guards = some [] → Env0 P w K mg base A outer s H → BindsTo s fd args (ps.zip us) → Vals vs us →
    sp vs H Q E → codeAny (model P w) A (.call (.ref f) args) (CR CX outer P w H s Q E) s
section
variable {P : Program} {w : World} {K : PySem.W.Frag} {mg : Mg} {base : Heap} {CX : CXT} {k : Nat} {x qual : Str} {st : Stmt} {f : Addr} {fd : FuncData} {N ps : List Str} {sp : Sp}
theorem guards_deeper {A : Around} {env : Env} (h : A.guards = some []) : (A.deeper env).guards = some [] := h
theorem guards_make {A : Around} (h : A.guards = some []) (C : Addr) (us : List Value) (kw : List (Str × Value)) : (A.under (.builtin "type.__call__" ⟨.ref C :: us, kw⟩)).guards = some [] := by
  have e : guardIds.contains "type.__call__" = false := by decide +kernel
  have e2 : (Code.builtin "type.__call__" ⟨.ref C :: us, kw⟩).isGuard = false := e
  simp [Around.under, Code.guards, pushGuards, e2, h]
theorem okG (F : Fun K x qual st f fd) (S : FnScope N ps (defScope st)) (len : ∀ vs H Q E, sp vs H Q E → vs.length = ps.length)
    (hbody : ∀ (cdv : Value) (A : Around) (outer : List Env) (s : Shared) (H : Hp) (vs : List V) (Q : VK) (E : XK), Room k (A.deeper (envOfC qual (defScope st) s.heap.objs.size f cdv)) → A.guards = some [] → sp vs H Q E →
      ∃ t, PSs (cxOf CX P w K mg base N qual (defScope st) f cdv A outer s H E) (defBody st) t ∧ t { nx := fun _ H' => Q .non H', rt := Q } (start N vs) H) : FnG P w K mg base CX (k + 1) f fd ps sp := by
  obtain ⟨oc, od, kV, doc, pm, an, cdv, ct, osl, rfl, lk, hcd⟩ := F.ex
  refine ⟨len, fun A outer s H args us vs Q E hr hg e0 hb r hsp => ?_⟩
  have grown : ∀ b o, base.get? b = some o → s.heap.get? b = some o := fun b o e => (e0.bs b o e).1
  have KX := e0.mod.kin.keeps grown
  have lim := e0.mod.nolimit.keeps grown
  have kinds : ∀ y ∈ ps.zip us, (defScope st).names.lookup y.1 = some .local ∨ ((defScope st).names.lookup y.1 = some .cell ∧ ((cellsFrom (s.heap.objs.size + 1) (defScope st).names []).lookup y.1).isSome = true) := fun ⟨n, v⟩ hy =>
    (S.par n (List.of_mem_zip hy).1).imp id fun q => ⟨q, PySem.W.cellsFrom_some _ _ _ (.inl q)⟩
  refine codeAny_call_function hr.depth (KX _ _ lk) rfl S.co S.gen rfl (PySem.W.codeRec_of KX hcd) (hb _ _ _ _ (wpAny_newFunctionEnv_cells S.kind kinds fun env he s1 xx => ?_))
  subst he
  obtain ⟨t, ht, hq⟩ := hbody cdv A outer s H vs Q E (hr.deeper _) hg hsp
  have I := inv_start (CX := CX) (E := E) S hr.hd e0 (len _ _ _ _ hsp) r xx
  refine ⟨lim.keeps xx.toInCall.keep, codeAny_func (wpAny_mono (ht.run [] s1 (start N vs) H _ I hq) (fun fl s' hs => ?_) fun e s' hs => hs)⟩
  cases fl with
  | ret u =>
    obtain ⟨v, σ', H', J, rv, q⟩ := hs
    exact ⟨v, H', J.os, J.bare, J.base, J.hok, rv, q⟩
  | next =>
    obtain ⟨σ', H', J, q⟩ := hs
    exact ⟨V.non, H', J.os, J.bare, J.base, J.hok, rfl, q⟩
  | brk => obtain ⟨_, _, _, q⟩ := hs; exact q.elim
  | cont => obtain ⟨_, _, _, q⟩ := hs; exact q.elim
end
section
variable {X : Cx} {CX : CXT} {k : Nat} {f : Addr} {fd : FuncData} {ps : List Str} {sp : Sp} {E : Sg → XK} {x : Str} {p pos : Pos} {e : Expr} {es : List Expr} {t : TA}
theorem run_g {pins : List (Addr × Obj)} {σ : Sg} {H : Hp} {s : Shared} {Q : VK} {us : List Value} {vs : List V} (F : FnG X.prog X.w X.K X.mg X.base CX k f fd ps sp) (hr : Room k X.A) (hgd : X.A.guards = some []) (hb : Binds X.K fd ps []) (hx : PassesAt CX X σ (E σ))
    (I : Inv X pins σ H s) (r : Vals vs us) (h : sp vs H Q (E σ)) : wpAny (model X.prog X.w) X.A (call (.ref f) us) (EP X pins σ Q) X.xe s := by
  have b := hb s us I.kIn (by rw [List.append_nil, ← r.length]; exact F.len _ _ _ _ h)
  rw [List.append_nil] at b
  refine wpAny_call (codeAny_mono (F.run X.A X.stack s H ⟨us, []⟩ us vs Q (E σ) hr hgd I.env0 b r h) fun r s' hq => ?_)
  cases r with
  | error e => exact hx pins H s e s' I hq
  | ok fl =>
    cases fl with
    | ret u => exact I.after hq
    | next => exact hq.elim
    | brk => exact hq.elim
    | cont => exact hq.elim
theorem pe_callG (F : FnG X.prog X.w X.K X.mg X.base CX k f fd ps sp) (hr : Room k X.A) (hgd : X.A.guards = some []) (hg : Gl X x) (hm : X.mg x = some (.ref f)) (hk : PySem.W.keepIn X.K (.ref f) = true) (hb : Binds X.K fd ps []) (hx : ∀ σ, PassesAt CX X σ (E σ))
    (ha : PA X (e :: es) t) (hdb : (x == ("__debug__" : Str)) = false := by decide) (he : starEach (e :: es) X.env = (false, eval e X.env) :: starEach es X.env := by rfl) (hpl : (backTo pos (starEach es X.env)).any (·.1) = false := by rfl) :
    PE X (.Call (.Name x p) (e :: es) [] pos) (fun σ H Q => t σ H fun vs H1 => sp vs H1 Q (E σ)) :=
  ⟨fun pins s σ H Q I h => wpAny_Call_Name_kw (ld_glob I hg hm (PySem.W.callWith_K (h₀ := X.base) I.ok.mod.kin hk (thn (ha.run pos pins s σ H _ I h) fun us s1 ⟨vs, H1, I1, r, q⟩ =>
    ⟨I1.kIn, run_g F hr hgd hb (hx σ) I1 r q⟩) he hpl) hdb)⟩
end
/-! ### the top -/
theorem top_call {P : Program} {w : World} {K : PySem.W.Frag} {mg mb : Mg} {CX : CXT} {k : Nat} {fa a : Addr} {fd : FuncData} {x : Str} {sp : Sp} {s₁ : Shared} {vs : List Value} {ns : List Int}
    (KX : K.In s₁.heap) (hns : s₁.heap.Ns mainGlobals mg) (hb : s₁.heap.Ns builtinsNs mb) (hbb : ∀ x : Str, x ≠ "__name__" → mb x = bootBuiltins x) (hlim : s₁.heap.NoLimit) (hg : s₁.gens = #[]) (hsm : ∃ m, s₁.heap.Ns sysModules m)
    (ha : s₁.heap.get? a = some { cls := .type "list", data := .seq vs.toArray }) (hi : IntsAre vs ns) (hl : ns.length ≤ sizeLine) (hr : Room k callerA)
    (F : ∀ base : Heap, K.In base → base.Ns mainGlobals mg → (∃ o, base.get? sysModules = some o) → FnG P w K mg base CX k fa fd [x] sp) (hbind : ∀ (s : Shared) (u : Value), BindsTo s fd ⟨[u], []⟩ [(x, u)])
    (hsp : ∀ H : Hp, Only H → Rd H a (.lst (ns.map V.int)) → sp [.ref a] H (fun v _ => v = .bl true) fun _ _ _ => False)
    (hCX : ∀ H e s', CX [] H s₁ (fun _ _ _ => False) e s' → False) (hKa : K.lookup a = none) :
    codeAny (model P w) callerA (.call (.ref fa) ⟨[.ref a], []⟩) (fun r s' => r = .ok (.ret (.bool true)) ∧ OldK s₁.heap s'.heap ∧ s'.os = s₁.os ∧ AllBare s'.gens) s₁ := by
  have rv := vals_ints hi
  -- the script alone is tracked
  let H : Hp := fun b => if b = a then some (.frz { cls := .type "list", data := .seq vs.toArray } (.lst (ns.map V.int))) else none
  have Ha : H a = some (.frz { cls := .type "list", data := .seq vs.toArray } (.lst (ns.map V.int))) := if_pos rfl
  have Hn : ∀ {b : Addr}, b ≠ a → H b = none := fun h => if_neg h
  have only : ∀ b u, H b = some u → b = a ∧ u = .frz { cls := .type "list", data := .seq vs.toArray } (.lst (ns.map V.int)) := fun b u z => by
    by_cases e : b = a
    · subst e; rw [Ha] at z; cases z; exact ⟨rfl, rfl⟩
    · rw [Hn e] at z; cases z
  have hok : HOk P w H s₁.heap := fun b u z => by
    obtain ⟨rfl, rfl⟩ := only b u z
    exact ⟨ha, by rw [List.length_map]; exact hl, vs, _, rv, ha⟩
  have noA : ∀ {b : Addr} {o : Obj} {es : Array DictEntry} {ep : Nat}, s₁.heap.get? b = some o → o.data = .dict es ep → b ≠ a := fun e d z => by
    subst z
    rw [ha] at e; cases e
    cases d
  have keepB : ∀ {b : Addr} {o : Obj}, s₁.heap.get? b = some o → b ≠ a → (hidT s₁.heap H).get? b = some o := fun e n => hidT_get e (Hn n)
  have nsK : ∀ {b : Addr} {m : Str → Option Value}, s₁.heap.Ns b m → (hidT s₁.heap H).Ns b m := fun ⟨o, es, ep, e, d, r⟩ => ⟨o, es, ep, keepB e (noA e d), d, r⟩
  have hKb : K.In (hidT s₁.heap H) := fun b o e => keepB (KX b o e) fun z => by subst z; rw [hKa] at e; cases e
  have hM : Mod K mg (hidT s₁.heap H) := ⟨hKb, nsK hns, ⟨mb, nsK hb, hbb⟩, let ⟨mc, h1, h2⟩ := hlim; ⟨mc, nsK h1, h2⟩⟩
  have e0 : Env0 P w K mg (hidT s₁.heap H) callerA [] s₁ H := ⟨rfl, hM, fun b o e => of_hidT e, Nat.le_of_eq (hidT_size _ _), trivial, fun b hb => absurd (show b ∈ ([] : List Addr) from hb) (by simp), hok, .of_eq hg⟩
  have hsm' : ∃ o, (hidT s₁.heap H).get? sysModules = some o := by
    obtain ⟨m, hm⟩ := hsm
    obtain ⟨o, es, ep, e, _⟩ := nsK hm
    exact ⟨o, e⟩
  refine codeAny_mono ((F _ hKb (nsK hns) hsm').run callerA [] s₁ H ⟨[.ref a], []⟩ [.ref a] [.ref a] _ _ hr rfl e0 (hbind s₁ (.ref a)) (.cons rfl .nil) (hsp H (fun b => ?_) (.inr ⟨_, Ha⟩))) fun r s' h => ?_
  · by_cases e : b = a
    · subst e; exact .inr ⟨_, _, Ha⟩
    · exact .inl (Hn e)
  · cases r with
    | error e => exact (hCX H e s' h).elim
    | ok fl =>
      cases fl with
      | next => exact h.elim
      | brk => exact h.elim
      | cont => exact h.elim
      | ret u =>
        obtain ⟨v, H', os, bare, un, hok', r', q⟩ := h
        cases (show v = .bl true from q)
        obtain rfl : u = Value.bool true := r'
        refine ⟨rfl, OldK.of_keep fun b o e => ?_, os, bare⟩
        by_cases z : b = a
        · subst z
          obtain ⟨e2, _⟩ := hok' b _ (un.frzs b _ _ Ha)
          rw [ha] at e; cases e
          exact e2
        · exact un.keep b o e (Hn z) (fun z => absurd (show b ∈ ([] : List Addr) from z) (by simp)) (by simp)
end Lb
/-! Defs: what a body gives is what a call gives. -/
namespace Lb
open PySem PySem.Spec PyProof.Rows L2
inductive FOut where
  | stuck
  | ret (r : RV) (outs : List RV)
  | exc (c : Str) (fs : List (Str × DV)) (outs : List RV)
abbrev FSem := List RV → FOut
def FOut.spec (o : FOut) (R : RV → List RV → Prop) (E : Str → List (Str × DV) → List RV → Prop) : Prop := match o with
  | .stuck => False
  | .ret r outs => R r outs
  | .exc c fs outs => E c fs outs
/-- handed-in things behind the call: data stays, an own one is what its slot holds -/
def outsOf : List RV → Sl → List RV
  | [], _ => []
  | .v d :: rs, S => .v d :: outsOf rs S.tail
  | r :: rs, S => (match S with
    | some r' :: _ => r'
    | _ => r) :: outsOf rs S.tail
def startS (N : Nat) (rs : List RV) : Sl := rs.map some ++ List.replicate (N - rs.length) none
/-- what an operand gives as a def's answer -/
def retOf (o : Opd) (S : Sl) : Option RV := match o with
  | .v r => if r.isPin then none else some r
  | .sl i => match S[i]? with
    | some (some r) => if r.isPin then none else some r
    | _ => none
def runDef (m : SM) (N : Nat) : FSem := fun rs => match m (startS N rs) with
  | .nx S' => .ret (.v .non) (outsOf rs S')
  | .rt o S' => match retOf o S' with
    | some r => .ret r (outsOf rs S')
    | none => .stuck
  | .exc c fs S' => .exc c fs (outsOf rs S')
  | _ => .stuck
/-- behind a call -/
structure CallP (mg : Mg) (B H : Hp) (vs : List V) (rs : List RV) (B' H' : Hp) (outs : List RV) : Prop where
  grow : Grow B H B' H' (OwnA (vs.map some) (rs.map some))
  st : StR mg B' H' (vs.map some) (outs.map some)
  own : ∀ i : Nat, (∃ r : RV, rs[i]? = some r ∧ r.isOwn = true) ↔ ∃ r : RV, outs[i]? = some r ∧ r.isOwn = true
  pin : ∀ r ∈ outs, r.isOwn = true → r.isPin = true
def spM (mg : Mg) (f : FSem) (n : Nat) : Sp := fun vs H Q E => vs.length = n ∧ ∃ B rs, StR mg B H (vs.map some) (rs.map some) ∧ (∀ r ∈ rs, r.isOwn = true → r.isPin = true) ∧ (f rs).spec
  (fun r outs => ∀ v B' H', CallP mg B H vs rs B' H' outs → RVR mg B' H' v r → r.isPin = false → (∀ a, r.isOwn = true → v = .ref a → H a = none) → Q v H')
  (fun c fs outs => ∀ C d B' H', mg c = some (.ref C) → CallP mg B H vs rs B' H' outs → (match d with | none => fs = [] | some dx => ∃ xs, H' dx = some (.xd xs) ∧ RepF mg B' xs fs) → E (.ref C) d H')
section
variable {mg : Mg} {B H B' H' : Hp} {vs : List V} {rs : List RV} {σ' : Sg} {S' : Sl} {N n : Nat}
theorem start_get {i : Nat} {r : RV} (h : (startS n rs)[i]? = some (some r)) : rs[i]? = some r := by
  unfold startS at h
  by_cases hi : i < rs.length
  · rw [List.getElem?_append_left (by simpa using hi), List.getElem?_map] at h
    cases e : rs[i]? with
    | none => rw [e] at h; cases h
    | some z => rw [e] at h; cases h; rfl
  · rw [List.getElem?_append_right (by simpa using hi), List.getElem?_replicate] at h
    split at h <;> cases h
theorem start_of {i : Nat} {r : RV} (h : rs[i]? = some r) : (startS n rs)[i]? = some (some r) := by
  unfold startS
  have hi : i < rs.length := (List.getElem?_eq_some_iff.mp h).1
  rw [List.getElem?_append_left (by simpa using hi), List.getElem?_map, h]; rfl
theorem startV_get {i : Nat} {v : V} {N : List Str} (h : (L2.start N vs)[i]? = some (some v)) : vs[i]? = some v := by
  unfold L2.start at h
  by_cases hi : i < vs.length
  · rw [List.getElem?_append_left (by simpa using hi), List.getElem?_map] at h
    cases e : vs[i]? with
    | none => rw [e] at h; cases h
    | some z => rw [e] at h; cases h; rfl
  · rw [List.getElem?_append_right (by simpa using hi), List.getElem?_replicate] at h
    split at h <;> cases h
theorem startV_of {i : Nat} {v : V} {N : List Str} (h : vs[i]? = some v) : (L2.start N vs)[i]? = some (some v) := by
  unfold L2.start
  have hi : i < vs.length := (List.getElem?_eq_some_iff.mp h).1
  rw [List.getElem?_append_left (by simpa using hi), List.getElem?_map, h]; rfl
theorem map_get {α : Type} {l : List α} {i : Nat} {x : α} : (l.map some)[i]? = some (some x) ↔ l[i]? = some x := by
  rw [List.getElem?_map]
  cases l[i]? <;> simp
theorem start_own {N : List Str} {i : Nat} {a : Addr} (hl : vs.length ≤ N.length) : OwnAt (L2.start N vs) (startS N.length rs) i a ↔ OwnAt (vs.map some) (rs.map some) i a :=
  ⟨fun ⟨⟨r, e, h⟩, e2⟩ => ⟨⟨r, map_get.mpr (start_get e), h⟩, map_get.mpr (startV_get e2)⟩, fun ⟨⟨r, e, h⟩, e2⟩ => ⟨⟨r, start_of (map_get.mp e), h⟩, startV_of (map_get.mp e2)⟩⟩
theorem StR.start {N : List Str} (x : StR mg B H (vs.map some) (rs.map some)) (hl : vs.length ≤ N.length) : StR mg B H (L2.start N vs) (startS N.length rs) := by
  have hlen : vs.length = rs.length := by have := x.len; simpa using this
  refine ⟨x.le, ?_, fun i r e => ?_, fun i j a h1 h2 => x.dis i j a ((start_own hl).mp h1) ((start_own hl).mp h2)⟩
  · unfold L2.start startS
    simp only [List.length_append, List.length_map, List.length_replicate]
    omega
  · obtain ⟨v, e1, q⟩ := x.at_ i r (map_get.mpr (start_get e))
    exact ⟨v, startV_of (map_get.mp e1), q⟩
theorem outs_get : ∀ {rs : List RV} {S : Sl} {i : Nat} {r : RV}, (outsOf rs S)[i]? = some r → ∃ r0, rs[i]? = some r0 ∧ ((r0.isOwn = false ∧ r = r0) ∨ (r0.isOwn = true ∧ (S[i]? = some (some r) ∨ ((∀ r', S[i]? ≠ some (some r')) ∧ r = r0))))
  | [], _, _, _, h => by simp [outsOf] at h
  | .v d :: rs, S, 0, r, h => by
    simp only [outsOf, List.getElem?_cons_zero, Option.some.injEq] at h
    exact ⟨_, rfl, .inl ⟨rfl, h.symm⟩⟩
  | .v d :: rs, S, i + 1, r, h => by
    simp only [outsOf, List.getElem?_cons_succ] at h
    obtain ⟨r0, h1, h2⟩ := outs_get h
    exact ⟨r0, by simpa using h1, by cases S with
      | nil => simpa using h2
      | cons s S => simpa using h2⟩
  | .ol p ds :: rs, S, 0, r, h => by
    simp only [outsOf, List.getElem?_cons_zero, Option.some.injEq] at h
    refine ⟨_, rfl, .inr ⟨rfl, ?_⟩⟩
    cases S with
    | nil => exact .inr ⟨by simp, h.symm⟩
    | cons s S =>
      cases s with
      | none => exact .inr ⟨by simp, h.symm⟩
      | some r' => exact .inl (by simpa using h)
  | .ol p ds :: rs, S, i + 1, r, h => by
    simp only [outsOf, List.getElem?_cons_succ] at h
    obtain ⟨r0, h1, h2⟩ := outs_get h
    exact ⟨r0, by simpa using h1, by cases S with
      | nil => simpa using h2
      | cons s S => simpa using h2⟩
  | .od p ds :: rs, S, 0, r, h => by
    simp only [outsOf, List.getElem?_cons_zero, Option.some.injEq] at h
    refine ⟨_, rfl, .inr ⟨rfl, ?_⟩⟩
    cases S with
    | nil => exact .inr ⟨by simp, h.symm⟩
    | cons s S =>
      cases s with
      | none => exact .inr ⟨by simp, h.symm⟩
      | some r' => exact .inl (by simpa using h)
  | .od p ds :: rs, S, i + 1, r, h => by
    simp only [outsOf, List.getElem?_cons_succ] at h
    obtain ⟨r0, h1, h2⟩ := outs_get h
    exact ⟨r0, by simpa using h1, by cases S with
      | nil => simpa using h2
      | cons s S => simpa using h2⟩
theorem outs_len : ∀ {rs : List RV} {S : Sl}, (outsOf rs S).length = rs.length
  | [], _ => rfl
  | .v d :: rs, S => by simp [outsOf, outs_len]
  | .ol p d :: rs, S => by simp [outsOf, outs_len]
  | .od p d :: rs, S => by simp [outsOf, outs_len]
/-- a body's end is a call's end -/
theorem callP_of {N : List Str} (x : StR mg B H (vs.map some) (rs.map some)) (hl : vs.length ≤ N.length) (hp : ∀ r ∈ rs, r.isOwn = true → r.isPin = true)
    (s : Stp mg B H (L2.start N vs) (startS N.length rs) B' H' σ' S') : CallP mg B H vs rs B' H' (outsOf rs S') := by
  have hlen : vs.length = rs.length := by have := x.len; simpa using this
  have io : ∀ b, OwnA (L2.start N vs) (startS N.length rs) b → OwnA (vs.map some) (rs.map some) b := fun b ⟨i, h⟩ => ⟨i, (start_own hl).mp h⟩
  -- an own one that was handed in
  have key : ∀ (i : Nat) (r0 : RV), rs[i]? = some r0 → r0.isOwn = true → ∃ r' : RV, S'[i]? = some (some r') ∧ r'.isPin = true ∧ σ'[i]? = (L2.start N vs)[i]? := fun i r0 e h => by
    obtain ⟨⟨r', h1, h2⟩, h3⟩ := s.pin i ⟨r0, start_of e, hp r0 (List.mem_of_getElem? e) h⟩
    exact ⟨r', h1, h2, h3⟩
  have pinOwn : ∀ r : RV, r.isPin = true → r.isOwn = true := fun r h => by cases r <;> simp_all [RV.isPin, RV.isOwn]
  have at_ : ∀ (i : Nat) (r : RV), (outsOf rs S')[i]? = some r → ∃ r0, rs[i]? = some r0 ∧ ((r0.isOwn = false ∧ r = r0) ∨ (r0.isOwn = true ∧ S'[i]? = some (some r) ∧ r.isPin = true ∧ σ'[i]? = (L2.start N vs)[i]?)) := fun i r e => by
    obtain ⟨r0, h1, h2⟩ := outs_get e
    refine ⟨r0, h1, ?_⟩
    rcases h2 with h2 | ⟨h2, h3 | ⟨h3, _⟩⟩
    · exact .inl h2
    · obtain ⟨r', g1, g2, g3⟩ := key i r0 h1 h2
      rw [h3] at g1; cases g1
      exact .inr ⟨h2, h3, g2, g3⟩
    · obtain ⟨r', g1, _⟩ := key i r0 h1 h2
      exact absurd g1 (h3 r')
  have ownAt : ∀ i a, OwnAt (vs.map some) ((outsOf rs S').map some) i a → OwnAt σ' S' i a := fun i a ⟨⟨r, e, h⟩, e2⟩ => by
    obtain ⟨r0, h1, h2⟩ := at_ i r (map_get.mp e)
    rcases h2 with ⟨h2, h3⟩ | ⟨h2, h3, h4, h5⟩
    · subst h3; rw [h2] at h; cases h
    · exact ⟨⟨r, h3, h⟩, by rw [h5]; exact startV_of (map_get.mp e2)⟩
  refine ⟨s.grow.imp io, ⟨s.st.le, by simp [outs_len, hlen], fun i r e => ?_, fun i j a h1 h2 => s.st.dis i j a (ownAt i a h1) (ownAt j a h2)⟩, fun i => ⟨fun ⟨r, e, h⟩ => ?_, fun ⟨r, e, h⟩ => ?_⟩, fun r hr h => ?_⟩
  · obtain ⟨r0, h1, h2⟩ := at_ i r (map_get.mp e)
    obtain ⟨v, e1, q⟩ := x.at_ i r0 (map_get.mpr h1)
    refine ⟨v, e1, ?_⟩
    rcases h2 with ⟨h2, h3⟩ | ⟨h2, h3, h4, h5⟩
    · subst h3
      cases q with
      | v q => exact .v (q.mono s.grow.sub)
      | ol _ _ _ => cases h2
      | od _ _ _ => cases h2
    · obtain ⟨v', e2, q'⟩ := s.st.at_ i r h3
      rw [h5, startV_of (map_get.mp e1)] at e2
      cases e2
      exact q'
  · have hi : i < (outsOf rs S').length := by rw [outs_len]; exact (List.getElem?_eq_some_iff.mp e).1
    have e1 : (outsOf rs S')[i]? = some ((outsOf rs S')[i]) := List.getElem?_eq_getElem hi
    refine ⟨_, e1, ?_⟩
    obtain ⟨r0, h1, h2⟩ := at_ i _ e1
    rw [e] at h1; cases h1
    rcases h2 with ⟨h2, _⟩ | ⟨_, _, h4, _⟩
    · rw [h2] at h; cases h
    · exact pinOwn _ h4
  · obtain ⟨r0, h1, h2⟩ := at_ i r e
    refine ⟨r0, h1, ?_⟩
    rcases h2 with ⟨h2, h3⟩ | ⟨h2, _⟩
    · subst h3; exact h
    · exact h2
  · obtain ⟨i, e⟩ := List.getElem?_of_mem hr
    obtain ⟨r0, h1, h2⟩ := at_ i r e
    rcases h2 with ⟨h2, h3⟩ | ⟨_, _, h4, _⟩
    · subst h3; rw [h2] at h; cases h
    · exact h4
end
section
variable {P : Program} {w : World} {K : PySem.W.Frag} {mg : Str → Option Value} {base : Heap}
/-- THE RULE: a def, by its body as a plain function -/
theorem fn_mk {x qual : Str} {st : Stmt} {f : Addr} {fd : FuncData} {N ps : List Str} {k : Nat} {m : SM} (F : Fun K x qual st f fd) (S : FnScope N ps (defScope st))
    (hb : ∀ (cdv : Value) (A : Around) (outer : List Env) (s : Shared) (H : Hp) (E : XK), Room k (A.deeper (envOfC qual (defScope st) s.heap.objs.size f cdv)) → A.guards = some [] →
      SXs (cxOf (L2.CX P w) P w K mg base N qual (defScope st) f cdv A outer s H E) (defBody st) m) : FnG P w K mg base (L2.CX P w) (k + 1) f fd ps (spM mg (runDef m N.length) ps.length) := by
  have hpl : ps.length ≤ N.length := by have := congrArg List.length S.pre; rw [List.length_take] at this; omega
  refine okG F S (fun vs H Q E h => h.1) fun cdv A outer s H vs Q E hr hgd h => ?_
  obtain ⟨hl, B, rs, x, hp, q⟩ := h
  refine ⟨_, hb cdv A outer s H E hr hgd _ (takes_of rfl rfl rfl rfl) (passes_of rfl), B, startS N.length rs, x.start (by omega), ?_⟩
  have hle : vs.length ≤ N.length := by omega
  unfold runDef at q
  cases em : m (startS N.length rs) with
  | stuck => rw [em] at q; exact q
  | bk S' => rw [em] at q; exact q.elim
  | ct S' => rw [em] at q; exact q.elim
  | nx S' =>
    rw [em] at q
    exact fun B' H' σ' s' => q .non B' H' (callP_of x hle hp s') (.v .non) rfl fun a h => by cases h
  | exc c fs S' =>
    rw [em] at q
    exact fun C B' H' σ' d hC s' hd => q C d B' H' hC (callP_of x hle hp s') hd
  | rt o S' =>
    rw [em] at q
    intro v B' H' σ' s' r y
    dsimp only at q
    cases er : retOf o S' with
    | none => rw [er] at q; exact q.elim
    | some rv =>
      rw [er] at q
      have cp := callP_of x hle hp s'
      cases r with
      | v r n =>
        unfold retOf at er
        dsimp only at er
        split at er
        · cases er
        · rename_i hn
          cases er
          exact q v B' H' cp r (by simpa using hn) y
      | @sl i e1 hr =>
        obtain ⟨r', hr'⟩ := hr
        unfold retOf at er
        simp only [hr'] at er
        split at er
        · cases er
        · rename_i hn
          cases er
          obtain ⟨v', e2, q'⟩ := s'.st.at_ i _ hr'
          rw [e1] at e2; cases e2
          refine q v B' H' cp q' (by simpa using hn) fun a ha ev => ?_
          have oi : OwnAt σ' S' i a := ⟨⟨_, hr', ha⟩, by rw [e1, ev]⟩
          rcases s'.own a ⟨i, oi⟩ with ⟨j, hj⟩ | z
          · exfalso
            obtain ⟨⟨rj, g1, g2⟩, g3⟩ := id hj
            obtain ⟨⟨r2, g4, g5⟩, g6⟩ := s'.pin j ⟨rj, g1, hp rj (List.mem_of_getElem? (start_get g1)) g2⟩
            have : OwnAt σ' S' j a := ⟨⟨r2, g4, by cases r2 <;> simp_all [RV.isPin, RV.isOwn]⟩, by rw [g6]; exact g3⟩
            have e := s'.st.dis i j a oi this
            subst e
            rw [hr'] at g4; cases g4
            exact hn g5
          · exact z
end
end Lb
/-! Calls of defs. -/
namespace Lb
open PySem PySem.Spec PyProof.Rows L2
def RV.rePin (p : Bool) : RV → RV
  | .v d => .v d
  | .ol _ ds => .ol p ds
  | .od _ ds => .od p ds
theorem RV.rePin_own {p : Bool} {r : RV} : (r.rePin p).isOwn = r.isOwn := by cases r <;> rfl
theorem RV.rePin_pin {p : Bool} {r : RV} (h : r.isOwn = true) : (r.rePin p).isPin = p := by cases r <;> simp_all [RV.isOwn, RV.rePin, RV.isPin]
theorem RVR.rePin {mg : Mg} {B H : Hp} {v : V} {r : RV} {p : Bool} (q : RVR mg B H v r) : RVR mg B H v (r.rePin p) := by
  cases q with
  | v q => exact .v q
  | ol a b c => exact .ol a b c
  | od a b c => exact .od a b c
/-- a def that is known under the name x -/
structure Kn (X : Cx) (x : Str) (f : FSem) (ps : List Str) : Prop where
  ex : ∃ (fa : Addr) (fd : FuncData) (k : Nat), FnG X.prog X.w X.K X.mg X.base (L2.CX X.prog X.w) k fa fd ps (spM X.mg f ps.length) ∧ Room k X.A ∧ X.A.guards = some [] ∧ X.mg x = some (.ref fa) ∧ PySem.W.keepIn X.K (.ref fa) = true ∧ Binds X.K fd ps []
def callF (f : FSem) (n : Nat) (ds : List DV) : M Opd := fun S => if ds.length = n then
    (match f (ds.map .v) with
    | .ret r _ => if r.isPin then .stuck else .ok (.v r) S
    | .exc c fs _ => .exc c fs S
    | .stuck => .stuck)
  else .stuck
def callP (f : FSem) (n i : Nat) (ds : List DV) : M Opd := fun S => if ds.length + 1 = n then
    (match S[i]? with
    | some (some r0) => if r0.isOwn then
        (match f (r0.rePin true :: ds.map .v) with
        | .ret r (r1 :: _) => if r.isPin then .stuck else .ok (.v r) (S.set i (some (r1.rePin r0.isPin)))
        | .exc c fs (r1 :: _) => .exc c fs (S.set i (some (r1.rePin r0.isPin)))
        | _ => .stuck) else .stuck
    | _ => .stuck)
  else .stuck
section
variable {mg : Mg} {B H B' H' : Hp} {σ : Sg} {S : Sl} {vs : List V} {ds : List DV}
theorem argsR (le : Sub B H) (r : Reps mg B vs ds) : StR mg B H (vs.map some) ((ds.map RV.v).map some) := by
  have no : ∀ i a, ¬ OwnAt (vs.map some) ((ds.map RV.v).map some) i a := fun i a ⟨⟨r', e, h⟩, _⟩ => by
    rw [map_get, List.getElem?_map] at e
    cases q : ds[i]? with
    | none => rw [q] at e; cases e
    | some d => rw [q] at e; cases e; cases h
  refine ⟨le, by simp [r.length], fun i r' e => ?_, fun i j a h => absurd h (no i a)⟩
  rw [map_get, List.getElem?_map] at e
  cases q : ds[i]? with
  | none => rw [q] at e; cases e
  | some d =>
    rw [q] at e; cases e
    obtain ⟨v, h1, h2⟩ := r.getD' q
    exact ⟨v, map_get.mpr h1, .v h2⟩
theorem argsNo {a : Addr} : ¬ OwnA (vs.map some) ((ds.map RV.v).map some) a := fun ⟨i, ⟨r', e, h⟩, _⟩ => by
  rw [map_get, List.getElem?_map] at e
  cases q : ds[i]? with
  | none => rw [q] at e; cases e
  | some d => rw [q] at e; cases e; cases h
theorem new_of (g : Grow B H B' H' (OwnA (vs.map some) ((ds.map RV.v).map some))) (le : Sub B' H') : New B H B' H' :=
  ⟨fun a o e => g.keep a o e argsNo, g.sub, le, fun a h => by
    rcases g.new a h with z | z | z
    · exact .inl z
    · exact .inr z
    · exact absurd z argsNo⟩
/-- a call that was handed what stands in slot i -/
theorem StR.called (x : StR mg B H σ S) {i : Nat} {a : Addr} {r0 r1 : RV} {M : Addr → Prop} (e : S[i]? = some (some r0)) (h0 : r0.isOwn = true) (ev : σ[i]? = some (some (.ref a))) (g : Grow B H B' H' M) (hm : ∀ b, M b → b = a) (le : Sub B' H')
    (q : RVR mg B' H' (.ref a) r1) (h1 : r1.isOwn = true) (hp : r1.isPin = r0.isPin) : Stp mg B H σ S B' H' σ (S.set i (some r1)) ∧ ∀ b, OwnA σ (S.set i (some r1)) b → OwnA σ S b := by
  have oi : OwnAt σ S i a := ⟨⟨_, e, h0⟩, ev⟩
  have il : i < S.length := (List.getElem?_eq_some_iff.mp e).1
  have own : ∀ j b, OwnAt σ (S.set i (some r1)) j b → OwnAt σ S j b := fun j b ⟨⟨r', e1, h1⟩, e2⟩ => by
    rcases set_some_cases e1 with ⟨g1, g2⟩ | ⟨g1, g2⟩
    · subst g1; exact ⟨⟨_, e, h0⟩, e2⟩
    · exact ⟨⟨r', g2, h1⟩, e2⟩
  refine ⟨⟨g.imp fun b z => by rw [hm b z]; exact ⟨i, oi⟩, ⟨le, by rw [set_len]; exact x.len, fun j r' e1 => ?_, fun j k b h1 h2 => x.dis j k b (own j b h1) (own k b h2)⟩, fun b ⟨j, h⟩ => .inl ⟨j, own j b h⟩, fun j hj => ⟨?_, rfl⟩, set_len⟩, fun b ⟨j, h⟩ => ⟨j, own j b h⟩⟩
  · rcases set_some_cases e1 with ⟨g1, g2⟩ | ⟨g1, g2⟩
    · cases g2; subst g1
      exact ⟨_, ev, q⟩
    · obtain ⟨w, e2, q'⟩ := x.at_ j r' g2
      refine ⟨w, e2, ?_⟩
      have nb : ∀ b o, w = .ref b → r'.isOwn = true → B b = none → H b = some o → B' b = none ∧ H' b = some o := fun b o ew hr hb hh => by
        have nba : b ≠ a := fun z => g1 (x.dis j i a ⟨⟨_, g2, hr⟩, by rw [e2, ew, z]⟩ oi)
        refine ⟨?_, g.keep b o hh fun z => nba (hm b z)⟩
        cases q : B' b with
        | none => rfl
        | some u =>
          rcases g.new b (by rw [q]; simp) with z | z | z
          · exact absurd hb z
          · rw [hh] at z; cases z
          · exact absurd (hm b z) nba
      cases q' with
      | v q' => exact .v (q'.mono g.sub)
      | ol h1 h2 q' =>
        obtain ⟨k1, k2⟩ := nb _ _ rfl rfl h1 h2
        exact .ol k1 k2 (q'.mono g.sub)
      | od h1 h2 q' =>
        obtain ⟨k1, k2⟩ := nb _ _ rfl rfl h1 h2
        exact .od k1 k2 (q'.mono g.sub)
  · obtain ⟨r', h2, h3⟩ := hj
    by_cases nj : j = i
    · subst nj
      rw [e] at h2; cases h2
      exact ⟨_, List.getElem?_set_self il, by rw [hp]; exact h3⟩
    · exact ⟨r', by rw [set_other nj]; exact h2, h3⟩
end
section
variable {X : Cx} {x : Str} {p pos : Pos} {e : Expr} {es : List Expr} {f : FSem} {ps : List Str} {ms : M (List DV)}
theorem callF_spec {n : Nat} {ds : List DV} {S : Sl} {K : Opd → Sl → Prop} {E : Str → List (Str × DV) → Sl → Prop} (h : (callF f n ds S).spec K E) :
    ds.length = n ∧ (f (ds.map .v)).spec (fun r _ => r.isPin = false ∧ K (.v r) S) (fun c fs _ => E c fs S) := by
  unfold callF at h
  split at h
  · rename_i hl
    refine ⟨hl, ?_⟩
    cases ef : f (ds.map .v) with
    | stuck => rw [ef] at h; exact h
    | exc c fs o => rw [ef] at h; exact h
    | ret r o =>
      rw [ef] at h
      dsimp only at h
      split at h
      · exact h.elim
      · rename_i hn
        exact ⟨by simpa using hn, h⟩
  · exact h.elim
theorem FOut.spec.imp {o : FOut} {R R' : RV → List RV → Prop} {E E' : Str → List (Str × DV) → List RV → Prop} (h : o.spec R E) (a : ∀ r s, R r s → R' r s) (b : ∀ c fs s, E c fs s → E' c fs s) : o.spec R' E' := by
  cases o with
  | stuck => exact h
  | ret r s => exact a r s h
  | exc c fs s => exact b c fs s h
/-- what a call with data alone wants -/
theorem call_data {W : WX} {Q : VK} {B H B1 H1 : Hp} {σ : Sg} {S S1 : Sl} {vs : List V} {ds : List DV} (s : Stp X.mg B H σ S B1 H1 σ S1) (hs : Has S S1) (r : Reps X.mg B1 vs ds)
    (q : (callF f ps.length ds S1).spec (fun o S' => ∀ v B' H', Stp X.mg B H σ S B' H' σ S' → Has S S' → OpdR X.mg B' H' σ S' v o → Young H v o → Q v H') (xPost X.mg W B H σ S)) :
    spM X.mg f ps.length vs H1 Q (WE W σ) := by
  obtain ⟨hl, q⟩ := callF_spec q
  refine ⟨by rw [r.length]; exact hl, B1, ds.map .v, argsR s.st.le r, fun r h => ?_, q.imp (fun rv outs ⟨hp, k⟩ v B' H' cp qv _ yg => ?_) fun c fs outs k C d B' H' hC cp hd => ?_⟩
  · obtain ⟨d, _, rfl⟩ := List.mem_map.mp h
    intro h; cases h
  · have n := new_of cp.grow cp.st.le
    obtain ⟨s3, opd, y⟩ := Res.opd s.st (⟨n, qv, yg⟩ : Res X.mg B1 H1 v rv B' H')
    exact k v B' H' (s.trans s3) hs opd (y.pre s)
  · exact k C B' H' σ d hC (s.trans (s.st.step (new_of cp.grow cp.st.le))) hd
theorem px_call (F : Kn X x f ps) (hg : Gl X x) (ha : FXs X (e :: es) ms) (hdb : (x == ("__debug__" : Str)) = false := by decide)
    (he : starEach (e :: es) X.env = (false, eval e X.env) :: starEach es X.env := by rfl) (hpl : (backTo pos (starEach es X.env)).any (·.1) = false := by rfl) :
    PX X (.Call (.Name x p) (e :: es) [] pos) (M.bind ms (callF f ps.length)) := fun W tk => by
  obtain ⟨fa, fd, k, F, hr, hgd, hm, hk, hb⟩ := F.ex
  refine PE.imp (pe_callG F hr hgd hg hm hk hb (fun σ => passAt tk σ) (ha W tk) hdb he hpl) fun σ H Q ⟨B, S, st, q⟩ => ?_
  exact ⟨B, S, st, (spec_bind.mp q).imp (fun ds S1 _ q vs B1 H1 s hs r => by exact call_data s hs r q) fun _ _ _ h => h⟩
theorem px_call0 (F : Kn X x f ps) (hg : Gl X x) (hdb : (x == ("__debug__" : Str)) = false := by decide) : PX X (.Call (.Name x p) [] [] pos) (callF f ps.length []) := fun W tk => by
  obtain ⟨fa, fd, k, F, hr, hgd, hm, hk, hb⟩ := F.ex
  refine ⟨fun pins s σ H Q I h => ?_⟩
  refine wpAny_Call_Name_kw (ld_glob I hg hm ?_ hdb)
  refine PySem.W.callWith_K0 I.kIn hk (run_g (E := WE W) (us := []) (vs := []) F hr hgd hb (passAt tk σ) I .nil ?_)
  obtain ⟨B, S, st, q⟩ := h
  exact call_data (.refl st) (.refl S) .nil q
/-- the slot's thing is handed in -/
theorem callP_spec {n i : Nat} {ds : List DV} {S : Sl} {K : Opd → Sl → Prop} {E : Str → List (Str × DV) → Sl → Prop} (h : (callP f n i ds S).spec K E) :
    ds.length + 1 = n ∧ ∃ r0 : RV, S[i]? = some (some r0) ∧ r0.isOwn = true ∧ (f (r0.rePin true :: ds.map .v)).spec
      (fun r outs => ∃ r1 rest, outs = r1 :: rest ∧ r.isPin = false ∧ K (.v r) (S.set i (some (r1.rePin r0.isPin)))) (fun c fs outs => ∃ r1 rest, outs = r1 :: rest ∧ E c fs (S.set i (some (r1.rePin r0.isPin)))) := by
  unfold callP at h
  split at h
  · rename_i hl
    refine ⟨hl, ?_⟩
    cases e : S[i]? with
    | none => rw [e] at h; exact h.elim
    | some z =>
      rw [e] at h
      cases z with
      | none => exact h.elim
      | some r0 =>
        dsimp only at h
        split at h
        · rename_i ho
          refine ⟨r0, rfl, ho, ?_⟩
          cases ef : f (r0.rePin true :: ds.map .v) with
          | stuck => rw [ef] at h; exact h
          | exc c fs o =>
            rw [ef] at h
            cases o with
            | nil => exact h.elim
            | cons r1 rest => exact ⟨r1, rest, rfl, h⟩
          | ret r o =>
            rw [ef] at h
            cases o with
            | nil => exact h.elim
            | cons r1 rest =>
              dsimp only at h
              split at h
              · exact h.elim
              · rename_i hn
                exact ⟨r1, rest, rfl, by simpa using hn, h⟩
        · exact h.elim
  · exact h.elim
theorem px_callp (i : Nat) {z : Str} {zp : Pos} (F : Kn X x f ps) (hg : Gl X x) (hz : PX X (.Name z zp) (getSl i)) (ha : FXs X es ms) (hdb : (x == ("__debug__" : Str)) = false := by decide)
    (he : starEach (.Name z zp :: es) X.env = (false, eval (.Name z zp) X.env) :: starEach es X.env := by rfl) (hpl : (backTo pos (starEach es X.env)).any (·.1) = false := by rfl) :
    PX X (.Call (.Name x p) (.Name z zp :: es) [] pos) (M.bind (getSl i) fun _ => M.bind ms (callP f ps.length i)) := fun W tk => by
  obtain ⟨fa, fd, k, F, hr, hgd, hm, hk, hb⟩ := F.ex
  refine PE.imp (pe_callG F hr hgd hg hm hk hb (fun σ => passAt tk σ) (pa_cons (hz W tk) (ha W tk) he) hdb he hpl) fun σ H Q ⟨B, S, st, q⟩ => ?_
  refine ⟨B, S, st, (spec_bind.mp q).imp (fun o S0 eo q v B0 H0 s0 hs0 or _ => ⟨B0, S0, s0.st, (spec_bind.mp q).imp (fun ds S1 _ q vs B1 H1 s1 hs1 r => ?_) fun _ _ _ h => h.pre s0⟩) fun _ _ _ h => h⟩
  have eo : o = .sl i := by
    unfold getSl at eo
    split at eo <;> simp at eo
    exact eo.1.symm
  subst eo
  have s := s0.trans s1
  have hs := hs0.trans hs1
  obtain ⟨hl, r0, er, ho, q⟩ := callP_spec q
  have ev : σ[i]? = some (some v) := by cases or with | sl e _ => exact e
  obtain ⟨v', e2, q0⟩ := s.st.at_ i r0 er
  rw [ev] at e2; cases e2
  obtain ⟨a, rfl⟩ : ∃ a, v = .ref a := by
    cases q0 with
    | v _ => cases ho
    | ol _ _ _ => exact ⟨_, rfl⟩
    | od _ _ _ => exact ⟨_, rfl⟩
  have ho' : (r0.rePin true).isOwn = true := by rw [RV.rePin_own]; exact ho
  have only : ∀ j b, OwnAt ((V.ref a :: vs).map some) ((r0.rePin true :: ds.map RV.v).map some) j b → j = 0 ∧ b = a := fun j b ⟨⟨r', e1, h1⟩, e2⟩ => by
    cases j with
    | zero =>
      simp at e2
      exact ⟨rfl, e2.symm⟩
    | succ j =>
      exfalso
      rw [List.map_cons, List.getElem?_cons_succ, map_get, List.getElem?_map] at e1
      cases q : ds[j]? with
      | none => rw [q] at e1; cases e1
      | some d => rw [q] at e1; cases e1; cases h1
  have args : StR X.mg B1 H1 ((V.ref a :: vs).map some) ((r0.rePin true :: ds.map RV.v).map some) := by
    have t := argsR (mg := X.mg) s.st.le r
    refine ⟨s.st.le, by simp [r.length], fun j r' e1 => ?_, fun j k b h1 h2 => by rw [(only j b h1).1, (only k b h2).1]⟩
    cases j with
    | zero =>
      simp at e1
      subst e1
      exact ⟨.ref a, rfl, q0.rePin⟩
    | succ j =>
      obtain ⟨v, h1, h2⟩ := t.at_ j r' (by simpa using e1)
      exact ⟨v, by simpa using h1, h2⟩
  refine ⟨by simp [r.length]; omega, B1, r0.rePin true :: ds.map RV.v, args, fun r' h1 h2 => ?_, q.imp (fun rv outs ⟨r1, rest, eo, hp, k⟩ v B' H' cp qv _ yg => ?_) fun c fs outs ⟨r1, rest, eo, k⟩ C d B' H' hC cp hd => ?_⟩
  · rcases List.mem_cons.mp h1 with h1 | h1
    · subst h1; exact RV.rePin_pin ho
    · obtain ⟨d, _, rfl⟩ := List.mem_map.mp h1
      cases h2
  · subst eo
    have h1own : r1.isOwn = true := by
      obtain ⟨r', e, h⟩ := (cp.own 0).mp ⟨_, rfl, ho'⟩
      simp at e; subst e; exact h
    obtain ⟨w, ew, qw⟩ := cp.st.at_ 0 r1 rfl
    simp at ew; subst ew
    obtain ⟨st2, so⟩ := s.st.called er ho ev cp.grow (fun b ⟨j, hj⟩ => (only j b hj).2) cp.st.le (qw.rePin (p := r0.isPin)) (by rw [RV.rePin_own]; exact h1own) (RV.rePin_pin h1own)
    have il : i < S1.length := (List.getElem?_eq_some_iff.mp er).1
    refine k v B' H' (s.trans st2) (fun j hj => ?_) (.v qv fun b hb eb z => s.st.notOwn (yg b hb eb) (so b z)) ((show Young H1 v (.v rv) from yg).pre s)
    obtain ⟨r', h1⟩ := hs j hj
    by_cases nj : j = i
    · subst nj; exact ⟨_, List.getElem?_set_self il⟩
    · exact ⟨r', by rw [set_other nj]; exact h1⟩
  · subst eo
    have h1own : r1.isOwn = true := by
      obtain ⟨r', e, h⟩ := (cp.own 0).mp ⟨_, rfl, ho'⟩
      simp at e; subst e; exact h
    obtain ⟨w, ew, qw⟩ := cp.st.at_ 0 r1 rfl
    simp at ew; subst ew
    exact k C B' H' σ d hC (s.trans (s.st.called er ho ev cp.grow (fun b ⟨j, hj⟩ => (only j b hj).2) cp.st.le (qw.rePin (p := r0.isPin)) (by rw [RV.rePin_own]; exact h1own) (RV.rePin_pin h1own)).1) hd
end
end Lb
/-! Operations: numbers, texts, lists, tuples. -/
namespace Lb
open PySem PySem.Spec PyProof.Rows L2
section
variable {mg : Mg} {B H : Hp}
theorem res_lst (le : Sub B H) {p : Addr} {xs : List V} {ds : List DV} (hn : H p = none) (r : Reps mg B xs ds) : Res mg B H (.ref p) (.ol false ds) B (upd H p (.lst xs)) :=
  ⟨.own le hn, .ol (le.none hn) upd_same r, fun b _ e => by cases e; exact hn⟩
theorem res_dct (le : Sub B H) {p : Addr} {xs : List (Key × V)} {ds : List (Key × DV)} (hn : H p = none) (r : RepK mg B xs ds) : Res mg B H (.ref p) (.od false ds) B (upd H p (.dK xs)) :=
  ⟨.own le hn, .od (le.none hn) upd_same r, fun b _ e => by cases e; exact hn⟩
theorem res_tup (le : Sub B H) {p : Addr} {xs : List V} {ds : List DV} (hn : H p = none) (r : Reps mg B xs ds) : Res mg B H (.ref p) (.v (.tup ds)) (upd B p (.tup xs)) (upd H p (.tup xs)) :=
  have n : New B H (upd B p (.tup xs)) (upd H p (.tup xs)) := .alloc le hn
  ⟨n, .v (.tup upd_same (r.mono n.sub)), fun b h => by cases h⟩
theorem res_int (le : Sub B H) (i : Int) : Res mg B H (.int i) (.v (.int i)) B H := .v le (.int i)
theorem res_bl (le : Sub B H) (b : Bool) : Res mg B H (.bl b) (.v (.bl b)) B H := .v le (.bl b)
theorem res_str (le : Sub B H) (x : Str) : Res mg B H (.str x) (.v (.str x)) B H := .v le (.str x)
end
/-- + -/
def fAdd : DV → DV → Option RV
  | .int i, .int j => some (.v (.int (i + j)))
  | .str a, .str b => if a.length + b.length ≤ sizeLine then some (.v (.str (a ++ b))) else none
  | .lst xs, .lst ys => if xs.length + ys.length ≤ sizeLine then some (.ol false (xs ++ ys)) else none
  | .tup (x :: xs), .tup (y :: ys) => if (x :: xs).length + (y :: ys).length ≤ sizeLine then some (.v (.tup ((x :: xs) ++ (y :: ys)))) else none
  | _, _ => none
def rAddA (K : PySem.W.Frag) : R2 := fun x y H Q => (∃ i j, x = .int i ∧ y = .int j ∧ Q (.int (i + j)) H) ∨ (∃ i j, x = .str i ∧ y = .str j ∧ i.length + j.length ≤ sizeLine ∧ Q (.str (i ++ j)) H) ∨ rCat x y H Q ∨ rCatT K x y H Q
theorem op_addA {X : Cx} : OpR X (binaryOp .Add) (rAddA X.K) := op_add.or (op_add_str.or (op_cat.or op_catT))
theorem prim_add {mg : Mg} {K : PySem.W.Frag} : Prim2 mg (rAddA K) fAdd := fun B H x y dx dy rv Q le vx vy e k => by
  unfold fAdd at e
  split at e
  · cases e
    exact .inl ⟨_, _, vx.int, vy.int, k _ _ _ (res_int le _)⟩
  · split at e
    · cases e
      exact .inr (.inl ⟨_, _, vx.str, vy.str, ‹_›, k _ _ _ (res_str le _)⟩)
    · cases e
  · split at e
    · cases e
      obtain ⟨a, xs', rfl, ha, ra⟩ := vx.list le
      obtain ⟨b, ys', rfl, hb, rb⟩ := vy.list le
      exact .inr (.inr (.inl ⟨_, _, _, _, rfl, rfl, ha, hb, by rw [ra.length, rb.length]; assumption, fun p hp => k _ _ _ (res_lst le hp (ra.append rb))⟩))
    · cases e
  · split at e
    · cases e
      obtain ⟨a, xs', rfl, ha, ra⟩ := vx.tuple le
      obtain ⟨b, ys', rfl, hb, rb⟩ := vy.tuple le
      refine .inr (.inr (.inr ⟨_, _, _, _, rfl, rfl, SqT.of ha, SqT.of hb, ?_, by rw [ra.length, rb.length]; assumption, fun z => ?_, fun _ p hp => k _ _ _ (res_tup le hp (ra.append rb))⟩))
      · intro z; subst z; cases ra
      · subst z; cases rb
    · cases e
  · cases e
def fSub : DV → DV → Option RV
  | .int i, .int j => some (.v (.int (i - j)))
  | _, _ => none
theorem prim_sub {mg : Mg} : Prim2 mg (rI0 fun i j => .int (i - j)) fSub := fun B H x y dx dy rv Q le vx vy e k => by
  unfold fSub at e
  split at e
  · cases e; exact ⟨_, _, vx.int, vy.int, k _ _ _ (res_int le _)⟩
  · cases e
def smallI (i : Int) : Bool := decide (-(2 ^ 64) < i ∧ i < 2 ^ 64)
/-- * : a factor within 2 ^ 64; a list so many times -/
def fMul : DV → DV → Option RV
  | .int i, .int j => if smallI i || smallI j then some (.v (.int (i * j))) else none
  | .lst xs, .int k => if -(2 ^ 63) ≤ k ∧ k < 2 ^ 63 ∧ xs.length * k.toNat ≤ sizeLine then some (.ol false (List.replicate k.toNat xs).flatten) else none
  | _, _ => none
theorem Reps.rep {mg : Mg} {B : Hp} {xs : List V} {ds : List DV} (r : Reps mg B xs ds) : ∀ n : Nat, Reps mg B (List.replicate n xs).flatten (List.replicate n ds).flatten
  | 0 => .nil
  | n + 1 => by
    rw [List.replicate_succ, List.replicate_succ, List.flatten_cons, List.flatten_cons]
    exact r.append (Reps.rep r n)
def rMulA : R2 := fun x y H Q => rI CMul (fun i j => .int (i * j)) x y H Q ∨ rRep x y H Q
theorem op_mulA {X : Cx} : OpR X (binaryOp .Mult) rMulA := op_mul.or op_rep
theorem prim_mul {mg : Mg} : Prim2 mg rMulA fMul := fun B H x y dx dy rv Q le vx vy e k => by
  unfold fMul at e
  split at e
  · split at e
    · rename_i h
      cases e
      refine .inl ⟨_, _, vx.int, vy.int, ?_, k _ _ _ (res_int le _)⟩
      simp only [smallI, Bool.or_eq_true, decide_eq_true_eq] at h
      exact h
    · cases e
  · split at e
    · rename_i h
      cases e
      obtain ⟨a, xs', rfl, ha, ra⟩ := vx.list le
      exact .inr ⟨_, _, _, rfl, vy.int, ha, h.1, h.2.1, by rw [ra.length]; exact h.2.2, fun p hp => k _ _ _ (res_lst le hp (ra.rep _))⟩
    · cases e
  · cases e
def fMod : DV → DV → Option RV
  | .int i, .int j => if 0 < j then some (.v (.int (i % j))) else none
  | _, _ => none
theorem prim_mod {mg : Mg} : Prim2 mg (rI (fun _ j => 0 < j) fun i j => .int (i % j)) fMod := fun B H x y dx dy rv Q le vx vy e k => by
  unfold fMod at e
  split at e
  · split at e
    · cases e; exact ⟨_, _, vx.int, vy.int, ‹_›, k _ _ _ (res_int le _)⟩
    · cases e
  · cases e
def fDiv : DV → DV → Option RV
  | .int i, .int j => if 0 < j ∧ j < 1073741824 then some (.v (.int (i / j))) else none
  | _, _ => none
theorem prim_div {mg : Mg} : Prim2 mg (rI CDiv fun i j => .int (i / j)) fDiv := fun B H x y dx dy rv Q le vx vy e k => by
  unfold fDiv at e
  split at e
  · split at e
    · cases e; exact ⟨_, _, vx.int, vy.int, ‹_›, k _ _ _ (res_int le _)⟩
    · cases e
  · cases e
def fPow : DV → DV → Option RV
  | .int i, .int j => if 0 ≤ j ∧ j ≤ 1000000 ∧ i.natAbs < 2 ^ 64 then some (.v (.int (i ^ j.toNat))) else none
  | _, _ => none
theorem prim_pow {mg : Mg} : Prim2 mg (rI CPow fun i j => .int (i ^ j.toNat)) fPow := fun B H x y dx dy rv Q le vx vy e k => by
  unfold fPow at e
  split at e
  · split at e
    · cases e; exact ⟨_, _, vx.int, vy.int, ‹_›, k _ _ _ (res_int le _)⟩
    · cases e
  · cases e
/-! ### comparisons of numbers -/
def fLt : DV → DV → Option Bool
  | .int i, .int j => some (decide (i < j))
  | _, _ => none
def fLe : DV → DV → Option Bool
  | .int i, .int j => some (decide (i ≤ j))
  | .str i, .str j => some (!decide (j.cps.toList < i.cps.toList))
  | _, _ => none
def fGt : DV → DV → Option Bool
  | .int i, .int j => some (decide (j < i))
  | _, _ => none
def fGe : DV → DV → Option Bool
  | .int i, .int j => some (decide (j ≤ i))
  | _, _ => none
section
variable {mg : Mg} {r : R2} {F : DV → DV → Option Bool}
theorem primB (h : ∀ (B H : Hp) (x y : V) (dx dy : DV) (b : Bool) (Q : VK), Sub B H → View mg B H x dx → View mg B H y dy → F dx dy = some b → Q (.bl b) H → r x y H Q) : Prim2 mg r (rvB F) := fun B H x y dx dy rv Q le vx vy e k => by
  unfold rvB at e
  cases ef : F dx dy with
  | none => rw [ef] at e; cases e
  | some b =>
    rw [ef] at e; cases e
    exact h B H x y dx dy b Q le vx vy ef (k _ _ _ (res_bl le b))
end
theorem prim_lt {mg : Mg} : Prim2 mg (rI0 fun i j => .bl (decide (i < j))) (rvB fLt) := primB fun B H x y dx dy b Q le vx vy e k => by
  unfold fLt at e
  split at e
  · cases e; exact ⟨_, _, vx.int, vy.int, k⟩
  · cases e
def rLeA : R2 := fun x y H Q => rI0 (fun i j => .bl (decide (i ≤ j))) x y H Q ∨ ∃ i j, x = .str i ∧ y = .str j ∧ Q (.bl (!decide (j.cps.toList < i.cps.toList))) H
theorem op_leA {X : Cx} : OpR X (compareOp .LtE) rLeA := op_le.or op_le_str
theorem prim_le {mg : Mg} : Prim2 mg rLeA (rvB fLe) := primB fun B H x y dx dy b Q le vx vy e k => by
  unfold fLe at e
  split at e
  · cases e; exact .inl ⟨_, _, vx.int, vy.int, k⟩
  · cases e; exact .inr ⟨_, _, vx.str, vy.str, k⟩
  · cases e
theorem prim_gt {mg : Mg} : Prim2 mg (rI0 fun i j => .bl (decide (j < i))) (rvB fGt) := primB fun B H x y dx dy b Q le vx vy e k => by
  unfold fGt at e
  split at e
  · cases e; exact ⟨_, _, vx.int, vy.int, k⟩
  · cases e
theorem prim_ge {mg : Mg} : Prim2 mg (rI0 fun i j => .bl (decide (j ≤ i))) (rvB fGe) := primB fun B H x y dx dy b Q le vx vy e k => by
  unfold fGe at e
  split at e
  · cases e; exact ⟨_, _, vx.int, vy.int, k⟩
  · cases e
/-! ### an item -/
def fIx : DV → DV → Option RV
  | .lst xs, .int i => (atI xs i).map .v
  | .tup xs, .int i => (atI xs i).map .v
  | .scr ns, .int i => (atI ns i).map fun n => .v (.int n)
  | .str z, .int i => if z.length ≤ sizeLine then (atI z.cps.toList i).map fun c => .v (.str ⟨#[c]⟩) else none
  | _, _ => none
theorem Reps.atI {mg : Mg} {B : Hp} {xs : List V} {ds : List DV} (r : Reps mg B xs ds) {i : Int} {d : DV} (h : L2.atI ds i = some d) : ∃ v, L2.atI xs i = some v ∧ Rep mg B v d := by
  unfold L2.atI at h ⊢
  rw [r.length]
  cases e : ixN ds.length i with
  | none => rw [e] at h; cases h
  | some j =>
    rw [e] at h
    exact r.getD' h
theorem View.script {mg : Mg} {B H : Hp} (le : Sub B H) {v : V} {ns : List Int} (q : View mg B H v (.scr ns)) : ∃ a, v = .ref a ∧ Rd H a (.lst (ns.map V.int)) := by
  cases q with
  | r q => cases q with | scr h => exact ⟨_, rfl, le.rdl h⟩
theorem atI_map {α β : Type} (f : α → β) (xs : List α) (i : Int) : atI (xs.map f) i = (atI xs i).map f := by
  unfold atI
  rw [List.length_map]
  cases ixN xs.length i with
  | none => rfl
  | some j => simp
theorem prim_ix {mg : Mg} {K : PySem.W.Frag} : Prim2 mg (rIx K) fIx := fun B H x y dx dy rv Q le vx vy e k => by
  unfold fIx at e
  split at e
  · obtain ⟨a, xs', rfl, ha, ra⟩ := vx.list le
    obtain ⟨d, h1, h2⟩ := Option.map_eq_some_iff.mp e
    obtain ⟨v, h3, h4⟩ := ra.atI h1
    subst h2
    exact .inl ⟨_, _, _, _, rfl, vy.int, SqL.of ha, h3, k _ _ _ (.v le h4)⟩
  · obtain ⟨a, xs', rfl, ha, ra⟩ := vx.tuple le
    obtain ⟨d, h1, h2⟩ := Option.map_eq_some_iff.mp e
    obtain ⟨v, h3, h4⟩ := ra.atI h1
    subst h2
    exact .inr (.inl ⟨_, _, _, _, rfl, vy.int, SqT.of ha, h3, k _ _ _ (.v le h4)⟩)
  · obtain ⟨a, rfl, ha⟩ := vx.script le
    obtain ⟨d, h1, h2⟩ := Option.map_eq_some_iff.mp e
    subst h2
    exact .inl ⟨_, _, _, _, rfl, vy.int, .inl ha, by rw [atI_map, h1]; rfl, k _ _ _ (res_int le _)⟩
  · split at e
    · obtain ⟨c, h1, h2⟩ := Option.map_eq_some_iff.mp e
      subst h2
      exact .inr (.inr ⟨_, _, _, vx.str, vy.int, ‹_›, h1, k _ _ _ (res_str le _)⟩)
    · cases e
  · cases e
section
variable {X : Cx} {a b : Expr} {ma mb : M Opd} {pos : Pos}
theorem px_ix (ha : PX X a ma) (hb : PX X b mb) (hs : PlainIx b := by intro _ _; rfl) : PX X (.Subscript a b pos) (M.bind ma fun x => M.bind mb fun y => op2 fIx x y) := fun W tk => PE.imp (pe_ix ix_seq (ha W tk) (hb W tk) hs) fun σ H Q ⟨B, S, st, q⟩ =>
  ⟨B, S, st, (spec_bind.mp q).imp (fun x S1 _ q v B1 H1 s hs or _ => ⟨B1, S1, s.st, (spec_bind.mp q).imp (fun y S2 _ q w B2 H2 s2 hs2 or2 _ =>
    op2_end prim_ix s hs or s2 hs2 or2 q) fun _ _ _ h => h.pre s⟩) fun _ _ _ h => h⟩
end
/-! ### built-ins of numbers -/
theorem Views.one {mg : Mg} {B H : Hp} {xs : List V} {d : DV} (q : Views mg B H xs [d]) : ∃ v, xs = [v] ∧ View mg B H v d := by
  cases q with
  | cons a b => cases b; exact ⟨_, rfl, a⟩
theorem Views.two {mg : Mg} {B H : Hp} {xs : List V} {d e : DV} (q : Views mg B H xs [d, e]) : ∃ v w, xs = [v, w] ∧ View mg B H v d ∧ View mg B H w e := by
  cases q with
  | cons a b =>
    cases b with
    | cons b c => cases c; exact ⟨_, _, rfl, a, b⟩
def fInt : List DV → Option RV
  | [.int i] => some (.v (.int i))
  | [.bl b] => some (.v (.int (if b then 1 else 0)))
  | _ => none
theorem prim_int {mg : Mg} : PrimN mg (fun xs H Q => (∃ i, xs = [.int i] ∧ Q (.int i) H) ∨ ∃ k, xs = [.bl k] ∧ Q (.int (if k then 1 else 0)) H) fInt := fun B H xs ds rv Q le vs e k => by
  unfold fInt at e
  split at e
  · cases e
    obtain ⟨v, rfl, q⟩ := vs.one
    exact .inl ⟨_, by rw [q.int], k _ _ _ (res_int le _)⟩
  · cases e
    obtain ⟨v, rfl, q⟩ := vs.one
    exact .inr ⟨_, by rw [q.bl], k _ _ _ (res_int le _)⟩
  · cases e
def fAbs : List DV → Option RV
  | [.int i] => some (.v (.int (if i < 0 then -i else i)))
  | _ => none
theorem prim_abs {mg : Mg} : PrimN mg (fun xs H Q => ∃ i, xs = [.int i] ∧ Q (.int (if i < 0 then -i else i)) H) fAbs := fun B H xs ds rv Q le vs e k => by
  unfold fAbs at e
  split at e
  · cases e
    obtain ⟨v, rfl, q⟩ := vs.one
    exact ⟨_, by rw [q.int], k _ _ _ (res_int le _)⟩
  · cases e
def fMax : List DV → Option RV
  | [.int i, .int j] => some (.v (.int (if j > i then j else i)))
  | _ => none
theorem prim_max {mg : Mg} : PrimN mg (fun xs H Q => ∃ i j, xs = [.int i, .int j] ∧ Q (.int (if j > i then j else i)) H) fMax := fun B H xs ds rv Q le vs e k => by
  unfold fMax at e
  split at e
  · cases e
    obtain ⟨v, w, rfl, q, q'⟩ := vs.two
    exact ⟨_, _, by rw [q.int, q'.int], k _ _ _ (res_int le _)⟩
  · cases e
def fMin : List DV → Option RV
  | [.int i, .int j] => some (.v (.int (if j < i then j else i)))
  | _ => none
theorem prim_min {mg : Mg} : PrimN mg (fun xs H Q => ∃ i j, xs = [.int i, .int j] ∧ Q (.int (if j < i then j else i)) H) fMin := fun B H xs ds rv Q le vs e k => by
  unfold fMin at e
  split at e
  · cases e
    obtain ⟨v, w, rfl, q, q'⟩ := vs.two
    exact ⟨_, _, by rw [q.int, q'.int], k _ _ _ (res_int le _)⟩
  · cases e
def fDivmod : List DV → Option RV
  | [.int i, .int j] => if 0 < j ∧ j < 1073741824 then some (.v (.tup [.int (i / j), .int (i % j)])) else none
  | _ => none
theorem prim_divmod {mg : Mg} : PrimN mg (fun xs H Q => ∃ i j, xs = [.int i, .int j] ∧ CDiv i j ∧ ∀ p, H p = none → Q (.ref p) (upd H p (.tup [.int (i / j), .int (i % j)]))) fDivmod := fun B H xs ds rv Q le vs e k => by
  unfold fDivmod at e
  split at e
  · split at e
    · cases e
      obtain ⟨v, w, rfl, q, q'⟩ := vs.two
      exact ⟨_, _, by rw [q.int, q'.int], ‹_›, fun p hp => k _ _ _ (res_tup le hp (.cons (.int _) (.cons (.int _) .nil)))⟩
    · cases e
  · cases e
/-- len -/
def fLen : List DV → Option RV
  | [.lst xs] => some (.v (.int xs.length))
  | [.tup xs] => some (.v (.int xs.length))
  | [.scr xs] => some (.v (.int xs.length))
  | [.str z] => if z.length ≤ sizeLine then some (.v (.int z.length)) else none
  | _ => none
end Lb
/-! Targets. -/
namespace Lb
open PySem PySem.Spec PyProof.Rows L2
abbrev GM := DV → Sl → Option Sl
/-- ts: the slots that it may set -/
def tGM (mg : Mg) (ts : List Nat) (g : GM) : TG := fun v σ H Q => ∃ B S d S', StR mg B H σ S ∧ Rep mg B v d ∧ g d S = some S' ∧ ∀ B' H' σ', Stp mg B H σ S B' H' σ' S' → Has S S' → (∀ i, i ∉ ts → σ'[i]? = σ[i]?) → Q σ' H'
def GX (X : Cx) (tg : Expr) (ts : List Nat) (g : GM) : Prop := PG X tg (tGM X.mg ts g)
abbrev GMs := List DV → Sl → Option Sl
def tGMs (mg : Mg) (ts : List Nat) (g : GMs) : TGs := fun vs σ H Q => ∃ B S ds S', StR mg B H σ S ∧ Reps mg B vs ds ∧ g ds S = some S' ∧ ∀ B' H' σ', Stp mg B H σ S B' H' σ' S' → Has S S' → (∀ i, i ∉ ts → σ'[i]? = σ[i]?) → Q σ' H'
def GXs (X : Cx) (tgs : List Expr) (ts : List Nat) (g : GMs) : Prop := PGs X tgs (tGMs X.mg ts g)
theorem PG.imp {X : Cx} {e : Expr} {t t' : TG} (h : PG X e t) (i : ∀ v σ H Q, t' v σ H Q → t v σ H Q) : PG X e t' := ⟨fun p s σ H v u Q I r q => h.run p s σ H v u Q I r (i v σ H Q q)⟩
theorem PGs.imp {X : Cx} {e : List Expr} {t t' : TGs} (h : PGs X e t) (i : ∀ v σ H Q, t' v σ H Q → t v σ H Q) : PGs X e t' := ⟨fun p s σ H v u Q I r q => h.run p s σ H v u Q I r (i v σ H Q q)⟩
def storeD (i : Nat) : GM := fun d S => match S[i]? with
  | none => none
  | some x => if (x.map RV.isPin).getD false then none else some (S.set i (some (.v d)))
theorem storeD_spec {i : Nat} {d : DV} {S S' : Sl} (h : storeD i d S = some S') : ¬ PinAt S i ∧ S' = S.set i (some (.v d)) := by
  unfold storeD at h
  cases e : S[i]? with
  | none => rw [e] at h; cases h
  | some x =>
    rw [e] at h
    dsimp only at h
    split at h
    · cases h
    · rename_i hn
      refine ⟨fun ⟨r', h1, h2⟩ => ?_, (Option.some.inj h).symm⟩
      rw [e] at h1; cases h1
      simp only [Option.map_some, Option.getD_some] at hn
      exact hn h2
theorem has_set (S : Sl) (r : RV) {i : Nat} : Has S (S.set i (some r)) := fun j ⟨r', e⟩ => by
  by_cases hj : j = i
  · subst hj
    exact ⟨r, List.getElem?_set_self (List.getElem?_eq_some_iff.mp e).1⟩
  · exact ⟨r', by rw [set_other hj]; exact e⟩
theorem gx_name {X : Cx} {pos : Pos} (i : Nat) {x : Str} (hN : X.N.Nodup) (hi : X.N[i]? = some x) (hx : Loc X.env.scope x) (hf : X.fn x = true ∨ X.env.scope.names.lookup x = some .local := by first | exact .inl rfl | exact .inr rfl | assumption) : GX X (.Name x pos) [i] (storeD i) :=
  PG.imp (pg_name hN hi hx hf) fun v σ H Q ⟨B, S, d, S', st, r, e, k⟩ => by
    obtain ⟨hp, rfl⟩ := storeD_spec e
    exact k B H _ ((Stp.refl st).set (.v r) (fun a h => by cases h) (fun a h => by cases h) hp rfl) (has_set _ _) fun j hj => List.getElem?_set_ne (fun z => hj (by simp [z]))
/-- xs[i] = d for what a slot holds alone -/
def storeAt (j : Nat) (mi : M Opd) : GM := fun d S => match M.bind (getSl j) (fun _ => mi) S with
  | .ok o S1 => match o.dv S1, S1[j]? with
    | some (.int k), some (some (.ol p xs)) => (ixN xs.length k).map fun n => S1.set j (some (.ol p (xs.set n d)))
    | _, _ => none
  | _ => none
theorem storeAt_spec {j : Nat} {mi : M Opd} {d : DV} {S S' : Sl} (h : storeAt j mi d S = some S') : ∃ o S1 k p xs n, (∃ r : RV, S[j]? = some (some r)) ∧ mi S = .ok o S1 ∧ o.dv S1 = some (.int k) ∧ S1[j]? = some (some (.ol p xs)) ∧ ixN xs.length k = some n ∧ S' = S1.set j (some (.ol p (xs.set n d))) := by
  unfold storeAt at h
  split at h
  · rename_i o S1 h1
    split at h
    · rename_i k p xs h2 h3
      obtain ⟨n, h4, h5⟩ := Option.map_eq_some_iff.mp h
      unfold M.bind getSl at h1
      cases e : S[j]? with
      | none => rw [e] at h1; cases h1
      | some z =>
        cases z with
        | none => rw [e] at h1; cases h1
        | some r =>
          rw [e] at h1
          exact ⟨o, S1, k, p, xs, n, ⟨r, rfl⟩, h1, h2, h3, h4, h5.symm⟩
    · cases h
  · cases h
abbrev W0 : WX := fun _ _ _ _ => False
section
variable {X : Cx} {z : Str} {zp pos : Pos} {e : Expr} {mi : M Opd}
theorem getSl_ok {j : Nat} {S : Sl} {r : RV} (h : S[j]? = some (some r)) : getSl j S = .ok (.sl j) S := by unfold getSl; rw [h]
theorem gx_at (j : Nat) (hz : PX X (.Name z zp) (getSl j)) (hi : PX X e mi)
    (ha : ∀ v, assign (.Subscript (.Name z zp) e pos) X.env v = (do
      let ov ← holding [v] (eval (.Name z zp) X.env)
      let iv ← holding [v, ov] (eval e X.env)
      standAt pos
      holding [v, ov, iv] (setItem ov iv v)
      release [v, ov, iv] []) := by intro _; rfl) : GX X (.Subscript (.Name z zp) e pos) [] (storeAt j mi) := by
  refine PG.imp (pg_sub (hz W0 takes0) (hi W0 takes0) set_list ha) fun v σ H Q ⟨B, S, d, S', st, r, e, k⟩ => ?_
  obtain ⟨o, S1, i, p, xs, n, ⟨r0, h0⟩, h1, h2, h3, h4, rfl⟩ := storeAt_spec e
  refine ⟨B, S, st, ?_⟩
  rw [getSl_ok h0]
  intro ov B1 H1 s1 hs1 or1 _
  refine ⟨B1, S, s1.st, ?_⟩
  rw [h1]
  intro iv B2 H2 s2 hs2 or2 _
  obtain rfl : iv = .int i := (or2.view s2.st h2).int
  have ev : σ[j]? = some (some ov) := by cases or1 with | sl e _ => exact e
  obtain ⟨v', e2, q0⟩ := s2.st.at_ j _ h3
  rw [ev] at e2; cases e2
  cases q0 with
  | @ol a _ ys _ hb hh q =>
    exact ⟨a, ys, i, n, rfl, rfl, hh, by rw [q.length]; exact h4, k B2 _ σ ((s1.trans s2).mutL h3 ev (q.set n (r.mono (s1.grow.sub.trans s2.grow.sub)))) (hs2.trans (has_set _ _)) fun _ _ => rfl⟩
end
/-! ### a, b = .. -/
def gNilM : GMs := fun ds S => match ds with
  | [] => some S
  | _ => none
def gConsM (g : GM) (gs : GMs) : GMs := fun ds S => match ds with
  | d :: r => (g d S).bind (gs r)
  | [] => none
def gTupM (n : Nat) (gs : GMs) : GM := fun d S => match d with
  | .tup ds => if ds.length = n then gs ds S else none
  | _ => none
section
variable {X : Cx} {e : Expr} {es : List Expr} {g : GM} {gs : GMs} {ts us : List Nat} {pos : Pos} {k n : Nat}
theorem gxs_nil : GXs X [] [] gNilM := PGs.imp pgs_nil fun vs σ H Q ⟨B, S, ds, S', st, r, e, k⟩ => by
  cases r with
  | nil => cases e; exact ⟨rfl, k B H σ (.refl st) (.refl S) fun _ _ => rfl⟩
  | cons _ _ => cases e
theorem gxs_cons (h : GX X e ts g) (hs : GXs X es us gs) (h0 : (assignEach (e :: es) X.env).map (·.2) = assign e X.env :: (assignEach es X.env).map (·.2) := by rfl) : GXs X (e :: es) (ts ++ us) (gConsM g gs) :=
  PGs.imp (pgs_cons h hs h0) fun vs σ H Q ⟨B, S, ds, S', st, r, e, k⟩ => by
    cases r with
    | nil => cases e
    | @cons x d xs ds r rs =>
      obtain ⟨S1, e1, e2⟩ := Option.bind_eq_some_iff.mp e
      exact ⟨x, xs, rfl, B, S, d, S1, st, r, e1, fun B1 H1 σ1 s1 h1 o1 => ⟨B1, S1, ds, S', s1.st, rs.mono s1.grow.sub, e2, fun B2 H2 σ2 s2 h2 o2 => k B2 H2 σ2 (s1.trans s2) (h1.trans h2) fun i hi => (o2 i fun z => hi (List.mem_append_right _ z)).trans (o1 i fun z => hi (List.mem_append_left _ z))⟩⟩
theorem gx_tup (hc : X.calm = true) (h : GXs X es ts gs) (hn : (assignEach es X.env).length = n := by rfl) (hst : (assignEach es X.env).findIdx? (·.1) = none := by rfl) : GX X (.Tuple es k pos) ts (gTupM n gs) :=
  PG.imp (pg_tup hc h hn hst) fun v σ H Q ⟨B, S, d, S', st, r, e, k⟩ => by
    unfold gTupM at e
    split at e
    · split at e
      · rename_i hl
        obtain ⟨a, xs, rfl, ha, ra⟩ := (View.r r : View X.mg B H v _).tuple st.le
        exact ⟨a, xs, rfl, SqT.of ha, by rw [ra.length]; exact hl, B, S, _, S', st, ra, e, k⟩
      · cases e
    · cases e
def gSM (g : GM) (d : DV) : SM := fun S => match g d S with
  | some S' => .nx S'
  | none => .stuck
variable {tg : Expr} {me : M DV}
theorem sx_asg (he : FX X e me) (hg : GX X tg ts g) (hs : swapsWithSole [tg] e pos.line X.env = pure false := by rfl) (hw : swappedStores [tg] e X.env = pure none := by rfl)
    (h1 : (assignEach [tg] X.env).map (·.2) = [assign tg X.env] := by rfl) : SX X (.Assign [tg] e pos) (M.thn me (gSM g)) := fun W tk pp => PS.imp (ps_asg (he W tk) hg hs hw h1) fun D σ H ⟨B, S, x, q⟩ =>
  ⟨B, S, x, (spec_thn.mp q).imp (fun d S1 _ q v B1 H1 s hs r => by
    unfold gSM at q
    cases eg : g d S1 with
    | none => rw [eg] at q; exact q.elim
    | some S2 =>
      rw [eg] at q
      exact ⟨B1, S1, d, S2, s.st, r, eg, fun B2 H2 σ2 s2 _ _ => q B2 H2 σ2 (s.trans s2)⟩) fun _ _ _ h => h⟩
end
end Lb
/-! What is walked; for. -/
namespace Lb
open PySem PySem.Spec PyProof.Rows L2
/-- from (B, H) on J yields just ds, whatever is made besides -/
structure Yields (mg : Mg) (B H : Hp) (J : It) (ds : List DV) : Prop where
  go : ∀ (B' H' : Hp), Sub B B' → Sub B' H' → ∀ i, i < ds.length → J.go i H'
  stop : ∀ (B' H' : Hp), Sub B B' → Sub B' H' → J.stop ds.length H'
  yld : ∀ (B' H' : Hp), Sub B B' → Sub B' H' → ∀ (i : Nat) (x : V) (H2 : Hp), J.yld i H' x H2 → ∀ d, ds[i]? = some d → ∃ B2, New B' H' B2 H2 ∧ Rep mg B2 x d
def tI (mg : Mg) (m : M (List DV)) (W : WX) : TI := fun σ H R => ∃ B S, StR mg B H σ S ∧ (m S).spec
  (fun ds S' => ∀ J B' H', Stp mg B H σ S B' H' σ S' → Has S S' → Yields mg B' H' J ds → R J H') (xPost mg W B H σ S)
def IX (X : Cx) (tg iter : Expr) (m : M (List DV)) : Prop := ∀ W, Takes X W → PI X tg iter (tI X.mg m W)
theorem PI.imp {X : Cx} {tg e : Expr} {t t' : TI} (h : PI X tg e t) (i : ∀ σ H R, t' σ H R → t σ H R) : PI X tg e t' := ⟨fun p s σ H R I q => h.run p s σ H R I (i σ H R q)⟩
theorem PI.or {X : Cx} {tg e : Expr} {t t' : TI} (h : PI X tg e t) (h' : PI X tg e t') : PI X tg e (fun σ H R => t σ H R ∨ t' σ H R) := ⟨fun p s σ H R I q => q.elim (h.run p s σ H R I) (h'.run p s σ H R I)⟩
/-- what may be walked as it is -/
def seqDV : DV → Option (List DV)
  | .lst ds => some ds
  | .tup ds => some ds
  | _ => none
def asSeq (d : DV) : M (List DV) := M.of (seqDV d)
theorem of_spec {α : Type} {o : Option α} {S : Sl} {K : α → Sl → Prop} {E : Str → List (Str × DV) → Sl → Prop} (h : (M.of o S).spec K E) : ∃ a, o = some a ∧ K a S := by
  cases o with
  | none => exact h.elim
  | some a => exact ⟨a, rfl, h⟩
section
variable {mg : Mg} {B H : Hp} {a b : Addr} {xs ys : List V} {ds es : List DV} {K : PySem.W.Frag}
theorem there {o : HO} {B B' H' : Hp} {a : Addr} (h : B a = some o) (s : solid o = true) (s1 : Sub B B') (s2 : Sub B' H') : H' a = some o := s2.keep _ _ (s1.keep _ _ h s) s
theorem reps_ix {i : Nat} (r : Reps mg B xs ds) (h : i < ds.length) : ∃ x, xs[i]? = some x := ⟨xs[i]'(by rw [r.length]; exact h), List.getElem?_eq_getElem _⟩
theorem yields_lst (h : B a = some (.lst xs)) (r : Reps mg B xs ds) : Yields mg B H (Itl K a) ds where
  go := fun B' H' s1 s2 i hi => by
    obtain ⟨x, hx⟩ := reps_ix r hi
    exact ⟨xs, x, SqL.of (there h rfl s1 s2), hx⟩
  stop := fun B' H' s1 s2 => ⟨xs, SqL.of (there h rfl s1 s2), by rw [r.length]; exact Nat.le_refl _⟩
  yld := fun B' H' s1 s2 i x H2 ⟨e, y⟩ d hd => by
    subst e
    refine ⟨B', .refl s2, ?_⟩
    have hx := y xs (SqL.of (there h rfl s1 s2))
    obtain ⟨d', h1, h2⟩ := (r.mono s1).get hx
    rw [hd] at h1; cases h1
    exact h2
theorem yields_tup (h : B a = some (.tup xs)) (r : Reps mg B xs ds) : Yields mg B H (Itt K a) ds where
  go := fun B' H' s1 s2 i hi => by
    obtain ⟨x, hx⟩ := reps_ix r hi
    exact ⟨xs, x, SqT.of (there h rfl s1 s2), hx⟩
  stop := fun B' H' s1 s2 => ⟨xs, SqT.of (there h rfl s1 s2), by rw [r.length]; exact Nat.le_refl _⟩
  yld := fun B' H' s1 s2 i x H2 ⟨e, y⟩ d hd => by
    subst e
    refine ⟨B', .refl s2, ?_⟩
    have hx := y xs (SqT.of (there h rfl s1 s2))
    obtain ⟨d', h1, h2⟩ := (r.mono s1).get hx
    rw [hd] at h1; cases h1
    exact h2
/-- lo, lo + 1, .. as data -/
def rangeDV (lo : Int) (n : Nat) : List DV := (List.range n).map fun (i : Nat) => .int (lo + (i : Int))
theorem range_get {lo : Int} {n i : Nat} {d : DV} (h : (rangeDV lo n)[i]? = some d) : d = .int (lo + (i : Int)) := by
  unfold rangeDV at h
  rw [List.getElem?_map] at h
  cases e : (List.range n)[i]? with
  | none => rw [e] at h; cases h
  | some j =>
    rw [e] at h
    have hj : i < n := by simpa using (List.getElem?_eq_some_iff.mp e).1
    rw [List.getElem?_range hj] at e
    cases e
    exact (Option.some.inj h).symm
theorem yields_range {lo : Int} {n : Nat} : Yields mg B H (Itr lo n) (rangeDV lo n) where
  go := fun B' H' s1 s2 i hi => by show i < n; simpa [rangeDV] using hi
  stop := fun B' H' s1 s2 => by show n ≤ _; simp [rangeDV]
  yld := fun B' H' s1 s2 i x H2 ⟨e, y⟩ d hd => by
    subst e
    subst y
    rw [range_get hd]
    exact ⟨B', .refl s2, .int _⟩
def enumDV (ds : List DV) : List DV := ds.zipIdx.map fun p => .tup [.int (p.2 : Nat), p.1]
theorem enum_get {ds : List DV} {i : Nat} {d : DV} (h : (enumDV ds)[i]? = some d) : ∃ e, ds[i]? = some e ∧ d = .tup [.int (i : Nat), e] := by
  unfold enumDV at h
  rw [List.getElem?_map, List.getElem?_zipIdx] at h
  cases e : ds[i]? with
  | none => rw [e] at h; cases h
  | some x => rw [e] at h; simp at h; exact ⟨x, rfl, h.symm⟩
theorem yields_enum (h : B a = some (.lst xs)) (r : Reps mg B xs ds) : Yields mg B H (Ite K a) (enumDV ds) where
  go := fun B' H' s1 s2 i hi => by
    obtain ⟨x, hx⟩ := reps_ix r (by simpa [enumDV] using hi)
    exact ⟨xs, x, SqL.of (there h rfl s1 s2), hx⟩
  stop := fun B' H' s1 s2 => ⟨xs, SqL.of (there h rfl s1 s2), by rw [r.length]; simp [enumDV]⟩
  yld := fun B' H' s1 s2 i x H2 ⟨T, z, e1, e2, e3, y⟩ d hd => by
    subst e1; subst e3
    obtain ⟨e, h1, rfl⟩ := enum_get hd
    have hz := y xs (SqL.of (there h rfl s1 s2))
    obtain ⟨d', h3, h4⟩ := (r.mono s1).get hz
    rw [h1] at h3; cases h3
    have n : New B' H' (upd B' T (.tup [.int (i : Nat), z])) (upd H' T (.tup [.int (i : Nat), z])) := .alloc s2 e2
    exact ⟨_, n, .tup upd_same (.cons (.int _) (.cons (h4.mono n.sub) .nil))⟩
def zipDV (ds es : List DV) : List DV := (ds.zip es).map fun p => .tup [p.1, p.2]
theorem zip_get {ds es : List DV} {i : Nat} {d : DV} (h : (zipDV ds es)[i]? = some d) : ∃ x y, ds[i]? = some x ∧ es[i]? = some y ∧ d = .tup [x, y] := by
  unfold zipDV at h
  rw [List.getElem?_map] at h
  cases e : (ds.zip es)[i]? with
  | none => rw [e] at h; cases h
  | some p =>
    rw [e] at h
    obtain ⟨x, y⟩ := p
    rw [List.getElem?_zip_eq_some] at e
    exact ⟨x, y, e.1, e.2, (Option.some.inj h).symm⟩
theorem yields_zip (h : B a = some (.lst xs)) (r : Reps mg B xs ds) (h' : B b = some (.lst ys)) (r' : Reps mg B ys es) : Yields mg B H (Itz K a b) (zipDV ds es) where
  go := fun B' H' s1 s2 i hi => by
    have hl : i < ds.length ∧ i < es.length := by simp [zipDV] at hi; omega
    obtain ⟨x, hx⟩ := reps_ix r hl.1
    obtain ⟨y, hy⟩ := reps_ix r' hl.2
    exact ⟨xs, ys, x, y, SqL.of (there h rfl s1 s2), SqL.of (there h' rfl s1 s2), hx, hy⟩
  stop := fun B' H' s1 s2 => ⟨xs, ys, SqL.of (there h rfl s1 s2), SqL.of (there h' rfl s1 s2), by rw [r.length, r'.length]; simp [zipDV]; omega⟩
  yld := fun B' H' s1 s2 i x H2 ⟨T, z, w, e1, e2, e3, y, y'⟩ d hd => by
    subst e1; subst e3
    obtain ⟨u, v, h1, h2, rfl⟩ := zip_get hd
    have hz := y xs (SqL.of (there h rfl s1 s2))
    have hw := y' ys (SqL.of (there h' rfl s1 s2))
    obtain ⟨d1, h3, h4⟩ := (r.mono s1).get hz
    rw [h1] at h3; cases h3
    obtain ⟨d2, h5, h6⟩ := (r'.mono s1).get hw
    rw [h2] at h5; cases h5
    have n : New B' H' (upd B' T (.tup [z, w])) (upd H' T (.tup [z, w])) := .alloc s2 e2
    exact ⟨_, n, .tup upd_same (.cons (h4.mono n.sub) (.cons (h6.mono n.sub) .nil))⟩
end
section
variable {X : Cx} {tg iter e e2 : Expr} {me me2 : M DV} {ms : M (List Opd)} {p pos : Pos}
/-- a list or a tuple -/
theorem ix_seq' (he : FX X iter me) : IX X tg iter (M.bind me asSeq) := fun W tk => PI.imp (PI.or (pi_list (he W tk)) (pi_tup (he W tk))) fun σ H R ⟨B, S, st, q⟩ => by
  have q := spec_bind.mp q
  cases em : me S with
  | stuck => rw [em] at q; exact q.elim
  | exc c fs S' =>
    rw [em] at q
    exact .inl ⟨B, S, st, by rw [em]; exact q⟩
  | ok d S1 =>
    rw [em] at q
    obtain ⟨ds, e1, k⟩ := of_spec q
    cases d with
    | lst ds' =>
      cases e1
      refine .inl ⟨B, S, st, ?_⟩
      rw [em]
      intro v B1 H1 s hs r
      cases r with
      | lst h r => exact ⟨_, rfl, ⟨_, SqL.of (s.st.le.keep _ _ h rfl)⟩, k _ B1 H1 s hs (yields_lst h r)⟩
    | tup ds' =>
      cases e1
      refine .inr ⟨B, S, st, ?_⟩
      rw [em]
      intro v B1 H1 s hs r
      cases r with
      | tup h r => exact ⟨_, rfl, ⟨_, SqT.of (s.st.le.keep _ _ h rfl)⟩, k _ B1 H1 s hs (yields_tup h r)⟩
    | _ => cases e1
def okR (i : Int) : Bool := decide (-(2 ^ 62) ≤ i ∧ i < 2 ^ 62)
def asRange1 (ds : List DV) : M (List DV) := M.of (match ds with
  | [.int j] => if okR j then some (rangeDV 0 j.toNat) else none
  | _ => none)
def asRange2 (ds : List DV) : M (List DV) := M.of (match ds with
  | [.int i, .int j] => if okR i && okR j then some (rangeDV i (j - i).toNat) else none
  | _ => none)
variable {fs : M (List DV)}
theorem ix_range1 (hg : Gl X "range") (hm : X.mg "range" = none) (ha : FXs X [e] fs) (hs : starEach [e] X.env = [(false, eval e X.env)] := by rfl) : IX X tg (.Call (.Name "range" p) [e] [] pos) (M.bind fs asRange1) := fun W tk => PI.imp (pi_range1 hg hm (ha W tk) hs) fun σ H R ⟨B, S, st, q⟩ =>
  ⟨B, S, st, (spec_bind.mp q).imp (fun ds S1 _ q vs B1 H1 s hs r => by
    obtain ⟨l, e1, k⟩ := of_spec q
    split at e1
    · split at e1
      · rename_i h
        cases e1
        cases r with
        | cons r r' =>
          cases r'
          cases r
          simp only [okR, decide_eq_true_eq] at h
          exact ⟨_, rfl, h.1, h.2, k _ B1 H1 s hs yields_range⟩
      · cases e1
    · cases e1) fun _ _ _ h => h⟩
theorem ix_range2 (hg : Gl X "range") (hm : X.mg "range" = none) (ha : FXs X [e, e2] fs) (hs : starEach [e, e2] X.env = [(false, eval e X.env), (false, eval e2 X.env)] := by rfl) (hs2 : starEach [e2] X.env = [(false, eval e2 X.env)] := by rfl) :
    IX X tg (.Call (.Name "range" p) [e, e2] [] pos) (M.bind fs asRange2) := fun W tk => PI.imp (pi_range2 hg hm (ha W tk) hs hs2) fun σ H R ⟨B, S, st, q⟩ =>
  ⟨B, S, st, (spec_bind.mp q).imp (fun ds S1 _ q vs B1 H1 s hs r => by
    obtain ⟨l, e1, k⟩ := of_spec q
    split at e1
    · split at e1
      · rename_i h
        cases e1
        cases r with
        | cons r r' =>
          cases r' with
          | cons r' r'' =>
            cases r''
            cases r
            cases r'
            simp only [okR, Bool.and_eq_true, decide_eq_true_eq] at h
            exact ⟨_, _, rfl, ⟨h.1.1, h.1.2, h.2.1, h.2.2⟩, k _ B1 H1 s hs yields_range⟩
      · cases e1
    · cases e1) fun _ _ _ h => h⟩
def asEnum (ds : List DV) : M (List DV) := M.of (match ds with
  | [.lst xs] => some (enumDV xs)
  | _ => none)
def asZip (ds : List DV) : M (List DV) := M.of (match ds with
  | [.lst xs, .lst ys] => some (zipDV xs ys)
  | _ => none)
theorem ix_enum {elts : List Expr} {kk : Nat} {tpos : Pos} (hg : Gl X "enumerate") (hm : X.mg "enumerate" = none) (ha : FXs X [e] fs) (hs : starEach [e] X.env = [(false, eval e X.env)] := by rfl) :
    IX X (.Tuple elts kk tpos) (.Call (.Name "enumerate" p) [e] [] pos) (M.bind fs asEnum) := fun W tk => PI.imp (pi_enum hg hm (ha W tk) hs) fun σ H R ⟨B, S, st, q⟩ =>
  ⟨B, S, st, (spec_bind.mp q).imp (fun ds S1 _ q vs B1 H1 s hs r => by
    obtain ⟨l, e1, k⟩ := of_spec q
    split at e1
    · cases e1
      cases r with
      | cons r r' =>
        cases r'
        cases r with
        | lst h r => exact ⟨_, _, rfl, SqL.of (s.st.le.keep _ _ h rfl), k _ B1 H1 s hs (yields_enum h r)⟩
    · cases e1) fun _ _ _ h => h⟩
theorem ix_zip {elts : List Expr} {kk : Nat} {tpos : Pos} (hg : Gl X "zip") (hm : X.mg "zip" = none) (ha : FXs X [e, e2] fs)
    (hs : starEach [e, e2] X.env = (false, eval e X.env) :: starEach [e2] X.env := by rfl) (hpl : (backTo pos (starEach [e2] X.env)).any (·.1) = false := by rfl) :
    IX X (.Tuple elts kk tpos) (.Call (.Name "zip" p) [e, e2] [] pos) (M.bind fs asZip) := fun W tk => PI.imp (pi_zip hg hm (ha W tk) hs hpl) fun σ H R ⟨B, S, st, q⟩ =>
  ⟨B, S, st, (spec_bind.mp q).imp (fun ds S1 _ q vs B1 H1 s hs r => by
    obtain ⟨l, e1, k⟩ := of_spec q
    split at e1
    · cases e1
      cases r with
      | cons r r' =>
        cases r' with
        | cons r' r'' =>
          cases r''
          cases r with
          | lst h r =>
            cases r' with
            | lst h' r' => exact ⟨_, _, _, _, rfl, SqL.of (s.st.le.keep _ _ h rfl), SqL.of (s.st.le.keep _ _ h' rfl), k _ B1 H1 s hs (yields_zip h r h' r')⟩
    · cases e1) fun _ _ _ h => h⟩
/-- a text, sign by sign -/
def signsDV (x : Str) : List DV := x.cps.toList.map fun c => .str ⟨#[c]⟩
def asSigns (d : DV) : M (List DV) := M.of (match d with
  | .str x => some (signsDV x)
  | _ => none)
theorem ix_str (he : FX X iter me) : IX X tg iter (M.bind me asSigns) := fun W tk => PI.imp (pi_str (he W tk)) fun σ H R ⟨B, S, st, q⟩ =>
  ⟨B, S, st, (spec_bind.mp q).imp (fun d S1 em q v B1 H1 s hs r => by
    clear em
    obtain ⟨l, e1, k⟩ := of_spec q
    split at e1
    · rename_i x
      cases e1
      cases r
      refine ⟨x, rfl, k _ B1 H1 s hs ⟨fun B' H' _ _ i hi => by show i < x.cps.size; simpa [signsDV] using hi, fun B' H' _ _ => by show x.cps.size ≤ _; simp [signsDV], fun B' H' s1 s2 i v H2 ⟨e, c, hc, hv⟩ d hd => ?_⟩⟩
      subst e; subst hv
      refine ⟨B', .refl s2, ?_⟩
      unfold signsDV at hd
      rw [List.getElem?_map, Array.getElem?_toList, hc] at hd
      cases hd
      exact .str _
    · cases e1) fun _ _ _ h => h⟩
end
/-! ### for -/
def loopM (g : GM) (body : SM) : List DV → SM
  | [] => SM.nil
  | d :: ds => fun S => match g d S with
    | none => .stuck
    | some S1 => match body S1 with
      | .nx S2 => loopM g body ds S2
      | .ct S2 => loopM g body ds S2
      | .bk S2 => .nx S2
      | o => o
section
variable {X : Cx} {tg iter : Expr} {body : List Stmt} {mi : M (List DV)} {ts : List Nat} {g : GM} {mb : SM} {pos : Pos}
theorem Stp.sub {mg : Mg} {B H B' H' : Hp} {σ σ' : Sg} {S S' : Sl} (s : Stp mg B H σ S B' H' σ' S') : Sub B B' := s.grow.sub
theorem sx_for (hc : X.calm = true) (hi : IX X tg iter mi) (hg : GX X tg ts g) (hb : SXs X body mb) (hs : ∀ x, foldedSetIterable iter X.env x = pure x := by intro _; rfl) :
    SX X (.For tg iter body [] pos) (M.thn mi fun ds => loopM g mb ds) := fun W tk pp => PS.imp (ps_for pp hc (hi W tk) hg (hb W tk pp) hs) fun D σ H ⟨B, S, x, q⟩ =>
  ⟨B, S, x, (spec_thn.mp q).imp (fun ds S1 _ q J B1 H1 s hs y => by
    refine ⟨fun i m σ' H' => ∃ B' S', Stp X.mg B1 H1 σ S1 B' H' σ' S' ∧ m = ds.length - i ∧ i ≤ ds.length ∧ (loopM g mb (ds.drop i) S').spec
      (fun S' => ∀ B' H' σ', Stp X.mg B H σ S B' H' σ' S' → D.nx σ' H') (fun o S' => ∀ v B' H' σ', Stp X.mg B H σ S B' H' σ' S' → OpdR X.mg B' H' σ' S' v o → Young H v o → D.rt v H')
      (fun S' => ∀ B' H' σ', Stp X.mg B H σ S B' H' σ' S' → D.bk σ' H') (fun S' => ∀ B' H' σ', Stp X.mg B H σ S B' H' σ' S' → D.ct σ' H') (xPost X.mg W B H σ S),
      ⟨ds.length, B1, S1, .refl s.st, by simp, Nat.zero_le _, by simpa using q⟩, ?_⟩
    rintro i m σ' H' ⟨B', S', s', rfl, hi, q⟩
    by_cases hlt : i < ds.length
    · have hd : ds[i]? = some ds[i] := List.getElem?_eq_getElem hlt
      refine .inr ⟨y.go B' H' s'.sub s'.st.le i hlt, _, fun _ _ h => h, fun xv H2 hy => ?_⟩
      obtain ⟨B2, n2, r2⟩ := y.yld B' H' s'.sub s'.st.le i xv H2 hy _ hd
      have s2 := s'.trans (s'.st.step n2)
      rw [List.drop_eq_getElem_cons hlt] at q
      unfold loopM at q
      cases eg : g ds[i] S' with
      | none => rw [eg] at q; exact q.elim
      | some S3 =>
        rw [eg] at q
        refine ⟨B2, S', ds[i], S3, s2.st, r2, eg, fun B3 H3 σ3 s3 _ _ => ⟨B3, S3, s3.st, ?_⟩⟩
        have st := s2.trans s3
        have st0 := s.trans st
        dsimp only at q
        cases eb : mb S3 with
        | stuck => rw [eb] at q; exact q.elim
        | nx S4 =>
          rw [eb] at q
          exact fun B4 H4 σ4 s4 => ⟨ds.length - (i + 1), by omega, B4, S4, st.trans s4, rfl, hlt, q⟩
        | ct S4 =>
          rw [eb] at q
          exact fun B4 H4 σ4 s4 => ⟨ds.length - (i + 1), by omega, B4, S4, st.trans s4, rfl, hlt, q⟩
        | bk S4 =>
          rw [eb] at q
          exact fun B4 H4 σ4 s4 => q B4 H4 σ4 (st0.trans s4)
        | rt o S4 =>
          rw [eb] at q
          exact fun v B4 H4 σ4 s4 r yg => q v B4 H4 σ4 (st0.trans s4) r (yg.pre st0)
        | exc c fs S4 =>
          rw [eb] at q
          exact q.pre st0
    · have e : i = ds.length := by omega
      subst e
      refine .inl ⟨y.stop B' H' s'.sub s'.st.le, ?_⟩
      rw [List.drop_length] at q
      exact q B' H' σ' (s.trans s')) fun _ _ _ h => h⟩
end
end Lb
/-! List comprehensions. -/
namespace Lb
open PySem PySem.Spec PyProof.Rows L2
def wipeS (S : Sl) : List Nat → Sl
  | [] => S
  | v :: vs => (wipeS S vs).set v none
def restS (S0 S : Sl) : List Nat → Sl
  | [] => S
  | v :: vs => (restS S0 S vs).set v ((S0[v]?).getD none)
def noOwn (S : Sl) (vs : List Nat) : Bool := vs.all fun v => match S[v]? with
  | some (some r) => !r.isOwn
  | _ => true
theorem wipeS_len (S : Sl) : ∀ vs : List Nat, (wipeS S vs).length = S.length
  | [] => rfl
  | v :: vs => by unfold wipeS; rw [set_len, wipeS_len S vs]
theorem restS_len (S0 S : Sl) : ∀ vs : List Nat, (restS S0 S vs).length = S.length
  | [] => rfl
  | v :: vs => by unfold restS; rw [set_len, restS_len S0 S vs]
theorem wipeS_out {S : Sl} {i : Nat} : ∀ {vs : List Nat}, i ∉ vs → (wipeS S vs)[i]? = S[i]?
  | [], _ => rfl
  | v :: vs, h => by
    unfold wipeS
    rw [List.getElem?_set_ne (fun z => h (by simp [z])), wipeS_out fun z => h (List.mem_cons_of_mem _ z)]
theorem wipeS_in {S : Sl} {i : Nat} {r : RV} : ∀ {vs : List Nat}, i ∈ vs → (wipeS S vs)[i]? ≠ some (some r)
  | v :: vs, h, e => by
    unfold wipeS at e
    rcases set_some_cases e with ⟨_, z⟩ | ⟨z, e⟩
    · cases z
    · rcases List.mem_cons.mp h with h | h
      · exact z h
      · exact wipeS_in h e
theorem wipeS_some {S : Sl} {i : Nat} {r : RV} {vs : List Nat} (h : (wipeS S vs)[i]? = some (some r)) : S[i]? = some (some r) ∧ i ∉ vs := by
  by_cases hi : i ∈ vs
  · exact absurd h (wipeS_in hi)
  · exact ⟨by rw [← wipeS_out hi]; exact h, hi⟩
theorem wipe_out {σ : Sg} {i : Nat} : ∀ {vs : List Nat}, i ∉ vs → (wipe σ vs)[i]? = σ[i]?
  | [], _ => rfl
  | v :: vs, h => by
    unfold wipe
    rw [List.getElem?_set_ne (fun z => h (by simp [z])), wipe_out fun z => h (List.mem_cons_of_mem _ z)]
theorem restS_out {S0 S : Sl} {i : Nat} : ∀ {vs : List Nat}, i ∉ vs → (restS S0 S vs)[i]? = S[i]?
  | [], _ => rfl
  | v :: vs, h => by
    unfold restS
    rw [List.getElem?_set_ne (fun z => h (by simp [z])), restS_out fun z => h (List.mem_cons_of_mem _ z)]
theorem restS_in {S0 S : Sl} {i : Nat} {r : RV} : ∀ {vs : List Nat}, i ∈ vs → (restS S0 S vs)[i]? = some (some r) → S0[i]? = some (some r)
  | v :: vs, h, e => by
    unfold restS at e
    rcases set_some_cases e with ⟨z, e⟩ | ⟨z, e⟩
    · subst z
      cases q : S0[i]? with
      | none => rw [q] at e; cases e
      | some x => rw [q] at e; simp only [Option.getD_some] at e; rw [e]
    · rcases List.mem_cons.mp h with h | h
      · exact absurd h z
      · exact restS_in h e
theorem restS_at {S0 S : Sl} {i : Nat} {r : RV} : ∀ {vs : List Nat}, i ∈ vs → i < S.length → S0[i]? = some (some r) → (restS S0 S vs)[i]? = some (some r)
  | v :: vs, h, hl, e => by
    unfold restS
    by_cases hv : v = i
    · subst hv
      rw [List.getElem?_set_self (by rw [restS_len]; exact hl), e]; rfl
    · rw [List.getElem?_set_ne hv]
      rcases List.mem_cons.mp h with h | h
      · exact absurd h.symm hv
      · exact restS_at h hl e
theorem wipe_in {σ : Sg} {i : Nat} : ∀ {vs : List Nat}, i ∈ vs → (wipe σ vs)[i]? = (σ[i]?).map fun _ => none
  | v :: vs, h => by
    unfold wipe
    by_cases hv : v = i
    · subst hv
      by_cases hl : v < σ.length
      · rw [List.getElem?_set_self (by rw [wipe_length]; exact hl), List.getElem?_eq_getElem hl]; rfl
      · rw [List.getElem?_eq_none (by simpa [wipe_length] using hl), List.getElem?_eq_none (by simpa using hl)]; rfl
    · rw [List.getElem?_set_ne hv]
      rcases List.mem_cons.mp h with h | h
      · exact absurd h.symm hv
      · exact wipe_in h
theorem wipe_congr {σ σ' : Sg} {vs : List Nat} (hl : σ.length = σ'.length) (h : ∀ i, i ∉ vs → σ[i]? = σ'[i]?) : wipe σ vs = wipe σ' vs := by
  apply List.ext_getElem?
  intro i
  by_cases hi : i ∈ vs
  · rw [wipe_in hi, wipe_in hi]
    by_cases hlt : i < σ.length
    · rw [List.getElem?_eq_getElem hlt, List.getElem?_eq_getElem (by omega)]; rfl
    · rw [List.getElem?_eq_none (by omega), List.getElem?_eq_none (by omega)]
  · rw [wipe_out hi, wipe_out hi, h i hi]
theorem noOwn_at {S : Sl} {vs : List Nat} (h : noOwn S vs = true) {i : Nat} {r : RV} (hi : i ∈ vs) (e : S[i]? = some (some r)) : r.isOwn = false := by
  unfold noOwn at h
  have := List.all_eq_true.mp h i hi
  rw [e] at this
  simpa using this
theorem pin_own {r : RV} (h : r.isPin = true) : r.isOwn = true := by cases r <;> simp_all [RV.isPin, RV.isOwn]
section
variable {mg : Mg} {B H B0 H0 B' H' : Hp} {σ σ0 σ' : Sg} {S S0 S' : Sl} {vs : List Nat}
theorem own_wipe {i : Nat} {a : Addr} (h : OwnAt (wipe σ vs) (wipeS S vs) i a) : OwnAt σ S i a ∧ i ∉ vs := by
  obtain ⟨⟨r, e, hr⟩, e2⟩ := h
  obtain ⟨h1, h2⟩ := wipeS_some e
  exact ⟨⟨⟨r, h1, hr⟩, by rw [← wipe_out h2]; exact e2⟩, h2⟩
theorem StR.wipe (x : StR mg B H σ S) : StR mg B H (L2.wipe σ vs) (wipeS S vs) :=
  ⟨x.le, by rw [wipe_length, wipeS_len]; exact x.len, fun i r e => by
    obtain ⟨h1, h2⟩ := wipeS_some e
    obtain ⟨v, e1, q⟩ := x.at_ i r h1
    exact ⟨v, by rw [wipe_out h2]; exact e1, q⟩, fun i j a h1 h2 => x.dis i j a (own_wipe h1).1 (own_wipe h2).1⟩
theorem Stp.wipe (s : Stp mg B0 H0 σ0 S0 B H σ S) (h0 : ∀ v ∈ vs, ∀ r : RV, S0[v]? ≠ some (some r)) : Stp mg B0 H0 σ0 S0 B H (L2.wipe σ vs) (wipeS S vs) :=
  ⟨s.grow, s.st.wipe, fun a ⟨i, h⟩ => s.own a ⟨i, (own_wipe h).1⟩, fun i hp => by
    obtain ⟨⟨r, h1, h2⟩, h3⟩ := s.pin i hp
    obtain ⟨r0, h4, _⟩ := hp
    have hi : i ∉ vs := fun z => h0 i z r0 h4
    exact ⟨⟨r, by rw [wipeS_out hi]; exact h1, h2⟩, by rw [wipe_out hi]; exact h3⟩, (wipeS_len ..).trans s.len⟩
/-- the block's end: the names of the outside are there again -/
theorem Stp.unwipe (x : StR mg B0 H0 σ S0) (no : noOwn S0 vs = true) (s : Stp mg B0 H0 (L2.wipe σ vs) (wipeS S0 vs) B H (L2.wipe σ vs) S) : Stp mg B0 H0 σ S0 B H σ (restS S0 S vs) ∧ ∀ a, OwnA σ (restS S0 S vs) a → OwnA (L2.wipe σ vs) S a := by
  have ow : ∀ i a, OwnAt σ (restS S0 S vs) i a → OwnAt (L2.wipe σ vs) S i a := fun i a ⟨⟨r, e, hr⟩, e2⟩ => by
    by_cases hi : i ∈ vs
    · have := noOwn_at no hi (restS_in hi e)
      rw [this] at hr; cases hr
    · exact ⟨⟨r, by rw [← restS_out hi]; exact e, hr⟩, by rw [wipe_out hi]; exact e2⟩
  refine ⟨⟨s.grow.imp fun a ⟨i, h⟩ => ⟨i, (own_wipe h).1⟩, ⟨s.st.le, ?_, fun i r e => ?_, fun i j a h1 h2 => s.st.dis i j a (ow i a h1) (ow j a h2)⟩, fun a ⟨i, h⟩ => ?_, fun i hp => ?_, (restS_len ..).trans (s.len.trans (wipeS_len ..))⟩, fun a ⟨i, h⟩ => ⟨i, ow i a h⟩⟩
  · rw [restS_len, ← s.st.len, wipe_length]
  · by_cases hi : i ∈ vs
    · have h0 := restS_in hi e
      obtain ⟨v, e1, q⟩ := x.at_ i r h0
      refine ⟨v, e1, ?_⟩
      have no' := noOwn_at no hi h0
      cases q with
      | v q => exact .v (q.mono s.grow.sub)
      | ol _ _ _ => cases no'
      | od _ _ _ => cases no'
    · rw [restS_out hi] at e
      obtain ⟨v, e1, q⟩ := s.st.at_ i r e
      exact ⟨v, by rw [← wipe_out hi]; exact e1, q⟩
  · rcases s.own a ⟨i, ow i a h⟩ with ⟨j, z⟩ | z
    · exact .inl ⟨j, (own_wipe z).1⟩
    · exact .inr z
  · obtain ⟨r, h1, h2⟩ := hp
    have hi : i ∉ vs := fun z => by
      have := noOwn_at no z h1
      rw [pin_own h2] at this; cases this
    obtain ⟨⟨r', h3, h4⟩, _⟩ := s.pin i ⟨r, by rw [wipeS_out hi]; exact h1, h2⟩
    exact ⟨⟨r', by rw [restS_out hi]; exact h3, h4⟩, rfl⟩
/-- a new object of ours that no slot holds is changed -/
theorem Stp.tmp (s : Stp mg B0 H0 σ0 S0 B H σ S) {D : Addr} {o : HO} (h0 : H0 D = none) (hb : B D = none) (no : ¬ OwnA σ S D) : Stp mg B0 H0 σ0 S0 B (upd H D o) σ S := by
  have le : Sub B (upd H D o) := ⟨fun b u e sl => by
      have hb' : b ≠ D := fun z => by subst z; rw [hb] at e; cases e
      rw [upd_ne hb']; exact s.st.le.keep b u e sl,
    fun b u r => by
      have hb' : b ≠ D := fun z => by subst z; rcases r with r | ⟨_, r⟩ <;> rw [hb] at r <;> cases r
      unfold Rd; rw [upd_ne hb']; exact s.st.le.rd b u r⟩
  refine ⟨⟨s.grow.sub, fun b u e n => ?_, fun b e => ?_, s.grow.new⟩, ⟨le, s.st.len, fun i r e => ?_, s.st.dis⟩, s.own, s.pin, s.len⟩
  · have hb' : b ≠ D := fun z => by subst z; rw [h0] at e; cases e
    rw [upd_ne hb']; exact s.grow.keep b u e n
  · by_cases hb' : b = D
    · subst hb'; rw [upd_same]; simp
    · rw [upd_ne hb']; exact s.grow.there b e
  · obtain ⟨v, e1, q⟩ := s.st.at_ i r e
    refine ⟨v, e1, ?_⟩
    cases q with
    | v q => exact .v q
    | @ol a p xs ds h1 h2 q =>
      have ha : a ≠ D := fun z => no (by subst z; exact ⟨i, ⟨_, e, rfl⟩, e1⟩)
      exact .ol h1 (by rw [upd_ne ha]; exact h2) q
    | @od a p xs ds h1 h2 q =>
      have ha : a ≠ D := fun z => no (by subst z; exact ⟨i, ⟨_, e, rfl⟩, e1⟩)
      exact .od h1 (by rw [upd_ne ha]; exact h2) q
/-- such an object lives on -/
theorem Stp.tmpStay (s : Stp mg B H σ S B' H' σ' S') {D : Addr} {o : HO} (hh : H D = some o) (hb : B D = none) (no : ¬ OwnA σ S D) : H' D = some o ∧ B' D = none ∧ ¬ OwnA σ' S' D := by
  refine ⟨s.grow.keep D o hh no, ?_, fun z => ?_⟩
  · cases q : B' D with
    | none => rfl
    | some u =>
      rcases s.grow.new D (by rw [q]; simp) with z | z | z
      · exact absurd hb z
      · rw [hh] at z; cases z
      · exact absurd z no
  · rcases s.own D z with z | z
    · exact no z
    · rw [hh] at z; cases z
end
/-! ### the comprehension -/
def compL (vs : List Nat) (g : GM) (t : M Bool) (e : M DV) : List DV → List DV → Sl → Option (List DV × Sl)
  | [], acc, S => some (acc, S)
  | d :: ds, acc, S => match g d S with
    | none => none
    | some S1 => match t S1 with
      | .ok false S2 => compL vs g t e ds acc (wipeS S2 vs)
      | .ok true S2 => match e S2 with
        | .ok y S3 => if acc.length < sizeLine then compL vs g t e ds (acc ++ [y]) (wipeS S3 vs) else none
        | _ => none
      | _ => none
def compM (vs : List Nat) (g : GM) (t : M Bool) (e : M DV) (ds : List DV) : M Opd := fun S => if noOwn S vs then
    (match compL vs g t e ds [] (wipeS S vs) with
    | some (acc, S') => .ok (.v (.ol false acc)) (restS S S' vs)
    | none => .stuck)
  else .stuck
def TXs (X : Cx) (ifs : List Expr) (t : M Bool) : Prop := PTs X ifs (tB X.mg t W0)
theorem PTs.imp {X : Cx} {ifs : List Expr} {t t' : TT} (h : PTs X ifs t) (i : ∀ σ H Q, t' σ H Q → t σ H Q) : PTs X ifs t' := ⟨fun p s σ H Q I q => h.run p s σ H Q I (i σ H Q q)⟩
theorem txs_nil {X : Cx} : TXs X [] (M.pure true) := PTs.imp pts_nil fun σ H Q ⟨B, S, st, q⟩ => q B H (.refl st) (.refl S)
theorem txs_one {X : Cx} {c : Expr} {t : M Bool} (h : BX X c t) : TXs X [c] t := pts_one (h W0 takes0)
section
variable {X : Cx} {elt tg iter : Expr} {ifs : List Expr} {scope : Scope} {own : List (Str × Nat)} {pos : Pos} {mi : M (List DV)} {ts : List Nat} {g : GM} {t : M Bool} {me : M DV}
theorem lc_read {W : WX} (hts : ∀ i ∈ ts, i ∈ own.map (·.2)) {σ : Sg} {H : Hp} {Q : VK} (h : tM X.mg (M.bind mi (compM (own.map (·.2)) g t me)) W σ H Q) :
    tLc (tI X.mg mi W) (tGM X.mg ts g) (tB X.mg t W0) (tF X.mg me W0) (own.map (·.2)) σ H Q := by
  generalize hvs : own.map (·.2) = vs at h hts ⊢
  obtain ⟨B, S, st, q⟩ := h
  refine ⟨B, S, st, (spec_bind.mp q).imp (fun ds S1 _ q J B1 H1 s hs y => ?_) fun _ _ _ h => h⟩
  unfold compM at q
  obtain ⟨no, q⟩ := if_spec q
  cases ec : compL vs g t me ds [] (wipeS S1 vs) with
  | none => rw [ec] at q; exact q.elim
  | some p =>
    obtain ⟨accF, SF⟩ := p
    rw [ec] at q
    intro D hD
    have w0 : ∀ v ∈ vs, ∀ r : RV, (wipeS S1 vs)[v]? ≠ some (some r) := fun v hv r => wipeS_in hv
    have st1 : StR X.mg B1 H1 (L2.wipe σ vs) (wipeS S1 vs) := s.st.wipe
    refine ⟨fun i m H' => ∃ B' S' acc accV, Stp X.mg B1 H1 (L2.wipe σ vs) (wipeS S1 vs) B' H' (L2.wipe σ vs) S' ∧ Has (wipeS S1 vs) S' ∧ (∀ v ∈ vs, ∀ r : RV, S'[v]? ≠ some (some r)) ∧ H' D = some (.lst accV) ∧ B' D = none ∧ ¬ OwnA (L2.wipe σ vs) S' D ∧ Reps X.mg B' accV acc ∧
      m = ds.length - i ∧ i ≤ ds.length ∧ compL vs g t me (ds.drop i) acc S' = some (accF, SF),
      ⟨ds.length, B1, wipeS S1 vs, [], [], st1.alloc hD _, .refl _, w0, upd_same, s.st.le.none hD, st1.notOwn hD, .nil, by simp, Nat.zero_le _, by simpa using ec⟩, ?_⟩
    rintro i m H' ⟨B', S', acc, accV, s', has', w', hDv, hDb, hDo, racc, rfl, hi, ec'⟩
    by_cases hlt : i < ds.length
    · have hd : ds[i]? = some ds[i] := List.getElem?_eq_getElem hlt
      refine .inr ⟨y.go B' H' s'.sub s'.st.le i hlt, _, fun _ h => h, fun xv H2 hy => ?_⟩
      obtain ⟨B2, n2, r2⟩ := y.yld B' H' s'.sub s'.st.le i xv H2 hy _ hd
      have sn := s'.st.step n2
      rw [List.drop_eq_getElem_cons hlt] at ec'
      unfold compL at ec'
      cases eg : g ds[i] S' with
      | none => rw [eg] at ec'; cases ec'
      | some S3 =>
        rw [eg] at ec'
        refine ⟨B2, S', ds[i], S3, sn.st, r2, eg, fun B3 H3 σ3 s3 hs3 o3 => ?_⟩
        have hw : L2.wipe σ3 vs = L2.wipe σ vs := by
          refine wipe_congr ?_ fun j hj => ?_
          · rw [s3.st.len, s3.len, ← s'.st.len, wipe_length]
          · rw [o3 j fun z => hj (hts j z), wipe_out hj]
        refine ⟨hw, B3, S3, s3.st, ?_⟩
        -- what stands at a turn's end
        have turn : ∀ {B5 H5 : Hp} {S5 : Sl}, Stp X.mg B' H' (L2.wipe σ vs) S' B5 H5 σ3 S5 → Has S' S5 → Stp X.mg B' H' (L2.wipe σ vs) S' B5 H5 (L2.wipe σ vs) (wipeS S5 vs) ∧ Has (wipeS S1 vs) (wipeS S5 vs) := fun {B5 H5 S5} s5 h5 => by
          refine ⟨by have := s5.wipe w'; rw [hw] at this; exact this, fun j hj => ?_⟩
          have hjv : j ∉ vs := fun z => by
            obtain ⟨r, hr⟩ := hj
            exact w0 j z r hr
          obtain ⟨r, hr⟩ := h5 j (has' j hj)
          exact ⟨r, by rw [wipeS_out hjv]; exact hr⟩
        have s23 := sn.trans s3
        have h23 : Has S' S3 := hs3
        dsimp only at ec'
        cases et : t S3 with
        | stuck => rw [et] at ec'; cases ec'
        | exc c fs S4 => rw [et] at ec'; cases ec'
        | ok b S4 =>
          rw [et] at ec'
          intro B4 H4 s4 hs4
          have s24 := s23.trans s4
          have h24 := h23.trans hs4
          cases b with
          | false =>
            rw [if_neg Bool.false_ne_true]
            obtain ⟨k1, k2⟩ := turn s24 h24
            obtain ⟨q1, q2, q3⟩ := k1.tmpStay hDv hDb hDo
            exact ⟨ds.length - (i + 1), by omega, B4, wipeS S4 vs, acc, accV, s'.trans k1, k2, fun v hv r => wipeS_in hv, q1, q2, q3, racc.mono s24.grow.sub, rfl, hlt, ec'⟩
          | true =>
            rw [if_pos rfl]
            refine ⟨B4, S4, s4.st, ?_⟩
            dsimp only at ec'
            cases ee : me S4 with
            | stuck => rw [ee] at ec'; cases ec'
            | exc c fs S5 => rw [ee] at ec'; cases ec'
            | ok yv S5 =>
              rw [ee] at ec'
              intro yV B5 H5 s5 hs5 ry
              dsimp only at ec'
              split at ec'
              · rename_i hlen
                have s25 := s24.trans s5
                obtain ⟨k1, k2⟩ := turn s25 (h24.trans hs5)
                obtain ⟨q1, q2, q3⟩ := k1.tmpStay hDv hDb hDo
                refine ⟨accV, q1, by rw [racc.length]; exact hlen, ds.length - (i + 1), by omega, B5, wipeS S5 vs, acc ++ [yv], accV ++ [yV], (s'.trans k1).tmp hD q2 q3, k2, fun v hv r => wipeS_in hv, upd_same, q2, q3, (racc.mono s25.grow.sub).snoc ry, rfl, hlt, ec'⟩
              · cases ec'
    · have e : i = ds.length := by omega
      subst e
      refine .inl ⟨y.stop B' H' s'.sub s'.st.le, ?_⟩
      rw [List.drop_length] at ec'
      unfold compL at ec'
      cases ec'
      obtain ⟨fin, fo⟩ := s'.unwipe s.st no
      refine q (.ref D) B' H' (s.trans fin) (fun j hj => ?_) (.v (.ol hDb hDv racc) fun a _ e z => by cases e; exact hDo (fo _ z)) fun a _ e => by cases e; exact s.free hD
      obtain ⟨r, hr⟩ := hs j hj
      by_cases hjv : j ∈ vs
      · have hl : j < SF.length := by
          rw [s'.len, wipeS_len]
          exact (List.getElem?_eq_some_iff.mp hr).1
        exact ⟨r, restS_at hjv hl hr⟩
      · obtain ⟨r', hr'⟩ := has' j ⟨r, by rw [wipeS_out hjv]; exact hr⟩
        exact ⟨r', by rw [restS_out hjv]; exact hr'⟩
theorem px_lc (hc : X.calm = true) (hN : X.N.Nodup) (hi : IX X tg iter mi) (ok : BlkOk X.N X.env.scope scope own) (hts : ∀ i ∈ ts, i ∈ own.map (·.2))
    (hg : ∀ (s : Shared) (H : Hp) (C : Addr) (cl : List (Str × Addr)) (fp : List Addr), GX (X.blk s H scope (compEnvC scope cl C X.env) fp) tg ts g)
    (ht : ∀ (s : Shared) (H : Hp) (C : Addr) (cl : List (Str × Addr)) (fp : List Addr), TXs (X.blk s H scope (compEnvC scope cl C X.env) fp) ifs t)
    (he : ∀ (s : Shared) (H : Hp) (C : Addr) (cl : List (Str × Addr)) (fp : List Addr), FX (X.blk s H scope (compEnvC scope cl C X.env) fp) elt me) (hs : ∀ x, foldedSetIterable iter X.env x = pure x := by intro _; rfl) :
    PX X (.ListComp elt [⟨tg, iter, ifs, 0⟩] scope pos) (M.bind mi (compM (own.map (·.2)) g t me)) := fun W tk =>
  PE.imp (pe_lc (g := tGM X.mg ts g) (tt := tB X.mg t W0) hc hN (hi W tk) ok (fun s H C cl fp => hg s H C cl fp) (fun s H C cl fp => ht s H C cl fp) (fun s H C cl fp => he s H C cl fp W0 takes0) hs) fun σ H Q h => lc_read hts h
theorem sx_setLc (i : Nat) {y : Str} {py spos : Pos} (hc : X.calm = true) (hN : X.N.Nodup) (hy : X.N[i]? = some y) (hyl : X.env.scope.names.lookup y = some .local)
    (hsw : swapsWith (.ListComp elt [⟨tg, iter, ifs, 0⟩] scope pos) (some (.Name y py)) spos.line X.env = pure true) (hi : IX X tg iter mi) (ok : BlkOk X.N X.env.scope scope own) (hts : ∀ i ∈ ts, i ∈ own.map (·.2))
    (hg : ∀ (s : Shared) (H : Hp) (C : Addr) (cl : List (Str × Addr)) (fp : List Addr), GX (X.blk s H scope (compEnvC scope cl C X.env) fp) tg ts g)
    (ht : ∀ (s : Shared) (H : Hp) (C : Addr) (cl : List (Str × Addr)) (fp : List Addr), TXs (X.blk s H scope (compEnvC scope cl C X.env) fp) ifs t)
    (he : ∀ (s : Shared) (H : Hp) (C : Addr) (cl : List (Str × Addr)) (fp : List Addr), FX (X.blk s H scope (compEnvC scope cl C X.env) fp) elt me) (hs : ∀ x, foldedSetIterable iter X.env x = pure x := by intro _; rfl) :
    SX X (.Assign [.Name y py] (.ListComp elt [⟨tg, iter, ifs, 0⟩] scope pos) spos) (M.thn (M.bind mi (compM (own.map (·.2)) g t me)) (setSl i)) := fun W tk pp =>
  PS.imp (ps_setLc (g := tGM X.mg ts g) (tt := tB X.mg t W0) hc hN hy hyl hsw (hi W tk) ok (fun s H C cl fp => hg s H C cl fp) (fun s H C cl fp => ht s H C cl fp) (fun s H C cl fp => he s H C cl fp W0 takes0) hs) fun D σ H ⟨B, S, x, q⟩ => by
    show tLc _ _ _ _ _ σ H _
    refine lc_read hts ⟨B, S, x, (spec_thn.mp q).imp (fun o S1 _ q v B1 H1 s hs r y => ?_) fun _ _ _ h => h⟩
    show D.nx (σ.set i (some v)) H1
    cases r with
    | v r n =>
      obtain ⟨h1, h2, k⟩ := stores_spec q
      exact k B1 H1 _ (s.set r n y h1 h2)
    | @sl j e1 hr =>
      refine (spec_thn.mp q : (frz (.sl j) S1).spec _ _) |> fun q => ?_
      cases ef : frz (.sl j) S1 with
      | stuck => rw [ef] at q; exact q.elim
      | exc c fs S' => exact (frz_noexc ef).elim
      | ok d S2 =>
        rw [ef] at q
        obtain ⟨B2, s2, _, rep⟩ := frz_ok s hs (.sl e1 hr) trivial ef
        obtain ⟨h1, h2, k⟩ := stores_spec q
        exact k B2 H1 _ (s2.set (.v rep) (fun a h => by cases h) (fun a h => by cases h) h1 h2)
end
end Lb
/-! Tests; and, or, not; choices. -/
namespace Lb
open PySem PySem.Spec PyProof.Rows L2
def truthOf (o : Opd) : M Bool := fun S => match o.dv S with
  | some (.bl b) => .ok b S
  | _ => .stuck
def BW (X : Cx) (e : Expr) (m : M Bool) : Prop := ∀ W, Takes X W → PW X e (tB X.mg m W)
theorem PW.imp {X : Cx} {e : Expr} {t t' : TT} (h : PW X e t) (i : ∀ σ H Q, t' σ H Q → t σ H Q) : PW X e t' := ⟨fun wh p s σ H Q I q => h.run wh p s σ H Q I (i σ H Q q)⟩
section
variable {X : Cx} {a b c e : Expr} {rest : List Expr} {ma mb mc : M Opd} {ta tb : M Bool} {pos : Pos}
theorem truthOf_spec {o : Opd} {S : Sl} {K : Bool → Sl → Prop} {E : Str → List (Str × DV) → Sl → Prop} (h : (truthOf o S).spec K E) : ∃ b, o.dv S = some (.bl b) ∧ K b S := by
  unfold truthOf at h
  split at h
  · exact ⟨_, ‹_›, h⟩
  · exact h.elim
/-- a truth as a test -/
theorem bx_val (ha : PX X a ma) (he : ∀ whole, isTrue a X.env whole = (do let v ← whole; standAt a.pos; holding [v] (truthy v)) := by intro _; rfl) : BX X a (M.bind ma truthOf) := fun W tk => PT.imp (pt_val (ha W tk) he) fun σ H Q ⟨B, S, st, q⟩ =>
  ⟨B, S, st, (spec_bind.mp q).imp (fun o S1 _ q v B1 H1 s hs r y => by
    obtain ⟨b, e, k⟩ := truthOf_spec q
    have := (r.view s.st e).bl
    exact ⟨b, this, k B1 H1 s hs⟩) fun _ _ _ h => h⟩
/-- anything as a test -/
theorem tru_spec {o : Opd} {S : Sl} {K : Bool → Sl → Prop} {E : Str → List (Str × DV) → Sl → Prop} (h : (tru o S).spec K E) : ∃ d b, o.dv S = some d ∧ truDV d = some b ∧ K b S := by
  unfold tru at h
  split at h
  · split at h
    · exact ⟨_, _, ‹_›, ‹_›, h⟩
    · exact h.elim
  · exact h.elim
theorem bx_bind {m : M Bool} {k : Bool → M Bool} {σ : Sg} {H : Hp} {W : WX} {Q : Bool → Hp → Prop} : tB X.mg (M.bind m k) W σ H Q → True := fun _ => trivial
theorem bx_not (ha : BX X a ta) : BX X (.UnaryOp .Not a pos) (M.bind ta fun b => M.pure (!b)) := fun W tk => PT.imp (pt_not (ha W tk)) fun σ H Q ⟨B, S, st, q⟩ =>
  ⟨B, S, st, (spec_bind.mp q).imp (fun b S1 _ q B1 H1 s hs => q B1 H1 s hs) fun _ _ _ h => h⟩
theorem bw_and1 (ha : BX X a ta) : BW X (.BoolOp .And [a] pos) ta := fun W tk => pw_and1 (ha W tk)
theorem bw_or1 (ha : BX X a ta) : BW X (.BoolOp .Or [a] pos) ta := fun W tk => pw_or1 (ha W tk)
theorem tB_pre {mg : Mg} {W : WX} {Q : Bool → Hp → Prop} {B H B1 H1 : Hp} {σ : Sg} {S S1 : Sl} {m : M Bool} (s : Stp mg B H σ S B1 H1 σ S1) (hs : Has S S1)
    (q : (m S1).spec (fun b S' => ∀ B' H', Stp mg B H σ S B' H' σ S' → Has S S' → Q b H') (xPost mg W B H σ S)) : tB mg m W σ H1 Q :=
  ⟨B1, S1, s.st, q.imp (fun b S' _ k B' H' s' h' => k B' H' (s.trans s') (hs.trans h')) fun _ _ _ h => h.pre s⟩
theorem bw_and (ha : BX X a ta) (hb : BW X (.BoolOp .And (b :: rest) pos) tb) : BW X (.BoolOp .And (a :: b :: rest) pos) (M.bind ta fun c => if c then tb else M.pure false) := fun W tk => PW.imp (pw_and (ha W tk) (hb W tk)) fun σ H Q ⟨B, S, st, q⟩ =>
  ⟨B, S, st, (spec_bind.mp q).imp (fun c S1 _ q B1 H1 s hs => by
    cases c with
    | true => exact tB_pre s hs q
    | false => exact q B1 H1 s hs) fun _ _ _ h => h⟩
theorem bw_or (ha : BX X a ta) (hb : BW X (.BoolOp .Or (b :: rest) pos) tb) : BW X (.BoolOp .Or (a :: b :: rest) pos) (M.bind ta fun c => if c then M.pure true else tb) := fun W tk => PW.imp (pw_or (ha W tk) (hb W tk)) fun σ H Q ⟨B, S, st, q⟩ =>
  ⟨B, S, st, (spec_bind.mp q).imp (fun c S1 _ q B1 H1 s hs => by
    cases c with
    | true => exact q B1 H1 s hs
    | false => exact tB_pre s hs q) fun _ _ _ h => h⟩
theorem bx_bool {op : BoolOp} {es : List Expr} (h : BW X (.BoolOp op es pos) ta) : BX X (.BoolOp op es pos) ta := fun W tk => (h W tk).pt
/-! as values -/
theorem tM_pre {mg : Mg} {W : WX} {Q : VK} {B H B1 H1 : Hp} {σ : Sg} {S S1 : Sl} {m : M Opd} (s : Stp mg B H σ S B1 H1 σ S1) (hs : Has S S1)
    (q : (m S1).spec (fun o S' => ∀ v B' H', Stp mg B H σ S B' H' σ S' → Has S S' → OpdR mg B' H' σ S' v o → Young H v o → Q v H') (xPost mg W B H σ S)) : tM mg m W σ H1 Q :=
  ⟨B1, S1, s.st, q.imp (fun o S' _ k v B' H' s' h' r y => k v B' H' (s.trans s') (hs.trans h') r (y.pre s)) fun _ _ _ h => h.pre s⟩
theorem px_one {op : BoolOp} (ha : PX X a ma) : PX X (.BoolOp op [a] pos) ma := fun W tk => pe_one (ha W tk)
theorem px_and (ha : PX X a ma) (hb : PX X (.BoolOp .And (b :: rest) pos) mb) : PX X (.BoolOp .And (a :: b :: rest) pos) (M.bind (M.bind ma truthOf) fun c => if c then mb else kst (.bl false)) := fun W tk => PE.imp (pe_and (ha W tk) (hb W tk)) fun σ H Q ⟨B, S, st, q⟩ =>
  ⟨B, S, st, (spec_bind.mp (spec_bind.mp q)).imp (fun o S1 _ q v B1 H1 s hs r y => by
    obtain ⟨c, e, k⟩ := truthOf_spec q
    refine ⟨c, (r.view s.st e).bl, ?_⟩
    cases c with
    | true => exact tM_pre s hs k
    | false => exact k _ B1 H1 s hs (.v (.v (.bl false)) fun a h => by cases h) fun a h => by cases h) fun _ _ _ h => h⟩
theorem px_or (ha : PX X a ma) (hb : PX X (.BoolOp .Or (b :: rest) pos) mb) : PX X (.BoolOp .Or (a :: b :: rest) pos) (M.bind (M.bind ma truthOf) fun c => if c then kst (.bl true) else mb) := fun W tk => PE.imp (pe_or (ha W tk) (hb W tk)) fun σ H Q ⟨B, S, st, q⟩ =>
  ⟨B, S, st, (spec_bind.mp (spec_bind.mp q)).imp (fun o S1 _ q v B1 H1 s hs r y => by
    obtain ⟨c, e, k⟩ := truthOf_spec q
    refine ⟨c, (r.view s.st e).bl, ?_⟩
    cases c with
    | true => exact k _ B1 H1 s hs (.v (.v (.bl true)) fun a h => by cases h) fun a h => by cases h
    | false => exact tM_pre s hs k) fun _ _ _ h => h⟩
theorem px_not (ha : PX X a ma) : PX X (.UnaryOp .Not a pos) (M.bind (M.bind ma truthOf) fun c => kst (.bl (!c))) := fun W tk => PE.imp (pe_not (ha W tk)) fun σ H Q ⟨B, S, st, q⟩ =>
  ⟨B, S, st, (spec_bind.mp (spec_bind.mp q)).imp (fun o S1 _ q v B1 H1 s hs r y => by
    obtain ⟨c, e, k⟩ := truthOf_spec q
    exact ⟨c, (r.view s.st e).bl, k _ B1 H1 s hs (.v (.v (.bl _)) fun a h => by cases h) fun a h => by cases h⟩) fun _ _ _ h => h⟩
theorem px_ifE (hc : BX X c ta) (ha : PX X a ma) (hb : PX X b mb) : PX X (.IfExp c a b pos) (M.bind ta fun k => if k then ma else mb) := fun W tk => PE.imp (pe_ifExp (hc W tk) (ha W tk) (hb W tk)) fun σ H Q ⟨B, S, st, q⟩ =>
  ⟨B, S, st, (spec_bind.mp q).imp (fun k S1 _ q B1 H1 s hs => by
    cases k with
    | true => exact tM_pre s hs q
    | false => exact tM_pre s hs q) fun _ _ _ h => h⟩
/-- - n -/
def fNeg (o : Opd) : M Opd := fun S => match o.dv S with
  | some (.int i) => .ok (.v (.v (.int (-i)))) S
  | _ => .stuck
theorem px_neg (ha : PX X a ma) : PX X (.UnaryOp .USub a pos) (M.bind ma fNeg) := fun W tk => PE.imp (pe_un un_neg (ha W tk)) fun σ H Q ⟨B, S, st, q⟩ =>
  ⟨B, S, st, (spec_bind.mp q).imp (fun o S1 _ q v B1 H1 s hs r y => by
    unfold fNeg at q
    split at q
    · rename_i i e
      exact ⟨i, (r.view s.st e).int, q _ B1 H1 s hs (.v (.v (.int _)) fun a h => by cases h) fun a h => by cases h⟩
    · exact q.elim) fun _ _ _ h => h⟩
/-- a module's constant -/
theorem px_glob {x : Str} {v : V} {u : Value} {d : DV} (hg : Gl X x) (hm : X.mg x = some u) (r : RelV v u) (hr : ∀ B, Rep X.mg B v d) (hd : (x == ("__debug__" : Str)) = false := by decide) : PX X (.Name x pos) (kst d) :=
  kst_of (pe_glob hg hm r hd) (fun _ _ _ h => h) hr
/-- code that is never come to -/
theorem px_stuck : PX X e (fun _ => .stuck) := fun W tk => ⟨fun p s σ H Q I ⟨B, S, st, q⟩ => q.elim⟩
theorem sx_stuck {st : Stmt} : SX X st (fun _ => .stuck) := fun W tk pp => ⟨fun p s σ H D I ⟨B, S, x, q⟩ => q.elim⟩
theorem sxs_stuck {st : List Stmt} : SXs X st (fun _ => .stuck) := fun W tk pp => ⟨fun p s σ H D I ⟨B, S, x, q⟩ => q.elim⟩
/-! is None -/
def isNon : DV → Bool
  | .non => true
  | _ => false
def fIsN : DV → DV → Option Bool
  | d, .non => some (isNon d)
  | _, _ => none
def fNotN : DV → DV → Option Bool
  | d, .non => some (!isNon d)
  | _, _ => none
theorem view_non {mg : Mg} {B H : Hp} {v : V} {d : DV} (q : View mg B H v d) : decide (v = .non) = isNon d := by
  cases q with
  | r q => cases q <;> simp [isNon]
  | lst _ _ => simp [isNon]
  | dct _ _ => simp [isNon]
theorem prim_isN {mg : Mg} : Prim2 mg (fun x y H Q => y = .non ∧ Q (.bl (decide (x = .non))) H) (rvB fIsN) := primB fun B H x y dx dy b Q le vx vy e k => by
  unfold fIsN at e
  split at e
  · cases e; exact ⟨vy.non, by rw [view_non vx]; exact k⟩
  · cases e
theorem prim_notN {mg : Mg} : Prim2 mg (fun x y H Q => y = .non ∧ Q (.bl (!decide (x = .non))) H) (rvB fNotN) := primB fun B H x y dx dy b Q le vx vy e k => by
  unfold fNotN at e
  split at e
  · cases e; exact ⟨vy.non, by rw [view_non vx]; exact k⟩
  · cases e
end
end Lb
/-! Exceptions of own classes over any built-in one, made by their own __init__. -/
namespace Lb
open PySem PySem.Spec PyProof.Rows L2
/-- storing into an instance of the class at C -/
structure SC (K : PySem.W.Frag) (C : Addr) : Prop where
  ex : ∃ (b : String) (l : List Value), StoreFacts b l "object.__setattr__" "object" ∧ PySem.W.excOver K C l = true
  hd : PySem.W.hasDictIn K C = true
  sa : PySem.W.findIn K (.ref C) "__setattr__" = some (some (.builtin "object.__setattr__"))
section
open Builtin Builtin.ObjectAttr
variable {prog : Program} {w : World} {A : Around} {E : Value → Shared → Prop} {R : Result → Shared → Prop} {hp : Heap} {g : Array GenState} {d : Drawn} {t : Nat} {os : OsState}
  {K : PySem.W.Frag} {n : Str} {tk : Tok} {v : Value} {x C : Addr} {fv : Array Value}
theorem xosa_new (T : SC K C) (X : K.In hp) (hx : hp.get? x = some { cls := .ref C, data := .fields fv }) (ht : PySem.W.takerIn K C n = some none)
    (hq : ∀ h' tk' dx, (∀ b o, b ≠ x → hp.get? b = some o → h'.get? b = some o) → hp.objs.size ≤ dx → dx ≠ x → h'.get? x = some { cls := .ref C, dict := some dx, data := .fields fv } →
      h'.Ns1 dx (fun y => if y = n then some v else none) → R (.ok (.ret .none)) ⟨h', g, d, tk', os⟩) :
    codeAny (model prog w) A (.call (.builtin "object.__setattr__") ⟨[.ref x, .str n tk, v], []⟩) R ⟨hp, g, d, t, os⟩ := by
  obtain ⟨⟨b, l, SF, ov⟩, hd, sa⟩ := T
  have xs : x ≠ hp.objs.size := Nat.ne_of_lt (Heap.lt_size hx)
  refine PySem.W.osa_openX (s := ⟨hp, g, d, t, os⟩) (od := none) SF X ⟨hx, rfl, rfl, trivial⟩ ov ht fun b => ?_
  obtain ⟨cd, hc, hd'⟩ := PySem.W.any_some hd
  obtain ⟨c1, c2, c3, c4, c5, c6, c7, c8, c9, c10, c11⟩ := cd
  dsimp only at hd'
  subst hd'
  have L := PySem.W.looks_clsIn (M := model prog w) X hc
  dsimp only
  unfold storeInOwnDict ownDictForStores
  repeat (first | with_reducible refine PySem.HandSPX.store_in_new ?_ ?_ | with_reducible refine wpAny_loadPart_at hx ?_ | with_reducible refine L.at ?_ | wp_step)
  · exact ⟨_, #[], _, (Heap.get?_update_ne _ _ _ _ xs.symm).trans (Heap.get?_push_at rfl rfl), rfl, fun e he => absurd he (by simp), fun _ => rfl⟩
  · intro h' tk' hn' hs
    have q1 : (hp.push { cls := .type "dict", data := .dict #[] }).get? x = some { cls := .ref C, data := .fields fv } := Heap.get?_push_of_some _ hx
    refine hq h' tk' hp.objs.size (fun b o hb ho => ?_) (Nat.le_refl _) xs.symm ((hs.2 x xs).trans (Heap.get?_update_self _ q1 rfl)) hn'
    rw [hs.2 b (Nat.ne_of_lt (Heap.lt_size ho)), Heap.get?_update_ne _ _ _ _ hb, Heap.get?_push_of_some _ ho]
theorem xosa_old {dx : Addr} {m0 : Str → Option Value} {ns : List Str} (T : SC K C) (X : K.In hp) (hx : hp.get? x = some { cls := .ref C, dict := some dx, data := .fields fv })
    (hn : hp.Ns1 dx m0) (hw : Within m0 ns) (hz : ns.length ≤ 1000) (ht : PySem.W.takerIn K C n = some none)
    (hq : ∀ h' tk', (∀ b o, b ≠ dx → hp.get? b = some o → h'.get? b = some o) → h'.Ns1 dx (fun y => if y = n then some v else m0 y) → R (.ok (.ret .none)) ⟨h', g, d, tk', os⟩) :
    codeAny (model prog w) A (.call (.builtin "object.__setattr__") ⟨[.ref x, .str n tk, v], []⟩) R ⟨hp, g, d, t, os⟩ := by
  obtain ⟨⟨b, l, SF, ov⟩, hd, sa⟩ := T
  obtain ⟨oD, _, _, hoD, _, _⟩ := hn.count hw
  refine PySem.W.osa_openX (s := ⟨hp, g, d, t, os⟩) (od := some oD) SF X ⟨hx, rfl, rfl, hoD⟩ ov ht fun b => ?_
  obtain ⟨cd, hc, hd'⟩ := PySem.W.any_some hd
  obtain ⟨c1, c2, c3, c4, c5, c6, c7, c8, c9, c10, c11⟩ := cd
  dsimp only at hd'
  subst hd'
  have L := PySem.W.looks_clsIn (M := model prog w) X hc
  dsimp only
  unfold storeInOwnDict ownDictForStores
  repeat (first | with_reducible refine PySem.OEX.store_in_old hn hw hz ?_ | with_reducible refine wpAny_loadPart_at hx ?_ | with_reducible refine L.at ?_ | wp_step)
  intro h' tk' hn' hs
  exact hq h' tk' (fun b o hb ho => (hs.2 b hb).trans ho) hn'
end
section
variable {X : Cx} {pins : List (Addr × Obj)} {σ : Sg} {H : Hp} {s : Shared} {a C dx : Addr} {f : Str} {y : V} {u : Value} {fs : List (Str × V)} {Q : Unit → Shared → Prop} {E : Value → Shared → Prop} {A : Around}
theorem xst_new (T : SC X.K C) (I : Inv X pins σ H s) (e : H a = some (exo a C none)) (ht : PySem.W.takerIn X.K C f = some none) (ry : RelV y u)
    (h : ∀ dx s', H dx = none → dx ≠ a → Inv X pins σ (upd (upd H dx (exd dx [(f, y)])) a (exo a C (some dx))) s' → Q () s') : wpAny (model X.prog X.w) A (setAttr (.ref a) f u) Q E s := by
  obtain ⟨t1, ho⟩ := exo_at I.hok e
  obtain ⟨hp, g, d, t, os⟩ := s
  refine PySem.W.set_plain I.kIn (ox := { cls := .ref C, dict := none, data := .fields #[.ref t1, .none, .none, .none, .bool false, .none] }) (od := none) ⟨ho, rfl, rfl, trivial⟩ T.sa
    (xosa_new T I.kIn ho ht fun h' tk' dx k dn ne hx hn => ?_)
  have n1 : H dx = none := I.hok.fresh dn
  have old : ∀ {b : Addr} {o : Obj}, hp.get? b = some o → b ≠ dx := fun q => Nat.ne_of_lt (Nat.lt_of_lt_of_le (Heap.lt_size q) dn)
  have una : ∀ {b : Addr}, H b = none → b ≠ a := fun n z => by rw [z, e] at n; cases n
  have alien : ∀ {b : Addr} {o : HO}, H b = some o → exo a C none ≠ o → upd (upd H dx (exd dx [(f, y)])) a (exo a C (some dx)) b = some o := fun {b o} q w => by
    rw [upd_ne (at_ne e q w), upd_ne (ne_of_none q n1), q]
  have U : Un X.fs [] H (upd (upd H dx (exd dx [(f, y)])) a (exo a C (some dx))) hp h' :=
    ⟨fun b o q n _ _ => k b o (una n) q, fun b o q n _ _ => ⟨o.slots, k b o (una n) q⟩, fun b o q n _ => by rw [upd_ne (una n), upd_ne (old q), n],
      fun b o q _ => by
        by_cases z : b = a
        · subst z; exact ⟨_, hx⟩
        · exact ⟨o, k b o z q⟩,
      fun b xs q => alien q exo_tup, fun b o v q => alien q exo_frz, fun b ps q => ⟨#[], by rw [alien q exo_tbl]; simp⟩⟩
  refine h dx _ n1 ne (I.un (t' := tk') U fun b o q => ?_)
  by_cases hb : b = a
  · subst hb
    rw [upd_same] at q; cases q
    exact exo_ok hx
  rw [upd_ne hb] at q
  by_cases hd : b = dx
  · subst hd
    rw [upd_same] at q; cases q
    exact exd_ok hn (relO_put (fs := []) ry fun g => True.intro)
  rw [upd_ne hd] at q
  refine (I.hok b o q).stay (fun c v hc z => k c v ?_ z) (fun c hc => alien hc exo_own) fun c xs hc => alien hc exo_tup
  rcases hc with hc | hc
  · rw [hc]; exact hb
  · exact at_ne e hc exo_own
theorem xst_old (T : SC X.K C) (I : Inv X pins σ H s) (e : H a = some (exo a C (some dx))) (ed : H dx = some (exd dx fs)) (hl : fs.length ≤ 900) (ht : PySem.W.takerIn X.K C f = some none) (ry : RelV y u)
    (h : ∀ s', Inv X pins σ (upd H dx (exd dx ((f, y) :: fs))) s' → Q () s') : wpAny (model X.prog X.w) A (setAttr (.ref a) f u) Q E s := by
  obtain ⟨t1, ho⟩ := exo_at I.hok e
  obtain ⟨mA, hns, rel⟩ := exd_at I.hok ed
  have hw := within_of rel
  obtain ⟨hp, g, d, t, os⟩ := s
  obtain ⟨oD, _, _, hoD, _, _⟩ := hns.count hw
  refine PySem.W.set_plain I.kIn (ox := { cls := .ref C, dict := some dx, data := .fields #[.ref t1, .none, .none, .none, .bool false, .none] }) (od := some oD) ⟨ho, rfl, rfl, hoD⟩ T.sa
    (xosa_old T I.kIn ho hns hw (by rw [List.length_map]; omega) ht fun h' tk' k hn => ?_)
  have ex : ∃ o, h'.get? dx = some o := by
    obtain ⟨o, _, _, e', _⟩ := hn
    exact ⟨o, e'⟩
  exact h _ (I.write (t' := tk') (x := dx) (e := dx) (o := exd dx ((f, y) :: fs)) (by rw [ed]; exact True.intro) (.inl rfl) k ex (exd_ok hn (relO_put ry rel)))
end
/-- self.f = e in the __init__ of such a class -/
def tXst (K : PySem.W.Frag) (f : Str) (to te : TE) : TS := fun D σ H => te σ H fun y H1 => to σ H1 fun x H2 => ∃ a C : Addr, x = .ref a ∧ SC K C ∧ PySem.W.takerIn K C f = some none ∧
  ((H2 a = some (exo a C none) ∧ ∀ dx, H2 dx = none → dx ≠ a → D.nx σ (upd (upd H2 dx (exd dx [(f, y)])) a (exo a C (some dx)))) ∨
    ∃ (dx : Addr) (fs : List (Str × V)), H2 a = some (exo a C (some dx)) ∧ H2 dx = some (exd dx fs) ∧ fs.length ≤ 900 ∧ D.nx σ (upd H2 dx (exd dx ((f, y) :: fs))))
theorem ps_xst {X : Cx} {o e : Expr} {f : Str} {to te : TE} {p' pos : Pos} (ho : PE X o to) (he : PE X e te) (hs : swapsWith e (some (.Attribute o f p')) pos.line X.env = pure false := by rfl) : PS X (.Assign [.Attribute o f p'] e pos) (tXst X.K f to te) :=
  ⟨fun pins s σ H D I h => plainObj_wpAny_Assign_Attribute (thn (he.run pins s σ H _ I h) fun v s1 ⟨y, H1, I1, r1, q1⟩ => thn (ho.run pins s1 σ H1 _ I1 q1) fun u s2 ⟨x, H2, I2, r2, a, C, ex, T, ht, q⟩ => by
    subst ex
    obtain rfl : u = Value.ref a := r2
    rcases q with ⟨ea, q⟩ | ⟨dx, fs, ea, ed, hl, q⟩
    · exact xst_new T I2 ea ht r1 fun dx s' n ne J => ⟨σ, _, J, q dx n ne⟩
    · exact xst_old T I2 ea ed hl ht r1 fun s' J => ⟨σ, _, J, q⟩) hs⟩
end Lb
/-! Exceptions as data: made. -/
namespace Lb
open PySem PySem.Spec PyProof.Rows L2
/-- the class at C of own exceptions, its __init__ at fI -/
structure XC (K : PySem.W.Frag) (C fI : Addr) : Prop where
  ex : ∃ (b newId initId : String) (l : List Value), ExcBaseFacts b newId initId l ∧ PySem.W.excInitIn K C l newId = true
  sc : SC K C
  kC : PySem.W.keepIn K (.ref C) = true
  iC : PySem.W.findIn K (.ref C) "__init__" = some (some (.ref fI))
  tI : PySem.W.typeIn K (.ref fI) = some (.type "function")
/-- what __init__ of such a class does: the fields fs take what is handed in -/
def initH (a C dx : Addr) (fs : List Str) (ys : List V) (H : Hp) : Hp := upd (upd H dx (exd dx (fs.zip ys).reverse)) a (exo a C (some dx))
def spI (K : PySem.W.Frag) (fs : List Str) : Sp := fun vs H Q E => ∃ a C ys, vs = .ref a :: ys ∧ ys.length = fs.length ∧ SC K C ∧ (∀ f ∈ fs, PySem.W.takerIn K C f = some none) ∧ H a = some (exo a C none) ∧
  (fs = [] → Q .non H) ∧ (fs ≠ [] → ∀ dx, H dx = none → dx ≠ a → Q .non (initH a C dx fs ys H))
theorem spI_len {K : PySem.W.Frag} {fs ps : List Str} (h : ps.length = fs.length + 1) : ∀ vs H Q E, spI K fs vs H Q E → vs.length = ps.length := fun vs H Q E ⟨a, C, ys, e, l, _⟩ => by
  subst e; simp [l, h]
section
variable {P : Program} {w : World} {K : PySem.W.Frag} {mg : Mg} {base : Heap} {x qual : Str} {st : Stmt} {fI : Addr} {fd : FuncData} {N ps : List Str} {k : Nat}
theorem init0 (F : Fun K x qual st fI fd) (S : FnScope N ps (defScope st)) (hl : ps.length = 1)
    (hb : ∀ (cdv : Value) (A : Around) (outer : List Env) (s : Shared) (H : Hp) (E : XK), PSs (cxOf (L2.CX P w) P w K mg base N qual (defScope st) fI cdv A outer s H E) (defBody st) tNext) :
    FnG P w K mg base (L2.CX P w) (k + 1) fI fd ps (spI K []) := okG F S (spI_len hl) fun cdv A outer s H vs Q E hr hgd ⟨a, C, ys, e, l, T, tk, h, q, _⟩ =>
  ⟨_, hb cdv A outer s H E, q rfl⟩
theorem init1 {f : Str} (F : Fun K x qual st fI fd) (S : FnScope N ps (defScope st)) (hl : ps.length = 2)
    (hb : ∀ (cdv : Value) (A : Around) (outer : List Env) (s : Shared) (H : Hp) (E : XK), PSs (cxOf (L2.CX P w) P w K mg base N qual (defScope st) fI cdv A outer s H E) (defBody st) (tXst K f (tVar 0) (tVar 1))) :
    FnG P w K mg base (L2.CX P w) (k + 1) fI fd ps (spI K [f]) := okG F S (spI_len hl) fun cdv A outer s H vs Q E hr hgd ⟨a, C, ys, e, l, T, tk, h, _, q⟩ => by
  refine ⟨_, hb cdv A outer s H E, ?_⟩
  subst e
  match ys, l with
  | [y], _ =>
    exact ⟨y, rfl, _, rfl, a, C, rfl, T, tk f List.mem_cons_self, .inl ⟨h, fun dx n ne => q (by simp) dx n ne⟩⟩
theorem upd_comm {H : Hp} {a b : Addr} {o u : HO} (h : a ≠ b) : upd (upd H a o) b u = upd (upd H b u) a o := by
  funext c
  by_cases hb : c = b
  · subst hb; rw [upd_same, upd_ne (Ne.symm h), upd_same]
  · rw [upd_ne hb]
    by_cases ha : c = a
    · subst ha; rw [upd_same, upd_same]
    · rw [upd_ne ha, upd_ne ha, upd_ne hb]
theorem upd_twice {H : Hp} {a : Addr} {o u : HO} : upd (upd H a o) a u = upd H a u := by
  funext c
  by_cases ha : c = a
  · subst ha; rw [upd_same, upd_same]
  · rw [upd_ne ha, upd_ne ha, upd_ne ha]
theorem init2 {f g : Str} (F : Fun K x qual st fI fd) (S : FnScope N ps (defScope st)) (hl : ps.length = 3)
    (hb : ∀ (cdv : Value) (A : Around) (outer : List Env) (s : Shared) (H : Hp) (E : XK), PSs (cxOf (L2.CX P w) P w K mg base N qual (defScope st) fI cdv A outer s H E) (defBody st) (tSeq (tXst K f (tVar 0) (tVar 1)) (tXst K g (tVar 0) (tVar 2)))) :
    FnG P w K mg base (L2.CX P w) (k + 1) fI fd ps (spI K [f, g]) := okG F S (spI_len hl) fun cdv A outer s H vs Q E hr hgd ⟨a, C, ys, e, l, T, tk, h, _, q⟩ => by
  refine ⟨_, hb cdv A outer s H E, ?_⟩
  subst e
  match ys, l with
  | [y, z], _ =>
    refine ⟨y, rfl, _, rfl, a, C, rfl, T, tk f (by simp), .inl ⟨h, fun dx n ne => ?_⟩⟩
    refine ⟨z, rfl, _, rfl, a, C, rfl, T, tk g (by simp), .inr ⟨dx, [(f, y)], upd_same, by rw [upd_ne ne, upd_same], by simp, ?_⟩⟩
    have := q (by simp) dx n ne
    unfold initH at this
    rw [upd_comm (Ne.symm ne), upd_twice]
    exact this
end
/-- C(..) of an own exception class as data -/
def mkX (c : Str) (fs : List Str) (ds : List DV) : M Opd := fun S => if ds.length = fs.length then .ok (.v (.v (.exn c (fs.zip ds).reverse))) S else .stuck
section
variable {mg : Mg} {B H : Hp}
theorem repf_append {x y : List (Str × V)} {u w : List (Str × DV)} (p : RepF mg B x u) (q : RepF mg B y w) : RepF mg B (x ++ y) (u ++ w) := by
  induction x generalizing u with
  | nil => cases p; exact q
  | cons e x ih => cases p with | cons r p => exact .cons r (ih p)
theorem repf_zip : ∀ {fs : List Str} {vs : List V} {ds : List DV}, Reps mg B vs ds → RepF mg B (fs.zip vs).reverse (fs.zip ds).reverse
  | [], _, _, _ => by simpa using .nil
  | _ :: _, _, _, .nil => by simpa using .nil
  | f :: fs, _, _, .cons r q => by
    simp only [List.zip_cons_cons, List.reverse_cons]
    exact repf_append (repf_zip q) (.cons r .nil)
end
section
variable {X : Cx} {x : Str} {C fI : Addr} {fd : FuncData} {k : Nat} {ps fs : List Str} {p pos : Pos}
/-- what is needed of a class that is called -/
structure KnX (X : Cx) (x : Str) (fs : List Str) : Prop where
  ex : ∃ (C fI : Addr) (fd : FuncData) (k : Nat) (ps : List Str), XC X.K C fI ∧ (∀ f ∈ fs, PySem.W.takerIn X.K C f = some none) ∧ FnG X.prog X.w X.K X.mg X.base (L2.CX X.prog X.w) k fI fd ps (spI X.K fs) ∧ Room (k + 1) X.A ∧ X.A.guards = some [] ∧ Binds X.K fd ps [] ∧
    ps.length = fs.length + 1 ∧ X.mg x = some (.ref C) ∧ fs.length ≤ 100
theorem run_mkx {pins : List (Addr × Obj)} {σ : Sg} {H : Hp} {s : Shared} {Q : VK} {us : List Value} {vs : List V} (T : XC X.K C fI) (tk : ∀ f ∈ fs, PySem.W.takerIn X.K C f = some none)
    (F1 : FnG X.prog X.w X.K X.mg X.base (L2.CX X.prog X.w) k fI fd ps (spI X.K fs)) (hr : Room (k + 1) X.A) (hgd : X.A.guards = some []) (hb : Binds X.K fd ps []) (hp : ps.length = fs.length + 1) (hf : fs.length ≤ 100)
    (I : Inv X pins σ H s) (r : Vals vs us) (hl : vs.length = fs.length)
    (h : ∀ a dx, H a = none → H dx = none → dx ≠ a → (fs = [] → Q (.ref a) (upd H a (exo a C none))) ∧ (fs ≠ [] → Q (.ref a) (upd (upd H dx (exd dx (fs.zip vs).reverse)) a (exo a C (some dx))))) :
    wpAny (model X.prog X.w) X.A (call (.ref C) us) (EP X pins σ Q) X.xe s := by
  obtain ⟨⟨b, newId, initId, l, FB, q⟩, T, kC, iC, tI⟩ := T
  obtain ⟨nm, N, qn, bs, bm, hdct, sn, sub, ab, col, dd, k0, k1, k2, k3, k5, hC, hT⟩ := PySem.W.excInit_of I.kIn q
  obtain ⟨hp', g, dr, tok, os⟩ := s
  have hsz : hp'.objs.size ≤ hp'.objs.size + 1 := Nat.le_succ _
  have kk : ∀ b o, hp'.get? b = some o → ((hp'.push (PySem.W.kdv_tup us)).push (PySem.HandSPX.excO C hp'.objs.size)).get? b = some o := fun b o e => Heap.get?_push_of_some _ (Heap.get?_push_of_some _ e)
  have hget : ((hp'.push (PySem.W.kdv_tup us)).push (PySem.HandSPX.excO C hp'.objs.size)).get? (hp'.objs.size + 1) = some (PySem.HandSPX.excO C hp'.objs.size) := by heap_get
  have n0 : H (hp'.objs.size + 1) = none := I.hok.fresh hsz
  have I2 : Inv X pins σ (upd H (hp'.objs.size + 1) (exo (hp'.objs.size + 1) C none)) ⟨(hp'.push (PySem.W.kdv_tup us)).push (PySem.HandSPX.excO C hp'.objs.size), g, dr, tok, os⟩ :=
    I.laid (t' := tok) (a := hp'.objs.size + 1) (o := exo (hp'.objs.size + 1) C none) kk hsz (exo_ok hget)
  have r2 : Vals (V.ref (hp'.objs.size + 1) :: vs) (Value.ref (hp'.objs.size + 1) :: us) := .cons rfl r
  have hlu : (Value.ref (hp'.objs.size + 1) :: us ++ []).length = ps.length := by rw [List.append_nil, ← r2.length, hp, List.length_cons, hl]
  have hus : us.length ≤ sizeLine := by rw [← r.length, hl, sizeLine_eq]; omega
  have hq : spI X.K fs (V.ref (hp'.objs.size + 1) :: vs) (upd H (hp'.objs.size + 1) (exo (hp'.objs.size + 1) C none)) (fun v H' => v = .non ∧ Q (.ref (hp'.objs.size + 1)) H') (fun _ _ _ => False) := by
    refine ⟨_, C, vs, rfl, hl, T, tk, upd_same, fun e => ⟨rfl, ?_⟩, fun e dx n ne => ⟨rfl, ?_⟩⟩
    · exact ((h _ (hp'.objs.size + 2) n0 (I.hok.fresh (show hp'.objs.size ≤ hp'.objs.size + 2 by omega)) (show hp'.objs.size + 2 ≠ hp'.objs.size + 1 by omega)).1 e)
    · rw [upd_ne ne] at n
      unfold initH
      rw [upd_comm (Ne.symm ne), upd_twice]
      exact (h _ dx n0 n ne).2 e
  have bd := hb _ (Value.ref (hp'.objs.size + 1) :: us) I2.kIn hlu
  rw [List.append_nil] at bd
  refine wpAny_call (PySem.HandSPX.call_own FB hT hC (PySem.W.looks_findIn I.kIn iC) (fun self => PySem.W.bind_fn I.kIn self tI) hus
    (codeAny_mono (F1.run _ X.stack _ _ ⟨Value.ref (hp'.objs.size + 1) :: us, []⟩ (Value.ref (hp'.objs.size + 1) :: us) _ _ (fun _ _ _ => False) (hr.make C us []) (guards_make hgd C us []) (I2.env0.make C us []) bd r2 hq) fun r s' hq' => ?_))
  cases r with
  | error er => exact passL (X := X) pins σ _ _ er s' I2 hq'
  | ok fl =>
    cases fl with
    | ret u =>
      obtain ⟨v, H', I3, rv, ev, q3⟩ := I2.after hq'
      subst ev
      exact ⟨rv, ⟨V.ref (hp'.objs.size + 1), H', I3, rfl, q3⟩⟩
    | next => exact False.elim hq'
    | brk => exact False.elim hq'
    | cont => exact False.elim hq'
theorem mkX_spec {c : Str} {fs : List Str} {ds : List DV} {S : Sl} {K : Opd → Sl → Prop} {E : Str → List (Str × DV) → Sl → Prop} (h : (mkX c fs ds S).spec K E) : ds.length = fs.length ∧ K (.v (.v (.exn c (fs.zip ds).reverse))) S := if_spec h
/-- the new one as an operand -/
theorem mkx_end {mg : Mg} {c : Str} (hm : mg c = some (.ref C)) {B H B1 H1 : Hp} {σ : Sg} {S S1 : Sl} {vs : List V} {ds : List DV} {Q : VK} {E : Str → List (Str × DV) → Sl → Prop} (s : Stp mg B H σ S B1 H1 σ S1) (hs : Has S S1) (r : Reps mg B1 vs ds)
    (h : (mkX c fs ds S1).spec (fun o S' => ∀ v B' H', Stp mg B H σ S B' H' σ S' → Has S S' → OpdR mg B' H' σ S' v o → Young H v o → Q v H') E) :
    vs.length = fs.length ∧ ∀ a dx, H1 a = none → H1 dx = none → dx ≠ a → (fs = [] → Q (.ref a) (upd H1 a (exo a C none))) ∧ (fs ≠ [] → Q (.ref a) (upd (upd H1 dx (exd dx (fs.zip vs).reverse)) a (exo a C (some dx)))) := by
  obtain ⟨hl, k⟩ := mkX_spec h
  refine ⟨r.length.trans hl, fun a dx na nd ne => ⟨fun e => ?_, fun e => ?_⟩⟩
  · subst e
    have n : New B1 H1 (upd B1 a (exo a C none)) (upd H1 a (exo a C none)) := .alloc s.st.le na
    have res : Res mg B1 H1 (.ref a) (.v (.exn c [])) (upd B1 a (exo a C none)) (upd H1 a (exo a C none)) := ⟨n, .v (.exn hm upd_same), fun b h => by cases h⟩
    obtain ⟨s3, opd, y⟩ := res.opd s.st
    cases ds with
    | nil => exact k _ _ _ (s.trans s3) hs opd (y.pre s)
    | cons _ _ => cases hl
  · have na' : (upd H1 dx (exd dx (fs.zip vs).reverse)) a = none := by rw [upd_ne (Ne.symm ne)]; exact na
    have n1 : New B1 H1 (upd B1 dx (exd dx (fs.zip vs).reverse)) (upd H1 dx (exd dx (fs.zip vs).reverse)) := .alloc s.st.le nd
    have n2 := New.alloc n1.le na' (o := exo a C (some dx))
    have n := n1.trans n2
    have rf : RepF mg (upd (upd B1 dx (exd dx (fs.zip vs).reverse)) a (exo a C (some dx))) (fs.zip vs).reverse (fs.zip ds).reverse := RepF.mono n.sub (repf_zip r)
    have res : Res mg B1 H1 (.ref a) (.v (.exn c (fs.zip ds).reverse)) _ _ := ⟨n, .v (.exd hm upd_same (by rw [upd_ne ne, upd_same]) rf), fun b h => by cases h⟩
    obtain ⟨s3, opd, y⟩ := res.opd s.st
    exact k _ _ _ (s.trans s3) hs opd (y.pre s)
variable {e : Expr} {es : List Expr} {ms : M (List DV)}
theorem px_mkx (F : KnX X x fs) (hg : Gl X x) (ha : FXs X (e :: es) ms) (hdb : (x == ("__debug__" : Str)) = false := by decide)
    (he : starEach (e :: es) X.env = (false, eval e X.env) :: starEach es X.env := by rfl) (hpl : (backTo pos (starEach es X.env)).any (·.1) = false := by rfl) :
    PX X (.Call (.Name x p) (e :: es) [] pos) (M.bind ms (mkX x fs)) := fun W tk => by
  obtain ⟨C, fI, fd, k, ps, T, tks, F1, hr, hgd, hb, hp, hm, hf⟩ := F.ex
  refine ⟨fun pins s σ H Q I ⟨B, S, st, q⟩ => ?_⟩
  refine wpAny_Call_Name_kw (ld_glob I hg hm ?_ hdb)
  refine PySem.W.callWith_K (h₀ := X.base) I.ok.mod.kin T.kC (thn ((ha W tk).run pos pins s σ H (fun vs H1 => vs.length = fs.length ∧ ∀ a dx, H1 a = none → H1 dx = none → dx ≠ a → (fs = [] → Q (.ref a) (upd H1 a (exo a C none))) ∧ (fs ≠ [] → Q (.ref a) (upd (upd H1 dx (exd dx (fs.zip vs).reverse)) a (exo a C (some dx)))))
    I ⟨B, S, st, (spec_bind.mp q).imp (fun ds S1 _ q vs B1 H1 s hs r => mkx_end hm s hs r q) fun _ _ _ h => h⟩) fun us s1 hh => ?_) he hpl
  obtain ⟨vs, H1, I1, r, hl, q⟩ := hh
  exact ⟨I1.kIn, run_mkx T tks F1 hr hgd hb hp hf I1 r hl q⟩
theorem px_mkx0 (F : KnX X x []) (hg : Gl X x) (hdb : (x == ("__debug__" : Str)) = false := by decide) : PX X (.Call (.Name x p) [] [] pos) (mkX x [] []) := fun W tk => by
  obtain ⟨C, fI, fd, k, ps, T, tks, F1, hr, hgd, hb, hp, hm, hf⟩ := F.ex
  refine ⟨fun pins s σ H Q I ⟨B, S, st, q⟩ => ?_⟩
  refine wpAny_Call_Name_kw (ld_glob I hg hm ?_ hdb)
  obtain ⟨hl, q⟩ := mkx_end (vs := []) hm (.refl st) (.refl S) .nil q
  exact PySem.W.callWith_K0 I.kIn T.kC (run_mkx T tks F1 hr hgd hb hp hf I .nil hl q)
end
end Lb
/-! Exceptions made with keywords. -/
namespace PySem
namespace LbT
section
open Builtin Builtin.ObjectAttr
variable {M : Model} {A : Around} {E : Value → Shared → Prop} {h : Heap} {g : Array GenState} {d : Drawn} {t : Nat} {os : OsState}
variable {nm q : Str} {C N : Addr} {bs bm bmB : List Value} {hdct : Bool} {sn : List Str} {sub : List Value} {ab : Bool} {col : Option Bool} {dd : Option Addr} {k0 k1 k2 k3 k5 : Option Value} {B newId initId : String}
theorem xcheck_new (F : ExcBaseFacts B newId initId bmB) (hT : ∀ X : String, bm.contains (.type X) = bmB.contains (.type X)) {rest : List Value} {kw : List (Str × Value)} {Q : Unit → Shared → Prop}
    (hC : h.get? C = some (excClassObj nm q C N bs bm hdct sn sub ab col dd k0 k1 k2 k3 k5 newId)) (hq : Q () ⟨h, g, d, t, os⟩) : wpAny M A (checkBuiltinCall newId ⟨.ref C :: rest, kw⟩) Q E ⟨h, g, d, t, os⟩ := by
  have h1 : (Value.ref C :: bm).contains (.type B) = true := by rw [List.contains_cons, hT, F.hasB, Bool.or_true]
  have h2 := F.noStar
  simp only [checkBuiltinCall, F.newKind, F.newSplit, F.newRow]
  repeat (first | refine wpAny_loadPart_at hC ?_ | (refine wpAny_isSubtype_exc hC ?_; rw [h1]) | refine wpAny_staticBase_exc hC ?_ | refine wpAny_madeBy_exc hC ?_ | simp only [bne_self_eq_false, Bool.false_eq_true, if_false] | wp_step)
  exact hq
end
section
open Builtin Builtin.ObjectAttr
variable {prog : Program} {w : World} {A : Around} {E : Value → Shared → Prop} {R : Result → Shared → Prop} {h : Heap} {g : Array GenState} {d : Drawn} {t : Nat} {os : OsState}
variable {nm q : Str} {C N : Addr} {bs bm bmB : List Value} {hdct : Bool} {sn : List Str} {sub : List Value} {ab : Bool} {col : Option Bool} {dd : Option Addr} {k0 k1 k2 k3 k5 : Option Value} {B newId initId : String}
theorem xnew_own (F : ExcBaseFacts B newId initId bmB) (hT : ∀ X : String, bm.contains (.type X) = bmB.contains (.type X)) {rest : List Value} {kw : List (Str × Value)}
    (hC : h.get? C = some (excClassObj nm q C N bs bm hdct sn sub ab col dd k0 k1 k2 k3 k5 newId)) (hrest : rest.length ≤ sizeLine)
    (hq : R (.ok (.ret (.ref (h.objs.size + 1)))) ⟨(h.push (PySem.W.kdv_tup rest)).push (PySem.HandSPX.excO C h.objs.size), g, d, t, os⟩) :
    codeAny (model prog w) A (.builtin newId ⟨.ref C :: rest, kw⟩) R ⟨h, g, d, t, os⟩ := by
  have he := F.ends
  have c1 : (Value.ref C :: bm).contains (.type B) = true := by rw [List.contains_cons, hT, F.hasB, Bool.or_true]
  have c2 : (Value.ref C :: bm).contains (.type "AttributeError") = false := by rw [List.contains_cons, hT, F.noAttr]; rfl
  have c3 : (Value.ref C :: bm).contains (.type "NameError") = false := by rw [List.contains_cons, hT, F.noName]; rfl
  refine codeAny_builtinAt F.entry ?_
  unfold Builtin.«BaseException.__new__»
  refine wpAt_bind ?_
  show wpAt _ _ _ (stack >>= _) _ _ _
  refine wpAt_bind (wpAt_stack fun p below => wpAt_of_wpAny ?_)
  wp_walk
  refine wpAt_of_wpAny ?_
  rw [F.owner]
  repeat (first | with_reducible refine wpAny_madeHere_exc F.canon hC ?_ | with_reducible refine wpAny_loadPart_at hC ?_ | (with_reducible refine wpAny_isSubtype_exc hC ?_; first | rw [c1] | rw [c2] | rw [c3]) | wp_step)
  show R _ _
  rw [Heap.size_push]
  exact hq
theorem xtype_call (F : ExcBaseFacts B newId initId bmB) (hT : ∀ X : String, bm.contains (.type X) = bmB.contains (.type X)) {rest : List Value} {kw : List (Str × Value)} {fI : Addr} {Q : Fin → Shared → Prop}
    (hC : h.get? C = some (excClassObj nm q C N bs bm hdct sn sub ab col dd k0 k1 k2 k3 k5 newId)) (hrest : rest.length ≤ sizeLine)
    (hi : PySem.W.Looks (model prog w) h (typeLookup (.ref C) "__init__") (some (.ref fI))) (hb : ∀ self, PySem.W.Looks (model prog w) h (bindSpecial (.ref fI) self) (.ref fI, [self]))
    (hq : codeAny (model prog w) A (.call (.ref fI) ⟨.ref (h.objs.size + 1) :: rest, kw⟩)
      (fun r s' => match r with | .ok (.ret v) => v = .none ∧ Q (.done (.ret (.ref (h.objs.size + 1)))) s' | .ok _ => False | .error e => E e s') ⟨(h.push (PySem.W.kdv_tup rest)).push (PySem.HandSPX.excO C h.objs.size), g, d, t, os⟩) :
    wpAny (model prog w) A (Builtin.«type.__call__» ⟨.ref C :: rest, kw⟩) Q E ⟨h, g, d, t, os⟩ := by
  repeat (first | with_reducible refine wpAny_loadPart_at hC ?_ | with_reducible refine wpAny_madeBy_exc hC ?_ | wp_step)
  refine codeAny_call_builtin_code (Code.quiet_builtin _ F.quiet) (xcheck_new F hT hC (xnew_own F hT hC hrest ?_))
  show wpAny _ _ _ _ _ _
  have k : ∀ b o, h.get? b = some o → ((h.push (PySem.W.kdv_tup rest)).push (PySem.HandSPX.excO C h.objs.size)).get? b = some o := fun b o e => Heap.get?_push_of_some _ (Heap.get?_push_of_some _ e)
  have hC1 := k _ _ hC
  have hg : ((h.push (PySem.W.kdv_tup rest)).push (PySem.HandSPX.excO C h.objs.size)).get? (h.objs.size + 1) = some (PySem.HandSPX.excO C h.objs.size) := by heap_get
  have cC : (Value.ref C :: bm).contains (.ref C) = true := by simp
  have i1 := hi.keeps k
  have b1 := (hb (.ref (h.objs.size + 1))).keeps k
  unfold isInstance
  repeat (first | with_reducible refine wpAny_loadPart_at hg ?_ | (with_reducible refine wpAny_isSubtype_exc hC1 ?_; rw [cC]) | wp_step)
  show wpAny _ _ (typeLookup (.ref C) _) _ _ _
  refine i1.at (wpAny_holding (wpAny_bind (b1.at ?_)))
  refine wpAny_bind (wpAny_call (codeAny_mono hq fun r s' z => ?_))
  rcases r with e | (v | _ | _ | _) <;> first | exact z | exact z.elim | skip
  obtain ⟨rfl, z⟩ := z
  first
    | exact wpAny_pure (wpAny_pure z)
    | (wp_walk; exact z)
theorem xcall_own (F : ExcBaseFacts B newId initId bmB) (hT : ∀ X : String, bm.contains (.type X) = bmB.contains (.type X)) {rest : List Value} {kw : List (Str × Value)} {fI : Addr}
    (hC : h.get? C = some (excClassObj nm q C N bs bm hdct sn sub ab col dd k0 k1 k2 k3 k5 newId)) (hrest : rest.length ≤ sizeLine)
    (hi : PySem.W.Looks (model prog w) h (typeLookup (.ref C) "__init__") (some (.ref fI))) (hb : ∀ self, PySem.W.Looks (model prog w) h (bindSpecial (.ref fI) self) (.ref fI, [self]))
    (hq : codeAny (model prog w) (A.under (.builtin "type.__call__" ⟨.ref C :: rest, kw⟩)) (.call (.ref fI) ⟨.ref (h.objs.size + 1) :: rest, kw⟩) (PySem.W.InitBack (h.objs.size + 1) R)
      ⟨(h.push (PySem.W.kdv_tup rest)).push (PySem.HandSPX.excO C h.objs.size), g, d, t, os⟩) :
    codeAny (model prog w) A (.call (.ref C) ⟨rest, kw⟩) R ⟨h, g, d, t, os⟩ := by
  have f1 := tc_lookup
  have f2 := tc_bind (.ref C)
  have f3 : (⟨h, g, d, t, os⟩ : Shared).TypeIs (.ref C) "type" := ⟨_, hC, rfl⟩
  refine codeAny_of_tree ?_
  show wpAny _ _ (callAny (.ref C) _) _ _ _
  repeat (any_goals (first | assumption | with_reducible refine wpAny_loadPart_at hC ?_ | wp_step))
  refine ⟨rfl, ?_⟩
  refine codeAny_call_builtin_at (Code.quiet_builtin _ (by decide +kernel)) entry_typeCall (wpAny_check_type_call_sub hC (xtype_call F hT hC hrest hi hb (codeAny_mono hq fun r s' z => ?_)))
  rcases r with e | (v | _ | _ | _) <;> exact z
end
end LbT
end PySem
/-! Exceptions made with keywords: the rule. -/
namespace Lb
open PySem PySem.Spec PyProof.Rows L2
def FKs (X : Cx) (kws : List Keyword) (m : M (List DV)) : Prop := ∀ W, Takes X W → PK X kws (tFs X.mg m W)
theorem PK.imp {X : Cx} {e : List Keyword} {t t' : TA} (h : PK X e t) (i : ∀ σ H Q, t' σ H Q → t σ H Q) : PK X e t' := ⟨fun p q s σ H Q I r => h.run p q s σ H Q I (i σ H Q r)⟩
theorem fks_nil {X : Cx} : FKs X [] (M.pure []) := fun W tk => PK.imp pk_nil fun σ H Q ⟨B, S, st, q⟩ => q [] B H (.refl st) (.refl S) .nil
theorem fks_cons {X : Cx} {e : Expr} {nm : Option Str} {kpos : Pos} {kws : List Keyword} {m : M DV} {ms : M (List DV)} (h : FX X e m) (hs : FKs X kws ms) :
    FKs X (⟨nm, e, kpos⟩ :: kws) (M.bind m fun o => M.bind ms fun os => M.pure (o :: os)) := fun W tk => PK.imp (pk_cons (h W tk) (hs W tk)) fun σ H Q ⟨B, S, st, q⟩ =>
  ⟨B, S, st, (spec_bind.mp q).imp (fun o S1 _ q v B1 H1 s hs or => ⟨B1, S1, s.st, (spec_bind.mp q).imp (fun os S2 _ q vs B2 H2 s2 hs2 ors =>
    q (v :: vs) B2 H2 (s.trans s2) (hs.trans hs2) (.cons (or.mono s2.grow.sub) ors)) fun _ _ _ h => h.pre s⟩) fun _ _ _ h => h⟩
/-- keywords in the fields' sequence, or against it -/
def gk (sw : Bool) {α : Type} (l : List α) : List α := if sw then l.reverse else l
theorem gk_len {sw : Bool} {α : Type} {l : List α} : (gk sw l).length = l.length := by unfold gk; split <;> simp
theorem vals_rev : ∀ {vs : List V} {us : List Value}, Vals vs us → Vals vs.reverse us.reverse
  | _, _, .nil => .nil
  | _, _, .cons r q => by
    rw [List.reverse_cons, List.reverse_cons]
    exact (vals_rev q).append (.cons r .nil)
theorem vals_gk {sw : Bool} {vs : List V} {us : List Value} (r : Vals vs us) : Vals (gk sw vs) (gk sw us) := by
  unfold gk
  split
  · exact vals_rev r
  · exact r
theorem reps_rev {mg : Mg} {B : Hp} : ∀ {vs : List V} {us : List DV}, Reps mg B vs us → Reps mg B vs.reverse us.reverse
  | _, _, .nil => by simpa using Reps.nil
  | _, _, .cons r q => by simpa using (reps_rev q).snoc r
theorem reps_gk {mg : Mg} {B : Hp} {sw : Bool} {vs : List V} {us : List DV} (r : Reps mg B vs us) : Reps mg B (gk sw vs) (gk sw us) := by
  unfold gk
  split
  · exact reps_rev r
  · exact r
structure KnXk (X : Cx) (x : Str) (fs ks : List Str) (sw : Bool) : Prop where
  ex : ∃ (C fI : Addr) (fd : FuncData) (k : Nat) (ps : List Str), XC X.K C fI ∧ (∀ f ∈ fs, PySem.W.takerIn X.K C f = some none) ∧ FnG X.prog X.w X.K X.mg X.base (L2.CX X.prog X.w) k fI fd ps (spI X.K fs) ∧ Room (k + 1) X.A ∧ X.A.guards = some [] ∧
    (∀ (s : Shared) (u : Value) (ws : List Value), X.K.In s.heap → ws.length = fs.length → BindsTo s fd ⟨[u], ks.zip ws⟩ (ps.zip (u :: gk sw ws))) ∧ X.mg x = some (.ref C)
section
variable {X : Cx} {x : Str} {C fI : Addr} {fd : FuncData} {k : Nat} {ps fs ks : List Str} {sw : Bool} {p pos : Pos}
theorem run_mkxk {pins : List (Addr × Obj)} {σ : Sg} {H : Hp} {s : Shared} {Q : VK} {ws : List Value} {zs : List V} (T : XC X.K C fI) (tk : ∀ f ∈ fs, PySem.W.takerIn X.K C f = some none)
    (F1 : FnG X.prog X.w X.K X.mg X.base (L2.CX X.prog X.w) k fI fd ps (spI X.K fs)) (hr : Room (k + 1) X.A) (hgd : X.A.guards = some [])
    (hb : ∀ (s : Shared) (u : Value) (ws : List Value), X.K.In s.heap → ws.length = fs.length → BindsTo s fd ⟨[u], ks.zip ws⟩ (ps.zip (u :: gk sw ws)))
    (I : Inv X pins σ H s) (r : Vals zs ws) (hl : zs.length = fs.length)
    (h : ∀ a dx, H a = none → H dx = none → dx ≠ a → (fs = [] → Q (.ref a) (upd H a (exo a C none))) ∧ (fs ≠ [] → Q (.ref a) (upd (upd H dx (exd dx (fs.zip (gk sw zs)).reverse)) a (exo a C (some dx))))) :
    wpAny (model X.prog X.w) X.A (call (.ref C) [] (ks.zip ws)) (EP X pins σ Q) X.xe s := by
  obtain ⟨⟨b, newId, initId, l, FB, q⟩, T, kC, iC, tI⟩ := T
  obtain ⟨nm, N, qn, bs, bm, hdct, sn, sub, ab, col, dd, k0, k1, k2, k3, k5, hC, hT⟩ := PySem.W.excInit_of I.kIn q
  obtain ⟨hp', g, dr, tok, os⟩ := s
  have hsz : hp'.objs.size ≤ hp'.objs.size + 1 := Nat.le_succ _
  have kk : ∀ b o, hp'.get? b = some o → ((hp'.push (PySem.W.kdv_tup [])).push (PySem.HandSPX.excO C hp'.objs.size)).get? b = some o := fun b o e => Heap.get?_push_of_some _ (Heap.get?_push_of_some _ e)
  have hget : ((hp'.push (PySem.W.kdv_tup [])).push (PySem.HandSPX.excO C hp'.objs.size)).get? (hp'.objs.size + 1) = some (PySem.HandSPX.excO C hp'.objs.size) := by heap_get
  have n0 : H (hp'.objs.size + 1) = none := I.hok.fresh hsz
  have I2 : Inv X pins σ (upd H (hp'.objs.size + 1) (exo (hp'.objs.size + 1) C none)) ⟨(hp'.push (PySem.W.kdv_tup [])).push (PySem.HandSPX.excO C hp'.objs.size), g, dr, tok, os⟩ :=
    I.laid (t' := tok) (a := hp'.objs.size + 1) (o := exo (hp'.objs.size + 1) C none) kk hsz (exo_ok hget)
  have r2 : Vals (V.ref (hp'.objs.size + 1) :: gk sw zs) (Value.ref (hp'.objs.size + 1) :: gk sw ws) := .cons rfl (vals_gk r)
  have hq : spI X.K fs (V.ref (hp'.objs.size + 1) :: gk sw zs) (upd H (hp'.objs.size + 1) (exo (hp'.objs.size + 1) C none)) (fun v H' => v = .non ∧ Q (.ref (hp'.objs.size + 1)) H') (fun _ _ _ => False) := by
    refine ⟨_, C, gk sw zs, rfl, by rw [gk_len, hl], T, tk, upd_same, fun e => ⟨rfl, ?_⟩, fun e dx n ne => ⟨rfl, ?_⟩⟩
    · exact ((h _ (hp'.objs.size + 2) n0 (I.hok.fresh (show hp'.objs.size ≤ hp'.objs.size + 2 by omega)) (show hp'.objs.size + 2 ≠ hp'.objs.size + 1 by omega)).1 e)
    · rw [upd_ne ne] at n
      unfold initH
      rw [upd_comm (Ne.symm ne), upd_twice]
      exact (h _ dx n0 n ne).2 e
  have bd := hb _ (Value.ref (hp'.objs.size + 1)) ws I2.kIn (r.length.symm.trans hl)
  refine wpAny_call (PySem.LbT.xcall_own FB hT hC (Nat.zero_le _) (PySem.W.looks_findIn I.kIn iC) (fun self => PySem.W.bind_fn I.kIn self tI)
    (codeAny_mono (F1.run _ X.stack _ _ ⟨[Value.ref (hp'.objs.size + 1)], ks.zip ws⟩ (Value.ref (hp'.objs.size + 1) :: gk sw ws) _ _ (fun _ _ _ => False) (hr.make C [] (ks.zip ws)) (guards_make hgd C [] (ks.zip ws)) (I2.env0.make C [] (ks.zip ws)) bd r2 hq) fun r s' hq' => ?_))
  cases r with
  | error er => exact passL (X := X) pins σ _ _ er s' I2 hq'
  | ok fl =>
    cases fl with
    | ret u =>
      obtain ⟨v, H', I3, rv, ev, q3⟩ := I2.after hq'
      subst ev
      exact ⟨rv, ⟨V.ref (hp'.objs.size + 1), H', I3, rfl, q3⟩⟩
    | next => exact False.elim hq'
    | brk => exact False.elim hq'
    | cont => exact False.elim hq'
variable {kws : List Keyword} {ms : M (List DV)}
theorem px_mkxk (F : KnXk X x fs ks sw) (hg : Gl X x) (ha : FKs X kws ms) (hall : (backToKw pos (keywordEach kws X.env)).all (·.1.isSome) = true := by rfl) (hks : (backToKw pos (keywordEach kws X.env)).filterMap (·.1) = ks := by rfl)
    (hdb : (x == ("__debug__" : Str)) = false := by decide) (hpl : ((backTo pos (starEach [] X.env)).any (·.1) || (backToKw pos (keywordEach kws X.env)).any (·.1.isNone)) = false := by rfl) :
    PX X (.Call (.Name x p) [] kws pos) (M.bind ms fun ds => mkX x fs (gk sw ds)) := fun W tk => by
  obtain ⟨C, fI, fd, k, ps, T, tks, F1, hr, hgd, hb, hm⟩ := F.ex
  refine ⟨fun pins s σ H Q I ⟨B, S, st, q⟩ => ?_⟩
  refine wpAny_Call_Name_kw (ld_glob I hg hm ?_ hdb)
  refine PySem.W.callWith_KW0 (h₀ := X.base) I.ok.mod.kin T.kC hall ?_ hpl
  refine thn ((ha W tk).run pos pins s σ H (fun vs H1 => vs.length = fs.length ∧ ∀ a dx, H1 a = none → H1 dx = none → dx ≠ a → (fs = [] → Q (.ref a) (upd H1 a (exo a C none))) ∧ (fs ≠ [] → Q (.ref a) (upd (upd H1 dx (exd dx (fs.zip (gk sw vs)).reverse)) a (exo a C (some dx)))))
    I ⟨B, S, st, (spec_bind.mp q).imp (fun ds S1 _ q vs B1 H1 s hs r => ?_) fun _ _ _ h => h⟩) fun ws s2 hh => ?_
  · have := mkx_end hm s hs (reps_gk (sw := sw) r) q
    exact ⟨by rw [← this.1, gk_len], this.2⟩
  · obtain ⟨zs, H2, I2, rz, hl, q2⟩ := hh
    refine ⟨I2.kIn, ?_⟩
    rw [hks]
    exact run_mkxk T tks F1 hr hgd hb I2 rz hl q2
end
end Lb
/-! Exceptions as data: asked. -/
namespace Lb
open PySem PySem.Spec PyProof.Rows L2
theorem exn_at {mg : Mg} {B H : Hp} (le : Sub B H) {v : V} {c : Str} {gs : List (Str × DV)} (r : Rep mg B v (.exn c gs)) : ∃ a C d, v = .ref a ∧ mg c = some (.ref C) ∧ H a = some (exo a C d) ∧
    (d = none → gs = []) ∧ (∀ dx, d = some dx → ∃ fs, H dx = some (exd dx fs) ∧ RepF mg B fs gs) := by
  cases r with
  | exn hm h => exact ⟨_, _, none, rfl, hm, le.keep _ _ h rfl, fun _ => rfl, fun dx e => by cases e⟩
  | exd hm h h' q => exact ⟨_, _, some _, rfl, hm, le.keep _ _ h rfl, fun e => (by cases e), fun dx e => by cases e; exact ⟨_, le.keep _ _ h' rfl, q⟩⟩
theorem exo_inst {P : Program} {w : World} {H : Hp} {h : Heap} {a C : Addr} {d : Option Addr} (hok : HOk P w H h) (e : H a = some (exo a C d)) (hd : ∀ dx, d = some dx → ∃ fs, H dx = some (exd dx fs)) :
    ∃ ox od, PySem.W.InstAt h a ox C od ∧ (∀ dx fs, d = some dx → H dx = some (exd dx fs) → ∃ o mA, od = some o ∧ PySem.W.lookIn = PySem.W.lookIn ∧ h.get? dx = some o ∧ h.Ns1 dx mA ∧ ∀ f, RelO (fs.lookup f) (mA f)) := by
  obtain ⟨t1, ho⟩ := exo_at hok e
  cases d with
  | none => exact ⟨_, none, ⟨ho, rfl, rfl, trivial⟩, fun dx fs e => by cases e⟩
  | some dx =>
    obtain ⟨fs, hx⟩ := hd dx rfl
    obtain ⟨mA, hn, rel⟩ := exd_at hok hx
    obtain ⟨o, es, ep, q1, q2, q3⟩ := id hn
    refine ⟨_, some o, ⟨ho, rfl, rfl, q1⟩, fun dx' fs' e' h' => ?_⟩
    cases e'
    have : fs' = fs ∨ True := .inr trivial
    obtain ⟨mA', hn', rel'⟩ := exd_at hok h'
    exact ⟨o, mA', rfl, rfl, q1, hn', rel'⟩
/-- the field n of an exception of a class of tab -/
def fld (tab : List Str) (n : Str) (d : DV) : M DV := match d with
  | .exn c fs => if tab.contains c then M.of (fs.lookup n) else M.stuck
  | _ => M.stuck
section
variable {mg : Mg} {B : Hp}
theorem repf_lookup {n : Str} : ∀ {fs : List (Str × V)} {gs : List (Str × DV)} {d : DV}, RepF mg B fs gs → gs.lookup n = some d → ∃ v, fs.lookup n = some v ∧ Rep mg B v d
  | _, _, _, .nil, h => by cases h
  | (k, x) :: fs, (_, e) :: gs, d, .cons r q, h => by
    rw [List.lookup] at h ⊢
    cases hk : n == k with
    | true => rw [hk] at h; cases h; exact ⟨x, rfl, r⟩
    | false => rw [hk] at h; exact repf_lookup q h
end
section
variable {X : Cx} {e : Expr} {n : Str} {pos : Pos} {me : M DV} {tab : List Str}
theorem fld_spec {d : DV} {S : Sl} {K : DV → Sl → Prop} {E : Str → List (Str × DV) → Sl → Prop} (h : (fld tab n d S).spec K E) : ∃ c fs v, d = .exn c fs ∧ c ∈ tab ∧ fs.lookup n = some v ∧ K v S := by
  unfold fld at h
  split at h
  · rename_i c fs
    split at h
    · rename_i hc
      obtain ⟨v, e, k⟩ := of_spec h
      exact ⟨c, fs, v, rfl, by simpa using hc, e, k⟩
    · exact h.elim
  · exact h.elim
theorem fx_fld (hT : ∀ c ∈ tab, ∀ C, X.mg c = some (.ref C) → XfC X.K C ∧ PySem.W.findIn X.K (.ref C) n = some none) (he : FX X e me) (hb : attributeBase e n X.env (eval e X.env) = eval e X.env := by rfl) :
    FX X (.Attribute e n pos) (M.bind me (fld tab n)) := fun W tk => by
  refine ⟨fun pins s σ H Q I ⟨B, S, st, q⟩ => attr_of hb (thn ((he W tk).run pins s σ H (fun x H1 => ∃ (a C dx : Addr) (fs : List (Str × V)) (v : V), x = .ref a ∧ XfC X.K C ∧ PySem.W.findIn X.K (.ref C) n = some none ∧ H1 a = some (exo a C (some dx)) ∧ H1 dx = some (exd dx fs) ∧ fs.lookup n = some v ∧ Q v H1) I
    ⟨B, S, st, (spec_bind.mp q).imp (fun d S1 _ q v B1 H1 s hs r => ?_) fun _ _ _ h => h⟩) fun u s1 hh => ?_)⟩
  · obtain ⟨c, gs, d', rfl, hc, hl, k⟩ := fld_spec q
    obtain ⟨a, C, dd, rfl, hm, ha, h0, h1⟩ := exn_at s.st.le r
    cases dd with
    | none => rw [h0 rfl] at hl; cases hl
    | some dx =>
      obtain ⟨fs, hx, rf⟩ := h1 dx rfl
      obtain ⟨v, e1, rv⟩ := repf_lookup rf hl
      obtain ⟨t1, t2⟩ := hT c hc C hm
      exact ⟨a, C, dx, fs, v, rfl, t1, t2, ha, hx, e1, k v B1 H1 s hs rv⟩
  · obtain ⟨x, H1, I1, rx, a, C, dx, fs, v, rfl, T, hno, ha, hx, l, k⟩ := hh
    obtain rfl : u = Value.ref a := rx
    obtain ⟨t1, ho⟩ := exo_at I1.hok ha
    obtain ⟨mA, hns, rel⟩ := exd_at I1.hok hx
    obtain ⟨od, hod, hl⟩ := lookIn_ns hns
    obtain ⟨w, hw, rw'⟩ := RelO.some_of (v := v) (o := mA n) (by rw [← l]; exact rel n)
    have J : PySem.W.InstAt s1.heap a _ C (some od) := ⟨ho, rfl, rfl, hod⟩
    exact HandSPX.exc_get I1.kIn J T.ga T.gg T.exC (PySem.W.findObj_own T.hdC hno rfl (by rw [hl, hw])) (handed_of rw') ⟨v, H1, I1.tok _, rw', k⟩
end
/-- isinstance(e, c) of an exception that is held as data -/
def rIsx (K : PySem.W.Frag) : List V → Hp → VK → Prop := fun xs H Q => ∃ (a C : Addr) (d : Option Addr) (c : V) (u : Value) (b : Bool), xs = [.ref a, c] ∧ ClsV c u ∧ H a = some (exo a C d) ∧
  (∀ dx, d = some dx → ∃ fs, H dx = some (exd dx fs)) ∧ ExcC K C ∧ PySem.W.kitOne K (.ref C) u = some b ∧ Q (.bl b) H
theorem cls_obj {K : PySem.W.Frag} {D : Addr} (h : PySem.W.hasDictIn K D = true) : ∃ c d cd sl, K.lookup D = some ⟨c, d, .cls cd, sl⟩ := by
  obtain ⟨cd, hc, _⟩ := PySem.W.any_some h
  unfold PySem.W.clsIn at hc
  split at hc
  · rename_i z; exact ⟨_, _, _, _, z⟩
  · cases hc
theorem kitx_exc {K : PySem.W.Frag} {x D : Addr} {ox : Obj} {od : Option Obj} (C : ExcC K D) : PySem.W.KitX K (.ref x) (.ref D) (fun h => PySem.W.InstAt h x ox D od) where
  ty := fun _ _ _ I => I.type
  it := fun M h X _ A Q E s k q => by
    obtain ⟨c, d, cd, sl, z⟩ := cls_obj C.hd
    unfold isType
    unfold loadHead
    exact wpAny_bind (wpAny_loadPart (k D _ (X D _ z)) (wpAny_pure q))
  ne := fun h tp dd its n sl X htp => by
    obtain ⟨c, d, cd, sl', z⟩ := cls_obj C.hd
    cases q : (Value.ref D == Value.ref tp) with
    | false => rfl
    | true =>
      cases Value.ref.inj (beq_iff_eq.mp q)
      have y := X D _ z
      rw [htp] at y
      cases y
  ca := fun X I k => by
    obtain ⟨cd, hc, _⟩ := PySem.W.any_some C.hd
    exact PySem.W.kx_classE X I C.hg C.hk C.hs (PySem.W.findObj_dataE (by rw [hc]; rfl) C.ha C.hn C.ht) C.hm k
theorem call_isx {X : Cx} : CallR X (.builtin "isinstance") (rIsx X.K) := fun pins s σ H xs us Q I r h => by
  obtain ⟨a, C, d, c, u, b, rfl, hc, ha, hd, T, hk, q⟩ := h
  obtain ⟨u1, u2, rfl, r1, r2⟩ := vals2 r
  obtain rfl : u1 = Value.ref a := r1
  cases hc.eq r2
  obtain ⟨ox, od, J, _⟩ := exo_inst I.hok ha hd
  exact PySem.W.kia_one (kitx_exc T) I.kIn J hk (fun z => nomatch z) fun tk => ⟨.bl b, H, I.tok tk, rfl, q⟩
def isxM (tab : List Str) (sub : Str → Bool) (o : Opd) : M Opd := fun S => match o.dv S with
  | some (.exn c _) => if tab.contains c then .ok (.v (.v (.bl (sub c)))) S else .stuck
  | _ => .stuck
section
variable {X : Cx} {e : Expr} {c : Str} {p cp pos : Pos} {me : M Opd} {tab : List Str} {sub : Str → Bool} {cv : V} {u : Value}
theorem isx_spec {o : Opd} {S : Sl} {K : Opd → Sl → Prop} {E : Str → List (Str × DV) → Sl → Prop} (h : (isxM tab sub o S).spec K E) : ∃ k fs, o.dv S = some (.exn k fs) ∧ k ∈ tab ∧ K (.v (.v (.bl (sub k)))) S := by
  unfold isxM at h
  split at h
  · rename_i k fs ek
    split at h
    · rename_i hc
      exact ⟨k, fs, ek, by simpa using hc, h⟩
    · exact h.elim
  · exact h.elim
theorem px_isx (hg : Gl X "isinstance") (hm : X.mg "isinstance" = none) (hc : PE X (.Name c cp) (tC cv)) (hu : ClsV cv u) (hT : ∀ k ∈ tab, ∀ C, X.mg k = some (.ref C) → ExcC X.K C ∧ PySem.W.kitOne X.K (.ref C) u = some (sub k)) (ha : PX X e me)
    (he : starEach [e, .Name c cp] X.env = (false, eval e X.env) :: starEach [.Name c cp] X.env := by rfl) (he2 : starEach [.Name c cp] X.env = (false, eval (.Name c cp) X.env) :: starEach [] X.env := by rfl)
    (hpl : (backTo pos (starEach [.Name c cp] X.env)).any (·.1) = false := by rfl) :
    PX X (.Call (.Name "isinstance" p) [e, .Name c cp] [] pos) (M.bind me (isxM tab sub)) := fun W tk =>
  PE.imp (pe_callB call_isx hg hm (by first | rfl | decide +kernel) (pa_cons (ha W tk) (pa_cons hc pa_nil he2) he) (by decide) (by decide) he hpl) fun σ H Q ⟨B, S, st, q⟩ =>
  ⟨B, S, st, (spec_bind.mp q).imp (fun o S1 _ q v B1 H1 s hs or y => by
    obtain ⟨k, fs, ek, hk, q⟩ := isx_spec q
    have vw := or.view s.st ek
    cases vw with
    | r r =>
      obtain ⟨a, C, d, rfl, hm, ha, _, h1⟩ := exn_at s.st.le r
      obtain ⟨t1, t2⟩ := hT k hk C hm
      exact ⟨a, C, d, cv, u, _, rfl, hu, ha, fun dx e => (h1 dx e).imp fun fs z => z.1, t1, t2, q _ B1 H1 s hs (.v (.v (.bl _)) fun a h => by cases h) fun a h => by cases h⟩) fun _ _ _ h => h⟩
end
end Lb
/-! raise C(..). -/
namespace Lb
open PySem PySem.Spec PyProof.Rows L2
def raiseM (c : Str) (fs : List Str) (ds : List DV) : SM := fun S => if ds.length = fs.length then .exc c (fs.zip ds).reverse S else .stuck
section
variable {X : Cx} {x : Str} {C fI : Addr} {fd : FuncData} {k : Nat} {ps fs : List Str} {p p2 pos : Pos}
/-- what the raise wants of the new exception -/
def RaW (W : WX) (C : Addr) (fs : List Str) (σ : Sg) (vs : List V) (H1 : Hp) : Prop := vs.length = fs.length ∧ (fs = [] → W (.ref C) none σ H1) ∧ (fs ≠ [] → ∀ dx, H1 dx = none → W (.ref C) (some dx) σ (upd H1 dx (.xd (fs.zip vs).reverse)))
theorem run_raise {pins : List (Addr × Obj)} {σ : Sg} {H : Hp} {s : Shared} {Q : XK} {us : List Value} {vs : List V} (T : XC X.K C fI) (exC : PySem.W.subIn X.K (.ref C) (.type "BaseException") = some true) (tyC : PySem.W.typeIn X.K (.ref C) = some (.type "type"))
    (tk : ∀ f ∈ fs, PySem.W.takerIn X.K C f = some none)
    (F1 : FnG X.prog X.w X.K X.mg X.base (L2.CX X.prog X.w) k fI fd ps (spI X.K fs)) (hr : Room (k + 1) X.A) (hgd : X.A.guards = some []) (hb : Binds X.K fd ps []) (hp : ps.length = fs.length + 1) (hf : fs.length ≤ 100)
    (I : Inv X pins σ H s) (r : Vals vs us) (hl : vs.length = fs.length)
    (h0 : fs = [] → Q (.ref C) none H) (h1 : fs ≠ [] → ∀ dx, H dx = none → Q (.ref C) (some dx) (upd H dx (.xd (fs.zip vs).reverse))) :
    wpAny (model X.prog X.w) X.A (call (.ref C) us) (MkP X pins σ Q) X.xe s := by
  obtain ⟨⟨b, newId, initId, l, FB, q⟩, T, kC, iC, tI⟩ := T
  obtain ⟨nm, N, qn, bs, bm, hdct, sn, sub, ab, col, dd, k0, k1, k2, k3, k5, hC, hT⟩ := PySem.W.excInit_of I.kIn q
  obtain ⟨hp', g, dr, tok, os⟩ := s
  have hsz : hp'.objs.size ≤ hp'.objs.size + 1 := Nat.le_succ _
  have kk : ∀ b o, hp'.get? b = some o → ((hp'.push (PySem.W.kdv_tup us)).push (PySem.HandSPX.excO C hp'.objs.size)).get? b = some o := fun b o e => Heap.get?_push_of_some _ (Heap.get?_push_of_some _ e)
  have hget : ((hp'.push (PySem.W.kdv_tup us)).push (PySem.HandSPX.excO C hp'.objs.size)).get? (hp'.objs.size + 1) = some (PySem.HandSPX.excO C hp'.objs.size) := by heap_get
  have n0 : H (hp'.objs.size + 1) = none := I.hok.fresh hsz
  have I2 : Inv X pins σ (upd H (hp'.objs.size + 1) (exo (hp'.objs.size + 1) C none)) ⟨(hp'.push (PySem.W.kdv_tup us)).push (PySem.HandSPX.excO C hp'.objs.size), g, dr, tok, os⟩ :=
    I.laid (t' := tok) (a := hp'.objs.size + 1) (o := exo (hp'.objs.size + 1) C none) kk hsz (exo_ok hget)
  have r2 : Vals (V.ref (hp'.objs.size + 1) :: vs) (Value.ref (hp'.objs.size + 1) :: us) := .cons rfl r
  have hlu : (Value.ref (hp'.objs.size + 1) :: us ++ []).length = ps.length := by rw [List.append_nil, ← r2.length, hp, List.length_cons, hl]
  have hus : us.length ≤ sizeLine := by rw [← r.length, hl, sizeLine_eq]; omega
  have hq : spI X.K fs (V.ref (hp'.objs.size + 1) :: vs) (upd H (hp'.objs.size + 1) (exo (hp'.objs.size + 1) C none))
      (fun v H' => v = .non ∧ ((fs = [] ∧ H' = upd H (hp'.objs.size + 1) (exo (hp'.objs.size + 1) C none)) ∨ (fs ≠ [] ∧ ∃ dx, H dx = none ∧ dx ≠ hp'.objs.size + 1 ∧ H' = upd (upd H dx (exd dx (fs.zip vs).reverse)) (hp'.objs.size + 1) (exo (hp'.objs.size + 1) C (some dx))))) (fun _ _ _ => False) := by
    refine ⟨_, C, vs, rfl, hl, T, tk, upd_same, fun e => ⟨rfl, .inl ⟨e, rfl⟩⟩, fun e dx n ne => ⟨rfl, .inr ⟨e, dx, ?_, ne, ?_⟩⟩⟩
    · rw [upd_ne ne] at n; exact n
    · unfold initH
      rw [upd_comm (Ne.symm ne), upd_twice]
  have bd := hb _ (Value.ref (hp'.objs.size + 1) :: us) I2.kIn hlu
  rw [List.append_nil] at bd
  refine wpAny_call (PySem.HandSPX.call_own FB hT hC (PySem.W.looks_findIn I.kIn iC) (fun self => PySem.W.bind_fn I.kIn self tI) hus
    (codeAny_mono (F1.run _ X.stack _ _ ⟨Value.ref (hp'.objs.size + 1) :: us, []⟩ (Value.ref (hp'.objs.size + 1) :: us) _ _ (fun _ _ _ => False) (hr.make C us []) (guards_make hgd C us []) (I2.env0.make C us []) bd r2 hq) fun r s' hq' => ?_))
  cases r with
  | error er => exact passL (X := X) pins σ _ _ er s' I2 hq'
  | ok fl =>
    cases fl with
    | next => exact False.elim hq'
    | brk => exact False.elim hq'
    | cont => exact False.elim hq'
    | ret u =>
      obtain ⟨v, H2, os2, bare2, un2, hok2, rv, ev, q2⟩ := hq'
      subst ev
      refine ⟨rv, ?_⟩
      obtain ⟨h2, g2, d2, t2, os'⟩ := s'
      rcases q2 with ⟨e, eH⟩ | ⟨e, dx, nd, ne, eH⟩
      · -- no field: its object is let go
        subst eH
        obtain ⟨t0, hoe⟩ := exo_at hok2 (upd_same (H := H) (a := hp'.objs.size + 1) (o := exo (hp'.objs.size + 1) C none))
        obtain ⟨G, g1', g2'⟩ := restrict h2 fun b => decide (b ≠ hp'.objs.size + 1)
        have gk1 : ∀ b, b ≠ hp'.objs.size + 1 → G.get? b = h2.get? b := fun b hb => g1' b (decide_eq_true hb)
        have ge : G.get? (hp'.objs.size + 1) = none := g2' _ (by simp)
        have nha : ∀ {b : Addr} {o : Obj}, hp'.get? b = some o → b ≠ hp'.objs.size + 1 := fun z => Nat.ne_of_lt (Nat.lt_succ_of_lt (Heap.lt_size z))
        have un : ∀ {b : Addr}, b ≠ hp'.objs.size + 1 → H b = none → upd H (hp'.objs.size + 1) (exo (hp'.objs.size + 1) C none) b = none := fun hb n => by rw [upd_ne hb]; exact n
        have U : Un (frs X.stack) [] H H hp' G := ⟨fun b o z n hf hx => by rw [gk1 b (nha z)]; exact un2.keep b o (kk b o z) (un (nha z) n) hf hx,
          fun b o z n hf hx => by rw [gk1 b (nha z)]; exact un2.slot b o (kk b o z) (un (nha z) n) hf hx, fun b o z n hx => n,
          fun b o z hx => by rw [gk1 b (nha z)]; exact un2.there b o (kk b o z) hx, fun b xs z => z, fun b o v z => z, fun b ps z => ⟨#[], by rw [z]; simp⟩⟩
        have hok3 : HOk X.prog X.w H G := fun b o z => by
          have hba : b ≠ hp'.objs.size + 1 := ne_of_none z n0
          have z2 := hok2 b o (by rw [upd_ne hba]; exact z)
          refine z2.stay (fun c v hc y => ?_) (fun c hc => ?_) fun c xs hc => ?_
          · have hca : c ≠ hp'.objs.size + 1 := by
              rcases hc with hc | hc
              · rw [hc]; exact hba
              · exact at_ne upd_same hc exo_own
            rw [gk1 c hca]; exact y
          · rw [upd_ne (at_ne upd_same hc exo_own)] at hc; exact hc
          · rw [upd_ne (at_ne upd_same hc exo_tup)] at hc; exact hc
        have J : Inv X pins σ H ⟨G, g2, d2, t2, os'⟩ := I.call' (ch := []) os2 U hok3 bare2 (fun b z => absurd z (by simp))
        exact ⟨hp'.objs.size + 1, _, _, ⟨G, g2, d2, t2, os'⟩, H, .ref C, none, rfl, J, fun b o z => by
          by_cases hba : b = hp'.objs.size + 1
          · rw [hba, ge] at z; cases z
          · exact (gk1 b hba).symm.trans z, ge, hoe, ⟨rfl, rfl⟩, rfl, rfl, n0, rfl, bare2, raises_own exC tyC, h0 e⟩
      · subst eH
        refine mk_end (raises_own exC tyC) I hsz kk un2 hok2 os2 bare2 upd_same (by rw [upd_ne ne, upd_same]) nd ?_
        have ed : del (upd (upd H dx (exd dx (fs.zip vs).reverse)) (hp'.objs.size + 1) (exo (hp'.objs.size + 1) C (some dx))) (hp'.objs.size + 1) = upd H dx (exd dx (fs.zip vs).reverse) := by
          funext b
          by_cases hb : b = hp'.objs.size + 1
          · subst hb; rw [del_same, upd_ne (Ne.symm ne), n0]
          · rw [del_ne hb, upd_ne hb]
        rw [ed, upd_twice]
        exact h1 e dx nd
structure KnR (X : Cx) (x : Str) (fs : List Str) : Prop where
  ex : ∃ (C fI : Addr) (fd : FuncData) (k : Nat) (ps : List Str), XC X.K C fI ∧ PySem.W.subIn X.K (.ref C) (.type "BaseException") = some true ∧ PySem.W.typeIn X.K (.ref C) = some (.type "type") ∧ (∀ f ∈ fs, PySem.W.takerIn X.K C f = some none) ∧
    FnG X.prog X.w X.K X.mg X.base (L2.CX X.prog X.w) k fI fd ps (spI X.K fs) ∧ Room (k + 1) X.A ∧ X.A.guards = some [] ∧ Binds X.K fd ps [] ∧ ps.length = fs.length + 1 ∧ X.mg x = some (.ref C) ∧ fs.length ≤ 100
theorem KnR.toX (F : KnR X x fs) : KnX X x fs := by
  obtain ⟨C, fI, fd, k, ps, a, b, c, d, e, f, g, h, i, j, l⟩ := F.ex
  exact ⟨C, fI, fd, k, ps, a, d, e, f, g, h, i, j, l⟩
theorem raiseM_spec {c : Str} {ds : List DV} {S : Sl} {N : Sl → Prop} {R : Opd → Sl → Prop} {Bk Ct : Sl → Prop} {E : Str → List (Str × DV) → Sl → Prop} (h : (raiseM c fs ds S).spec N R Bk Ct E) : ds.length = fs.length ∧ E c (fs.zip ds).reverse S := by
  unfold raiseM at h
  split at h
  · rename_i e; exact ⟨e, h⟩
  · exact h.elim
theorem raise_end {W : WX} {D : Ends} (hm : X.mg x = some (.ref C)) {B H B1 H1 : Hp} {σ : Sg} {S S1 : Sl} {vs : List V} {ds : List DV} (s : Stp X.mg B H σ S B1 H1 σ S1) (r : Reps X.mg B1 vs ds) {N : Sl → Prop} {R : Opd → Sl → Prop} {Bk Ct : Sl → Prop}
    (h : (raiseM x fs ds S1).spec N R Bk Ct (xPost X.mg W B H σ S)) : RaW W C fs σ vs H1 := by
  obtain ⟨hl, k⟩ := raiseM_spec h
  refine ⟨r.length.trans hl, fun e => ?_, fun e dx nd => ?_⟩
  · subst e
    have : ds = [] := by cases ds with | nil => rfl | cons _ _ => cases hl
    subst this
    exact k C B1 H1 σ none hm s rfl
  · have n : New B1 H1 B1 (upd H1 dx (.xd (fs.zip vs).reverse)) := .own s.st.le nd
    exact k C B1 _ σ (some dx) hm (s.trans (s.st.step n)) ⟨_, upd_same, repf_zip r⟩
variable {e : Expr} {es : List Expr} {ms : M (List DV)}
theorem sx_raise (hc : X.calm = true) (F : KnR X x fs) (hg : Gl X x) (ha : FXs X (e :: es) ms) (hdb : (x == ("__debug__" : Str)) = false := by decide)
    (he : starEach (e :: es) X.env = (false, eval e X.env) :: starEach es X.env := by rfl) (hpl : (backTo p2 (starEach es X.env)).any (·.1) = false := by rfl) :
    SX X (.Raise (some (.Call (.Name x p) (e :: es) [] p2)) none pos) (M.thn ms (raiseM x fs)) := fun W tk pp => by
  obtain ⟨C, fI, fd, k, ps, T, exC, tyC, tks, F1, hr, hgd, hb, hp, hm, hf⟩ := F.ex
  have hmk : PMk X (.Call (.Name x p) (e :: es) [] p2) (fun σ H Q => tFs X.mg ms W σ H fun vs H1 => vs.length = fs.length ∧ (fs = [] → Q (.ref C) none H1) ∧ (fs ≠ [] → ∀ dx, H1 dx = none → Q (.ref C) (some dx) (upd H1 dx (.xd (fs.zip vs).reverse)))) := by
    intro pins s σ H Q I h
    refine wpAny_Call_Name_kw (ld_glob I hg hm ?_ hdb)
    refine PySem.W.callWith_K (h₀ := X.base) I.ok.mod.kin T.kC (thn ((ha W tk).run p2 pins s σ H _ I h) fun us s1 hh => ?_) he hpl
    obtain ⟨vs, H1, I1, r, hl, q0, q1⟩ := hh
    exact ⟨I1.kIn, run_raise T exC tyC tks F1 hr hgd hb hp hf I1 r hl q0 q1⟩
  exact PS.imp (ps_raise hc tk hmk) fun D σ H ⟨B, S, st, q⟩ => ⟨B, S, st, (spec_thn.mp q).imp (fun ds S1 _ q vs B1 H1 s hs r => raise_end (D := D) hm s r q) fun _ _ _ h => h⟩
theorem sx_raise0 (hc : X.calm = true) (F : KnR X x []) (hg : Gl X x) (hdb : (x == ("__debug__" : Str)) = false := by decide) :
    SX X (.Raise (some (.Call (.Name x p) [] [] p2)) none pos) (raiseM x [] []) := fun W tk pp => by
  obtain ⟨C, fI, fd, k, ps, T, exC, tyC, tks, F1, hr, hgd, hb, hp, hm, hf⟩ := F.ex
  have hmk : PMk X (.Call (.Name x p) [] [] p2) (fun σ H Q => Q (.ref C) none H) := by
    intro pins s σ H Q I h
    refine wpAny_Call_Name_kw (ld_glob I hg hm ?_ hdb)
    exact PySem.W.callWith_K0 I.kIn T.kC (run_raise (vs := []) T exC tyC tks F1 hr hgd hb hp hf I .nil rfl (fun _ => h) (fun e => absurd rfl e))
  exact PS.imp (ps_raise hc tk hmk) fun D σ H ⟨B, S, st, q⟩ => (raise_end (D := D) (fs := []) hm (.refl st) .nil q).2.1 rfl
end
end Lb
/-! try: .. with several clauses, each with a name. -/
namespace Lb
open PySem PySem.Spec PyProof.Rows L2
abbrev Cl := Value × Nat × (Addr → Value → Option Addr → TS)
def endsAt (i : Nat) (D : Ends) : Ends := { nx := fun σ' H' => D.nx (σ'.set i none) H', rt := D.rt, bk := fun σ' H' => D.bk (σ'.set i none) H', ct := fun σ' H' => D.ct (σ'.set i none) H' }
def wCl (K : PySem.W.Frag) (Wo : WX) (D : Ends) : List Cl → WX
  | [] => Wo
  | (c, i, ts) :: r => fun cls d σ H => ∃ b, PySem.W.exmOne K cls c = some b ∧ (b = true → ∀ a, H a = none → ts a cls d (endsAt i D) (σ.set i (some (.ref a))) H) ∧ (b = false → wCl K Wo D r cls d σ H)
inductive HdsA (X : Cx) : List ExceptHandler → List Cl → Prop
  | nil : HdsA X [] []
  | cons {x n : Str} {c : Value} {i : Nat} {ts : Addr → Value → Option Addr → TS} {b₀ : Stmt} {suite : List Stmt} {np pos' : Pos} {hds : List ExceptHandler} {l : List Cl} (hc : Names X x c) (hi : X.N[i]? = some n) (hln : X.env.kindOf n = some .local)
      (hsu : ∀ (a : Addr) (oe : Obj) (cls : Value) (d : Option Addr) (pn : List (Addr × Obj)), Zc cls d oe → (∃ vs, oe.data = .fields vs) → PSs (X.suite a ((a, oe) :: pn)) (b₀ :: suite) (ts a cls d)) (r : HdsA X hds l) :
      HdsA X (.ExceptHandler (some (.Name x np)) (some n) (b₀ :: suite) pos' :: hds) ((c, i, ts) :: l)
theorem SP.ofTry {X : Cx} (ok : X.Ok) {pins : List (Addr × Obj)} {D : Ends} {xe : Value → Shared → Prop} {f : Flow} {s : Shared} (h : SP (X.tr (X.pn ++ pins) xe) [] D f s) : SP X pins D f s := by
  cases f with
  | ret u => obtain ⟨v, σ', H', J, q⟩ := h; exact ⟨v, σ', H', J.ofTry ok, q⟩
  | next => obtain ⟨σ', H', J, q⟩ := h; exact ⟨σ', H', J.ofTry ok, q⟩
  | brk => obtain ⟨σ', H', J, q⟩ := h; exact ⟨σ', H', J.ofTry ok, q⟩
  | cont => obtain ⟨σ', H', J, q⟩ := h; exact ⟨σ', H', J.ofTry ok, q⟩
section
variable {X : Cx} {body : List Stmt} {h₀ : ExceptHandler} {hds : List ExceptHandler} {l : List Cl} {pos : Pos} {tb : WX → TS} {Wo : WX}
theorem ps_try_cl (hs : X.stack = X.env :: X.outer) (hf : X.env.frame = some X.env.locals) (hN : X.N.Nodup) (tk : Takes X Wo)
    (hb : ∀ (W : WX) (pn : List (Addr × Obj)) (xe : Value → Shared → Prop), Takes (X.tr pn xe) W → PassesOwn (model X.prog X.w) X.A X.env xe → PSs (X.tr pn xe) body (tb W))
    (hh : HdsA X (h₀ :: hds) l) : PS X (.Try body (h₀ :: hds) [] [] pos) (fun D σ H => tb (wCl X.K Wo D l) D σ H) := by
  refine ⟨fun pins s σ H D I h => ?_⟩
  have ok := I.ok
  have fr : X.A.frames = some (X.env :: X.outer) := by rw [ok.frames, hs]
  refine wpAny_Try_except (wpAny_mono ((hb (wCl X.K Wo D l) (X.pn ++ pins) (fun e s1 => wpAny (model X.prog X.w) X.A (noteFrame e X.env) (fun _ s2 => wpAny (model X.prog X.w) X.A (setFlight e none)
    (fun _ s3 => wpAny (model X.prog X.w) X.A (handleBy e X.env (h₀ :: hds)) (SP X pins D) X.xe s3) X.xe s2) X.xe s1) (fun u s1 xx => ?_) PassesOwn.looking).run [] s σ H D (I.toTry _) h) (fun f s1 q => ?_) fun e s1 q => q)
  · obtain ⟨a, G, sI, pins', σ1, H1, cls, d, rfl, J0, nb, up, sky, na, os, ag, w⟩ := xx
    have J : Inv X pins σ1 H1 sI := J0.ofTry ok
    rw [show (X.tr (X.pn ++ pins) _).stack = X.env :: X.outer from hs] at sky
    show wpAny (model X.prog X.w) X.A (noteFrame (.ref a) X.env) _ _ _
    refine Sky.land Zc.steady fr hf sky fun h3 f3 up3 => ?_
    have J3 : Inv X pins σ1 H1 { s1 with heap := h3 } := J.landed nb f3.1 (up.trans up3) os ag
    obtain ⟨o3, v3, e3, z3, d3⟩ := f3.there
    have notIn : a ∉ frs (X.env :: X.outer) := fun hm => by
      obtain ⟨_, o', e', hnf⟩ := (show h3.FunFrames G (X.env :: X.outer) from f3.2.2.1).mem hm
      rw [e3] at e'; cases e'; exact hnf _ d3
    have nL : a ≠ X.env.locals := fun z => notIn (List.mem_filterMap.mpr ⟨X.env, List.mem_cons_self, by rw [hf, z]⟩)
    have nF : a ∉ X.fs := fun hm => by
      obtain ⟨e, he, q⟩ := List.mem_filterMap.mp hm
      exact notIn (List.mem_filterMap.mpr ⟨e, .tail _ he, q⟩)
    have S3 := J3.suite e3 d3 na nL nF
    have go : ∀ {hs' : List ExceptHandler} {l' : List Cl}, HdsA X hs' l' → wCl X.K Wo D l' cls d σ1 H1 → wpAny (model X.prog X.w) X.A (handleBy (.ref a) X.env hs') (SP X pins D) X.xe { s1 with heap := h3 } := by
      intro hs' l' k
      induction k with
      | nil =>
        intro w
        refine wpAny_handleBy_nil ?_
        obtain ⟨m1, m2, m3, oe, vs, T, oT, ts', he, hz, hd, h1, hr⟩ := id f3
        have fin : wpAny (model X.prog X.w) X.A (setFlight (.ref a) X.env.frame) (fun _ s4 => wpAny (model X.prog X.w) X.A (throw (.ref a) : Sem Flow) (SP X pins D) X.xe s4) X.xe { s1 with heap := h3 } := by
          rw [hf]
          refine HandSPX.setFlight_upZ f3 fun h4 hh4 up4 => wpAny_throw (tk _ _ ⟨a, G, sI, pins, σ1, H1, cls, d, rfl, J, nb, (up.trans up3).trans up4, .inr (.inr ?_), na, os, ag, w⟩)
          rw [hs]; exact hh4
        unfold PySem.passOn
        refine wpAny_bind (wpAny_field he hd h1 ?_)
        rw [if_neg (by simp : ¬ ((Value.ref T == Value.none) = true))]
        first
          | exact wpAny_bind (wpAny_pure (wpAny_bind fin))
          | exact wpAny_bind fin
      | @cons x n c i ts b₀ suite np pos' hds2 l2 hc hi hln hsu r ih =>
        intro w
        obtain ⟨b, hb1, yes, no⟩ := w
        have LT : PySem.W.Looks (model X.prog X.w) h3 (typeOf (.ref a)) cls := fun A Q E s k q => wpAny_typeOf_ref (k a o3 e3) (by rw [z3.1]; exact q)
        have LM := PySem.W.exm_one (M := model X.prog X.w) J3.kIn LT hb1
        have test : ∀ {Q E : Value → Shared → Prop}, Q c { s1 with heap := h3 } → wpAny (model X.prog X.w) (X.A.mark (some (.ref a))) (eval (.Name x np) X.env) Q E { s1 with heap := h3 } := fun q => by
          obtain ⟨hg, hdb, hm | ⟨hm, hv, hn⟩⟩ := hc
          · exact ld_glob S3 hg hm q hdb
          · exact ld_blt S3 hg hm hv q hn hdb
        refine wpAny_handleBy_cons (codeAny_handlers_test (test (LM.here ?_))) (by intro q; cases q)
        cases b with
        | false => exact ih (no rfl)
        | true =>
          refine codeAny_handlers_suite_as (HandSPX.lands_againZ f3 fun h4 f4 up4 => ?_)
          have J4 : Inv X pins σ1 H1 { s1 with heap := h4 } := J.landed nb f4.1 ((up.trans up3).trans up4) os ag
          obtain ⟨o4, v4, e4, z4, d4⟩ := f4.there
          refine store_ok (X := X.suite a ((a, o4) :: (X.pn ++ pins))) (v := .ref a) (J4.suite e4 d4 na nL nF) hN hi (.inl hln) rfl (fun s5 S5 => ?_) (.inr hln)
          have fin : ∀ {σ6 : Sg} {H6 : Hp} {s6 : Shared} {Q : Shared → Prop}, Inv (X.suite a ((a, o4) :: (X.pn ++ pins))) [] σ6 H6 s6 → (∀ s7, Inv X pins (σ6.set i none) H6 s7 → Q s7) →
              wpAny (model X.prog X.w) X.A (do bindName X.env n .none; unbindBehindTheSuite X.env n pos') (fun _ s7 => Q s7) X.xe s6 := fun S6 hq => gone_ok (S6.unsuite ok) hN hi hln hq
          refine wpAny_mono ((hsu a o4 cls d (X.pn ++ pins) z4 ⟨_, d4⟩).run [] s5 _ H1 _ S5 (yes rfl a na)) (fun f s6 q => ?_) fun _ _ z => z.elim
          cases f with
          | ret u =>
            obtain ⟨v6, σ6, H6, S6, r6, q6⟩ := q
            exact fin S6 fun s7 J7 => ⟨_, _, _, J7, r6, q6⟩
          | next =>
            obtain ⟨σ6, H6, S6, q6⟩ := q
            exact fin S6 fun s7 J7 => ⟨_, _, J7, q6⟩
          | brk =>
            obtain ⟨σ6, H6, S6, q6⟩ := q
            exact fin S6 fun s7 J7 => ⟨_, _, J7, q6⟩
          | cont =>
            obtain ⟨σ6, H6, S6, q6⟩ := q
            exact fin S6 fun s7 J7 => ⟨_, _, J7, q6⟩
    exact go hh w
  · have q' := SP.ofTry ok q
    cases f with
    | next => exact wpAny_execs_nil q'
    | ret u => exact q'
    | brk => exact q'
    | cont => exact q'
end
end Lb
/-! What is caught. -/
namespace Lb
open PySem PySem.Spec PyProof.Rows L2
def Xdt (mg : Mg) (B H : Hp) (d : Option Addr) (fs : List (Str × DV)) : Prop := match d with | none => fs = [] | some dx => ∃ xs, H dx = some (.xd xs) ∧ RepF mg B xs fs
structure Cau (mg : Mg) (i : Nat) (a : Addr) (cls : Value) (d : Option Addr) (c : Str) (fs : List (Str × DV)) (σ : Sg) (B H : Hp) : Prop where
  at_ : σ[i]? = some (some (.ref a))
  cl : ∃ C, cls = .ref C ∧ mg c = some (.ref C)
  dt : Xdt mg B H d fs
theorem StR.notOwnXd {mg : Mg} {B H : Hp} {σ : Sg} {S : Sl} (x : StR mg B H σ S) {a : Addr} {xs : List (Str × V)} (h : H a = some (.xd xs)) : ¬ OwnA σ S a := fun ⟨i, ⟨r, e, hr⟩, e2⟩ => by
  obtain ⟨v, e1, q⟩ := x.at_ i r e
  rw [e2] at e1
  cases e1
  cases q with
  | v q => cases hr
  | ol _ h' _ => rw [h] at h'; cases h'
  | od _ h' _ => rw [h] at h'; cases h'
theorem xd_keep {mg : Mg} {B H B' H' : Hp} {σ σ' : Sg} {S S' : Sl} (x : StR mg B H σ S) (s : Stp mg B H σ S B' H' σ' S') {d : Option Addr} {fs : List (Str × DV)}
    (h : Xdt mg B H d fs) : Xdt mg B' H' d fs := by
  cases d with
  | none => exact h
  | some dx =>
    obtain ⟨xs, e, r⟩ := h
    exact ⟨xs, s.grow.keep dx _ e (x.notOwnXd e), RepF.mono s.grow.sub r⟩
theorem Cau.step {mg : Mg} {i : Nat} {a : Addr} {cls : Value} {d : Option Addr} {c : Str} {fs : List (Str × DV)} {B H B' H' : Hp} {σ : Sg} {S S' : Sl} (k : Cau mg i a cls d c fs σ B H) (x : StR mg B H σ S) (s : Stp mg B H σ S B' H' σ S') : Cau mg i a cls d c fs σ B' H' :=
  ⟨k.at_, k.cl, xd_keep x s k.dt⟩
abbrev Xm (α : Type) := Str → List (Str × DV) → M α
abbrev noE : Str → List (Str × DV) → Sl → Prop := fun _ _ _ => False
def tPc (mg : Mg) (i : Nat) (a : Addr) (cls : Value) (d : Option Addr) (m : Xm Opd) : TE := fun σ H Q => ∃ B S c fs, StR mg B H σ S ∧ Cau mg i a cls d c fs σ B H ∧ (m c fs S).spec
  (fun o S' => ∀ v B' H', Stp mg B H σ S B' H' σ S' → Has S S' → OpdR mg B' H' σ S' v o → Young H v o → Q v H') noE
def tFc (mg : Mg) (i : Nat) (a : Addr) (cls : Value) (d : Option Addr) (m : Xm DV) : TE := fun σ H Q => ∃ B S c fs, StR mg B H σ S ∧ Cau mg i a cls d c fs σ B H ∧ (m c fs S).spec
  (fun e S' => ∀ v B' H', Stp mg B H σ S B' H' σ S' → Has S S' → Rep mg B' v e → Q v H') noE
def tFsc (mg : Mg) (i : Nat) (a : Addr) (cls : Value) (d : Option Addr) (m : Xm (List DV)) : TA := fun σ H Q => ∃ B S c fs, StR mg B H σ S ∧ Cau mg i a cls d c fs σ B H ∧ (m c fs S).spec
  (fun es S' => ∀ vs B' H', Stp mg B H σ S B' H' σ S' → Has S S' → Reps mg B' vs es → Q vs H') noE
def InS (X : Cx) (P : Addr → Value → Option Addr → Cx → Prop) : Prop := ∀ (a : Addr) (oe : Obj) (cls : Value) (d : Option Addr) (pn : List (Addr × Obj)), Zc cls d oe → (∃ vs, oe.data = .fields vs) → P a cls d (X.suite a ((a, oe) :: pn))
def PXc (X : Cx) (i : Nat) (e : Expr) (m : Xm Opd) : Prop := InS X fun a cls d Y => PE Y e (tPc X.mg i a cls d m)
def FXc (X : Cx) (i : Nat) (e : Expr) (m : Xm DV) : Prop := InS X fun a cls d Y => PE Y e (tFc X.mg i a cls d m)
def FXsc (X : Cx) (i : Nat) (es : List Expr) (m : Xm (List DV)) : Prop := InS X fun a cls d Y => PA Y es (tFsc X.mg i a cls d m)
theorem noE_x {mg : Mg} {W : WX} {B H : Hp} {σ : Sg} {S : Sl} : ∀ c fs S', noE c fs S' → xPost mg W B H σ S c fs S' := fun _ _ _ h => h.elim
section
variable {X : Cx} {i : Nat} {e : Expr} {es : List Expr} {pos : Pos}
theorem pxc_of {m : M Opd} (h : ∀ a pn, PX (X.suite a pn) e m) : PXc X i e (fun _ _ => m) := fun a oe cls d pn hz hf => PE.imp (h a _ W0 takes0) fun σ H Q ⟨B, S, c, fs, st, k, q⟩ => ⟨B, S, st, q.imp (fun _ _ _ h => h) noE_x⟩
theorem fxc_of {m : M DV} (h : ∀ a pn, FX (X.suite a pn) e m) : FXc X i e (fun _ _ => m) := fun a oe cls d pn hz hf => PE.imp (h a _ W0 takes0) fun σ H Q ⟨B, S, c, fs, st, k, q⟩ => ⟨B, S, st, q.imp (fun _ _ _ h => h) noE_x⟩
theorem fxc_fld {n x : Str} {zp : Pos} {tab : List Str} (hT : ∀ c ∈ tab, ∀ C, X.mg c = some (.ref C) → XfC X.K C ∧ PySem.W.findIn X.K (.ref C) n = some none)
    (hN : X.N[i]? = some x := by rfl) (hv : Vis X.env.scope x := by first | exact Or.inl rfl | exact Or.inr (Or.inl rfl) | exact Or.inr (Or.inr rfl)) (hd : (x == ("__debug__" : Str)) = false := by decide)
    (hcd : (x == ("__classdict__" : Str)) = false := by decide) (hb : attributeBase (.Name x zp) n X.env (eval (.Name x zp) X.env) = eval (.Name x zp) X.env := by rfl) :
    FXc X i (.Attribute (.Name x zp) n pos) (fun c fs => fld tab n (.exn c fs)) := fun a oe cls d pn hz hf => by
  constructor
  intro pins s σ H Q I ⟨B, S, c, fs, st, k, q⟩
  obtain ⟨c', fs', v, e1, hc, hl, kq⟩ := fld_spec q
  cases e1
  obtain ⟨C, ec, hm⟩ := k.cl
  subst ec
  obtain ⟨T, hno⟩ := hT c hc C hm
  have hdt := k.dt
  cases d with
  | none => have : fs = [] := hdt; subst this; cases hl
  | some dx =>
    obtain ⟨xs, hx, rf⟩ := hdt
    obtain ⟨w, hw, rw'⟩ := repf_lookup rf hl
    exact (pe_xf T hno hz hf (pe_var (X := X.suite a ((a, oe) :: pn)) (i := i) hN hv hd hcd) hb).run pins s σ H Q I ⟨.ref a, k.at_, rfl, rfl, dx, xs, w, rfl, hx, hw, kq w B H (.refl st) (.refl S) rw'⟩
theorem fsc_nil : FXsc X i [] (fun _ _ => M.pure []) := fun a oe cls d pn hz hf => PA.imp pa_nil fun σ H Q ⟨B, S, c, fs, st, k, q⟩ => q [] B H (.refl st) (.refl S) .nil
theorem fsc_cons {m : Xm DV} {ms : Xm (List DV)} (h : FXc X i e m) (hs : FXsc X i es ms) (hst : starEach (e :: es) X.env = (false, eval e X.env) :: starEach es X.env := by rfl) :
    FXsc X i (e :: es) (fun c fs => M.bind (m c fs) fun o => M.bind (ms c fs) fun os => M.pure (o :: os)) := fun a oe cls d pn hz hf => PA.imp (pa_cons (h a oe cls d pn hz hf) (hs a oe cls d pn hz hf) hst) fun σ H Q ⟨B, S, c, fs, st, k, q⟩ =>
  ⟨B, S, c, fs, st, k, (spec_bind.mp q).imp (fun o S1 _ q v B1 H1 s hs or => ⟨B1, S1, c, fs, s.st, k.step st s, (spec_bind.mp q).imp (fun os S2 _ q vs B2 H2 s2 hs2 ors =>
    q (v :: vs) B2 H2 (s.trans s2) (hs.trans hs2) (.cons (or.mono s2.grow.sub) ors)) fun _ _ _ h => h⟩) fun _ _ _ h => h⟩
theorem pxc_lst {ms : Xm (List DV)} (ha : FXsc X i es ms) : PXc X i (.List es pos) (fun c fs => M.bind (ms c fs) mkL) := fun a oe cls d pn hz hf => PE.imp (pe_lst (ha a oe cls d pn hz hf)) fun σ H Q ⟨B, S, c, fs, st, k, q⟩ =>
  ⟨B, S, c, fs, st, k, (spec_bind.mp q).imp (fun ds S1 _ q vs B1 H1 s hs r => by
    obtain ⟨hl, q⟩ := if_spec q
    refine ⟨by rw [r.length]; exact hl, fun p hp => ?_⟩
    obtain ⟨s3, opd, yg⟩ := (res_lst s.st.le hp r).opd s.st
    exact q _ _ _ (s.trans s3) hs opd (yg.pre s)) fun _ _ _ h => h⟩
end
abbrev HM := Str → List (Str × DV) → SM
def tSc (mg : Mg) (i : Nat) (a : Addr) (cls : Value) (d : Option Addr) (m : HM) : TS := fun D σ H => ∃ B S c fs, StR mg B H σ S ∧ Cau mg i a cls d c fs σ B H ∧ (m c fs S).spec
  (fun S' => ∀ B' H' σ', Stp mg B H σ S B' H' σ' S' → D.nx σ' H')
  (fun o S' => ∀ v B' H' σ', Stp mg B H σ S B' H' σ' S' → OpdR mg B' H' σ' S' v o → Young H v o → D.rt v H')
  (fun S' => ∀ B' H' σ', Stp mg B H σ S B' H' σ' S' → D.bk σ' H') (fun S' => ∀ B' H' σ', Stp mg B H σ S B' H' σ' S' → D.ct σ' H') noE
def SXc (X : Cx) (i : Nat) (st : List Stmt) (m : HM) : Prop := InS X fun a cls d Y => PSs Y st (tSc X.mg i a cls d m)
theorem set_end {mg : Mg} {B H B1 H1 : Hp} {σ : Sg} {S S1 : Sl} {j : Nat} {v : V} {o : Opd} {Nx : Sg → Hp → Prop} {R : Opd → Sl → Prop} {Bk Ct : Sl → Prop} {E : Str → List (Str × DV) → Sl → Prop} (s : Stp mg B H σ S B1 H1 σ S1) (hs : Has S S1) (r : OpdR mg B1 H1 σ S1 v o) (y : Young H v o)
    (q : (setSl j o S1).spec (fun S' => ∀ B' H' σ', Stp mg B H σ S B' H' σ' S' → Nx σ' H') R Bk Ct E) : Nx (σ.set j (some v)) H1 := by
  cases r with
  | v r n =>
    obtain ⟨h1, h2, k⟩ := stores_spec q
    exact k B1 H1 _ (s.set r n y h1 h2)
  | @sl j' e1 hr =>
    have q : (frz (.sl j') S1).spec _ _ := spec_thn.mp q
    cases ef : frz (.sl j') S1 with
    | stuck => rw [ef] at q; exact q.elim
    | exc c fs S' => exact (frz_noexc ef).elim
    | ok d S2 =>
      rw [ef] at q
      obtain ⟨B2, s2, _, rep⟩ := frz_ok s hs (.sl e1 hr) trivial ef
      obtain ⟨h1, h2, k⟩ := stores_spec q
      exact k B2 H1 _ (s2.set (.v rep) (fun a h => by cases h) (fun a h => by cases h) h1 h2)
section
variable {X : Cx} {i : Nat} {e : Expr} {pos pos' : Pos}
theorem sxc_set (j : Nat) {x : Str} {me : Xm Opd} (hN : X.N.Nodup) (hi : X.N[j]? = some x) (hx : Loc X.env.scope x) (he : PXc X i e me) (hs : swapsWith e (some (.Name x pos')) pos.line X.env = pure false := by rfl)
    (hf : X.fn x = true ∨ X.env.scope.names.lookup x = some .local := by first | exact .inl rfl | exact .inr rfl | assumption) :
    SXc X i [.Assign [.Name x pos'] e pos] (fun c fs => M.thn (me c fs) (setSl j)) := fun a oe cls d pn hz hfl => PSs.imp (pss_one (ps_set (X := X.suite a ((a, oe) :: pn)) hN hi hx (he a oe cls d pn hz hfl) hs hf)) fun D σ H ⟨B, S, c, fs, st, k, q⟩ =>
  ⟨B, S, c, fs, st, k, (spec_thn.mp q).imp (fun o S1 _ q v B1 H1 s hs r y => set_end s hs r y q) fun _ _ _ h => h⟩
end
/-! ### the clauses -/
structure Hd where
  sub : Str → Option Bool
  i : Nat
  h : HM
def isFree (S : Sl) (i : Nat) : Bool := match S[i]? with
  | some none => true
  | _ => false
theorem isFree_eq {S : Sl} {i : Nat} (h : isFree S i = true) : S[i]? = some none := by
  unfold isFree at h
  split at h
  · assumption
  · cases h
def endH (i : Nat) (o : SOut) : SOut := match o with
  | .nx S => if isFree S i then .nx S else .stuck
  | .rt r S => .rt r S
  | _ => .stuck
def catchM : List Hd → Str → List (Str × DV) → SM
  | [], c, fs, S => .exc c fs S
  | w :: r, c, fs, S => match w.sub c with
    | none => .stuck
    | some false => catchM r c fs S
    | some true => if isFree S w.i then endH w.i (w.h c fs S) else .stuck
def tryM (m : SM) (hs : List Hd) : SM := fun S => match m S with
  | .exc c fs S' => catchM hs c fs S'
  | o => o
inductive HdM (X : Cx) : List ExceptHandler → List Hd → Prop
  | nil : HdM X [] []
  | cons {x n : Str} {cv : Value} {w : Hd} {b₀ : Stmt} {suite : List Stmt} {np pos' : Pos} {hds : List ExceptHandler} {l : List Hd} (hc : Names X x cv) (hi : X.N[w.i]? = some n) (hln : X.env.kindOf n = some .local)
      (hsub : ∀ c C b, X.mg c = some (.ref C) → w.sub c = some b → PySem.W.exmOne X.K (.ref C) cv = some b) (hsu : SXc X w.i (b₀ :: suite) w.h) (r : HdM X hds l) : HdM X (.ExceptHandler (some (.Name x np)) (some n) (b₀ :: suite) pos' :: hds) (w :: l)
/-- a slot that S says nothing of -/
theorem StR.junk {mg : Mg} {B H : Hp} {σ : Sg} {S : Sl} {i : Nat} {y : Option V} (x : StR mg B H σ S) (h : S[i]? = some none) : StR mg B H (σ.set i y) S := by
  have ne : ∀ {j : Nat} {r : RV}, S[j]? = some (some r) → i ≠ j := fun e z => by rw [← z, h] at e; cases e
  have ow : ∀ {j : Nat} {a : Addr}, OwnAt (σ.set i y) S j a → OwnAt σ S j a := fun ⟨⟨r, e, hr⟩, e2⟩ => ⟨⟨r, e, hr⟩, by rw [List.getElem?_set_ne (ne e)] at e2; exact e2⟩
  refine ⟨x.le, by rw [List.length_set]; exact x.len, fun j r e => ?_, fun j k a p q => x.dis j k a (ow p) (ow q)⟩
  obtain ⟨v, e1, q⟩ := x.at_ j r e
  exact ⟨v, by rw [List.getElem?_set_ne (ne e)]; exact e1, q⟩
theorem own_junk {σ : Sg} {S : Sl} {i : Nat} {y : Option V} (h : S[i]? = some none) {a : Addr} : OwnA (σ.set i y) S a ↔ OwnA σ S a := by
  have ne : ∀ {j : Nat} {r : RV}, S[j]? = some (some r) → i ≠ j := fun e z => by rw [← z, h] at e; cases e
  constructor
  · rintro ⟨j, ⟨r, e, hr⟩, e2⟩
    exact ⟨j, ⟨r, e, hr⟩, by rw [List.getElem?_set_ne (ne e)] at e2; exact e2⟩
  · rintro ⟨j, ⟨r, e, hr⟩, e2⟩
    exact ⟨j, ⟨r, e, hr⟩, by rw [List.getElem?_set_ne (ne e)]; exact e2⟩
theorem Stp.junkR {mg : Mg} {B H B' H' : Hp} {σ σ' : Sg} {S S' : Sl} {i : Nat} {y : Option V} (s : Stp mg B H σ S B' H' σ' S') (h : S'[i]? = some none) : Stp mg B H σ S B' H' (σ'.set i y) S' where
  grow := s.grow
  st := s.st.junk h
  own := fun a o => s.own a ((own_junk h).mp o)
  pin := fun j p => by
    obtain ⟨h1, h2⟩ := s.pin j p
    obtain ⟨r, e, _⟩ := id h1
    exact ⟨h1, by rw [List.getElem?_set_ne (fun z => by rw [← z, h] at e; cases e)]; exact h2⟩
  len := s.len
theorem Stp.junkL {mg : Mg} {B H B' H' : Hp} {σ σ' : Sg} {S S' : Sl} {i : Nat} {y : Option V} (s : Stp mg B H (σ.set i y) S B' H' σ' S') (h : S[i]? = some none) : Stp mg B H σ S B' H' σ' S' where
  grow := s.grow.imp fun a o => (own_junk h).mp o
  st := s.st
  own := fun a o => (s.own a o).imp (own_junk h).mp id
  pin := fun j p => by
    obtain ⟨r, e, _⟩ := id p
    obtain ⟨h1, h2⟩ := s.pin j p
    exact ⟨h1, by rw [List.getElem?_set_ne (fun z => by rw [← z, h] at e; cases e)] at h2; exact h2⟩
  len := s.len
section
variable {X : Cx} {hds : List ExceptHandler} {hs : List Hd}
theorem catch_ok (W : WX) : HdM X hds hs → ∃ l, HdsA X hds l ∧ ∀ (D : Ends) (B H : Hp) (σ : Sg) (S : Sl) (c : Str) (fs : List (Str × DV)) (S1 : Sl), (catchM hs c fs S1).spec
    (fun S' => ∀ B' H' σ', Stp X.mg B H σ S B' H' σ' S' → D.nx σ' H') (fun o S' => ∀ v B' H' σ', Stp X.mg B H σ S B' H' σ' S' → OpdR X.mg B' H' σ' S' v o → Young H v o → D.rt v H')
    (fun S' => ∀ B' H' σ', Stp X.mg B H σ S B' H' σ' S' → D.bk σ' H') (fun S' => ∀ B' H' σ', Stp X.mg B H σ S B' H' σ' S' → D.ct σ' H') (xPost X.mg W B H σ S) → xPost X.mg (wCl X.K W D l) B H σ S c fs S1 := by
  intro h
  induction h with
  | nil => exact ⟨[], .nil, fun D B H σ S c fs S1 q => q⟩
  | @cons x n cv w b₀ suite np pos' hds l hc hi hln hsub hsu r ih =>
    obtain ⟨l', r', ih⟩ := ih
    refine ⟨(cv, w.i, fun a cls d => tSc X.mg w.i a cls d w.h) :: l', .cons hc hi hln hsu r', fun D B H σ S c fs S1 q => ?_⟩
    intro C B1 H1 σ1 d hm s hd
    unfold catchM at q
    cases hw : w.sub c with
    | none => rw [hw] at q; exact q.elim
    | some b =>
      rw [hw] at q
      refine ⟨b, hsub c C b hm hw, fun e a na => ?_, fun e => ?_⟩
      · subst e
        dsimp only at q
        split at q
        · rename_i h0
          have h0 := isFree_eq h0
          have hl : w.i < σ1.length := by rw [s.st.len]; exact (List.getElem?_eq_some_iff.mp h0).1
          have st1 := s.st.junk (y := some (.ref a)) h0
          refine ⟨B1, S1, c, fs, st1, ⟨List.getElem?_set_self hl, ⟨C, rfl, hm⟩, hd⟩, ?_⟩
          have pre : ∀ {B' H' σ' S'}, Stp X.mg B1 H1 (σ1.set w.i (some (.ref a))) S1 B' H' σ' S' → Stp X.mg B H σ S B' H' σ' S' := fun s2 => s.trans (s2.junkL h0)
          cases eo : w.h c fs S1 with
          | stuck => rw [eo] at q; exact q.elim
          | bk S' => rw [eo] at q; exact q.elim
          | ct S' => rw [eo] at q; exact q.elim
          | exc c' fs' S' => rw [eo] at q; exact q.elim
          | rt o S' =>
            rw [eo] at q
            exact fun v B' H' σ' s2 ro y => q v B' H' σ' (pre s2) ro (y.pre s)
          | nx S' =>
            rw [eo] at q
            unfold endH at q
            dsimp only at q
            split at q
            · rename_i h1
              exact fun B' H' σ' s2 => q B' H' _ ((pre s2).junkR (isFree_eq h1))
            · exact q.elim
        · exact q.elim
      · subst e
        exact ih D B H σ S c fs S1 q C B1 H1 σ1 d hm s hd
variable {body : List Stmt} {h₀ : ExceptHandler} {pos : Pos} {mb : SM}
theorem sx_try (hst : X.stack = X.env :: X.outer) (hf : X.env.frame = some X.env.locals) (hN : X.N.Nodup) (hb : ∀ pn xe, SXs (X.tr pn xe) body mb) (hh : HdM X (h₀ :: hds) hs) : SX X (.Try body (h₀ :: hds) [] [] pos) (tryM mb hs) := fun W tk pp => by
  obtain ⟨l, hl, key⟩ := catch_ok W hh
  refine PS.imp (ps_try_cl (tb := tS X.mg mb) hst hf hN tk (fun W' pn xe tk' pp' => hb pn xe W' tk' pp') hl) fun D σ H ⟨B, S, st, q⟩ => ⟨B, S, st, ?_⟩
  unfold tryM at q
  cases em : mb S with
  | stuck => rw [em] at q; exact q
  | nx S' => rw [em] at q; exact q
  | rt o S' => rw [em] at q; exact q
  | bk S' => rw [em] at q; exact q
  | ct S' => rw [em] at q; exact q
  | exc c fs S' => rw [em] at q; exact key D B H σ S c fs S' q
end
end Lb
/-! repr of data. -/
namespace Lb
open PySem PySem.Spec PyProof.Rows L2
def keyPy : Key → PyData
  | .inl i => .int i
  | .inr x => .str x
mutual
def toPy : DV → Option PyData
  | .non => some .none
  | .bl b => some (.bool b)
  | .int i => some (.int i)
  | .str x => some (.str x)
  | .lst ds => (toPys ds).map .list
  | .tup ds => (toPys ds).map .tuple
  | .dct kvs => (toPyK kvs).map .dict
  | _ => none
def toPys : List DV → Option (List PyData)
  | [] => some []
  | d :: ds => match toPy d, toPys ds with
    | some p, some ps => some (p :: ps)
    | _, _ => none
def toPyK : List (Key × DV) → Option (List (PyData × PyData))
  | [] => some []
  | (k, d) :: ds => match toPy d, toPyK ds with
    | some p, some ps => some ((keyPy k, p) :: ps)
    | _, _ => none
end
theorem View.rep {mg : Mg} {B H : Hp} (le : Sub B H) {v : V} {d : DV} (q : View mg B H v d) : Rep mg H v d := by
  cases q with
  | r q => exact q.mono le
  | lst h q => exact .lst h (q.mono le)
  | dct h q => exact .dct (.inl h) (q.mono le)
section
variable {P : Program} {w : World} {mg : Mg} {H : Hp} {h : Heap}
def Tr (H : Hp) (as : List Addr) : Prop := ∀ b ∈ as, H b ≠ none
theorem Tr.cons {a : Addr} {as : List Addr} {o : HO} (e : H a = some o) (t : Tr H as) : Tr H (a :: as) := fun b hb => by
  rcases List.mem_cons.mp hb with z | z
  · subst z; rw [e]; simp
  · exact t b z
theorem Tr.app {as bs : List Addr} (t : Tr H as) (u : Tr H bs) : Tr H (as ++ bs) := fun b hb => (List.mem_append.mp hb).elim (t b) (u b)
theorem rd_some {a : Addr} {u : HO} (r : Rd H a u) : ∃ o, H a = some o := by
  rcases r with e | ⟨o, e⟩
  · exact ⟨_, e⟩
  · exact ⟨_, e⟩
theorem key_reads {k : Key} {v : Value} (e : keyIs k v = true) : Reads h v (keyPy k) [] := by
  rcases keyIs_shape e with ⟨i, t, rfl, rfl⟩ | ⟨x, t, rfl, rfl⟩
  · exact .int i t
  · exact .str x t
theorem keys_reads : ∀ {es : List DictEntry} {kvs : List (Key × Value)}, Pairs (mixKind P w) es kvs → ∃ as, ReadsAll h (es.map (·.key)) (kvs.map fun p => keyPy p.1) as ∧ as = []
  | _, _, .nil => ⟨[], .nil, rfl⟩
  | _, _, .cons e _ t => by
    obtain ⟨as, r, rfl⟩ := keys_reads t
    exact ⟨[] ++ [], .cons (key_reads e) r, rfl⟩
theorem vals_of_pairs : ∀ {es : List DictEntry} {kvs : List (Key × Value)}, Pairs (mixKind P w) es kvs → es.map (·.val) = kvs.map (·.2)
  | _, _, .nil => rfl
  | _, _, .cons _ e t => by rw [List.map_cons, List.map_cons, e, vals_of_pairs t]
theorem kv_vals : ∀ {xs : List (Key × V)} {ys : List (Key × Value)}, KV xs ys → Vals (xs.map (·.2)) (ys.map (·.2)) ∧ xs.map (·.1) = ys.map (·.1)
  | _, _, .nil => ⟨.nil, rfl⟩
  | _, _, .cons r t => ⟨.cons r.2 (kv_vals t).1, by rw [List.map_cons, List.map_cons, r.1, (kv_vals t).2]⟩
mutual
theorem rep_reads (hok : HOk P w H h) : ∀ {v : V} {d : DV} {p : PyData} {u : Value}, Rep mg H v d → toPy d = some p → RelV v u → ∃ as, Reads h u p as ∧ Tr H as
  | _, _, _, _, .non, e, r => by cases e; cases r; exact ⟨[], .none, fun b hb => by cases hb⟩
  | _, _, _, _, .bl b, e, r => by cases e; cases r; exact ⟨[], .bool b, fun b hb => by cases hb⟩
  | _, _, _, _, .int i, e, r => by cases e; obtain ⟨t, rfl⟩ := r; exact ⟨[], .int i t, fun b hb => by cases hb⟩
  | _, _, _, _, .str x, e, r => by cases e; obtain ⟨t, rfl⟩ := r; exact ⟨[], .str x t, fun b hb => by cases hb⟩
  | _, _, p, _, .lst (a := a) (ds := ds) ha q, e, r => by
    simp only [toPy, Option.map_eq_some_iff] at e
    obtain ⟨ps, e, rfl⟩ := e
    obtain ⟨_, its, n, rv, ho⟩ := (show ObjOk P w H h a (.lst _) from hok a _ ha)
    cases r
    obtain ⟨as, rs, t⟩ := reps_reads hok q e rv
    exact ⟨a :: as, .list ho rfl rfl rs, t.cons ha⟩
  | _, _, p, _, .tup (a := a) (ds := ds) ha q, e, r => by
    simp only [toPy, Option.map_eq_some_iff] at e
    obtain ⟨ps, e, rfl⟩ := e
    obtain ⟨_, its, rv, o, ho, hc, n, hd⟩ := (show ObjOk P w H h a (.tup _) from hok a _ ha)
    cases r
    obtain ⟨as, rs, t⟩ := reps_reads hok q e rv
    exact ⟨as, .tuple ho hc hd rs, t⟩
  | _, _, p, _, .dct (a := a) (ds := ds) ha q, e, r => by
    simp only [toPy, Option.map_eq_some_iff] at e
    obtain ⟨ps, e, rfl⟩ := e
    obtain ⟨_, _, vs, kv, o, es, ep, ho, hx, hd, _, pr, _⟩ := dk_rd hok ha
    cases r
    obtain ⟨rv, hk⟩ := kv_vals kv
    obtain ⟨as, rs, ek, t⟩ := repk_reads hok q e rv
    obtain ⟨o', ho'⟩ := rd_some ha
    obtain ⟨bs, rk, rfl⟩ := keys_reads (h := h) pr
    refine ⟨a :: [] ++ as, .dict ho hx.1 hd ?_ (by rw [vals_of_pairs pr]; exact rs), ?_⟩
    · have : vs.map (fun p => keyPy p.1) = ps.map (·.1) := by
        rw [ek, show (fun p : Key × Value => keyPy p.1) = keyPy ∘ Prod.fst from rfl, ← List.map_map, ← hk, List.map_map]; rfl
      rw [← this]; exact rk
    · exact (Tr.cons ho' fun b hb => by cases hb).app t
  | _, _, _, _, .ins _ _ _, e, _ => by cases e
  | _, _, _, _, .scr _, e, _ => by cases e
  | _, _, _, _, .exn _ _, e, _ => by cases e
  | _, _, _, _, .exd _ _ _ _, e, _ => by cases e
theorem reps_reads (hok : HOk P w H h) : ∀ {vs : List V} {ds : List DV} {ps : List PyData} {us : List Value}, Reps mg H vs ds → toPys ds = some ps → Vals vs us → ∃ as, ReadsAll h us ps as ∧ Tr H as
  | _, _, _, _, .nil, e, .nil => by cases e; exact ⟨[], .nil, fun b hb => by cases hb⟩
  | _, _, _, _, .cons q1 q2, e, .cons r1 r2 => by
    simp only [toPys] at e
    split at e
    · rename_i p ps e1 e2
      cases e
      obtain ⟨as, x1, t1⟩ := rep_reads hok q1 e1 r1
      obtain ⟨bs, x2, t2⟩ := reps_reads hok q2 e2 r2
      exact ⟨as ++ bs, .cons x1 x2, t1.app t2⟩
    · cases e
theorem repk_reads (hok : HOk P w H h) : ∀ {vs : List (Key × V)} {ds : List (Key × DV)} {ps : List (PyData × PyData)} {us : List Value}, RepK mg H vs ds → toPyK ds = some ps → Vals (vs.map (·.2)) us →
    ∃ as, ReadsAll h us (ps.map (·.2)) as ∧ ps.map (·.1) = vs.map (fun p => keyPy p.1) ∧ Tr H as
  | _, _, _, _, .nil, e, .nil => by cases e; exact ⟨[], .nil, rfl, fun b hb => by cases hb⟩
  | _, _, _, _, .cons q1 q2, e, .cons r1 r2 => by
    simp only [toPyK] at e
    split at e
    · rename_i p ps e1 e2
      cases e
      obtain ⟨as, x1, t1⟩ := rep_reads hok q1 e1 r1
      obtain ⟨bs, x2, ek, t2⟩ := repk_reads hok q2 e2 r2
      exact ⟨as ++ bs, .cons x1 x2, by rw [List.map_cons, List.map_cons, ek], t1.app t2⟩
    · cases e
end
end
def reprable (p : PyData) : Bool := p.showable && decide (p.shown.length ≤ sizeLine) && decide (p.depth ≤ 60)
def fRepr : List DV → Option RV
  | [d] => match toPy d with
    | some p => if reprable p then some (.v (.str p.shown)) else none
    | none => none
  | _ => none
/-- repr(x) -/
def rRepr (mg : Mg) : List V → Hp → VK → Prop := fun xs H Q => ∃ v d p, xs = [v] ∧ Rep mg H v d ∧ toPy d = some p ∧ reprable p = true ∧ Q (.str p.shown) H
theorem call_repr {X : Cx} (hgd : X.A.guards = some []) (hr : X.A.units + 200 < cLine) (hs : ∃ o, X.base.get? sysModules = some o) : CallR X (.builtin "repr") (rRepr X.mg) := fun pins s σ H xs us Q I r h => by
  obtain ⟨v, d, p, rfl, rp, ep, hp, q⟩ := h
  obtain ⟨u, rfl, ru⟩ := vals1 r
  obtain ⟨as, rd, t⟩ := rep_reads I.hok rp ep ru
  simp only [reprable, Bool.and_eq_true, decide_eq_true_eq] at hp
  obtain ⟨⟨h1, h2⟩, h3⟩ := hp
  have ns : sysModules ∉ as := fun hm => by
    obtain ⟨o, e⟩ := hs
    exact t _ hm (I.bs _ _ e).2
  have fin : ∀ h' u' tk, (∀ b o, s.heap.get? b = some o → h'.get? b = some o) → EP X pins σ Q (.str p.shown u') { s with heap := h', toks := tk } := fun h' u' tk k => ⟨.str p.shown, H, I.kept (t' := tk) k, ⟨u', rfl⟩, q⟩
  have heap : ∀ {a : Addr}, u = .ref a → wpAny (model X.prog X.w) X.A (call (.builtin "repr") [u]) (EP X pins σ Q) X.xe s := fun e => by
    subst e
    exact repr_of_reads' rd h1 (fun _ => ns) hgd (by omega) (fun b o e => e) fin h2
  cases rd with
  | none => exact PySem.P.repr_of_none ⟨.str _, H, I.tok _, ⟨_, rfl⟩, q⟩
  | bool b => exact PySem.P.repr_of_bool ⟨.str _, H, I.tok _, ⟨_, rfl⟩, q⟩
  | int i t => exact PySem.P.repr_of_int (by simpa [PyData.showable] using h1) ⟨.str _, H, I.tok _, ⟨_, rfl⟩, q⟩
  | str x t => exact PySem.P.repr_of_str ⟨.str _, H, I.tok _, ⟨_, rfl⟩, q⟩ (by simpa only [PyData.shown] using h2)
  | list _ _ _ _ => exact heap rfl
  | tuple _ _ _ _ => exact heap rfl
  | dict _ _ _ _ _ => exact heap rfl
theorem prim_repr {mg : Mg} : PrimN mg (rRepr mg) fRepr := fun B H xs ds rv Q le vs e k => by
  unfold fRepr at e
  split at e
  · rename_i d
    obtain ⟨v, rfl, q⟩ := vs.one
    split at e
    · rename_i p ep
      split at e
      · rename_i hp
        cases e
        exact ⟨v, d, p, rfl, q.rep le, ep, hp, k _ _ _ (res_str le _)⟩
      · cases e
    · cases e
  · cases e
end Lb
/-! repr of lists of small things is there. -/
namespace Lb
open PySem PySem.Spec PyProof.Rows L2
structure Small (p : PyData) : Prop where
  s : p.showable = true
  l : p.shown.length ≤ 100
  d : p.depth ≤ 10
theorem textFrom_le : ∀ (ts : List Str) (k : Nat) (acc : Str), (textFrom k acc ts).length ≤ acc.length + (ts.map (·.length)).sum + 2 * ts.length
  | [], k, acc => by show acc.length ≤ _; simp
  | t :: r, k, acc => by
    show (textFrom (k + 1) (acc ++ (if k > 0 then ", " else "" : String) ++ t) r).length ≤ _
    have h := textFrom_le r (k + 1) (acc ++ (if k > 0 then ", " else "" : String) ++ t)
    have e : (acc ++ (if k > 0 then ", " else "" : String) ++ t).length ≤ acc.length + 2 + t.length := by
      rw [strLen_append, strLen_append]
      split
      · exact Nat.le_refl _
      · show acc.length + 0 + t.length ≤ _; omega
    simp only [List.map_cons, List.sum_cons, List.length_cons]
    omega
theorem listText_le (ts : List Str) : (listText ts).length ≤ (ts.map (·.length)).sum + 2 * ts.length + 2 := by
  unfold listText
  rw [strLen_append]
  have h := textFrom_le ts 0 "["
  have e1 : ("[" : Str).length = 1 := by decide
  have e2 : ("]" : Str).length = 1 := by decide
  omega
theorem toPys_small : ∀ {L : List DV}, (∀ d ∈ L, ∃ p, toPy d = some p ∧ Small p) → ∃ ps, toPys L = some ps ∧ ps.length = L.length ∧ PyData.showableAll ps = true ∧ ((PyData.shownAll ps).map (·.length)).sum ≤ 100 * L.length ∧ PyData.depthAll ps ≤ 10 ∧ (PyData.shownAll ps).length = L.length
  | [], _ => ⟨[], rfl, rfl, rfl, Nat.le_refl _, by simp [PyData.depthAll], rfl⟩
  | d :: L, h => by
    obtain ⟨p, e, sm⟩ := h d List.mem_cons_self
    obtain ⟨ps, e2, h1, h2, h3, h4, h5⟩ := toPys_small fun x hx => h x (List.mem_cons_of_mem _ hx)
    refine ⟨p :: ps, by simp only [toPys, e, e2], by simp [h1], by simp [PyData.showableAll, sm.s, h2], ?_, ?_, by simp [PyData.shownAll, h5]⟩
    · simp only [PyData.shownAll, List.map_cons, List.sum_cons, List.length_cons]
      have := sm.l
      omega
    · simp only [PyData.depthAll]
      exact Nat.max_le.mpr ⟨sm.d, h4⟩
theorem fRepr_list {L : List DV} (h : ∀ d ∈ L, ∃ p, toPy d = some p ∧ Small p) (hl : L.length ≤ 1000) : ∃ s, fRepr [.lst L] = some (.v (.str s)) := by
  obtain ⟨ps, e, h1, h2, h3, h4, h5⟩ := toPys_small h
  have hz : (listText (PyData.shownAll ps)).length ≤ sizeLine := by
    have := listText_le (PyData.shownAll ps)
    rw [sizeLine_eq]; omega
  refine ⟨listText (PyData.shownAll ps), ?_⟩
  simp only [fRepr, toPy, e, Option.map_some, reprable, PyData.showable, h2, PyData.shown, PyData.depth]
  rw [if_pos (by simp [hz]; omega)]
/-- two-item lists of such -/
theorem small_pair {d e : DV} (hd : ∃ p, toPy d = some p ∧ Small p ∧ p.shown.length ≤ 45 ∧ p.depth ≤ 9) (he : ∃ p, toPy e = some p ∧ Small p ∧ p.shown.length ≤ 45 ∧ p.depth ≤ 9) : ∃ p, toPy (.lst [d, e]) = some p ∧ Small p := by
  obtain ⟨p, e1, s1, l1, d1⟩ := hd
  obtain ⟨q, e2, s2, l2, d2⟩ := he
  refine ⟨.list [p, q], by simp [toPy, toPys, e1, e2], by simp [PyData.showable, PyData.showableAll, s1.s, s2.s], ?_, ?_⟩
  · have := listText_le [p.shown, q.shown]
    simp only [PyData.shown, PyData.shownAll]
    simp only [List.map_cons, List.map_nil, List.sum_cons, List.sum_nil, List.length_cons, List.length_nil] at this
    omega
  · simp only [PyData.depth, PyData.depthAll]
    simp; omega
end Lb
/-! More operations. -/
namespace Lb
open PySem PySem.Spec PyProof.Rows L2
/-! ### == and != of data without dicts -/
def eqPy (d e : DV) : Option Bool := match toPy d, toPy e with
  | some p, some q => if SeqAt.shaped p && SeqAt.shaped q then some (PyData.eqv p q) else none
  | _, _ => none
def nePy (d e : DV) : Option Bool := (eqPy d e).map not
def rEqP (mg : Mg) : R2 := fun x y H Q => ∃ d e b, Rep mg H x d ∧ Rep mg H y e ∧ eqPy d e = some b ∧ Q (.bl b) H
def rNeP (mg : Mg) : R2 := fun x y H Q => ∃ d e b, Rep mg H x d ∧ Rep mg H y e ∧ eqPy d e = some b ∧ Q (.bl (!b)) H
theorem eqPy_of {d e : DV} {b : Bool} (h : eqPy d e = some b) : ∃ p q, toPy d = some p ∧ toPy e = some q ∧ SeqAt.shaped p = true ∧ SeqAt.shaped q = true ∧ b = PyData.eqv p q := by
  unfold eqPy at h
  split at h
  · rename_i p q e1 e2
    split at h
    · rename_i hs
      rw [Bool.and_eq_true] at hs
      exact ⟨p, q, e1, e2, hs.1, hs.2, (Option.some.inj h).symm⟩
    · cases h
  · cases h
theorem op_eqP {X : Cx} (hu : X.A.units + 64 < cLine) : OpR X (compareOp .Eq) (rEqP X.mg) := by
  intro pins s σ H x y v u Q I rx ry h
  obtain ⟨d, e, b, rd, re, hb, q⟩ := h
  obtain ⟨p, p', e1, e2, s1, s2, rfl⟩ := eqPy_of hb
  obtain ⟨as, r1, _⟩ := rep_reads I.hok rd e1 rx
  obtain ⟨bs, r2, _⟩ := rep_reads I.hok re e2 ry
  exact SeqAt.compareEq_shaped r1 r2 s1 s2 hu ⟨.bl _, H, I, rfl, q⟩
theorem op_neP {X : Cx} (hu : X.A.units + 64 < cLine) : OpR X (compareOp .NotEq) (rNeP X.mg) := by
  intro pins s σ H x y v u Q I rx ry h
  obtain ⟨d, e, b, rd, re, hb, q⟩ := h
  obtain ⟨p, p', e1, e2, s1, s2, rfl⟩ := eqPy_of hb
  obtain ⟨as, r1, _⟩ := rep_reads I.hok rd e1 rx
  obtain ⟨bs, r2, _⟩ := rep_reads I.hok re e2 ry
  exact SeqAt.compareNe_shaped r1 r2 s1 s2 hu ⟨.bl _, H, I, rfl, q⟩
theorem prim_eqP {mg : Mg} : Prim2 mg (rEqP mg) (rvB eqPy) := primB fun B H x y dx dy b Q le vx vy e k => ⟨dx, dy, b, vx.rep le, vy.rep le, e, k⟩
theorem prim_neP {mg : Mg} : Prim2 mg (rNeP mg) (rvB nePy) := primB fun B H x y dx dy b Q le vx vy e k => by
  unfold nePy at e
  obtain ⟨c, e', rfl⟩ := Option.map_eq_some_iff.mp e
  exact ⟨dx, dy, c, vx.rep le, vy.rep le, e', k⟩
/-- texts by themselves, else data without dicts -/
def eqDV (d e : DV) : Option Bool := match d, e with
  | .str a, .str b => some (a == b)
  | d, e => eqPy d e
def neDV (d e : DV) : Option Bool := (eqDV d e).map not
def rEqA (mg : Mg) : R2 := fun x y H Q => rEq x y H Q ∨ rEqP mg x y H Q
def rNeA (mg : Mg) : R2 := fun x y H Q => rNe x y H Q ∨ rNeP mg x y H Q
theorem op_eqA {X : Cx} (hu : X.A.units + 64 < cLine) : OpR X (compareOp .Eq) (rEqA X.mg) := op_eq.or (op_eqP hu)
theorem op_neA {X : Cx} (hu : X.A.units + 64 < cLine) : OpR X (compareOp .NotEq) (rNeA X.mg) := op_ne.or (op_neP hu)
theorem eqDV_str {B H : Hp} {mg : Mg} {x y : V} {dx dy : DV} {b : Bool} (vx : View mg B H x dx) (vy : View mg B H y dy) (e : eqDV dx dy = some b) : (∃ i j, x = .str i ∧ y = .str j ∧ b = (i == j)) ∨ eqPy dx dy = some b := by
  unfold eqDV at e
  split at e
  · exact .inl ⟨_, _, vx.str, vy.str, (Option.some.inj e).symm⟩
  · exact .inr e
theorem prim_eqA {mg : Mg} : Prim2 mg (rEqA mg) (rvB eqDV) := primB fun B H x y dx dy b Q le vx vy e k => by
  rcases eqDV_str vx vy e with ⟨i, j, rfl, rfl, rfl⟩ | e
  · exact .inl ⟨rfl, by rw [dec_str]; exact k⟩
  · exact .inr ⟨dx, dy, b, vx.rep le, vy.rep le, e, k⟩
theorem prim_neA {mg : Mg} : Prim2 mg (rNeA mg) (rvB neDV) := primB fun B H x y dx dy b Q le vx vy e k => by
  unfold neDV at e
  obtain ⟨c, e', rfl⟩ := Option.map_eq_some_iff.mp e
  rcases eqDV_str vx vy e' with ⟨i, j, rfl, rfl, rfl⟩ | e'
  · exact .inl ⟨rfl, by rw [dec_str]; exact k⟩
  · exact .inr ⟨dx, dy, c, vx.rep le, vy.rep le, e', k⟩
/-! ### any, all -/
def boolsDV : List DV → Option (List Bool)
  | [] => some []
  | .bl b :: ds => (boolsDV ds).map (b :: ·)
  | _ => none
theorem reps_bools {mg : Mg} {B : Hp} : ∀ {ds : List DV} {bs : List Bool} {xs : List V}, boolsDV ds = some bs → Reps mg B xs ds → xs = bs.map V.bl
  | [], _, _, h, .nil => by cases h; rfl
  | d :: ds, bs, _, h, .cons r q => by
    cases d <;> simp only [boolsDV, reduceCtorEq] at h
    obtain ⟨cs, e, rfl⟩ := Option.map_eq_some_iff.mp h
    cases r
    rw [reps_bools e q]; rfl
def fAny : List DV → Option RV
  | [.lst ds] => (boolsDV ds).map fun bs => .v (.bl (bs.any id))
  | _ => none
def fAll : List DV → Option RV
  | [.lst ds] => (boolsDV ds).map fun bs => .v (.bl (bs.all id))
  | _ => none
theorem prim_any {mg : Mg} {K : PySem.W.Frag} : PrimN mg (rAny K) fAny := fun B H xs ds rv Q le vs e k => by
  unfold fAny at e
  split at e
  · obtain ⟨bs, e', rfl⟩ := Option.map_eq_some_iff.mp e
    obtain ⟨v, rfl, q⟩ := vs.one
    obtain ⟨a, ys, rfl, h, r⟩ := q.list le
    rw [reps_bools e' r] at h
    exact ⟨a, bs, rfl, SqL.of h, k _ _ _ (res_bl le _)⟩
  · cases e
theorem prim_all {mg : Mg} {K : PySem.W.Frag} : PrimN mg (rAll K) fAll := fun B H xs ds rv Q le vs e k => by
  unfold fAll at e
  split at e
  · obtain ⟨bs, e', rfl⟩ := Option.map_eq_some_iff.mp e
    obtain ⟨v, rfl, q⟩ := vs.one
    obtain ⟨a, ys, rfl, h, r⟩ := q.list le
    rw [reps_bools e' r] at h
    exact ⟨a, bs, rfl, SqL.of h, k _ _ _ (res_bl le _)⟩
  · cases e
/-! ### len -/
def rLenA (K : PySem.W.Frag) : List V → Hp → VK → Prop := fun xs H Q => (∃ p ys, xs = [.ref p] ∧ (SqL K H p ys ∨ SqT K H p ys) ∧ Q (.int ys.length) H) ∨ ∃ z, xs = [.str z] ∧ z.length ≤ sizeLine ∧ Q (.int z.length) H
theorem call_lenA {X : Cx} : CallR X (.builtin "len") (rLenA X.K) := fun pins s σ H xs us Q I r h => h.elim (call_len_seq pins s σ H xs us Q I r) (call_len_str pins s σ H xs us Q I r)
theorem prim_len {mg : Mg} {K : PySem.W.Frag} : PrimN mg (rLenA K) fLen := fun B H xs ds rv Q le vs e k => by
  unfold fLen at e
  split at e
  · cases e
    obtain ⟨v, rfl, q⟩ := vs.one
    obtain ⟨a, ys, rfl, h, r⟩ := q.list le
    rw [← r.length] at k
    exact .inl ⟨a, ys, rfl, .inl (SqL.of h), k _ _ _ (res_int le _)⟩
  · cases e
    obtain ⟨v, rfl, q⟩ := vs.one
    obtain ⟨a, ys, rfl, h, r⟩ := q.tuple le
    rw [← r.length] at k
    exact .inl ⟨a, ys, rfl, .inr (.inl (.inl h)), k _ _ _ (res_int le _)⟩
  · cases e
    obtain ⟨v, rfl, q⟩ := vs.one
    obtain ⟨a, rfl, h⟩ := q.script le
    rename_i ns
    have : ns.length = (ns.map V.int).length := by simp
    rw [this] at k
    exact .inl ⟨a, _, rfl, .inl (.inl h), k _ _ _ (res_int le _)⟩
  · split at e
    · rename_i hz
      cases e
      obtain ⟨v, rfl, q⟩ := vs.one
      cases q.str
      exact .inr ⟨_, rfl, hz, k _ _ _ (res_int le _)⟩
    · cases e
  · cases e
end Lb
/-! Slices, texts repeated, dict displays, append. -/
namespace Lb
open PySem PySem.Spec PyProof.Rows L2
/-! ### slices -/
def tOM (mg : Mg) (m : M (Option Int)) (W : WX) : TO := fun σ H Q => ∃ B S, StR mg B H σ S ∧ (m S).spec (fun o S' => ∀ B' H', Stp mg B H σ S B' H' σ S' → Has S S' → Q o H') (xPost mg W B H σ S)
def OptX (X : Cx) (e : Option Expr) (m : M (Option Int)) : Prop := ∀ W, Takes X W → PO X e (tOM X.mg m W)
theorem PO.imp {X : Cx} {e : Option Expr} {t t' : TO} (h : PO X e t) (i : ∀ σ H Q, t' σ H Q → t σ H Q) : PO X e t' := ⟨fun p s σ H Q I q => h.run p s σ H Q I (i σ H Q q)⟩
theorem optx_none {X : Cx} : OptX X none (M.pure none) := fun W tk => PO.imp po_none fun σ H Q ⟨B, S, st, q⟩ => q B H (.refl st) (.refl S)
def asInt (d : DV) : M (Option Int) := match d with
  | .int i => M.pure (some i)
  | _ => M.stuck
theorem optx_some {X : Cx} {e : Expr} {m : M DV} (h : FX X e m) : OptX X (some e) (M.bind m asInt) := fun W tk => PO.imp (po_some (h W tk)) fun σ H Q ⟨B, S, st, q⟩ =>
  ⟨B, S, st, (spec_bind.mp q).imp (fun d S1 _ q v B1 H1 s hs r => by
    cases d with
    | int i => cases r; exact ⟨i, rfl, q B1 H1 s hs⟩
    | _ => exact q.elim) fun _ _ _ h => h⟩
def cutD (xs : List DV) (lo hi : Option Int) : List DV := (xs.drop (HT.sIx xs.length 0 lo)).take (HT.sIx xs.length xs.length hi - HT.sIx xs.length 0 lo)
theorem reps_cut {mg : Mg} {B : Hp} {xs : List V} {ds : List DV} {lo hi : Option Int} (r : Reps mg B xs ds) : Reps mg B (cutV xs lo hi) (cutD ds lo hi) := by
  unfold cutV cutD
  rw [r.length]
  exact (r.drop _).take _
def fCut (d : DV) (lo hi : Option Int) : Option RV := match d with
  | .lst ds => some (.ol false (cutD ds lo hi))
  | .str z => if z.length ≤ sizeLine then some (.v (.str (cutS z lo hi))) else none
  | .tup ds => some (.v (.tup (cutD ds lo hi)))
  | _ => none
def cutM (o : Opd) (lo hi : Option Int) : M Opd := fun S => match o.dv S with
  | some d => match fCut d lo hi with
    | some r => .ok (.v r) S
    | none => .stuck
  | none => .stuck
theorem cutM_spec {o : Opd} {lo hi : Option Int} {S : Sl} {K : Opd → Sl → Prop} {E : Str → List (Str × DV) → Sl → Prop} (h : (cutM o lo hi S).spec K E) : ∃ d r, o.dv S = some d ∧ fCut d lo hi = some r ∧ K (.v r) S := by
  unfold cutM at h
  cases e : o.dv S with
  | none => rw [e] at h; exact h.elim
  | some d =>
    rw [e] at h
    dsimp only at h
    cases e2 : fCut d lo hi with
    | none => rw [e2] at h; exact h.elim
    | some r => rw [e2] at h; exact ⟨d, r, rfl, e2, h⟩
theorem cutD_whole {ds : List DV} {lo hi : Option Int} (h : HT.sIx ds.length 0 lo = 0 ∧ HT.sIx ds.length ds.length hi = ds.length) : cutD ds lo hi = ds := by
  unfold cutD
  rw [h.1, h.2]; simp
section
variable {X : Cx} {e : Expr} {me : M Opd} {lo hi : Option Expr} {ml mh : M (Option Int)} {pos p2 : Pos}
theorem px_slice (he : PX X e me) (hl : OptX X lo ml) (hu : OptX X hi mh) : PX X (.Subscript e (.Slice lo hi none p2) pos) (M.bind me fun o => M.bind ml fun l => M.bind mh fun u => cutM o l u) := fun W tk =>
  PE.imp (pe_slice (sl_list.or (sl_str.or sl_tupA)) (he W tk) (hl W tk) (hu W tk)) fun σ H Q ⟨B, S, st, q⟩ =>
  ⟨B, S, st, (spec_bind.mp q).imp (fun o S1 _ q v B1 H1 s hs or y => ⟨B1, S1, s.st, (spec_bind.mp q).imp (fun l S2 _ q B2 H2 s2 hs2 => ⟨B2, S2, s2.st, (spec_bind.mp q).imp (fun u S3 _ q B3 H3 s3 hs3 => by
    obtain ⟨d, r, ed, er, q⟩ := cutM_spec q
    have or3 := (or.step s2 hs2).step s3 hs3
    have vw := or3.view s3.st ed
    have le := s3.st.le
    have sT := (s.trans s2).trans s3
    have hT := (hs.trans hs2).trans hs3
    have fin : ∀ {w : V} {B' H' : Hp}, Res X.mg B3 H3 w r B' H' → Q w H' := fun res => by
      obtain ⟨s4, opd, yg⟩ := res.opd s3.st
      exact q _ _ _ (sT.trans s4) hT opd (yg.pre sT)
    cases d with
    | lst ds =>
      cases er
      obtain ⟨a, xs, rfl, h, rp⟩ := vw.list le
      exact .inl ⟨a, xs, rfl, SqL.of h, fun p hp => fin (res_lst le hp (reps_cut rp))⟩
    | str z =>
      simp only [fCut] at er
      split at er
      · rename_i hz
        cases er
        cases vw.str
        exact .inr (.inl ⟨z, rfl, hz, fin (res_str le _)⟩)
      · cases er
    | tup ds =>
      cases er
      have vw' := vw
      obtain ⟨a, xs, rfl, h, rp⟩ := vw.tuple le
      refine .inr (.inr (show rSlA X.K _ _ _ _ _ from ⟨a, xs, rfl, .inl (.inl h), fun hw => ?_, fun hw p hp => fin (res_tup le hp (reps_cut rp))⟩))
      rw [rp.length] at hw
      rw [cutD_whole hw] at fin
      cases vw' with
      | r rr => exact fin (.v le rr)
    | _ => cases er) fun _ _ _ h => h.pre (s.trans s2)⟩) fun _ _ _ h => h.pre s⟩) fun _ _ _ h => h⟩
end
/-! ### a text so many times -/
def repS (z : Str) (n : Nat) : Str := ⟨(List.replicate n z.cps).foldl (· ++ ·) #[]⟩
theorem repS_fold (a : Array Nat) : ∀ (n : Nat) (acc : Array Nat), ((List.replicate n a).foldl (· ++ ·) acc).size = acc.size + a.size * n
  | 0, acc => by simp
  | n + 1, acc => by
    rw [List.replicate_succ, List.foldl_cons, repS_fold a n, Array.size_append, Nat.mul_succ]; omega
theorem repS_len (z : Str) (n : Nat) : (repS z n).length = z.length * n := by
  show (repS z n).cps.size = z.cps.size * n
  unfold repS
  rw [repS_fold]; simp
def rMulS : R2 := fun x y H Q => ∃ z k, x = .str z ∧ y = .int k ∧ 0 < z.length ∧ 0 ≤ k ∧ k ≤ 1000 ∧ z.length * k.toNat ≤ 1000000 ∧ Q (.str (repS z k.toNat)) H
theorem op_mulS {X : Cx} : OpR X (binaryOp .Mult) rMulS := by
  intro pins s σ H x y v u Q I rx ry h
  obtain ⟨z, k, rfl, rfl, h0, hk, hk2, hz, q⟩ := h
  obtain ⟨t, rfl⟩ := rx
  obtain ⟨t', rfl⟩ := ry
  have lo : (decide (k < -(2 ^ 63 : Int)) || decide (k ≥ 2 ^ 63)) = false := by
    rw [decide_eq_false (by omega : ¬ k < -(2 ^ 63 : Int)), decide_eq_false (by omega : ¬ k ≥ (2 ^ 63 : Int))]; rfl
  refine PySem.P.mul_str lo (fun h1 h2 hh => ?_) (fun h1 h2 => ?_) ?_
  · have hk3 : (0 : Int) < k := by omega
    have h4 := (Int.ediv_lt_iff_lt_mul hk3).mp hh
    have h5 : ((z.length : Nat) : Int) * k = ((z.length * k.toNat : Nat) : Int) := by
      rw [Int.natCast_mul, Int.toNat_of_nonneg hk]
    rw [h5] at h4
    omega
  · unfold PySem.Builtin.Str.tooLong
    exact decide_eq_false (by rw [sizeLine_eq]; omega)
  · by_cases h1 : k < 1
    · have : k = 0 := by omega
      subst this
      rw [if_pos h1]
      exact ⟨by decide, .str _, H, I.tok _, ⟨_, rfl⟩, q⟩
    · rw [if_neg h1]
      have hz' : (z.length == 0) = false := by simp; omega
      by_cases h2 : k = 1
      · subst h2
        rw [if_pos (by simp)]
        have : repS z (1 : Int).toNat = z := by
          unfold repS
          simp
        rw [this] at q
        exact ⟨.str z, H, I, ⟨t, rfl⟩, q⟩
      · rw [if_neg (by simp [h2, hz'])]
        exact ⟨(by have := repS_len z k.toNat; unfold repS at this; rw [this, sizeLine_eq]; omega), .str _, H, I.tok _, ⟨_, rfl⟩, q⟩
def fMulB (d e : DV) : Option RV := match d, e with
  | .str z, .int k => if 0 < z.length ∧ 0 ≤ k ∧ k ≤ 1000 ∧ z.length * k.toNat ≤ 1000000 then some (.v (.str (repS z k.toNat))) else none
  | d, e => fMul d e
def rMulB : R2 := fun x y H Q => rMulS x y H Q ∨ rMulA x y H Q
theorem op_mulB {X : Cx} : OpR X (binaryOp .Mult) rMulB := op_mulS.or op_mulA
theorem prim_mulB {mg : Mg} : Prim2 mg rMulB fMulB := fun B H x y dx dy rv Q le vx vy e k => by
  unfold fMulB at e
  split at e
  · split at e
    · rename_i hh
      cases e
      cases vx.str
      cases vy.int
      exact .inl ⟨_, _, rfl, rfl, hh.1, hh.2.1, hh.2.2.1, hh.2.2.2, k _ _ _ (res_str le _)⟩
    · cases e
  · exact .inr (prim_mul B H x y _ _ rv Q le vx vy e k)
end Lb
/-! append to an own list; dict displays. -/
namespace Lb
open PySem PySem.Spec PyProof.Rows L2
/-! ### x.append(e) -/
def isOl (S : Sl) (i : Nat) : Bool := match S[i]? with
  | some (some (.ol _ _)) => true
  | _ => false
theorem isOl_of {S : Sl} {i : Nat} (h : isOl S i = true) : ∃ p ds, S[i]? = some (some (.ol p ds)) := by
  unfold isOl at h
  split at h
  · exact ⟨_, _, by assumption⟩
  · cases h
def appendM (i : Nat) (m : M DV) : SM := fun S => if isOl S i then match m S with
    | .ok d S1 => (match S1[i]? with
      | some (some (.ol p ds)) => if ds.length < sizeLine then .nx (S1.set i (some (.ol p (ds ++ [d])))) else .stuck
      | _ => .stuck)
    | .exc c fs S1 => .exc c fs S1
    | .stuck => .stuck
  else .stuck
section
variable {X : Cx} {e : Expr} {x : Str} {zp ap cp pos : Pos} {m : M DV}
theorem sx_append (i : Nat) (hN : X.N[i]? = some x) (he : FX X e m) (hv : Vis X.env.scope x := by first | exact Or.inl rfl | exact Or.inr (Or.inl rfl) | exact Or.inr (Or.inr rfl)) (hd : (x == ("__debug__" : Str)) = false := by decide)
    (hcd : (x == ("__classdict__" : Str)) = false := by decide)
    (hs : swapsWith (.Call (.Attribute (.Name x zp) "append" ap) [e] [] cp) none pos.line X.env = pure false := by rfl)
    (hbase : attributeBase (.Name x zp) "append" X.env (eval (.Name x zp) X.env) = eval (.Name x zp) X.env := by rfl)
    (hfew : ((backTo cp (starEach [e] X.env)).all (fun x => !x.1) && (backToKw cp (keywordEach [] X.env)).all (fun x => x.1.isSome)
      && decide (([e] : List Expr).length + ([] : List Keyword).length + (if ([] : List Keyword).isEmpty then 0 else 1) < 30)) = true := by rfl)
    (hline : (ap.endLine == cp.line) = true := by rfl) (hst : starEach [e] X.env = (false, eval e X.env) :: starEach [] X.env := by rfl) (hplain : (backTo cp (starEach [] X.env)).any (·.1) = false := by rfl) :
    SX X (.Expr (.Call (.Attribute (.Name x zp) "append" ap) [e] [] cp) pos) (appendM i m) := fun W tk pp =>
  PS.imp (ps_expr (pe_bm PySem.F.plainAttrs_list PySem.F.slot_list_append PySem.F.type_list_append mt_append (pe_var (i := i) hN hv hd hcd) (pa_cons (he W tk) pa_nil hst) hbase hfew hline hst hplain) hs) fun D σ H ⟨B, S, st, q⟩ => by
    unfold appendM at q
    split at q
    · rename_i ho
      obtain ⟨p, ds, eS⟩ := isOl_of ho
      obtain ⟨v, ev, qv⟩ := st.at_ i _ eS
      cases qv with
      | @ol a p xs ds hb hh r =>
        refine ⟨.ref a, ev, .inl ⟨rfl, xs, SqL.of hh⟩, B, S, st, ?_⟩
        cases em : m S with
        | stuck => rw [em] at q; exact q.elim
        | exc c fs S1 => rw [em] at q; exact q
        | ok d S1 =>
          rw [em] at q
          dsimp only at q
          intro y B1 H1 s hs ry
          split at q
          · rename_i p1 ds1 e1
            split at q
            · rename_i hz
              obtain ⟨v1, ev1, qv1⟩ := s.st.at_ i _ e1
              rw [ev] at ev1; cases ev1
              cases qv1 with
              | ol hb1 hh1 r1 =>
                exact ⟨a, _, y, rfl, rfl, hh1, by rw [r1.length]; exact hz, q B1 _ σ (s.mutL e1 ev (r1.snoc ry))⟩
            · exact q.elim
          · exact q.elim
    · exact q.elim
end
/-! ### dict displays -/
def tPd (mg : Mg) (m : M (List (DV × DV))) (W : WX) : Sg → Hp → (List (V × V) → Hp → Prop) → Prop := fun σ H Q => ∃ B S, StR mg B H σ S ∧ (m S).spec
  (fun ps S' => ∀ xs ys B' H', Stp mg B H σ S B' H' σ S' → Has S S' → Reps mg B' xs (ps.map (·.1)) → Reps mg B' ys (ps.map (·.2)) → Q (xs.zip ys) H') (xPost mg W B H σ S)
def PPX (X : Cx) (pos : Pos) (ks : List (Option Expr)) (vs : List Expr) (m : M (List (DV × DV))) : Prop := ∀ W, Takes X W → ∃ trs, PPs X pos ks vs trs ∧ ∀ σ H Q, tPd X.mg m W σ H Q → tPairs trs σ H Q
section
variable {X : Cx} {pos : Pos} {k v : Expr} {ks : List (Option Expr)} {vs : List Expr}
theorem ppx_nil : PPX X pos [] [] (M.pure []) := fun W tk => ⟨[], pps_nil, fun σ H Q ⟨B, S, st, q⟩ => q [] [] B H (.refl st) (.refl S) .nil .nil⟩
theorem ppx_cons {mk mv : M DV} {mr : M (List (DV × DV))} (hk : FX X k mk) (hv : FX X v mv) (hr : PPX X pos ks vs mr) : PPX X pos (some k :: ks) (v :: vs) (M.bind mk fun a => M.bind mv fun b => M.bind mr fun r => M.pure ((a, b) :: r)) := fun W tk => by
  obtain ⟨trs, h, i⟩ := hr W tk
  refine ⟨_, pps_cons (hk W tk) (hv W tk) h, fun σ H Q ⟨B, S, st, q⟩ => ?_⟩
  exact ⟨B, S, st, (spec_bind.mp q).imp (fun a S1 _ q x B1 H1 s1 hs1 rx => ⟨B1, S1, s1.st, (spec_bind.mp q).imp (fun b S2 _ q y B2 H2 s2 hs2 ry => i σ H2 _ ⟨B2, S2, s2.st, (spec_bind.mp q).imp (fun r S3 _ q xs ys B3 H3 s3 hs3 r1 r2 => by
    have := q (x :: xs) (y :: ys) B3 H3 ((s1.trans s2).trans s3) ((hs1.trans hs2).trans hs3) (.cons ((rx.mono s2.sub).mono s3.sub) r1) (.cons (ry.mono s3.sub) r2)
    exact this) fun _ _ _ h => h.pre (s1.trans s2)⟩) fun _ _ _ h => h.pre s1⟩) fun _ _ _ h => h⟩
end
def keyDV : DV → Option Key
  | .int i => some (.inl i)
  | .str x => some (.inr x)
  | _ => none
def keysDV : List (DV × DV) → Option (List (Key × DV))
  | [] => some []
  | (k, d) :: r => match keyDV k, keysDV r with
    | some k, some r => some ((k, d) :: r)
    | _, _ => none
def putD (kvs : List (Key × DV)) (k : Key) (v : DV) : List (Key × DV) := if (kvs.any fun kv => decide (kv.1 = k)) = true then kvs.map (fun kv => if kv.1 = k then (kv.1, v) else kv) else kvs ++ [(k, v)]
def mergeD (kvs more : List (Key × DV)) : List (Key × DV) := more.foldl (fun acc kv => putD acc kv.1 kv.2) kvs
section
variable {mg : Mg} {B : Hp}
theorem repk_any {k : Key} : ∀ {xs : List (Key × V)} {ds : List (Key × DV)}, RepK mg B xs ds → (xs.any fun kv => decide (kv.1 = k)) = (ds.any fun kv => decide (kv.1 = k))
  | _, _, .nil => rfl
  | _, _, .cons _ q => by rw [List.any_cons, List.any_cons, repk_any q]
theorem repk_snoc {k : Key} {y : V} {d : DV} (r : Rep mg B y d) : ∀ {xs : List (Key × V)} {ds : List (Key × DV)}, RepK mg B xs ds → RepK mg B (xs ++ [(k, y)]) (ds ++ [(k, d)])
  | _, _, .nil => .cons r .nil
  | _, _, .cons p q => .cons p (repk_snoc r q)
theorem repk_upd {k : Key} {y : V} {d : DV} (r : Rep mg B y d) : ∀ {xs : List (Key × V)} {ds : List (Key × DV)}, RepK mg B xs ds → RepK mg B (xs.map fun kv => if kv.1 = k then (kv.1, y) else kv) (ds.map fun kv => if kv.1 = k then (kv.1, d) else kv)
  | _, _, .nil => .nil
  | _, _, .cons (k := k') p q => by
    rw [List.map_cons, List.map_cons]
    by_cases h : k' = k
    · subst h; simpa using RepK.cons r (repk_upd r q)
    · simpa [h] using RepK.cons p (repk_upd r q)
theorem repk_put {k : Key} {y : V} {d : DV} {xs : List (Key × V)} {ds : List (Key × DV)} (r : Rep mg B y d) (q : RepK mg B xs ds) : RepK mg B (putK xs k y) (putD ds k d) := by
  unfold putK putD
  rw [repk_any q]
  split
  · exact repk_upd r q
  · exact repk_snoc r q
theorem repk_merge : ∀ {more : List (Key × V)} {mds : List (Key × DV)} {xs : List (Key × V)} {ds : List (Key × DV)}, RepK mg B more mds → RepK mg B xs ds → RepK mg B (mergeK xs more) (mergeD ds mds)
  | _, _, _, _, .nil, q => q
  | _, _, _, _, .cons (k := k) (x := x) (d := d) (xs := more) (ds := mds) p r, q => (show RepK mg B (mergeK (putK _ k x) more) (mergeD (putD _ k d) mds) from repk_merge r (repk_put p q))
theorem keys_zip : ∀ {ps : List (DV × DV)} {kvs : List (Key × DV)} {xs ys : List V}, keysDV ps = some kvs → Reps mg B xs (ps.map (·.1)) → Reps mg B ys (ps.map (·.2)) →
    ∃ ks : List (Key × V), xs.zip ys = ks.map (fun kv => (kV kv.1, kv.2)) ∧ RepK mg B ks kvs
  | [], _, _, _, h, .nil, .nil => by cases h; exact ⟨[], rfl, .nil⟩
  | (k, d) :: ps, _, _, _, h, .cons r1 q1, .cons r2 q2 => by
    simp only [keysDV] at h
    split at h
    · rename_i k' r ek er
      cases h
      obtain ⟨ks, e, rk⟩ := keys_zip er q1 q2
      cases k with
      | int i => cases ek; cases r1; exact ⟨(.inl i, _) :: ks, by rw [List.zip_cons_cons, e]; rfl, .cons r2 rk⟩
      | str x => cases ek; cases r1; exact ⟨(.inr x, _) :: ks, by rw [List.zip_cons_cons, e]; rfl, .cons r2 rk⟩
      | _ => cases ek
    · cases h
end
def dispM (ps : List (DV × DV)) : M Opd := fun S => match keysDV ps with
  | some kvs => if kvs.length ≤ 15 then .ok (.v (.od false (mergeD [] kvs))) S else .stuck
  | none => .stuck
theorem repk_len {mg : Mg} {B : Hp} {xs : List (Key × V)} {ds : List (Key × DV)} (r : RepK mg B xs ds) : xs.length = ds.length := r.length
section
variable {X : Cx} {pos : Pos} {ks : List (Option Expr)} {vs : List Expr} {m : M (List (DV × DV))}
theorem px_disp (h : PPX X pos ks vs m) (hall : ks.all (·.isSome) = true := by rfl) (hl : ks.length = vs.length := by rfl) (h0 : ks ≠ [] := by simp) (h15 : ks.length ≤ 15 := by decide) : PX X (.Dict ks vs pos) (M.bind m dispM) := fun W tk => by
  obtain ⟨trs, hp, i⟩ := h W tk
  refine PE.imp (pe_disp hp hall hl h0 h15) fun σ H Q ⟨B, S, st, q⟩ => ?_
  intro p np
  have s0 := st.alloc np (.dK [])
  have np0 : B p = none := st.le.none np
  have no0 : ¬ OwnA σ S p := st.notOwn np
  refine i σ _ _ ⟨B, S, s0.st, (spec_bind.mp q).imp (fun ps S1 _ q xs ys B1 H1 s1 hs1 r1 r2 => ?_) fun _ _ _ h => h.pre s0⟩
  obtain ⟨h1, nb1, no1⟩ := s1.tmpStay upd_same np0 no0
  unfold dispM at q
  cases ek : keysDV ps with
  | none => rw [ek] at q; exact q.elim
  | some kvs =>
    rw [ek] at q
    obtain ⟨h15, q⟩ := if_spec q
    obtain ⟨kz, ez, rk⟩ := keys_zip ek r1 r2
    have sT := (s0.trans s1).tmp np nb1 no1 (o := .dK (mergeK [] kz))
    refine ⟨h1, kz, ez, by rw [rk.length]; exact h15, ?_⟩
    exact q (.ref p) B1 _ sT hs1 (.v (.od nb1 upd_same (repk_merge rk .nil)) fun a _ e => by cases e; exact no1) fun a _ e => by cases e; exact np
theorem px_dict0 : PX X (.Dict [] [] pos) (M.pure (.v (.od false []))) := fun W tk => PE.imp pe_dnewK fun σ H Q ⟨B, S, st, q⟩ => fun p np => by
  obtain ⟨s1, opd, y⟩ := (res_dct st.le np (.nil : RepK X.mg B [] [])).opd st
  exact q _ _ _ s1 (.refl S) opd y
end
end Lb
/-! A def whose first argument is a new own thing. -/
namespace Lb
open PySem PySem.Spec PyProof.Rows L2
def callO (f : FSem) (n : Nat) (o : Opd) (ds : List DV) : M Opd := fun S => if ds.length + 1 = n then
    (match o with
    | .v r0 => if r0.isOwn && !r0.isPin then
        (match f (r0.rePin true :: ds.map .v) with
        | .ret r _ => if r.isPin then .stuck else .ok (.v r) S
        | .exc c fs _ => .exc c fs S
        | .stuck => .stuck) else .stuck
    | .sl _ => .stuck)
  else .stuck
section
variable {X : Cx} {x : Str} {f : FSem} {ps : List Str} {p pos : Pos} {e : Expr} {es : List Expr} {me : M Opd} {ms : M (List DV)}
theorem callO_spec {n : Nat} {o : Opd} {ds : List DV} {S : Sl} {K : Opd → Sl → Prop} {E : Str → List (Str × DV) → Sl → Prop} (h : (callO f n o ds S).spec K E) :
    ds.length + 1 = n ∧ ∃ r0, o = .v r0 ∧ r0.isOwn = true ∧ (f (r0.rePin true :: ds.map .v)).spec (fun r _ => r.isPin = false ∧ K (.v r) S) (fun c fs _ => E c fs S) := by
  unfold callO at h
  split at h
  · rename_i hl
    refine ⟨hl, ?_⟩
    cases o with
    | sl i => exact h.elim
    | v r0 =>
      dsimp only at h
      split at h
      · rename_i ho
        rw [Bool.and_eq_true] at ho
        refine ⟨r0, rfl, ho.1, ?_⟩
        cases ef : f (r0.rePin true :: ds.map .v) with
        | stuck => rw [ef] at h; exact h.elim
        | exc c fs outs => rw [ef] at h; exact h
        | ret r outs =>
          rw [ef] at h
          dsimp only at h
          split at h
          · exact h.elim
          · rename_i hp
            exact ⟨by simpa using hp, h⟩
      · exact h.elim
  · exact h.elim
theorem px_callo (F : Kn X x f ps) (hg : Gl X x) (he0 : PX X e me) (ha : FXs X es ms) (hdb : (x == ("__debug__" : Str)) = false := by decide)
    (he : starEach (e :: es) X.env = (false, eval e X.env) :: starEach es X.env := by rfl) (hpl : (backTo pos (starEach es X.env)).any (·.1) = false := by rfl) :
    PX X (.Call (.Name x p) (e :: es) [] pos) (M.bind me fun o => M.bind ms (callO f ps.length o)) := fun W tk => by
  obtain ⟨fa, fd, k, F, hr, hgd, hm, hk, hb⟩ := F.ex
  refine PE.imp (pe_callG F hr hgd hg hm hk hb (fun σ => passAt tk σ) (pa_cons (he0 W tk) (ha W tk) he) hdb he hpl) fun σ H Q ⟨B, S, st, q⟩ => ?_
  refine ⟨B, S, st, (spec_bind.mp q).imp (fun o S0 _ q v B0 H0 s0 hs0 or yo => ⟨B0, S0, s0.st, (spec_bind.mp q).imp (fun ds S1 _ q vs B1 H1 s1 hs1 r => ?_) fun _ _ _ h => h.pre s0⟩) fun _ _ _ h => h⟩
  have s := s0.trans s1
  have hs := hs0.trans hs1
  obtain ⟨hl, r0, rfl, ho, q⟩ := callO_spec q
  have or1 := or.step s1 hs1
  cases or1 with
  | v q0 nown =>
  obtain ⟨a, rfl⟩ : ∃ a, v = .ref a := by
    cases q0 with
    | v _ => cases ho
    | ol _ _ _ => exact ⟨_, rfl⟩
    | od _ _ _ => exact ⟨_, rfl⟩
  have na : ¬ OwnA σ S1 a := nown a ho rfl
  have fresh : H a = none := yo a ho rfl
  have nB1 : B1 a = none := by
    cases q0 with
    | v _ => cases ho
    | ol h _ _ => exact h
    | od h _ _ => exact h
  have ho' : (r0.rePin true).isOwn = true := by rw [RV.rePin_own]; exact ho
  have only : ∀ j b, OwnAt ((V.ref a :: vs).map some) ((r0.rePin true :: ds.map RV.v).map some) j b → j = 0 ∧ b = a := fun j b ⟨⟨r', e1, h1⟩, e2⟩ => by
    cases j with
    | zero =>
      simp at e2
      exact ⟨rfl, e2.symm⟩
    | succ j =>
      exfalso
      rw [List.map_cons, List.getElem?_cons_succ, map_get, List.getElem?_map] at e1
      cases q : ds[j]? with
      | none => rw [q] at e1; cases e1
      | some d => rw [q] at e1; cases e1; cases h1
  have args : StR X.mg B1 H1 ((V.ref a :: vs).map some) ((r0.rePin true :: ds.map RV.v).map some) := by
    have t := argsR (mg := X.mg) s.st.le r
    refine ⟨s.st.le, by simp [r.length], fun j r' e1 => ?_, fun j k b h1 h2 => by rw [(only j b h1).1, (only k b h2).1]⟩
    cases j with
    | zero =>
      simp at e1
      subst e1
      exact ⟨.ref a, rfl, q0.rePin⟩
    | succ j =>
      obtain ⟨v, h1, h2⟩ := t.at_ j r' (by simpa using e1)
      exact ⟨v, by simpa using h1, h2⟩
  -- what the callee did, seen from the caller's own state before
  have back : ∀ {B' H' outs}, CallP X.mg B1 H1 (V.ref a :: vs) (r0.rePin true :: ds.map RV.v) B' H' outs → Stp X.mg B H σ S B' H' σ S1 := fun {B' H' outs} cp => by
    have g : Grow B1 H1 B' H' (fun b => b = a) := cp.grow.imp fun b ⟨j, hj⟩ => (only j b hj).2
    have gT : Grow B H B' H' (OwnA σ S) := s.grow.trans g fun b hb => .inr (by subst hb; exact fresh)
    have keep : ∀ b o, H1 b = some o → b ≠ a → H' b = some o := fun b o h n => g.keep b o h n
    have nb : ∀ b, B1 b = none → H1 b ≠ none → b ≠ a → B' b = none := fun b h1 h2 h3 => by
      cases z : B' b with
      | none => rfl
      | some u =>
        rcases g.new b (by rw [z]; simp) with y | y | y
        · exact absurd h1 y
        · exact absurd y h2
        · exact absurd y h3
    have st' : StR X.mg B' H' σ S1 := ⟨cp.st.le, s.st.len, fun i r' e1 => by
      obtain ⟨w, h1, h2⟩ := s.st.at_ i r' e1
      refine ⟨w, h1, ?_⟩
      have ne : ∀ c, r'.isOwn = true → w = .ref c → c ≠ a := fun c hc ec z => by
        subst z; subst ec
        exact na ⟨i, ⟨r', e1, hc⟩, h1⟩
      cases h2 with
      | v h2 => exact .v (h2.mono g.sub)
      | ol g1 g2 g3 => exact .ol (nb _ g1 (by rw [g2]; simp) (ne _ rfl rfl)) (keep _ _ g2 (ne _ rfl rfl)) (g3.mono g.sub)
      | od g1 g2 g3 => exact .od (nb _ g1 (by rw [g2]; simp) (ne _ rfl rfl)) (keep _ _ g2 (ne _ rfl rfl)) (g3.mono g.sub), s.st.dis⟩
    exact ⟨gT, st', s.own, s.pin, s.len⟩
  refine ⟨by simp [r.length]; omega, B1, r0.rePin true :: ds.map RV.v, args, fun r' h1 h2 => ?_, q.imp (fun rv outs ⟨hp, k⟩ v B' H' cp qv _ yg => ?_) fun c fs outs k C d B' H' hC cp hd => ?_⟩
  · rcases List.mem_cons.mp h1 with h1 | h1
    · subst h1; exact RV.rePin_pin ho
    · obtain ⟨d, _, rfl⟩ := List.mem_map.mp h1
      cases h2
  · refine k v B' H' (back cp) hs (.v qv fun b hb eb z => s.st.notOwn (yg b hb eb) z) ((show Young H1 v (.v rv) from yg).pre s)
  · exact k C B' H' σ d hC (back cp) hd
end
end Lb
/-! What is known of the names of a program. -/
namespace Lb
open PySem PySem.Spec PyProof.Rows L2
section
variable (P : Program) (w : World) (K : PySem.W.Frag) (mg : Mg) (base : Heap)
/-- the def x is the plain function f -/
structure KD (x : Str) (f : FSem) (ps : List Str) (k : Nat) : Prop where
  ex : ∃ (fa : Addr) (fd : FuncData), FnG P w K mg base (L2.CX P w) k fa fd ps (spM mg f ps.length) ∧ mg x = some (.ref fa) ∧ PySem.W.keepIn K (.ref fa) = true ∧ Binds K fd ps []
/-- the own exception class x, its fields fs -/
structure KC (x : Str) (fs : List Str) : Prop where
  ex : ∃ (C fI : Addr) (fd : FuncData) (ps : List Str), XC K C fI ∧ PySem.W.subIn K (.ref C) (.type "BaseException") = some true ∧ PySem.W.typeIn K (.ref C) = some (.type "type") ∧ (∀ f ∈ fs, PySem.W.takerIn K C f = some none) ∧
    FnG P w K mg base (L2.CX P w) 1 fI fd ps (spI K fs) ∧ Binds K fd ps [] ∧ ps.length = fs.length + 1 ∧ mg x = some (.ref C) ∧ fs.length ≤ 100 ∧
    (∀ (s : Shared) (u : Value) (ws : List Value), K.In s.heap → ws.length = fs.length → BindsTo s fd ⟨[u], fs.zip ws⟩ (ps.zip (u :: ws))) ∧
    (∀ (s : Shared) (u : Value) (ws : List Value), K.In s.heap → ws.length = fs.length → BindsTo s fd ⟨[u], fs.reverse.zip ws⟩ (ps.zip (u :: ws.reverse)))
end
/-- isinstance(.., c) of exceptions of the classes tab -/
structure IsA (K : PySem.W.Frag) (mg : Mg) (tab : List Str) (c : Str) (sub : Str → Bool) : Prop where
  ex : ∃ cv u, ClsV cv u ∧ RelV cv u ∧ (mg c = some u ∨ (mg c = none ∧ bootBuiltins c = some u ∧ c ≠ "__name__")) ∧ ∀ k ∈ tab, ∀ C, mg k = some (.ref C) → ExcC K C ∧ PySem.W.kitOne K (.ref C) u = some (sub k)
structure CaA (K : PySem.W.Frag) (mg : Mg) (c : Str) (sub : Str → Option Bool) : Prop where
  ex : ∃ C', mg c = some (.ref C') ∧ ∀ k C b, mg k = some (.ref C) → sub k = some b → PySem.W.exmOne K (.ref C) (.ref C') = some b
structure FdA (K : PySem.W.Frag) (mg : Mg) (tab : List Str) (n : Str) : Prop where
  ex : ∀ c ∈ tab, ∀ C, mg c = some (.ref C) → XfC K C ∧ PySem.W.findIn K (.ref C) n = some none
def subOf (l : List Str) (k : Str) : Bool := l.contains k
def subIn' (tab l : List Str) (k : Str) : Option Bool := if tab.contains k then some (l.contains k) else none
section
variable {X : Cx} {x : Str} {f : FSem} {ps fs : List Str} {k j : Nat}
theorem KD.kn (h : KD X.prog X.w X.K X.mg X.base x f ps k) (hr : Room j X.A) (hg : X.A.guards = some []) (hj : k ≤ j := by decide) : Kn X x f ps := by
  obtain ⟨fa, fd, F, hm, hk, hb⟩ := h.ex
  exact ⟨fa, fd, k, F, hr.mono hj, hg, hm, hk, hb⟩
theorem KC.knX (h : KC X.prog X.w X.K X.mg X.base x fs) (hr : Room j X.A) (hg : X.A.guards = some []) (hj : 2 ≤ j := by decide) : KnX X x fs := by
  obtain ⟨C, fI, fd, ps, a, _, _, b, c, d, e, g, i, _⟩ := h.ex
  exact ⟨C, fI, fd, 1, ps, a, b, c, hr.mono hj, hg, d, e, g, i⟩
theorem KC.knR (h : KC X.prog X.w X.K X.mg X.base x fs) (hr : Room j X.A) (hg : X.A.guards = some []) (hj : 2 ≤ j := by decide) : KnR X x fs := by
  obtain ⟨C, fI, fd, ps, a, a1, a2, b, c, d, e, g, i, _⟩ := h.ex
  exact ⟨C, fI, fd, 1, ps, a, a1, a2, b, c, hr.mono hj, hg, d, e, g, i⟩
theorem KC.knk (h : KC X.prog X.w X.K X.mg X.base x fs) (hr : Room j X.A) (hg : X.A.guards = some []) (hj : 2 ≤ j := by decide) : KnXk X x fs fs false := by
  obtain ⟨C, fI, fd, ps, a, a1, a2, b, c, d, e, g, i, l, _⟩ := h.ex
  exact ⟨C, fI, fd, 1, ps, a, b, c, hr.mono hj, hg, l, g⟩
theorem KC.knks (h : KC X.prog X.w X.K X.mg X.base x fs) (hr : Room j X.A) (hg : X.A.guards = some []) (hj : 2 ≤ j := by decide) : KnXk X x fs fs.reverse true := by
  obtain ⟨C, fI, fd, ps, a, a1, a2, b, c, d, e, g, i, _, l⟩ := h.ex
  exact ⟨C, fI, fd, 1, ps, a, b, c, hr.mono hj, hg, l, g⟩
variable {tab : List Str} {c : Str} {sub : Str → Bool} {e : Expr} {me : M Opd} {p cp pos : Pos}
theorem px_isa (i : IsA X.K X.mg tab c sub) (hm : X.mg "isinstance" = none) (ha : PX X e me) (hg : Gl X "isinstance" := by rfl) (hgc : Gl X c := by rfl) (hdb : (c == ("__debug__" : Str)) = false := by decide)
    (he : starEach [e, .Name c cp] X.env = (false, eval e X.env) :: starEach [.Name c cp] X.env := by rfl) (he2 : starEach [.Name c cp] X.env = (false, eval (.Name c cp) X.env) :: starEach [] X.env := by rfl)
    (hpl : (backTo pos (starEach [.Name c cp] X.env)).any (·.1) = false := by rfl) :
    PX X (.Call (.Name "isinstance" p) [e, .Name c cp] [] pos) (M.bind me (isxM tab sub)) := by
  obtain ⟨cv, u, h1, h2, h3, h4⟩ := i.ex
  refine px_isx hg hm ?_ h1 h4 ha he he2 hpl
  rcases h3 with h3 | ⟨h3, h5, h6⟩
  · exact pe_glob hgc h3 h2 hdb
  · exact pe_bltn hgc h3 h5 h2 h6 hdb
theorem hdm_cons {n : Str} {w : Hd} {b₀ : Stmt} {suite : List Stmt} {np pos' : Pos} {hds : List ExceptHandler} {l : List Hd} (ca : CaA X.K X.mg c w.sub) (hsu : SXc X w.i (b₀ :: suite) w.h) (r : HdM X hds l)
    (hg : Gl X c := by rfl) (hi : X.N[w.i]? = some n := by rfl) (hln : X.env.kindOf n = some .local := by rfl) (hdb : (c == ("__debug__" : Str)) = false := by decide) :
    HdM X (.ExceptHandler (some (.Name c np)) (some n) (b₀ :: suite) pos' :: hds) (w :: l) := by
  obtain ⟨C', hm, h⟩ := ca.ex
  exact .cons ⟨hg, hdb, .inl hm⟩ hi hln h hsu r
end
section
variable {X : Cx} {x : Str} {f : FSem} {ps : List Str} {k j n : Nat} {p pos : Pos} {e : Expr} {es : List Expr} {me : M Opd} {ms : M (List DV)}
theorem px_callD (h : KD X.prog X.w X.K X.mg X.base x f ps k) (hn : ps.length = n) (hr : Room j X.A) (hgd : X.A.guards = some []) (hj : k ≤ j) (hg : Gl X x) (ha : FXs X (e :: es) ms) (hdb : (x == ("__debug__" : Str)) = false := by decide)
    (he : starEach (e :: es) X.env = (false, eval e X.env) :: starEach es X.env := by rfl) (hpl : (backTo pos (starEach es X.env)).any (·.1) = false := by rfl) :
    PX X (.Call (.Name x p) (e :: es) [] pos) (M.bind ms (callF f n)) := by
  subst hn
  exact px_call (h.kn hr hgd hj) hg ha hdb he hpl
theorem px_call0D (h : KD X.prog X.w X.K X.mg X.base x f ps k) (hn : ps.length = n) (hr : Room j X.A) (hgd : X.A.guards = some []) (hj : k ≤ j) (hg : Gl X x) (hdb : (x == ("__debug__" : Str)) = false := by decide) :
    PX X (.Call (.Name x p) [] [] pos) (callF f n []) := by
  subst hn
  exact px_call0 (h.kn hr hgd hj) hg hdb
theorem px_callpD (i : Nat) {z : Str} {zp : Pos} (h : KD X.prog X.w X.K X.mg X.base x f ps k) (hn : ps.length = n) (hr : Room j X.A) (hgd : X.A.guards = some []) (hj : k ≤ j) (hg : Gl X x) (hz : PX X (.Name z zp) (getSl i)) (ha : FXs X es ms)
    (hdb : (x == ("__debug__" : Str)) = false := by decide) (he : starEach (.Name z zp :: es) X.env = (false, eval (.Name z zp) X.env) :: starEach es X.env := by rfl) (hpl : (backTo pos (starEach es X.env)).any (·.1) = false := by rfl) :
    PX X (.Call (.Name x p) (.Name z zp :: es) [] pos) (M.bind (getSl i) fun _ => M.bind ms (callP f n i)) := by
  subst hn
  exact px_callp i (h.kn hr hgd hj) hg hz ha hdb he hpl
theorem px_calloD (h : KD X.prog X.w X.K X.mg X.base x f ps k) (hn : ps.length = n) (hr : Room j X.A) (hgd : X.A.guards = some []) (hj : k ≤ j) (hg : Gl X x) (he0 : PX X e me) (ha : FXs X es ms) (hdb : (x == ("__debug__" : Str)) = false := by decide)
    (he : starEach (e :: es) X.env = (false, eval e X.env) :: starEach es X.env := by rfl) (hpl : (backTo pos (starEach es X.env)).any (·.1) = false := by rfl) :
    PX X (.Call (.Name x p) (e :: es) [] pos) (M.bind me fun o => M.bind ms (callO f n o)) := by
  subst hn
  exact px_callo (h.kn hr hgd hj) hg he0 ha hdb he hpl
end
/-- a block's names -/
def blkB (N : List Str) (sc scope : Scope) (own : List (Str × Nat)) : Bool :=
  decide (scope.kind = .function) && (scope.names.all fun y => decide (scope.names.lookup y.1 = some y.2)) && (own.all fun p => decide (N[p.2]? = some p.1)) &&
    (scope.names.all fun y => decide (y.2 = .free) → decide (sc.names.lookup y.1 = some .cell ∨ sc.names.lookup y.1 = some .free)) &&
    (scope.names.all fun y => decide (y.2 = .local ∨ y.2 = .cell) → decide (y.1 ∈ own.map (·.1) ∨ y.1 ∉ N))
theorem blk_of {N : List Str} {sc scope : Scope} {own : List (Str × Nat)} (h : blkB N sc scope own = true) : BlkOk N sc scope own := by
  simp only [blkB, Bool.and_eq_true, List.all_eq_true, decide_eq_true_eq] at h
  obtain ⟨⟨⟨⟨h1, h2⟩, h3⟩, h4⟩, h5⟩ := h
  exact ⟨h1, h2, h3, fun y hy e => by simpa using h4 y hy e, fun y hy e => by simpa using h5 y hy e⟩
section
variable {P : Program} {w : World} {K : PySem.W.Frag} {mg : Mg} {base : Heap} {x qual : Str} {st : Stmt} {f : Addr} {fd : FuncData} {N ps : List Str} {k : Nat} {m : SM}
theorem kd_mk (F : Fun K x qual st f fd) (S : FnScope N ps (defScope st)) (hm : mg x = some (.ref f)) (hb : Binds K fd ps [])
    (h : ∀ (cdv : Value) (A : Around) (outer : List Env) (s : Shared) (H : Hp) (E : XK), Room k (A.deeper (envOfC qual (defScope st) s.heap.objs.size f cdv)) → A.guards = some [] →
      SXs (cxOf (L2.CX P w) P w K mg base N qual (defScope st) f cdv A outer s H E) (defBody st) m) : KD P w K mg base x (runDef m N.length) ps (k + 1) :=
  ⟨f, fd, fn_mk F S h, hm, F.kp, hb⟩
end
end Lb
/-! a, b = x, y: two stores, no tuple. -/
namespace Lb
open PySem PySem.Spec PyProof.Rows L2
def ownOr (o : Opd) : M RV := match o with
  | .v r => M.pure r
  | .sl k => M.map RV.v (frz (.sl k))
def parM (i j : Nat) (o1 o2 : Opd) : SM := M.thn (ownOr o1) fun r1 => M.thn (ownOr o2) fun r2 => SM.seq (stores i r1) (stores j r2)
theorem ownOr_ok {mg : Mg} {B H B1 H1 : Hp} {σ : Sg} {S S1 : Sl} {v : V} {o : Opd} (s : Stp mg B H σ S B1 H1 σ S1) (or : OpdR mg B1 H1 σ S1 v o) (y : Young H v o) {K : RV → Sl → Prop} {E : Str → List (Str × DV) → Sl → Prop} (q : (ownOr o S1).spec K E) :
    ∃ r B2 S2, Stp mg B1 H1 σ S1 B2 H1 σ S2 ∧ Has S1 S2 ∧ RVR mg B2 H1 v r ∧ (∀ a, r.isOwn = true → v = .ref a → ¬ OwnA σ S2 a) ∧ (∀ a, r.isOwn = true → v = .ref a → H a = none) ∧ (r.isOwn = true → o = .v r) ∧ K r S2 := by
  cases or with
  | v r n => exact ⟨_, B1, S1, .refl s.st, .refl _, r, n, y, fun _ => rfl, q⟩
  | @sl k e1 hr =>
    have q : (frz (.sl k) S1).spec _ _ := spec_bind.mp q
    cases ef : frz (.sl k) S1 with
    | stuck => rw [ef] at q; exact q.elim
    | exc c fs S' => exact (frz_noexc ef).elim
    | ok d S2 =>
      rw [ef] at q
      obtain ⟨B2, s2, h2, rep⟩ := frz_ok (.refl s.st) (.refl S1) (.sl e1 hr) trivial ef
      exact ⟨.v d, B2, S2, s2, h2, .v rep, (fun a h => by cases h), (fun a h => by cases h), (fun h => by cases h), q⟩
section
variable {X : Cx} {x y : Str} {a b : Expr} {m1 m2 : M Opd} {px py pt pos : Pos} {kt k2 : Nat} {pt2 : Pos}
theorem sx_par (i j : Nat) (hc : X.calm = true) (hN : X.N.Nodup) (hi : X.N[i]? = some x) (hj : X.N[j]? = some y) (hij : i ≠ j) (hx : X.env.scope.names.lookup x = some .local) (hy : X.env.scope.names.lookup y = some .local) (h1 : PX X a m1) (h2 : PX X b m2)
    (hw : swappedStores [.Tuple [.Name x px, .Name y py] kt pt] (.Tuple [a, b] k2 pt2) X.env = pure (some [x, y]) := by rfl)
    (hs : swapsWithSole [.Tuple [.Name x px, .Name y py] kt pt] (.Tuple [a, b] k2 pt2) pos.line X.env = pure false := by rfl)
    (he : starEach [a, b] X.env = (false, eval a X.env) :: starEach [b] X.env := by rfl) (he2 : starEach [b] X.env = (false, eval b X.env) :: starEach [] X.env := by rfl) :
    SX X (.Assign [.Tuple [.Name x px, .Name y py] kt pt] (.Tuple [a, b] k2 pt2) pos) (M.thn m1 fun o1 => M.thn m2 fun o2 => parM i j o1 o2) := fun W tk pp =>
  PS.imp (ps_par hc hN hi hj hij hx hy (pa_cons (h1 W tk) (pa_cons (h2 W tk) pa_nil he2) he) hw hs) fun D σ H ⟨B, S, st, q⟩ =>
  ⟨B, S, st, (spec_thn.mp q).imp (fun o1 S1 _ q v B1 H1 s1 hs1 or1 y1 => ⟨B1, S1, s1.st, (spec_thn.mp q).imp (fun o2 S2 _ q w B2 H2 s2 hs2 or2 y2 => by
    refine ⟨v, w, rfl, ?_⟩
    have sT := s1.trans s2
    obtain ⟨r1, B3, S3, s3, h3, rv1, n1, f1, g1, q⟩ := ownOr_ok sT (or1.step s2 hs2) y1 (spec_thn.mp q)
    obtain ⟨r2, B4, S4, s4, h4, rv2, n2, f2, _, q⟩ := ownOr_ok (s2.trans s3) (or2.step s3 h3) y2 (spec_thn.mp q)
    obtain ⟨rv1', n1'⟩ := rv1.step n1 s4
    have sU := (sT.trans s3).trans s4
    obtain ⟨p1, p2, q⟩ := stores_spec (spec_seq.mp q)
    obtain ⟨p3, p4, k⟩ := stores_spec q
    have sA := sU.set rv1' n1' f1 p1 p2
    refine k B4 H2 _ (sA.set rv2 (fun c hc ec z => ?_) (fun c hc ec => s1.free (f2 c hc ec)) p3 p4)
    obtain ⟨l, ⟨r', e1, hr'⟩, e2⟩ := z
    rcases set_some_cases e1 with ⟨k1, k2⟩ | ⟨k1, k2⟩
    · cases k2
      rcases sig_set_cases e2 with ⟨_, k4⟩ | ⟨k3, _⟩
      · cases k4
        have hn := f2 c hc ec
        have := g1 hr'
        subst this
        cases or1 with
        | v qq _ =>
          cases qq with
          | v _ => cases hr'
          | ol _ hh _ => rw [hn] at hh; cases hh
          | od _ hh _ => rw [hn] at hh; cases hh
      · exact k3 k1
    · refine n2 c hc ec ⟨l, ⟨r', k2, hr'⟩, ?_⟩
      rwa [List.getElem?_set_ne (Ne.symm k1)] at e2) fun _ _ _ h => h.pre s1⟩) fun _ _ _ h => h⟩
end
end Lb
/-! From the law's def to the statement. -/
namespace Lb
open PySem PySem.Spec PyProof.Rows L2
/-- no list among the module's own objects -/
def noLst (K : PySem.W.Frag) : Bool := K.all fun p => match p.2.cls with
  | .type "list" => false
  | _ => true
theorem noLst_at {K : PySem.W.Frag} (h : noLst K = true) {a : Addr} {o : Obj} (e : K.lookup a = some o) (hc : o.cls = .type "list") : False := by
  have hm : (a, o) ∈ K := by
    induction K with
    | nil => cases e
    | cons p K ih =>
      rw [List.lookup] at e
      cases hk : a == p.1 with
      | true => rw [hk] at e; cases e; rw [beq_iff_eq.mp hk]; exact List.mem_cons_self
      | false =>
        rw [hk] at e
        refine List.mem_cons_of_mem _ (ih ?_ e)
        simp only [noLst, List.all_cons, Bool.and_eq_true] at h ⊢
        exact h.2
  have := List.all_eq_true.mp h _ hm
  simp only [hc] at this
  cases this
theorem walkG {l : PySem.W.OpenLaw} {q : Program} {loose : List Str} {XP : (Str → Option Value) → Heap → Prop} {YP : World → Heap → Prop} {d : DefRec} {K : Params → PySem.W.Frag} {k : Nat} {x : Str} {f : FSem}
    (hn : l.most = some 63) (hdf : d.params.defaults = []) (hi : importsNone q = true) (hr : Room k callerA) (hY : ∀ (w : World) (h : Heap), YP w h → (K w.params).In h) (hnl : ∀ w : World, noLst (K w.params) = true)
    (F : ∀ (w : World) (mg : Str → Option Value) (fa : Addr) (h : Heap), (K w.params).In h → h.Ns mainGlobals mg → mg d.name = some (.ref fa) →
      ∃ fd : FuncData, (∀ (s : Shared) (u : Value), BindsTo s fd ⟨[u], []⟩ [(x, u)]) ∧ ∀ base : Heap, (K w.params).In base → base.Ns mainGlobals mg → (∃ o, base.get? sysModules = some o) →
        FnG l.prog w (K w.params) mg base (L2.CX l.prog w) k fa fd [x] (spM mg f 1))
    (hf : ∀ ns : List Int, ns.length ≤ 63 → ∃ outs, f [.v (.scr ns)] = .ret (.v (.bl true)) outs) :
    PySem.W.WalkO q loose XP YP l.row.toRowW d [] (fun f vs => PySem.call f vs) := by
  refine Att.attach_callB hn hdf fun w s₀ s₁ mg mb fa o pm cd doc a vs ns G Y ho hd hcd hmg hobj hints hlen hbits hg => ?_
  have KX := hY w _ Y
  obtain ⟨fd, hb, hF⟩ := F w mg fa _ KX G.T.g hmg
  have hsm : ∃ m, s₁.heap.Ns sysModules m := (G.T.seer hi).mods.imp fun m z => z.1
  refine top_call KX G.T.g G.T.b G.T.builtins G.T.nolimit hg hsm hobj hints (Nat.le_trans hlen (by decide)) hr hF hb (fun H hO hS => ?_) (fun H e s' hx => ?_) ?_
  · obtain ⟨outs, e⟩ := hf ns hlen
    refine ⟨rfl, H, [.v (.scr ns)], ⟨.refl H, rfl, fun i r hi => ?_, fun i j c hi hj => ?_⟩, fun r hr hw => ?_, ?_⟩
    · cases i with
      | zero => cases hi; exact ⟨.ref a, rfl, .v (.scr hS)⟩
      | succ i => cases hi
    · obtain ⟨⟨r, e1, h1⟩, _⟩ := hi
      cases i with
      | zero => cases e1; cases h1
      | succ i => cases e1
    · rcases List.mem_singleton.mp hr with rfl
      cases hw
    · rw [e]
      intro v B' H' cp rv _ _
      cases rv with
      | v r => cases r; rfl
  · obtain ⟨_, _, _, _, _, _, _, _, _, _, _, _, z⟩ := hx
    exact z.elim
  · cases e : (K w.params).lookup a with
    | none => rfl
    | some o' =>
      have y := KX a o' e
      rw [hobj] at y
      cases y
      exact (noLst_at (hnl w) e rfl).elim
end Lb
/-! The facts of a written part, in the shapes that rfl closes. -/
namespace Lb
open PySem PySem.Spec PyProof.Rows L2
/-- a def of the module -/
def DefK (K : PySem.W.Frag) (x : Str) (st : Stmt) : Prop := ∃ f fd, PySem.W.nsIn K mainGlobals x = some (some (.ref f)) ∧ Fun K x x st f fd
/-- an own exception class over the built-in base whose mro is l -/
structure ExcK' (K : PySem.W.Frag) (newId : String) (l : List Value) (C fI : Addr) : Prop where
  h1 : PySem.W.excInitIn K C l newId = true
  h2 : PySem.W.excOver K C l = true
  h3 : PySem.W.hasDictIn K C = true
  h4 : PySem.W.findIn K (.ref C) "__setattr__" = some (some (.builtin "object.__setattr__"))
  h5 : PySem.W.keepIn K (.ref C) = true
  h6 : PySem.W.findIn K (.ref C) "__init__" = some (some (.ref fI))
  h7 : PySem.W.typeIn K (.ref fI) = some (.type "function")
  h8 : PySem.W.subIn K (.ref C) (.type "BaseException") = some true
  h9 : PySem.W.typeIn K (.ref C) = some (.type "type")
def ExcK (K : PySem.W.Frag) (x qual : Str) (st : Stmt) (newId : String) (l : List Value) (fs : List Str) : Prop := ∃ C fI fd, PySem.W.nsIn K mainGlobals x = some (some (.ref C)) ∧ Fun K "__init__" qual st fI fd ∧ ExcK' K newId l C fI ∧ ∀ f ∈ fs, PySem.W.takerIn K C f = some none
section
variable {P : Program} {w : World} {K : PySem.W.Frag} {mg : Mg} {base : Heap} {x qual : Str} {st : Stmt} {b newId initId : String} {l : List Value} {h : Heap}
theorem kc_of {fs ps : List Str} (KX : K.In h) (G : h.Ns mainGlobals mg) (e : ExcK K x qual st newId l fs) (EB : ExcBaseFacts b newId initId l) (SF : StoreFacts b l "object.__setattr__" "object") (hp : ps.length = fs.length + 1) (hf : fs.length ≤ 100)
    (hi : ∀ {fI : Addr} {fd : FuncData}, Fun K "__init__" qual st fI fd → FnG P w K mg base (L2.CX P w) 1 fI fd ps (spI K fs))
    (hb : ∀ (kV doc pm : Value) (an : Option Addr) (cdv ct : Value) (us : List Value), us.length = ps.length → bindArgs (PySem.W.fnOf "__init__" qual (defArgs st) (defBody st) (defScope st) .none kV doc pm an cdv ct) ⟨us, []⟩ = pure (ps.zip us))
    (hk : ∀ (kV doc pm : Value) (an : Option Addr) (cdv ct u : Value) (ws : List Value), ws.length = fs.length → bindArgs (PySem.W.fnOf "__init__" qual (defArgs st) (defBody st) (defScope st) .none kV doc pm an cdv ct) ⟨[u], fs.zip ws⟩ = pure (ps.zip (u :: ws)))
    (hks : ∀ (kV doc pm : Value) (an : Option Addr) (cdv ct u : Value) (ws : List Value), ws.length = fs.length → bindArgs (PySem.W.fnOf "__init__" qual (defArgs st) (defBody st) (defScope st) .none kV doc pm an cdv ct) ⟨[u], fs.reverse.zip ws⟩ = pure (ps.zip (u :: ws.reverse))) :
    KC P w K mg base x fs := by
  obtain ⟨C, fI, fd, hn, F, k, tk⟩ := e
  refine ⟨C, fI, fd, ps, ⟨⟨b, newId, initId, l, EB, k.h1⟩, ⟨⟨b, l, SF, k.h2⟩, k.h3, k.h4⟩, k.h5, k.h6, k.h7⟩, k.h8, k.h9, tk, hi F, F.binds hb, hp, PySem.W.mg_of KX G hn, hf, ?_, ?_⟩
  · intro s u ws _ hl
    obtain ⟨oc, od, kV, doc, pm, an, cdv, ct, osl, rfl, lk, hcd⟩ := F.ex
    exact .of_eq (hk kV doc pm an cdv ct u ws hl)
  · intro s u ws _ hl
    obtain ⟨oc, od, kV, doc, pm, an, cdv, ct, osl, rfl, lk, hcd⟩ := F.ex
    exact .of_eq (hks kV doc pm an cdv ct u ws hl)
end
end Lb
/-! What is asked of all exception classes, in words that kernel_rfl closes. -/
namespace Lb
open PySem PySem.Spec PyProof.Rows L2
def clsB (K : PySem.W.Frag) (k : Str) (p : Addr → Bool) : Bool := match PySem.W.nsIn K mainGlobals k with
  | some (some (.ref C)) => p C
  | _ => false
theorem clsB_of {K : PySem.W.Frag} {h : Heap} {mg : Mg} {k : Str} {p : Addr → Bool} {C : Addr} (KX : K.In h) (G : h.Ns mainGlobals mg) (e : clsB K k p = true) (hm : mg k = some (.ref C)) : p C = true := by
  unfold clsB at e
  split at e
  · rename_i C' hn
    have := PySem.W.mg_of KX G hn
    rw [hm] at this
    cases this
    exact e
  · cases e
def excCB (K : PySem.W.Frag) (D : Addr) : Bool :=
  decide (PySem.W.findIn K (.ref D) "__getattribute__" = some (some (.builtin "BaseException.__getattribute__"))) && (decide (PySem.W.findIn K (.ref D) "__getattr__" = some none) && (decide (PySem.W.subIn K (.ref D) (.type "BaseException") = some true) &&
  (PySem.W.hasDictIn K D && (decide (PySem.W.findIn K (.ref D) "__class__" = some (some (.builtin "object.__class__"))) && (decide (PySem.W.specialIn K (.builtin "object.__class__") "__get__" = some (some (.builtin "getset_descriptor.__get__"))) &&
  (decide (PySem.W.takesIn K (.builtin "object.__class__") = some true) && decide (PySem.W.mroIn K D (.type "object") = some true)))))))
theorem excCB_ok {K : PySem.W.Frag} {D : Addr} (h : excCB K D = true) : ExcC K D := by
  simp only [excCB, Bool.and_eq_true, decide_eq_true_eq] at h
  obtain ⟨h1, h2, h3, h4, h5, h6, h7, h8⟩ := h
  exact ⟨h1, h2, h3, h4, h5, h6, h7, h8⟩
def isOwnB (K : PySem.W.Frag) (tab : List Str) (c : Str) (sub : Str → Bool) : Bool := clsB K c fun D => tab.all fun k => clsB K k fun C => excCB K C && decide (PySem.W.kitOne K (.ref C) (.ref D) = some (sub k))
def isBltB (K : PySem.W.Frag) (tab : List Str) (n : String) (sub : Str → Bool) : Bool := tab.all fun k => clsB K k fun C => excCB K C && decide (PySem.W.kitOne K (.ref C) (.type n) = some (sub k))
def caB (K : PySem.W.Frag) (tab : List Str) (c : Str) (l : List Str) : Bool := clsB K c fun D => tab.all fun k => clsB K k fun C => decide (PySem.W.exmOne K (.ref C) (.ref D) = some (l.contains k))
def fdB (K : PySem.W.Frag) (tab : List Str) (n : Str) : Bool := tab.all fun k => clsB K k fun C => xfB K C && decide (PySem.W.findIn K (.ref C) n = some none)
section
variable {K : PySem.W.Frag} {h : Heap} {mg : Mg} {tab : List Str} {c : Str} {sub : Str → Bool}
theorem isa_own (KX : K.In h) (G : h.Ns mainGlobals mg) (e : isOwnB K tab c sub = true) : IsA K mg tab c sub := by
  have e0 := e
  unfold isOwnB clsB at e0
  split at e0
  · rename_i D hn
    refine ⟨.ref D, .ref D, .own D, rfl, .inl (PySem.W.mg_of KX G hn), fun k hk C hm => ?_⟩
    have := clsB_of KX G (List.all_eq_true.mp e0 k hk) hm
    rw [Bool.and_eq_true, decide_eq_true_eq] at this
    exact ⟨excCB_ok this.1, this.2⟩
  · cases e0
theorem isa_blt {n : String} (KX : K.In h) (G : h.Ns mainGlobals mg) (e : isBltB K tab n sub = true) (hn : PySem.W.nsIn K mainGlobals c = some none) (hb : bootBuiltins c = some (.type n)) (hc : c ≠ "__name__" := by decide) : IsA K mg tab c sub :=
  ⟨.ty n, .type n, .ty n, rfl, .inr ⟨PySem.W.mg_none_of KX G hn, hb, hc⟩, fun k hk C hm => by
    have := clsB_of KX G (List.all_eq_true.mp e k hk) hm
    rw [Bool.and_eq_true, decide_eq_true_eq] at this
    exact ⟨excCB_ok this.1, this.2⟩⟩
theorem ca_of {l : List Str} (KX : K.In h) (G : h.Ns mainGlobals mg) (e : caB K tab c l = true) : CaA K mg c (subIn' tab l) := by
  unfold caB clsB at e
  split at e
  · rename_i D hn
    refine ⟨D, PySem.W.mg_of KX G hn, fun k C b hm hs => ?_⟩
    unfold subIn' at hs
    split at hs
    · rename_i hk
      cases hs
      exact of_decide_eq_true (clsB_of KX G (List.all_eq_true.mp e k (by simpa using hk)) hm)
    · cases hs
  · cases e
theorem fd_of {n : Str} (KX : K.In h) (G : h.Ns mainGlobals mg) (e : fdB K tab n = true) : FdA K mg tab n := ⟨fun k hk C hm => by
  have := clsB_of KX G (List.all_eq_true.mp e k hk) hm
  rw [Bool.and_eq_true, decide_eq_true_eq] at this
  exact ⟨xfB_ok this.1, this.2⟩⟩
theorem defk_none (KX : K.In h) (G : h.Ns mainGlobals mg) (e : PySem.W.nsIn K mainGlobals c = some none) : mg c = none := PySem.W.mg_none_of KX G e
end
end Lb
/-! The head by one kernel run: a Hook that looks at the defs of a program and at one more truth. -/
namespace Lb
open PySem PySem.Spec PyProof.Rows L2
/-! ### the part, its spine and its addresses worked out once -/
def frcK {α : Type} : PySem.W.Frag → (PySem.W.Frag → α) → α
  | [], k => k []
  | (a, o) :: r, k => HandSHeadRun.frNat a fun a' => frcK r fun r' => k ((a', o) :: r')
theorem frcK_eq {α : Type} : ∀ (K : PySem.W.Frag) (k : PySem.W.Frag → α), frcK K k = k K
  | [], k => rfl
  | (a, o) :: r, k => by
    show HandSHeadRun.frNat a (fun a' => frcK r fun r' => k ((a', o) :: r')) = _
    rw [HandSHeadRun.frNat_eq, frcK_eq r]
/-! ### one def -/
def defOkH (K : PySem.W.Frag) (d : He.FnD) : Bool := (He.Fa.glo d.at_.1).ok K && ((He.Fa.code d.at_ d.qual).ok K && PySem.W.keepIn K (.ref (He.fAd K d.at_)))
abbrev AlH : Type := Bool × List He.FnV
def obsH (b : PySem.W.Frag → Bool) (fn : List He.FnD) (K : PySem.W.Frag) : AlH := (b K && fn.all fun d => defOkH K d, fn.map fun d => He.fnObs K d.at_)
def valH (fn : List He.FnD) : AlH := (true, fn.map He.FnD.val)
def SaysH (b : PySem.W.Frag → Bool) (fn : List He.FnD) (K : PySem.W.Frag) : Prop := obsH b fn K = valH fn
def obsHG (n : List Addr) (b : PySem.W.Frag → Bool) (fn : List He.FnD) (g : Addr → Option Obj) : AlH := obsH b fn (He.frG g n)
def obsHF (n : List Addr) (b : PySem.W.Frag → Bool) (fn : List He.FnD) (g : Addr → Option Obj) : AlH := frcK (He.frG g n) fun K => obsH b fn K
/-- the objects at the addresses n -/
def hookH (n : List Addr) (b : PySem.W.Frag → Bool) (fn : List He.FnD) : PySem.W.Hook where
  α := AlH
  obs := fun s => obsHG n b fn s.heap.get?
  val := fun _ => valH fn
  says := fun _ h => ∃ K : PySem.W.Frag, K.In h ∧ SaysH b fn K
  of := fun _ _ e => ⟨_, He.frG_in, e⟩
  keeps := fun _ _ _ ⟨K, hK, c⟩ k => ⟨K, PySem.W.Frag.In.keeps hK k, c⟩
theorem obsHF_eq {n : List Addr} {b : PySem.W.Frag → Bool} {fn : List He.FnD} {g : Addr → Option Obj} {s : Shared} (h : ∀ a, g a = s.heap.get? a) : obsHF n b fn g = (hookH n b fn).obs s := by
  have e : g = s.heap.get? := funext h
  unfold obsHF
  rw [frcK_eq, e] <;> rfl
section
variable {b : PySem.W.Frag → Bool} {fn : List He.FnD} {K : PySem.W.Frag}
theorem SaysH.truth (c : SaysH b fn K) : b K = true := (He.ba (show (b K && fn.all fun d => defOkH K d) = true from congrArg (fun z : AlH => z.1) c)).1
theorem SaysH.fn_ (c : SaysH b fn K) (i : Nat) {d : He.FnD} (h : fn[i]? = some d := by rfl) : (He.Fa.glo d.at_.1).ok K = true ∧ PySem.W.keepIn K (.ref (He.fAd K d.at_)) = true ∧
    ∃ oc od osl kV doc pm an cdv ct, K.lookup (He.fAd K d.at_) = some ⟨oc, od, .func (PySem.W.fnOf d.name d.qual d.params d.body d.scope .none kV doc pm an cdv ct), osl⟩ ∧ PySem.W.codeIn K cdv d.qual = true := by
  have c2 := (He.ba (show (b K && fn.all fun d => defOkH K d) = true from congrArg (fun z : AlH => z.1) c)).2
  have e : fn.map (fun d => He.fnObs K d.at_) = fn.map He.FnD.val := congrArg (fun z : AlH => z.2) c
  have e2 : (fn.map fun d => He.fnObs K d.at_)[i]? = (fn.map He.FnD.val)[i]? := by rw [e]
  rw [List.getElem?_map, List.getElem?_map, h] at e2
  have c3 := List.all_eq_true.mp c2 d (List.mem_of_getElem? h)
  obtain ⟨g, c4⟩ := He.ba c3
  obtain ⟨q, k⟩ := He.ba c4
  exact ⟨g, k, He.fn_ok (Option.some.inj e2) q⟩
/-- the def at a statement -/
def fnD (x : Str) (m : Option Str) (name qual : Str) (st : Stmt) : He.FnD := ⟨(x, m), name, qual, defArgs st, defBody st, defScope st⟩
theorem SaysH.defk (c : SaysH b fn K) (i : Nat) {x : Str} {st : Stmt} (h : fn[i]? = some (fnD x none x x st) := by rfl) : DefK K x st := by
  obtain ⟨g, k, oc, od, osl, kV, doc, pm, an, cdv, ct, l, q⟩ := c.fn_ i h
  exact ⟨_, _, He.eqO_ok g, L2.fun_mk l q k⟩
/-! ### an own exception class -/
def excB (K : PySem.W.Frag) (x : Str) (newId : String) (l : List Value) (fs : List Str) : Bool :=
  PySem.W.excInitIn K (He.ga K x) l newId && (PySem.W.excOver K (He.ga K x) l && (PySem.W.hasDictIn K (He.ga K x) && (He.eqO (PySem.W.findIn K (.ref (He.ga K x)) "__setattr__") (some (some (.builtin "object.__setattr__"))) &&
  (PySem.W.keepIn K (.ref (He.ga K x)) && (He.eqO (PySem.W.findIn K (.ref (He.ga K x)) "__init__") (some (some (.ref (He.ma K (He.ga K x) "__init__")))) && (decide (PySem.W.typeIn K (.ref (He.ma K (He.ga K x) "__init__")) = some (.type "function")) &&
  (decide (PySem.W.subIn K (.ref (He.ga K x)) (.type "BaseException") = some true) && (decide (PySem.W.typeIn K (.ref (He.ga K x)) = some (.type "type")) && fs.all fun f => He.eqO (PySem.W.takerIn K (He.ga K x) f) (some none)))))))))
theorem SaysH.exck (c : SaysH b fn K) (i : Nat) {x qual : Str} {st : Stmt} {newId : String} {l : List Value} {fs : List Str} (e : excB K x newId l fs = true) (h : fn[i]? = some (fnD x (some "__init__") "__init__" qual st) := by rfl) : ExcK K x qual st newId l fs := by
  obtain ⟨g, k, oc, od, osl, kV, doc, pm, an, cdv, ct, q1, q2⟩ := c.fn_ i h
  obtain ⟨h1, e⟩ := He.ba e
  obtain ⟨h2, e⟩ := He.ba e
  obtain ⟨h3, e⟩ := He.ba e
  obtain ⟨h4, e⟩ := He.ba e
  obtain ⟨h5, e⟩ := He.ba e
  obtain ⟨h6, e⟩ := He.ba e
  obtain ⟨h7, e⟩ := He.ba e
  obtain ⟨h8, e⟩ := He.ba e
  obtain ⟨h9, e⟩ := He.ba e
  refine ⟨_, _, _, He.eqO_ok g, L2.fun_mk q1 q2 k, ⟨h1, h2, h3, He.eqO_ok h4, h5, He.eqO_ok h6, of_decide_eq_true h7, of_decide_eq_true h8, of_decide_eq_true h9⟩, fun f hf => ?_⟩
  exact He.eqO_ok (List.all_eq_true.mp e f hf)
end
/-! ### isinstance: the classes' own looks once for all -/
def excAllB (K : PySem.W.Frag) (tab : List Str) : Bool := tab.all fun k => clsB K k fun C => excCB K C
def kitOwnB (K : PySem.W.Frag) (tab : List Str) (c : Str) (sub : Str → Bool) : Bool := clsB K c fun D => tab.all fun k => clsB K k fun C => decide (PySem.W.kitOne K (.ref C) (.ref D) = some (sub k))
def kitBltB (K : PySem.W.Frag) (tab : List Str) (n : String) (sub : Str → Bool) : Bool := tab.all fun k => clsB K k fun C => decide (PySem.W.kitOne K (.ref C) (.type n) = some (sub k))
theorem clsB_and {K : PySem.W.Frag} {k : Str} {p q : Addr → Bool} (h1 : clsB K k p = true) (h2 : clsB K k q = true) : (clsB K k fun C => p C && q C) = true := by
  unfold clsB at h1 h2 ⊢
  split at h1
  · rename_i C hC
    rw [hC] at h2
    exact Bool.and_eq_true_iff.mpr ⟨h1, h2⟩
  · cases h1
theorem clsB_imp {K : PySem.W.Frag} {k : Str} {p q : Addr → Bool} (h1 : clsB K k p = true) (h2 : ∀ C, p C = true → q C = true) : clsB K k q = true := by
  unfold clsB at h1 ⊢
  split at h1
  · exact h2 _ h1
  · cases h1
theorem isOwnB_of {K : PySem.W.Frag} {tab : List Str} {c : Str} {sub : Str → Bool} (h1 : excAllB K tab = true) (h2 : kitOwnB K tab c sub = true) : isOwnB K tab c sub = true := by
  exact clsB_imp h2 fun D hD => List.all_eq_true.mpr fun k hk => clsB_and (List.all_eq_true.mp h1 k hk) (List.all_eq_true.mp hD k hk)
theorem isBltB_of {K : PySem.W.Frag} {tab : List Str} {n : String} {sub : Str → Bool} (h1 : excAllB K tab = true) (h2 : kitBltB K tab n sub = true) : isBltB K tab n sub = true :=
  List.all_eq_true.mpr fun k hk => clsB_and (List.all_eq_true.mp h1 k hk) (List.all_eq_true.mp h2 k hk)
/-! ### one truth out of a row of them -/
theorem all_at {l : List Bool} (h : (l.all fun z => z) = true) (i : Nat) {z : Bool} (e : l[i]? = some z) : z = true := List.all_eq_true.mp h z (List.mem_of_getElem? e)
/-! ### the run's equation in parts -/
theorem obsHF_and {n : List Addr} {b1 b2 : PySem.W.Frag → Bool} {f1 f2 : List He.FnD} {g : Addr → Option Obj} (h1 : obsHF n b1 f1 g = valH f1) (h2 : obsHF n b2 f2 g = valH f2) : obsHF n (fun K => b1 K && b2 K) (f1 ++ f2) g = valH (f1 ++ f2) := by
  unfold obsHF at *
  rw [frcK_eq] at *
  unfold obsH valH at *
  simp only [Prod.mk.injEq, Bool.and_eq_true] at h1 h2
  simp only [Prod.mk.injEq, Bool.and_eq_true, List.all_append, List.map_append]
  exact ⟨⟨⟨h1.1.1, h2.1.1⟩, h1.1.2, h2.1.2⟩, by rw [h1.2, h2.2]⟩
/-- two looks at one run are one -/
theorem run_and {α : Type} {n : List Addr} {b1 b2 : PySem.W.Frag → Bool} {f1 f2 : List He.FnD} {x : Option α} {g : α → Addr → Option Obj} (h1 : x.map (fun s => obsHF n b1 f1 (g s)) = some (valH f1)) (h2 : x.map (fun s => obsHF n b2 f2 (g s)) = some (valH f2)) :
    x.map (fun s => obsHF n (fun K => b1 K && b2 K) (f1 ++ f2) (g s)) = some (valH (f1 ++ f2)) := by
  cases x with
  | none => cases h1
  | some a => exact congrArg some (obsHF_and (Option.some.inj h1) (Option.some.inj h2))
theorem run_join {α β γ δ : Type} {x : Option α} {f : α → β} {g : α → γ} {h : α → δ} {b : β} {c : γ} {d : δ} (h1 : x.map (fun s => (f s, g s)) = some (b, c)) (h2 : x.map h = some d) : x.map (fun s => (f s, g s, h s)) = some (b, c, d) := by
  cases x with
  | none => cases h1
  | some a =>
    have e1 : (f a, g a) = (b, c) := Option.some.inj h1
    have e2 : h a = d := Option.some.inj h2
    show some (f a, g a, h a) = _
    cases e1
    rw [e2]
/-! ### from the law's def to the statement -/
theorem walkH {l : PySem.W.OpenLaw} {q : Program} {loose : List Str} {XP : (Str → Option Value) → Heap → Prop} {d : DefRec} {k : Nat} {n : List Addr} {b : PySem.W.Frag → Bool} {fn : List He.FnD} {x : Str} {f : FSem}
    (hn : l.most = some 63) (hdf : d.params.defaults = []) (hi : importsNone q = true) (hr : Room k callerA) (hnl : ∀ K : PySem.W.Frag, SaysH b fn K → noLst K = true)
    (F : ∀ (w : World) (mg : Str → Option Value) (fa : Addr) (h : Heap) (K : PySem.W.Frag), K.In h → SaysH b fn K → h.Ns mainGlobals mg → mg d.name = some (.ref fa) →
      ∃ fd : FuncData, (∀ (s : Shared) (u : Value), BindsTo s fd ⟨[u], []⟩ [(x, u)]) ∧ ∀ base : Heap, K.In base → base.Ns mainGlobals mg → (∃ o, base.get? sysModules = some o) →
        FnG l.prog w K mg base (L2.CX l.prog w) k fa fd [x] (spM mg f 1))
    (hf : ∀ ns : List Int, ns.length ≤ 63 → ∃ outs, f [.v (.scr ns)] = .ret (.v (.bl true)) outs) :
    PySem.W.WalkO q loose XP (hookH n b fn).says l.row.toRowW d [] (fun f vs => PySem.call f vs) := by
  refine Att.attach_callB hn hdf fun w s₀ s₁ mg mb fa o pm cd doc a vs ns G Y ho hd hcd hmg hobj hints hlen hbits hg => ?_
  obtain ⟨K, KX, Y⟩ := Y
  obtain ⟨fd, hb, hF⟩ := F w mg fa _ K KX Y G.T.g hmg
  have hsm : ∃ m, s₁.heap.Ns sysModules m := (G.T.seer hi).mods.imp fun m z => z.1
  refine top_call KX G.T.g G.T.b G.T.builtins G.T.nolimit hg hsm hobj hints (Nat.le_trans hlen (by decide)) hr hF hb (fun H hO hS => ?_) (fun H e s' hx => ?_) ?_
  · obtain ⟨outs, e⟩ := hf ns hlen
    refine ⟨rfl, H, [.v (.scr ns)], ⟨.refl H, rfl, fun i r hi => ?_, fun i j c hi hj => ?_⟩, fun r hr hw => ?_, ?_⟩
    · cases i with
      | zero => cases hi; exact ⟨.ref a, rfl, .v (.scr hS)⟩
      | succ i => cases hi
    · obtain ⟨⟨r, e1, h1⟩, _⟩ := hi
      cases i with
      | zero => cases e1; cases h1
      | succ i => cases e1
    · rcases List.mem_singleton.mp hr with rfl
      cases hw
    · rw [e]
      intro v B' H' cp rv _ _
      cases rv with
      | v r => cases r; rfl
  · obtain ⟨_, _, _, _, _, _, _, _, _, _, _, _, z⟩ := hx
    exact z.elim
  · cases e : K.lookup a with
    | none => rfl
    | some o' =>
      have y := KX a o' e
      rw [hobj] at y
      cases y
      exact (noLst_at (hnl K Y) e rfl).elim
end Lb
namespace Law
open PySem PySem.Spec PyProof.Rows L2 Lb
def top (i : Nat) : Stmt := PySem.Challenge.pw_loosebeats_k17_errors_by_families.main.body.getD i (.Pass ⟨0, 0, 0, 0⟩)
theorem room200 {A : Around} {k : Nat} (h : Room k A) : A.units + 200 < cLine := by have := h.un; omega
def tabE : List Str := [("InvalidIns" : Str), ("InvalidOuts" : Str), ("InvalidStandings" : Str), ("InvalidReactions" : Str), ("InvalidReaction" : Str), ("InvalidNames" : Str), ("InvalidNumber" : Str), ("InvalidStanding" : Str), ("InvalidStreams" : Str), ("InvalidRun" : Str), ("InvalidArrivals" : Str), ("InvalidRule" : Str), ("InvalidLine" : Str), ("InvalidLines" : Str), ("InvalidFlows" : Str), ("InvalidSizes" : Str), ("InvalidRooms" : Str), ("InvalidCount" : Str), ("InvalidCounts" : Str), ("InvalidText" : Str), ("InvalidClaim" : Str), ("InvalidCommand" : Str), ("NoSuch" : Str), ("SharedLine" : Str), ("OtherLines" : Str), ("NotAgreeing" : Str), ("NotReached" : Str), ("NotAlike" : Str), ("NotSmooth" : Str), ("Noticed" : Str), ("NoStore" : Str), ("CannotBeDone" : Str), ("NothingToUndo" : Str), ("CommandFailed" : Str), ("TooMany" : Str)]
structure Bt (mg : Mg) : Prop where
  divmod_ : mg "divmod" = none
  int_ : mg "int" = none
  max_ : mg "max" = none
  min_ : mg "min" = none
  abs_ : mg "abs" = none
  len_ : mg "len" = none
  any_ : mg "any" = none
  all_ : mg "all" = none
  repr_ : mg "repr" = none
  isinstance_ : mg "isinstance" = none
  range_ : mg "range" = none
  enumerate_ : mg "enumerate" = none
  zip_ : mg "zip" = none
def tabF_limit : List Str := [("TooMany" : Str)]
def tabF_line : List Str := [("InvalidText" : Str)]
def tabF_one : List Str := [("OtherLines" : Str), ("NotAgreeing" : Str)]
def tabF_other : List Str := [("OtherLines" : Str), ("NotAgreeing" : Str)]
def tabF_position : List Str := [("InvalidIns" : Str), ("InvalidOuts" : Str), ("InvalidReactions" : Str), ("InvalidRun" : Str), ("InvalidArrivals" : Str), ("InvalidLines" : Str), ("CommandFailed" : Str)]
def tabF_value : List Str := [("InvalidStandings" : Str), ("InvalidReaction" : Str), ("InvalidNames" : Str), ("InvalidNumber" : Str), ("InvalidStanding" : Str), ("InvalidStreams" : Str), ("InvalidRule" : Str), ("InvalidLine" : Str), ("InvalidFlows" : Str), ("InvalidSizes" : Str), ("InvalidRooms" : Str), ("InvalidCount" : Str), ("InvalidCounts" : Str), ("InvalidClaim" : Str), ("InvalidCommand" : Str), ("NoSuch" : Str), ("SharedLine" : Str), ("NotReached" : Str), ("Noticed" : Str), ("CannotBeDone" : Str)]
def tabF_what : List Str := [("TooMany" : Str)]
def tabF_which : List Str := [("NotAlike" : Str)]
def sub_ArithmeticError : Str → Bool := subOf [("TooMany" : Str)]
def sub_BeatError : Str → Bool := subOf [("InvalidIns" : Str), ("InvalidOuts" : Str), ("InvalidStandings" : Str), ("InvalidReactions" : Str), ("InvalidReaction" : Str), ("InvalidNames" : Str), ("InvalidNumber" : Str), ("InvalidStanding" : Str), ("InvalidStreams" : Str), ("InvalidRun" : Str), ("InvalidArrivals" : Str), ("InvalidRule" : Str), ("InvalidLine" : Str), ("InvalidLines" : Str), ("InvalidFlows" : Str), ("InvalidSizes" : Str), ("InvalidRooms" : Str), ("InvalidCount" : Str), ("InvalidCounts" : Str), ("InvalidText" : Str), ("InvalidClaim" : Str), ("InvalidCommand" : Str)]
def sub_CannotBeDone : Str → Bool := subOf [("CannotBeDone" : Str)]
def sub_CommandFailed : Str → Bool := subOf [("CommandFailed" : Str)]
def sub_InvalidArrivals : Str → Bool := subOf [("InvalidArrivals" : Str)]
def sub_InvalidClaim : Str → Bool := subOf [("InvalidClaim" : Str)]
def sub_InvalidCommand : Str → Bool := subOf [("InvalidCommand" : Str)]
def sub_InvalidCount : Str → Bool := subOf [("InvalidCount" : Str)]
def sub_InvalidCounts : Str → Bool := subOf [("InvalidCounts" : Str)]
def sub_InvalidFlows : Str → Bool := subOf [("InvalidFlows" : Str)]
def sub_InvalidIns : Str → Bool := subOf [("InvalidIns" : Str)]
def sub_InvalidLine : Str → Bool := subOf [("InvalidLine" : Str)]
def sub_InvalidLines : Str → Bool := subOf [("InvalidLines" : Str)]
def sub_InvalidNames : Str → Bool := subOf [("InvalidNames" : Str)]
def sub_InvalidNumber : Str → Bool := subOf [("InvalidNumber" : Str)]
def sub_InvalidOuts : Str → Bool := subOf [("InvalidOuts" : Str)]
def sub_InvalidReaction : Str → Bool := subOf [("InvalidReaction" : Str)]
def sub_InvalidReactions : Str → Bool := subOf [("InvalidReactions" : Str)]
def sub_InvalidRooms : Str → Bool := subOf [("InvalidRooms" : Str)]
def sub_InvalidRule : Str → Bool := subOf [("InvalidRule" : Str)]
def sub_InvalidRun : Str → Bool := subOf [("InvalidRun" : Str)]
def sub_InvalidSizes : Str → Bool := subOf [("InvalidSizes" : Str)]
def sub_InvalidStanding : Str → Bool := subOf [("InvalidStanding" : Str)]
def sub_InvalidStandings : Str → Bool := subOf [("InvalidStandings" : Str)]
def sub_InvalidStreams : Str → Bool := subOf [("InvalidStreams" : Str)]
def sub_InvalidText : Str → Bool := subOf [("InvalidText" : Str)]
def sub_LimitError : Str → Bool := subOf [("TooMany" : Str)]
def sub_LookupError : Str → Bool := subOf [("NoSuch" : Str)]
def sub_MissingError : Str → Bool := subOf [("NoSuch" : Str)]
def sub_NoStore : Str → Bool := subOf [("NoStore" : Str)]
def sub_NoSuch : Str → Bool := subOf [("NoSuch" : Str)]
def sub_NotAgreeing : Str → Bool := subOf [("NotAgreeing" : Str)]
def sub_NotAlike : Str → Bool := subOf [("NotAlike" : Str)]
def sub_NotReached : Str → Bool := subOf [("NotReached" : Str)]
def sub_NotSmooth : Str → Bool := subOf [("NotSmooth" : Str)]
def sub_NothingToUndo : Str → Bool := subOf [("NothingToUndo" : Str)]
def sub_Noticed : Str → Bool := subOf [("Noticed" : Str)]
def sub_OtherLines : Str → Bool := subOf [("OtherLines" : Str)]
def sub_RuntimeError : Str → Bool := subOf [("SharedLine" : Str), ("OtherLines" : Str), ("NotAgreeing" : Str), ("NotReached" : Str), ("NotAlike" : Str), ("NotSmooth" : Str), ("Noticed" : Str), ("NoStore" : Str), ("CannotBeDone" : Str), ("NothingToUndo" : Str), ("CommandFailed" : Str)]
def sub_SharedLine : Str → Bool := subOf [("SharedLine" : Str)]
def sub_StateError : Str → Bool := subOf [("SharedLine" : Str), ("OtherLines" : Str), ("NotAgreeing" : Str), ("NotReached" : Str), ("NotAlike" : Str), ("NotSmooth" : Str), ("Noticed" : Str), ("NoStore" : Str), ("CannotBeDone" : Str), ("NothingToUndo" : Str), ("CommandFailed" : Str)]
def sub_TooMany : Str → Bool := subOf [("TooMany" : Str)]
def sub_ValueError : Str → Bool := subOf [("InvalidIns" : Str), ("InvalidOuts" : Str), ("InvalidStandings" : Str), ("InvalidReactions" : Str), ("InvalidReaction" : Str), ("InvalidNames" : Str), ("InvalidNumber" : Str), ("InvalidStanding" : Str), ("InvalidStreams" : Str), ("InvalidRun" : Str), ("InvalidArrivals" : Str), ("InvalidRule" : Str), ("InvalidLine" : Str), ("InvalidLines" : Str), ("InvalidFlows" : Str), ("InvalidSizes" : Str), ("InvalidRooms" : Str), ("InvalidCount" : Str), ("InvalidCounts" : Str), ("InvalidText" : Str), ("InvalidClaim" : Str), ("InvalidCommand" : Str)]
def ca_InvalidReaction_sub : Str → Option Bool := subIn' tabE [("InvalidReaction" : Str)]
def ca_InvalidReactions_sub : Str → Option Bool := subIn' tabE [("InvalidReactions" : Str)]
def ca_InvalidStanding_sub : Str → Option Bool := subIn' tabE [("InvalidStanding" : Str)]
def ca_InvalidStandings_sub : Str → Option Bool := subIn' tabE [("InvalidStandings" : Str)]
def ca_LimitError_sub : Str → Option Bool := subIn' tabE [("TooMany" : Str)]
def ca_MissingError_sub : Str → Option Bool := subIn' tabE [("NoSuch" : Str)]
def ca_NotSmooth_sub : Str → Option Bool := subIn' tabE [("NotSmooth" : Str)]
def ca_StateError_sub : Str → Option Bool := subIn' tabE [("SharedLine" : Str), ("OtherLines" : Str), ("NotAgreeing" : Str), ("NotReached" : Str), ("NotAlike" : Str), ("NotSmooth" : Str), ("Noticed" : Str), ("NoStore" : Str), ("CannotBeDone" : Str), ("NothingToUndo" : Str), ("CommandFailed" : Str)]
section
variable {P : Program} {w : World} {K : PySem.W.Frag} {mg : Mg} {base : Heap}
def s_law_pot : Stmt := top 41
theorem sc_law_pot : FnScope ["_law_script", "_law_k", "_law_cell"] ["_law_script", "_law_k"] (defScope s_law_pot) := ⟨rfl, rfl, rfl, by decide +kernel, rfl, by decide +kernel, by decide +kernel⟩
def m_law_pot : SM :=
  (SM.seq (M.thn (M.bind (M.bind (getSl 1) fun x => M.bind (M.bind (M.bind (getSl 0) fun o => M.bind (M.pure []) fun os => M.pure (o :: os)) (opN fLen)) fun y => cmpB fLt x y) fun k => if k then (M.bind (M.bind (M.bind (getSl 0) fun x => M.bind (getSl 1) fun y => op2 fIx x y) fun o => M.bind (M.pure []) fun os => M.pure (o :: os)) (opN fAbs)) else (M.bind (M.bind (kst (.int 61)) fun x => M.bind (getSl 1) fun y => op2 fMulB x y) fun x => M.bind (kst (.int 29)) fun y => op2 fAdd x y)) (setSl 2))
    (SM.seq (M.thn (M.bind (M.bind (M.bind (M.bind (M.bind (kst (.int 0)) fun o => M.bind (M.bind (M.bind (getSl 2) fun x => M.bind (M.bind (kst (.int 10)) fun x => M.bind (kst (.int 18)) fun y => op2 fPow x y) fun y => op2 fSub x y) fun o => M.bind (M.pure []) fun os => M.pure (o :: os)) fun os => M.pure (o :: os)) (opN fMax)) frz) fun o => M.bind (M.bind (M.bind (M.bind (M.bind (M.bind (M.bind (M.bind (M.bind (M.bind (M.bind (M.bind (M.bind (getSl 2) fun o => M.bind (M.pure []) fun os => M.pure (o :: os)) (opN fInt)) fun x => M.bind (kst (.int 2147483579)) fun y => op2 fMod x y) fun x => M.bind (kst (.int 48271)) fun y => op2 fMulB x y) fun x => M.bind (M.bind (kst (.int 60107)) fun x => M.bind (getSl 1) fun y => op2 fMulB x y) fun y => op2 fAdd x y) fun x => M.bind (kst (.int 59)) fun y => op2 fAdd x y) fun o => M.bind (M.pure []) fun os => M.pure (o :: os)) (opN fInt)) fun x => M.bind (kst (.int 2147483563)) fun y => op2 fMod x y) fun x => M.bind (kst (.int 1)) fun y => op2 fAdd x y) frz) fun o => M.bind (M.pure []) fun os => M.pure (o :: os)) fun os => M.pure (o :: os)) mkL) fun o S => .rt o S)
    SM.nil))
def f_law_pot : FSem := runDef m_law_pot 3
theorem b_law_pot {f : Addr} (T : Bt mg)  (cdv : Value) (A : Around) (outer : List Env) (s : Shared) (H : Hp) (E : XK) (hr : Room 0 (A.deeper (envOfC "_law_pot" (defScope s_law_pot) s.heap.objs.size f cdv))) (hgd : A.guards = some []) :
    SXs (cxOf (L2.CX P w) P w K mg base ["_law_script", "_law_k", "_law_cell"] "_law_pot" (defScope s_law_pot) f cdv A outer s H E) (defBody s_law_pot) m_law_pot :=
  (sxs_cons (sx_set 2 sc_law_pot.nd rfl (by first | exact Or.inl rfl | exact Or.inr rfl) (px_ifE (bx_cmp op_lt prim_lt (px_var 1) (px_callB call_lenA prim_len (by rfl) T.len_ (by decide +kernel) (oxs_cons (px_var 0) oxs_nil)) (nomark _)) (px_callB call_abs prim_abs (by rfl) T.abs_ (by decide +kernel) (oxs_cons (px_ix (px_var 0) (px_var 1)) oxs_nil)) (px_op2 op_addA prim_add (px_op2 op_mulB prim_mulB px_int (px_var 1)) px_int)))
    (sxs_cons (sx_ret (px_lst (fxs_cons (fx_of (px_callB (call_max2 rfl) prim_max (by rfl) T.max_ (by decide +kernel) (oxs_cons px_int (oxs_cons (px_op2 op_sub prim_sub (px_var 2) (px_op2 op_pow prim_pow px_int px_int)) oxs_nil)))) (fxs_cons (fx_of (px_op2 op_addA prim_add (px_op2 op_mod prim_mod (px_callTy call_int1 prim_int (by rfl) T.int_ (by decide +kernel) (oxs_cons (px_op2 op_addA prim_add (px_op2 op_addA prim_add (px_op2 op_mulB prim_mulB (px_op2 op_mod prim_mod (px_callTy call_int1 prim_int (by rfl) T.int_ (by decide +kernel) (oxs_cons (px_var 2) oxs_nil)) px_int) px_int) (px_op2 op_mulB prim_mulB px_int (px_var 1))) px_int) oxs_nil)) px_int) px_int)) fxs_nil))))
    sxs_nil))
def s_law_draw : Stmt := top 42
theorem sc_law_draw : FnScope ["_law_pot_here", "_law_many", "_law_digit"] ["_law_pot_here", "_law_many"] (defScope s_law_draw) := ⟨rfl, rfl, rfl, by decide +kernel, rfl, by decide +kernel, by decide +kernel⟩
def m_law_draw : SM :=
  (SM.seq (M.thn (M.bind (M.bind (getSl 0) fun x => M.bind (kst (.int 0)) fun y => op2 fIx x y) fun x => M.bind (kst (.int 0)) fun y => cmpB fGt x y) fun b => if b then (SM.seq (M.thn (M.bind (M.bind (M.bind (M.bind (getSl 0) fun x => M.bind (kst (.int 0)) fun y => op2 fIx x y) fun o => M.bind (M.bind (getSl 1) fun o => M.bind (M.pure []) fun os => M.pure (o :: os)) fun os => M.pure (o :: os)) (opN fDivmod)) frz) (gSM (gTupM 2 (gConsM (storeAt 0 (kst (.int 0))) (gConsM (storeD 2) gNilM)))))
    (SM.seq (M.thn (getSl 2) fun o S => .rt o S)
    SM.nil)) else SM.nil)
    (SM.seq (M.thn (M.bind (M.bind (M.bind (M.bind (M.bind (M.bind (M.bind (getSl 0) fun x => M.bind (kst (.int 1)) fun y => op2 fIx x y) fun x => M.bind (kst (.int 39373)) fun y => op2 fMulB x y) fun x => M.bind (kst (.int 18793)) fun y => op2 fAdd x y) fun o => M.bind (M.pure []) fun os => M.pure (o :: os)) (opN fInt)) fun x => M.bind (kst (.int 2147483629)) fun y => op2 fMod x y) frz) (gSM (storeAt 0 (kst (.int 1)))))
    (SM.seq (M.thn (M.bind (M.bind (M.bind (M.bind (M.bind (M.bind (M.bind (M.bind (M.bind (getSl 0) fun x => M.bind (kst (.int 1)) fun y => op2 fIx x y) fun x => M.bind (M.bind (getSl 0) fun x => M.bind (kst (.int 1)) fun y => op2 fIx x y) fun y => op2 fMulB x y) fun o => M.bind (M.pure []) fun os => M.pure (o :: os)) (opN fInt)) fun x => M.bind (kst (.int 2147483549)) fun y => op2 fMod x y) fun x => M.bind (kst (.int 13)) fun y => op2 fDiv x y) fun o => M.bind (M.pure []) fun os => M.pure (o :: os)) (opN fInt)) fun x => M.bind (getSl 1) fun y => op2 fMod x y) fun o S => .rt o S)
    SM.nil)))
def f_law_draw : FSem := runDef m_law_draw 3
theorem b_law_draw {f : Addr} (T : Bt mg)  (cdv : Value) (A : Around) (outer : List Env) (s : Shared) (H : Hp) (E : XK) (hr : Room 0 (A.deeper (envOfC "_law_draw" (defScope s_law_draw) s.heap.objs.size f cdv))) (hgd : A.guards = some []) :
    SXs (cxOf (L2.CX P w) P w K mg base ["_law_pot_here", "_law_many", "_law_digit"] "_law_draw" (defScope s_law_draw) f cdv A outer s H E) (defBody s_law_draw) m_law_draw :=
  (sxs_cons (sx_if (bx_cmp op_gt prim_gt (px_ix (px_var 0) px_int) px_int (nomark _)) (sxs_cons (sx_asg (fx_of (px_callB call_divmod prim_divmod (by rfl) T.divmod_ (by decide +kernel) (oxs_cons (px_ix (px_var 0) px_int) (oxs_cons (px_var 1) oxs_nil)))) (gx_tup rfl (gxs_cons (gx_at 0 (px_var 0) px_int) (gxs_cons (gx_name 2 sc_law_draw.nd rfl (by first | exact Or.inl rfl | exact Or.inr rfl)) gxs_nil))))
    (sxs_cons (sx_ret (px_var 2))
    sxs_nil)) sxs_nil)
    (sxs_cons (sx_asg (fx_of (px_op2 op_mod prim_mod (px_callTy call_int1 prim_int (by rfl) T.int_ (by decide +kernel) (oxs_cons (px_op2 op_addA prim_add (px_op2 op_mulB prim_mulB (px_ix (px_var 0) px_int) px_int) px_int) oxs_nil)) px_int)) (gx_at 0 (px_var 0) px_int))
    (sxs_cons (sx_ret (px_op2 op_mod prim_mod (px_callTy call_int1 prim_int (by rfl) T.int_ (by decide +kernel) (oxs_cons (px_op2 op_fdiv prim_div (px_op2 op_mod prim_mod (px_callTy call_int1 prim_int (by rfl) T.int_ (by decide +kernel) (oxs_cons (px_op2 op_mulB prim_mulB (px_ix (px_var 0) px_int) (px_ix (px_var 0) px_int)) oxs_nil)) px_int) px_int) oxs_nil)) (px_var 1)))
    sxs_nil)))
def s_law_grounds : Stmt := top 44
theorem sc_law_grounds : FnScope ["_law_e", "_law_found"] ["_law_e"] (defScope s_law_grounds) := ⟨rfl, rfl, rfl, by decide +kernel, rfl, by decide +kernel, by decide +kernel⟩
def m_law_grounds : SM :=
  (SM.seq (M.thn (M.bind (M.bind (M.bind (M.bind (getSl 0) (isxM tabE sub_BeatError)) frz) fun o => M.bind (M.bind (M.bind (M.bind (getSl 0) (isxM tabE sub_MissingError)) frz) fun o => M.bind (M.bind (M.bind (M.bind (getSl 0) (isxM tabE sub_StateError)) frz) fun o => M.bind (M.pure []) fun os => M.pure (o :: os)) fun os => M.pure (o :: os)) fun os => M.pure (o :: os)) mkL) (setSl 1))
    (SM.seq (M.thn (M.bind (getSl 1) fun x => M.bind (M.bind (M.bind (M.bind (M.bind (getSl 0) (isxM tabE sub_LimitError)) frz) fun o => M.bind (M.bind (M.bind (M.bind (getSl 0) (isxM tabE sub_ValueError)) frz) fun o => M.bind (M.bind (M.bind (M.bind (getSl 0) (isxM tabE sub_LookupError)) frz) fun o => M.bind (M.pure []) fun os => M.pure (o :: os)) fun os => M.pure (o :: os)) fun os => M.pure (o :: os)) mkL) fun y => op2 fAdd x y) (setSl 1))
    (SM.seq (M.thn (M.bind (getSl 1) fun x => M.bind (M.bind (M.bind (M.bind (M.bind (getSl 0) (isxM tabE sub_RuntimeError)) frz) fun o => M.bind (M.bind (M.bind (M.bind (getSl 0) (isxM tabE sub_ArithmeticError)) frz) fun o => M.bind (M.pure []) fun os => M.pure (o :: os)) fun os => M.pure (o :: os)) mkL) fun y => op2 fAdd x y) fun o S => .rt o S)
    SM.nil)))
def f_law_grounds : FSem := runDef m_law_grounds 2
theorem b_law_grounds {f : Addr} (T : Bt mg) (is_ArithmeticError : IsA K mg tabE "ArithmeticError" sub_ArithmeticError) (is_BeatError : IsA K mg tabE "BeatError" sub_BeatError) (is_LimitError : IsA K mg tabE "LimitError" sub_LimitError) (is_LookupError : IsA K mg tabE "LookupError" sub_LookupError) (is_MissingError : IsA K mg tabE "MissingError" sub_MissingError) (is_RuntimeError : IsA K mg tabE "RuntimeError" sub_RuntimeError) (is_StateError : IsA K mg tabE "StateError" sub_StateError) (is_ValueError : IsA K mg tabE "ValueError" sub_ValueError) (cdv : Value) (A : Around) (outer : List Env) (s : Shared) (H : Hp) (E : XK) (hr : Room 0 (A.deeper (envOfC "_law_grounds" (defScope s_law_grounds) s.heap.objs.size f cdv))) (hgd : A.guards = some []) :
    SXs (cxOf (L2.CX P w) P w K mg base ["_law_e", "_law_found"] "_law_grounds" (defScope s_law_grounds) f cdv A outer s H E) (defBody s_law_grounds) m_law_grounds :=
  (sxs_cons (sx_set 1 sc_law_grounds.nd rfl (by first | exact Or.inl rfl | exact Or.inr rfl) (px_lst (fxs_cons (fx_of (px_isa is_BeatError T.isinstance_ (px_var 0))) (fxs_cons (fx_of (px_isa is_MissingError T.isinstance_ (px_var 0))) (fxs_cons (fx_of (px_isa is_StateError T.isinstance_ (px_var 0))) fxs_nil)))))
    (sxs_cons (sx_set 1 sc_law_grounds.nd rfl (by first | exact Or.inl rfl | exact Or.inr rfl) (px_op2 op_addA prim_add (px_var 1) (px_lst (fxs_cons (fx_of (px_isa is_LimitError T.isinstance_ (px_var 0))) (fxs_cons (fx_of (px_isa is_ValueError T.isinstance_ (px_var 0))) (fxs_cons (fx_of (px_isa is_LookupError T.isinstance_ (px_var 0))) fxs_nil))))))
    (sxs_cons (sx_ret (px_op2 op_addA prim_add (px_var 1) (px_lst (fxs_cons (fx_of (px_isa is_RuntimeError T.isinstance_ (px_var 0))) (fxs_cons (fx_of (px_isa is_ArithmeticError T.isinstance_ (px_var 0))) fxs_nil)))))
    sxs_nil)))
def s_law_ground : Stmt := top 45
theorem sc_law_ground : FnScope ["_law_way", "_law_spot"] ["_law_way"] (defScope s_law_ground) := ⟨rfl, rfl, rfl, by decide +kernel, rfl, by decide +kernel, by decide +kernel⟩
def m_law_ground : SM :=
  (SM.seq (M.thn (M.bind (M.bind (M.bind (M.bind (M.bind (kst (.int 4)) frz) fun o => M.bind (M.pure []) fun os => M.pure (o :: os)) asRange1) (compM ([("_law_spot", 1)].map (·.2)) (storeD 1) (M.pure true) (M.bind (M.bind (getSl 1) fun x => M.bind (getSl 0) fun y => op2 (rvB eqDV) x y) frz))) fun x => M.bind (kst (.int 2)) fun y => op2 fMulB x y) fun o S => .rt o S)
    SM.nil)
def f_law_ground : FSem := runDef m_law_ground 2
theorem b_law_ground {f : Addr} (T : Bt mg)  (cdv : Value) (A : Around) (outer : List Env) (s : Shared) (H : Hp) (E : XK) (hr : Room 0 (A.deeper (envOfC "_law_ground" (defScope s_law_ground) s.heap.objs.size f cdv))) (hgd : A.guards = some []) :
    SXs (cxOf (L2.CX P w) P w K mg base ["_law_way", "_law_spot"] "_law_ground" (defScope s_law_ground) f cdv A outer s H E) (defBody s_law_ground) m_law_ground :=
  (sxs_cons (sx_ret (px_op2 op_mulB prim_mulB (px_lc rfl sc_law_ground.nd (by exact (ix_range1 (by rfl) T.range_ (fxs_cons (fx_of px_int) fxs_nil))) (blk_of (own := [("_law_spot", 1)]) (by rfl)) (by decide) (fun s H C cl fp => (gx_name 1 sc_law_ground.nd rfl (by first | exact Or.inl rfl | exact Or.inr rfl))) (fun s H C cl fp => txs_nil) (fun s H C cl fp => (fx_of (px_cmp (op_eqA hr.units) prim_eqA (px_var 1) (px_var 0) (nomark _))))) px_int))
    sxs_nil)
def s_law_by_value : Stmt := top 47
theorem sc_law_by_value : FnScope ["_law_odd", "_law_found"] ["_law_odd"] (defScope s_law_by_value) := ⟨rfl, rfl, rfl, by decide +kernel, rfl, by decide +kernel, by decide +kernel⟩
def m_law_by_value : SM :=
  (SM.seq (M.thn (M.bind (M.bind (M.bind (M.bind (M.bind (M.bind (getSl 0) frz) fun o => M.bind (M.pure []) fun os => M.pure (o :: os)) (mkX "InvalidStandings" ["value"])) frz) fun o => M.bind (M.bind (M.bind (M.bind (M.bind (M.bind (getSl 0) frz) fun o => M.bind (M.pure []) fun os => M.pure (o :: os)) (mkX "InvalidReaction" ["value"])) frz) fun o => M.bind (M.bind (M.bind (M.bind (M.bind (M.bind (getSl 0) frz) fun o => M.bind (M.pure []) fun os => M.pure (o :: os)) (mkX "InvalidNames" ["value"])) frz) fun o => M.bind (M.bind (M.bind (M.bind (M.bind (M.bind (getSl 0) frz) fun o => M.bind (M.pure []) fun os => M.pure (o :: os)) (mkX "InvalidNumber" ["value"])) frz) fun o => M.bind (M.pure []) fun os => M.pure (o :: os)) fun os => M.pure (o :: os)) fun os => M.pure (o :: os)) fun os => M.pure (o :: os)) mkL) (setSl 1))
    (SM.seq (M.thn (M.bind (getSl 1) fun x => M.bind (M.bind (M.bind (M.bind (M.bind (M.bind (M.bind (getSl 0) frz) fun o => M.bind (M.pure []) fun os => M.pure (o :: os)) (mkX "InvalidStanding" ["value"])) frz) fun o => M.bind (M.bind (M.bind (M.bind (M.bind (M.bind (getSl 0) frz) fun o => M.bind (M.pure []) fun os => M.pure (o :: os)) (mkX "InvalidStreams" ["value"])) frz) fun o => M.bind (M.bind (M.bind (M.bind (M.bind (M.bind (getSl 0) frz) fun o => M.bind (M.pure []) fun os => M.pure (o :: os)) (mkX "InvalidRule" ["value"])) frz) fun o => M.bind (M.bind (M.bind (M.bind (M.bind (M.bind (getSl 0) frz) fun o => M.bind (M.pure []) fun os => M.pure (o :: os)) (mkX "InvalidLine" ["value"])) frz) fun o => M.bind (M.pure []) fun os => M.pure (o :: os)) fun os => M.pure (o :: os)) fun os => M.pure (o :: os)) fun os => M.pure (o :: os)) mkL) fun y => op2 fAdd x y) (setSl 1))
    (SM.seq (M.thn (M.bind (getSl 1) fun x => M.bind (M.bind (M.bind (M.bind (M.bind (M.bind (M.bind (getSl 0) frz) fun o => M.bind (M.pure []) fun os => M.pure (o :: os)) (mkX "InvalidFlows" ["value"])) frz) fun o => M.bind (M.bind (M.bind (M.bind (M.bind (M.bind (getSl 0) frz) fun o => M.bind (M.pure []) fun os => M.pure (o :: os)) (mkX "InvalidSizes" ["value"])) frz) fun o => M.bind (M.bind (M.bind (M.bind (M.bind (M.bind (getSl 0) frz) fun o => M.bind (M.pure []) fun os => M.pure (o :: os)) (mkX "InvalidRooms" ["value"])) frz) fun o => M.bind (M.bind (M.bind (M.bind (M.bind (M.bind (getSl 0) frz) fun o => M.bind (M.pure []) fun os => M.pure (o :: os)) (mkX "InvalidCount" ["value"])) frz) fun o => M.bind (M.pure []) fun os => M.pure (o :: os)) fun os => M.pure (o :: os)) fun os => M.pure (o :: os)) fun os => M.pure (o :: os)) mkL) fun y => op2 fAdd x y) (setSl 1))
    (SM.seq (M.thn (M.bind (getSl 1) fun x => M.bind (M.bind (M.bind (M.bind (M.bind (M.bind (M.bind (getSl 0) frz) fun o => M.bind (M.pure []) fun os => M.pure (o :: os)) (mkX "InvalidCounts" ["value"])) frz) fun o => M.bind (M.bind (M.bind (M.bind (M.bind (M.bind (getSl 0) frz) fun o => M.bind (M.pure []) fun os => M.pure (o :: os)) (mkX "InvalidClaim" ["value"])) frz) fun o => M.bind (M.bind (M.bind (M.bind (M.bind (M.bind (getSl 0) frz) fun o => M.bind (M.pure []) fun os => M.pure (o :: os)) (mkX "InvalidCommand" ["value"])) frz) fun o => M.bind (M.pure []) fun os => M.pure (o :: os)) fun os => M.pure (o :: os)) fun os => M.pure (o :: os)) mkL) fun y => op2 fAdd x y) (setSl 1))
    (SM.seq (M.thn (getSl 1) fun o S => .rt o S)
    SM.nil)))))
def f_law_by_value : FSem := runDef m_law_by_value 2
theorem b_law_by_value {f : Addr} (T : Bt mg) (c_InvalidClaim : KC P w K mg base "InvalidClaim" ["value"]) (c_InvalidCommand : KC P w K mg base "InvalidCommand" ["value"]) (c_InvalidCount : KC P w K mg base "InvalidCount" ["value"]) (c_InvalidCounts : KC P w K mg base "InvalidCounts" ["value"]) (c_InvalidFlows : KC P w K mg base "InvalidFlows" ["value"]) (c_InvalidLine : KC P w K mg base "InvalidLine" ["value"]) (c_InvalidNames : KC P w K mg base "InvalidNames" ["value"]) (c_InvalidNumber : KC P w K mg base "InvalidNumber" ["value"]) (c_InvalidReaction : KC P w K mg base "InvalidReaction" ["value"]) (c_InvalidRooms : KC P w K mg base "InvalidRooms" ["value"]) (c_InvalidRule : KC P w K mg base "InvalidRule" ["value"]) (c_InvalidSizes : KC P w K mg base "InvalidSizes" ["value"]) (c_InvalidStanding : KC P w K mg base "InvalidStanding" ["value"]) (c_InvalidStandings : KC P w K mg base "InvalidStandings" ["value"]) (c_InvalidStreams : KC P w K mg base "InvalidStreams" ["value"]) (cdv : Value) (A : Around) (outer : List Env) (s : Shared) (H : Hp) (E : XK) (hr : Room 2 (A.deeper (envOfC "_law_by_value" (defScope s_law_by_value) s.heap.objs.size f cdv))) (hgd : A.guards = some []) :
    SXs (cxOf (L2.CX P w) P w K mg base ["_law_odd", "_law_found"] "_law_by_value" (defScope s_law_by_value) f cdv A outer s H E) (defBody s_law_by_value) m_law_by_value :=
  (sxs_cons (sx_set 1 sc_law_by_value.nd rfl (by first | exact Or.inl rfl | exact Or.inr rfl) (px_lst (fxs_cons (fx_of (px_mkx (c_InvalidStandings.knX hr hgd) (by rfl) (fxs_cons (fx_of (px_var 0)) fxs_nil))) (fxs_cons (fx_of (px_mkx (c_InvalidReaction.knX hr hgd) (by rfl) (fxs_cons (fx_of (px_var 0)) fxs_nil))) (fxs_cons (fx_of (px_mkx (c_InvalidNames.knX hr hgd) (by rfl) (fxs_cons (fx_of (px_var 0)) fxs_nil))) (fxs_cons (fx_of (px_mkx (c_InvalidNumber.knX hr hgd) (by rfl) (fxs_cons (fx_of (px_var 0)) fxs_nil))) fxs_nil))))))
    (sxs_cons (sx_set 1 sc_law_by_value.nd rfl (by first | exact Or.inl rfl | exact Or.inr rfl) (px_op2 op_addA prim_add (px_var 1) (px_lst (fxs_cons (fx_of (px_mkx (c_InvalidStanding.knX hr hgd) (by rfl) (fxs_cons (fx_of (px_var 0)) fxs_nil))) (fxs_cons (fx_of (px_mkx (c_InvalidStreams.knX hr hgd) (by rfl) (fxs_cons (fx_of (px_var 0)) fxs_nil))) (fxs_cons (fx_of (px_mkx (c_InvalidRule.knX hr hgd) (by rfl) (fxs_cons (fx_of (px_var 0)) fxs_nil))) (fxs_cons (fx_of (px_mkx (c_InvalidLine.knX hr hgd) (by rfl) (fxs_cons (fx_of (px_var 0)) fxs_nil))) fxs_nil)))))))
    (sxs_cons (sx_set 1 sc_law_by_value.nd rfl (by first | exact Or.inl rfl | exact Or.inr rfl) (px_op2 op_addA prim_add (px_var 1) (px_lst (fxs_cons (fx_of (px_mkx (c_InvalidFlows.knX hr hgd) (by rfl) (fxs_cons (fx_of (px_var 0)) fxs_nil))) (fxs_cons (fx_of (px_mkx (c_InvalidSizes.knX hr hgd) (by rfl) (fxs_cons (fx_of (px_var 0)) fxs_nil))) (fxs_cons (fx_of (px_mkx (c_InvalidRooms.knX hr hgd) (by rfl) (fxs_cons (fx_of (px_var 0)) fxs_nil))) (fxs_cons (fx_of (px_mkx (c_InvalidCount.knX hr hgd) (by rfl) (fxs_cons (fx_of (px_var 0)) fxs_nil))) fxs_nil)))))))
    (sxs_cons (sx_set 1 sc_law_by_value.nd rfl (by first | exact Or.inl rfl | exact Or.inr rfl) (px_op2 op_addA prim_add (px_var 1) (px_lst (fxs_cons (fx_of (px_mkx (c_InvalidCounts.knX hr hgd) (by rfl) (fxs_cons (fx_of (px_var 0)) fxs_nil))) (fxs_cons (fx_of (px_mkx (c_InvalidClaim.knX hr hgd) (by rfl) (fxs_cons (fx_of (px_var 0)) fxs_nil))) (fxs_cons (fx_of (px_mkx (c_InvalidCommand.knX hr hgd) (by rfl) (fxs_cons (fx_of (px_var 0)) fxs_nil))) fxs_nil))))))
    (sxs_cons (sx_ret (px_var 1))
    sxs_nil)))))
def s_law_by_named_value : Stmt := top 48
theorem sc_law_by_named_value : FnScope ["_law_odd", "_law_found"] ["_law_odd"] (defScope s_law_by_named_value) := ⟨rfl, rfl, rfl, by decide +kernel, rfl, by decide +kernel, by decide +kernel⟩
def m_law_by_named_value : SM :=
  (SM.seq (M.thn (M.bind (M.bind (M.bind (M.bind (M.bind (M.bind (getSl 0) frz) fun o => M.bind (M.pure []) fun os => M.pure (o :: os)) fun ds => mkX "InvalidStandings" ["value"] (gk false ds)) frz) fun o => M.bind (M.bind (M.bind (M.bind (M.bind (M.bind (getSl 0) frz) fun o => M.bind (M.pure []) fun os => M.pure (o :: os)) fun ds => mkX "InvalidReaction" ["value"] (gk false ds)) frz) fun o => M.bind (M.bind (M.bind (M.bind (M.bind (M.bind (getSl 0) frz) fun o => M.bind (M.pure []) fun os => M.pure (o :: os)) fun ds => mkX "InvalidNames" ["value"] (gk false ds)) frz) fun o => M.bind (M.pure []) fun os => M.pure (o :: os)) fun os => M.pure (o :: os)) fun os => M.pure (o :: os)) mkL) (setSl 1))
    (SM.seq (M.thn (M.bind (getSl 1) fun x => M.bind (M.bind (M.bind (M.bind (M.bind (M.bind (M.bind (getSl 0) frz) fun o => M.bind (M.pure []) fun os => M.pure (o :: os)) fun ds => mkX "InvalidNumber" ["value"] (gk false ds)) frz) fun o => M.bind (M.bind (M.bind (M.bind (M.bind (M.bind (getSl 0) frz) fun o => M.bind (M.pure []) fun os => M.pure (o :: os)) fun ds => mkX "InvalidStanding" ["value"] (gk false ds)) frz) fun o => M.bind (M.bind (M.bind (M.bind (M.bind (M.bind (getSl 0) frz) fun o => M.bind (M.pure []) fun os => M.pure (o :: os)) fun ds => mkX "InvalidStreams" ["value"] (gk false ds)) frz) fun o => M.bind (M.pure []) fun os => M.pure (o :: os)) fun os => M.pure (o :: os)) fun os => M.pure (o :: os)) mkL) fun y => op2 fAdd x y) (setSl 1))
    (SM.seq (M.thn (M.bind (getSl 1) fun x => M.bind (M.bind (M.bind (M.bind (M.bind (M.bind (M.bind (getSl 0) frz) fun o => M.bind (M.pure []) fun os => M.pure (o :: os)) fun ds => mkX "InvalidRule" ["value"] (gk false ds)) frz) fun o => M.bind (M.bind (M.bind (M.bind (M.bind (M.bind (getSl 0) frz) fun o => M.bind (M.pure []) fun os => M.pure (o :: os)) fun ds => mkX "InvalidLine" ["value"] (gk false ds)) frz) fun o => M.bind (M.bind (M.bind (M.bind (M.bind (M.bind (getSl 0) frz) fun o => M.bind (M.pure []) fun os => M.pure (o :: os)) fun ds => mkX "InvalidFlows" ["value"] (gk false ds)) frz) fun o => M.bind (M.pure []) fun os => M.pure (o :: os)) fun os => M.pure (o :: os)) fun os => M.pure (o :: os)) mkL) fun y => op2 fAdd x y) (setSl 1))
    (SM.seq (M.thn (M.bind (getSl 1) fun x => M.bind (M.bind (M.bind (M.bind (M.bind (M.bind (M.bind (getSl 0) frz) fun o => M.bind (M.pure []) fun os => M.pure (o :: os)) fun ds => mkX "InvalidSizes" ["value"] (gk false ds)) frz) fun o => M.bind (M.bind (M.bind (M.bind (M.bind (M.bind (getSl 0) frz) fun o => M.bind (M.pure []) fun os => M.pure (o :: os)) fun ds => mkX "InvalidRooms" ["value"] (gk false ds)) frz) fun o => M.bind (M.bind (M.bind (M.bind (M.bind (M.bind (getSl 0) frz) fun o => M.bind (M.pure []) fun os => M.pure (o :: os)) fun ds => mkX "InvalidCount" ["value"] (gk false ds)) frz) fun o => M.bind (M.pure []) fun os => M.pure (o :: os)) fun os => M.pure (o :: os)) fun os => M.pure (o :: os)) mkL) fun y => op2 fAdd x y) (setSl 1))
    (SM.seq (M.thn (M.bind (getSl 1) fun x => M.bind (M.bind (M.bind (M.bind (M.bind (M.bind (M.bind (getSl 0) frz) fun o => M.bind (M.pure []) fun os => M.pure (o :: os)) fun ds => mkX "InvalidCounts" ["value"] (gk false ds)) frz) fun o => M.bind (M.bind (M.bind (M.bind (M.bind (M.bind (getSl 0) frz) fun o => M.bind (M.pure []) fun os => M.pure (o :: os)) fun ds => mkX "InvalidClaim" ["value"] (gk false ds)) frz) fun o => M.bind (M.bind (M.bind (M.bind (M.bind (M.bind (getSl 0) frz) fun o => M.bind (M.pure []) fun os => M.pure (o :: os)) fun ds => mkX "InvalidCommand" ["value"] (gk false ds)) frz) fun o => M.bind (M.pure []) fun os => M.pure (o :: os)) fun os => M.pure (o :: os)) fun os => M.pure (o :: os)) mkL) fun y => op2 fAdd x y) (setSl 1))
    (SM.seq (M.thn (getSl 1) fun o S => .rt o S)
    SM.nil))))))
def f_law_by_named_value : FSem := runDef m_law_by_named_value 2
theorem b_law_by_named_value {f : Addr} (T : Bt mg) (c_InvalidClaim : KC P w K mg base "InvalidClaim" ["value"]) (c_InvalidCommand : KC P w K mg base "InvalidCommand" ["value"]) (c_InvalidCount : KC P w K mg base "InvalidCount" ["value"]) (c_InvalidCounts : KC P w K mg base "InvalidCounts" ["value"]) (c_InvalidFlows : KC P w K mg base "InvalidFlows" ["value"]) (c_InvalidLine : KC P w K mg base "InvalidLine" ["value"]) (c_InvalidNames : KC P w K mg base "InvalidNames" ["value"]) (c_InvalidNumber : KC P w K mg base "InvalidNumber" ["value"]) (c_InvalidReaction : KC P w K mg base "InvalidReaction" ["value"]) (c_InvalidRooms : KC P w K mg base "InvalidRooms" ["value"]) (c_InvalidRule : KC P w K mg base "InvalidRule" ["value"]) (c_InvalidSizes : KC P w K mg base "InvalidSizes" ["value"]) (c_InvalidStanding : KC P w K mg base "InvalidStanding" ["value"]) (c_InvalidStandings : KC P w K mg base "InvalidStandings" ["value"]) (c_InvalidStreams : KC P w K mg base "InvalidStreams" ["value"]) (cdv : Value) (A : Around) (outer : List Env) (s : Shared) (H : Hp) (E : XK) (hr : Room 2 (A.deeper (envOfC "_law_by_named_value" (defScope s_law_by_named_value) s.heap.objs.size f cdv))) (hgd : A.guards = some []) :
    SXs (cxOf (L2.CX P w) P w K mg base ["_law_odd", "_law_found"] "_law_by_named_value" (defScope s_law_by_named_value) f cdv A outer s H E) (defBody s_law_by_named_value) m_law_by_named_value :=
  (sxs_cons (sx_set 1 sc_law_by_named_value.nd rfl (by first | exact Or.inl rfl | exact Or.inr rfl) (px_lst (fxs_cons (fx_of (px_mkxk (c_InvalidStandings.knk hr hgd) (by rfl) (fks_cons (fx_of (px_var 0)) fks_nil))) (fxs_cons (fx_of (px_mkxk (c_InvalidReaction.knk hr hgd) (by rfl) (fks_cons (fx_of (px_var 0)) fks_nil))) (fxs_cons (fx_of (px_mkxk (c_InvalidNames.knk hr hgd) (by rfl) (fks_cons (fx_of (px_var 0)) fks_nil))) fxs_nil)))))
    (sxs_cons (sx_set 1 sc_law_by_named_value.nd rfl (by first | exact Or.inl rfl | exact Or.inr rfl) (px_op2 op_addA prim_add (px_var 1) (px_lst (fxs_cons (fx_of (px_mkxk (c_InvalidNumber.knk hr hgd) (by rfl) (fks_cons (fx_of (px_var 0)) fks_nil))) (fxs_cons (fx_of (px_mkxk (c_InvalidStanding.knk hr hgd) (by rfl) (fks_cons (fx_of (px_var 0)) fks_nil))) (fxs_cons (fx_of (px_mkxk (c_InvalidStreams.knk hr hgd) (by rfl) (fks_cons (fx_of (px_var 0)) fks_nil))) fxs_nil))))))
    (sxs_cons (sx_set 1 sc_law_by_named_value.nd rfl (by first | exact Or.inl rfl | exact Or.inr rfl) (px_op2 op_addA prim_add (px_var 1) (px_lst (fxs_cons (fx_of (px_mkxk (c_InvalidRule.knk hr hgd) (by rfl) (fks_cons (fx_of (px_var 0)) fks_nil))) (fxs_cons (fx_of (px_mkxk (c_InvalidLine.knk hr hgd) (by rfl) (fks_cons (fx_of (px_var 0)) fks_nil))) (fxs_cons (fx_of (px_mkxk (c_InvalidFlows.knk hr hgd) (by rfl) (fks_cons (fx_of (px_var 0)) fks_nil))) fxs_nil))))))
    (sxs_cons (sx_set 1 sc_law_by_named_value.nd rfl (by first | exact Or.inl rfl | exact Or.inr rfl) (px_op2 op_addA prim_add (px_var 1) (px_lst (fxs_cons (fx_of (px_mkxk (c_InvalidSizes.knk hr hgd) (by rfl) (fks_cons (fx_of (px_var 0)) fks_nil))) (fxs_cons (fx_of (px_mkxk (c_InvalidRooms.knk hr hgd) (by rfl) (fks_cons (fx_of (px_var 0)) fks_nil))) (fxs_cons (fx_of (px_mkxk (c_InvalidCount.knk hr hgd) (by rfl) (fks_cons (fx_of (px_var 0)) fks_nil))) fxs_nil))))))
    (sxs_cons (sx_set 1 sc_law_by_named_value.nd rfl (by first | exact Or.inl rfl | exact Or.inr rfl) (px_op2 op_addA prim_add (px_var 1) (px_lst (fxs_cons (fx_of (px_mkxk (c_InvalidCounts.knk hr hgd) (by rfl) (fks_cons (fx_of (px_var 0)) fks_nil))) (fxs_cons (fx_of (px_mkxk (c_InvalidClaim.knk hr hgd) (by rfl) (fks_cons (fx_of (px_var 0)) fks_nil))) (fxs_cons (fx_of (px_mkxk (c_InvalidCommand.knk hr hgd) (by rfl) (fks_cons (fx_of (px_var 0)) fks_nil))) fxs_nil))))))
    (sxs_cons (sx_ret (px_var 1))
    sxs_nil))))))
def s_law_by_place : Stmt := top 49
theorem sc_law_by_place : FnScope ["_law_odd", "_law_found"] ["_law_odd"] (defScope s_law_by_place) := ⟨rfl, rfl, rfl, by decide +kernel, rfl, by decide +kernel, by decide +kernel⟩
def m_law_by_place : SM :=
  (SM.seq (M.thn (M.bind (M.bind (M.bind (M.bind (M.bind (M.bind (getSl 0) frz) fun o => M.bind (M.pure []) fun os => M.pure (o :: os)) (mkX "InvalidIns" ["position"])) frz) fun o => M.bind (M.bind (M.bind (M.bind (M.bind (M.bind (getSl 0) frz) fun o => M.bind (M.pure []) fun os => M.pure (o :: os)) (mkX "InvalidOuts" ["position"])) frz) fun o => M.bind (M.bind (M.bind (M.bind (M.bind (M.bind (getSl 0) frz) fun o => M.bind (M.pure []) fun os => M.pure (o :: os)) (mkX "InvalidReactions" ["position"])) frz) fun o => M.bind (M.bind (M.bind (M.bind (M.bind (M.bind (getSl 0) frz) fun o => M.bind (M.pure []) fun os => M.pure (o :: os)) (mkX "InvalidRun" ["position"])) frz) fun o => M.bind (M.pure []) fun os => M.pure (o :: os)) fun os => M.pure (o :: os)) fun os => M.pure (o :: os)) fun os => M.pure (o :: os)) mkL) (setSl 1))
    (SM.seq (M.thn (M.bind (getSl 1) fun x => M.bind (M.bind (M.bind (M.bind (M.bind (M.bind (M.bind (getSl 0) frz) fun o => M.bind (M.pure []) fun os => M.pure (o :: os)) (mkX "InvalidArrivals" ["position"])) frz) fun o => M.bind (M.bind (M.bind (M.bind (M.bind (M.bind (getSl 0) frz) fun o => M.bind (M.pure []) fun os => M.pure (o :: os)) (mkX "InvalidLines" ["position"])) frz) fun o => M.bind (M.pure []) fun os => M.pure (o :: os)) fun os => M.pure (o :: os)) mkL) fun y => op2 fAdd x y) (setSl 1))
    (SM.seq (M.thn (M.bind (getSl 1) fun x => M.bind (M.bind (M.bind (M.bind (M.bind (M.bind (M.bind (getSl 0) frz) fun o => M.bind (M.pure []) fun os => M.pure (o :: os)) fun ds => mkX "InvalidIns" ["position"] (gk false ds)) frz) fun o => M.bind (M.bind (M.bind (M.bind (M.bind (M.bind (getSl 0) frz) fun o => M.bind (M.pure []) fun os => M.pure (o :: os)) fun ds => mkX "InvalidOuts" ["position"] (gk false ds)) frz) fun o => M.bind (M.bind (M.bind (M.bind (M.bind (M.bind (getSl 0) frz) fun o => M.bind (M.pure []) fun os => M.pure (o :: os)) fun ds => mkX "InvalidReactions" ["position"] (gk false ds)) frz) fun o => M.bind (M.pure []) fun os => M.pure (o :: os)) fun os => M.pure (o :: os)) fun os => M.pure (o :: os)) mkL) fun y => op2 fAdd x y) (setSl 1))
    (SM.seq (M.thn (M.bind (getSl 1) fun x => M.bind (M.bind (M.bind (M.bind (M.bind (M.bind (M.bind (getSl 0) frz) fun o => M.bind (M.pure []) fun os => M.pure (o :: os)) fun ds => mkX "InvalidRun" ["position"] (gk false ds)) frz) fun o => M.bind (M.bind (M.bind (M.bind (M.bind (M.bind (getSl 0) frz) fun o => M.bind (M.pure []) fun os => M.pure (o :: os)) fun ds => mkX "InvalidArrivals" ["position"] (gk false ds)) frz) fun o => M.bind (M.bind (M.bind (M.bind (M.bind (M.bind (getSl 0) frz) fun o => M.bind (M.pure []) fun os => M.pure (o :: os)) fun ds => mkX "InvalidLines" ["position"] (gk false ds)) frz) fun o => M.bind (M.pure []) fun os => M.pure (o :: os)) fun os => M.pure (o :: os)) fun os => M.pure (o :: os)) mkL) fun y => op2 fAdd x y) (setSl 1))
    (SM.seq (M.thn (getSl 1) fun o S => .rt o S)
    SM.nil)))))
def f_law_by_place : FSem := runDef m_law_by_place 2
theorem b_law_by_place {f : Addr} (T : Bt mg) (c_InvalidArrivals : KC P w K mg base "InvalidArrivals" ["position"]) (c_InvalidIns : KC P w K mg base "InvalidIns" ["position"]) (c_InvalidLines : KC P w K mg base "InvalidLines" ["position"]) (c_InvalidOuts : KC P w K mg base "InvalidOuts" ["position"]) (c_InvalidReactions : KC P w K mg base "InvalidReactions" ["position"]) (c_InvalidRun : KC P w K mg base "InvalidRun" ["position"]) (cdv : Value) (A : Around) (outer : List Env) (s : Shared) (H : Hp) (E : XK) (hr : Room 2 (A.deeper (envOfC "_law_by_place" (defScope s_law_by_place) s.heap.objs.size f cdv))) (hgd : A.guards = some []) :
    SXs (cxOf (L2.CX P w) P w K mg base ["_law_odd", "_law_found"] "_law_by_place" (defScope s_law_by_place) f cdv A outer s H E) (defBody s_law_by_place) m_law_by_place :=
  (sxs_cons (sx_set 1 sc_law_by_place.nd rfl (by first | exact Or.inl rfl | exact Or.inr rfl) (px_lst (fxs_cons (fx_of (px_mkx (c_InvalidIns.knX hr hgd) (by rfl) (fxs_cons (fx_of (px_var 0)) fxs_nil))) (fxs_cons (fx_of (px_mkx (c_InvalidOuts.knX hr hgd) (by rfl) (fxs_cons (fx_of (px_var 0)) fxs_nil))) (fxs_cons (fx_of (px_mkx (c_InvalidReactions.knX hr hgd) (by rfl) (fxs_cons (fx_of (px_var 0)) fxs_nil))) (fxs_cons (fx_of (px_mkx (c_InvalidRun.knX hr hgd) (by rfl) (fxs_cons (fx_of (px_var 0)) fxs_nil))) fxs_nil))))))
    (sxs_cons (sx_set 1 sc_law_by_place.nd rfl (by first | exact Or.inl rfl | exact Or.inr rfl) (px_op2 op_addA prim_add (px_var 1) (px_lst (fxs_cons (fx_of (px_mkx (c_InvalidArrivals.knX hr hgd) (by rfl) (fxs_cons (fx_of (px_var 0)) fxs_nil))) (fxs_cons (fx_of (px_mkx (c_InvalidLines.knX hr hgd) (by rfl) (fxs_cons (fx_of (px_var 0)) fxs_nil))) fxs_nil)))))
    (sxs_cons (sx_set 1 sc_law_by_place.nd rfl (by first | exact Or.inl rfl | exact Or.inr rfl) (px_op2 op_addA prim_add (px_var 1) (px_lst (fxs_cons (fx_of (px_mkxk (c_InvalidIns.knk hr hgd) (by rfl) (fks_cons (fx_of (px_var 0)) fks_nil))) (fxs_cons (fx_of (px_mkxk (c_InvalidOuts.knk hr hgd) (by rfl) (fks_cons (fx_of (px_var 0)) fks_nil))) (fxs_cons (fx_of (px_mkxk (c_InvalidReactions.knk hr hgd) (by rfl) (fks_cons (fx_of (px_var 0)) fks_nil))) fxs_nil))))))
    (sxs_cons (sx_set 1 sc_law_by_place.nd rfl (by first | exact Or.inl rfl | exact Or.inr rfl) (px_op2 op_addA prim_add (px_var 1) (px_lst (fxs_cons (fx_of (px_mkxk (c_InvalidRun.knk hr hgd) (by rfl) (fks_cons (fx_of (px_var 0)) fks_nil))) (fxs_cons (fx_of (px_mkxk (c_InvalidArrivals.knk hr hgd) (by rfl) (fks_cons (fx_of (px_var 0)) fks_nil))) (fxs_cons (fx_of (px_mkxk (c_InvalidLines.knk hr hgd) (by rfl) (fks_cons (fx_of (px_var 0)) fks_nil))) fxs_nil))))))
    (sxs_cons (sx_ret (px_var 1))
    sxs_nil)))))
def s_law_of_states : Stmt := top 50
theorem sc_law_of_states : FnScope ["_law_odd", "_law_found"] ["_law_odd"] (defScope s_law_of_states) := ⟨rfl, rfl, rfl, by decide +kernel, rfl, by decide +kernel, by decide +kernel⟩
def m_law_of_states : SM :=
  (SM.seq (M.thn (M.bind (M.bind (M.bind (M.bind (M.bind (M.bind (getSl 0) frz) fun o => M.bind (M.pure []) fun os => M.pure (o :: os)) (mkX "SharedLine" ["value"])) frz) fun o => M.bind (M.bind (M.bind (M.bind (M.bind (M.bind (getSl 0) frz) fun o => M.bind (M.pure []) fun os => M.pure (o :: os)) (mkX "NotReached" ["value"])) frz) fun o => M.bind (M.bind (M.bind (M.bind (M.bind (M.bind (getSl 0) frz) fun o => M.bind (M.pure []) fun os => M.pure (o :: os)) (mkX "Noticed" ["value"])) frz) fun o => M.bind (M.bind (M.bind (M.bind (M.bind (M.bind (getSl 0) frz) fun o => M.bind (M.pure []) fun os => M.pure (o :: os)) (mkX "CannotBeDone" ["value"])) frz) fun o => M.bind (M.pure []) fun os => M.pure (o :: os)) fun os => M.pure (o :: os)) fun os => M.pure (o :: os)) fun os => M.pure (o :: os)) mkL) (setSl 1))
    (SM.seq (M.thn (M.bind (getSl 1) fun x => M.bind (M.bind (M.bind (M.bind (M.bind (M.bind (M.bind (getSl 0) frz) fun o => M.bind (M.pure []) fun os => M.pure (o :: os)) fun ds => mkX "SharedLine" ["value"] (gk false ds)) frz) fun o => M.bind (M.bind (M.bind (M.bind (M.bind (M.bind (getSl 0) frz) fun o => M.bind (M.pure []) fun os => M.pure (o :: os)) fun ds => mkX "NotReached" ["value"] (gk false ds)) frz) fun o => M.bind (M.bind (M.bind (M.bind (M.bind (M.bind (getSl 0) frz) fun o => M.bind (M.pure []) fun os => M.pure (o :: os)) fun ds => mkX "Noticed" ["value"] (gk false ds)) frz) fun o => M.bind (M.pure []) fun os => M.pure (o :: os)) fun os => M.pure (o :: os)) fun os => M.pure (o :: os)) mkL) fun y => op2 fAdd x y) (setSl 1))
    (SM.seq (M.thn (M.bind (getSl 1) fun x => M.bind (M.bind (M.bind (M.bind (M.bind (M.bind (M.bind (getSl 0) frz) fun o => M.bind (M.pure []) fun os => M.pure (o :: os)) fun ds => mkX "CannotBeDone" ["value"] (gk false ds)) frz) fun o => M.bind (M.pure []) fun os => M.pure (o :: os)) mkL) fun y => op2 fAdd x y) (setSl 1))
    (SM.seq (M.thn (getSl 1) fun o S => .rt o S)
    SM.nil))))
def f_law_of_states : FSem := runDef m_law_of_states 2
theorem b_law_of_states {f : Addr} (T : Bt mg) (c_CannotBeDone : KC P w K mg base "CannotBeDone" ["value"]) (c_NotReached : KC P w K mg base "NotReached" ["value"]) (c_Noticed : KC P w K mg base "Noticed" ["value"]) (c_SharedLine : KC P w K mg base "SharedLine" ["value"]) (cdv : Value) (A : Around) (outer : List Env) (s : Shared) (H : Hp) (E : XK) (hr : Room 2 (A.deeper (envOfC "_law_of_states" (defScope s_law_of_states) s.heap.objs.size f cdv))) (hgd : A.guards = some []) :
    SXs (cxOf (L2.CX P w) P w K mg base ["_law_odd", "_law_found"] "_law_of_states" (defScope s_law_of_states) f cdv A outer s H E) (defBody s_law_of_states) m_law_of_states :=
  (sxs_cons (sx_set 1 sc_law_of_states.nd rfl (by first | exact Or.inl rfl | exact Or.inr rfl) (px_lst (fxs_cons (fx_of (px_mkx (c_SharedLine.knX hr hgd) (by rfl) (fxs_cons (fx_of (px_var 0)) fxs_nil))) (fxs_cons (fx_of (px_mkx (c_NotReached.knX hr hgd) (by rfl) (fxs_cons (fx_of (px_var 0)) fxs_nil))) (fxs_cons (fx_of (px_mkx (c_Noticed.knX hr hgd) (by rfl) (fxs_cons (fx_of (px_var 0)) fxs_nil))) (fxs_cons (fx_of (px_mkx (c_CannotBeDone.knX hr hgd) (by rfl) (fxs_cons (fx_of (px_var 0)) fxs_nil))) fxs_nil))))))
    (sxs_cons (sx_set 1 sc_law_of_states.nd rfl (by first | exact Or.inl rfl | exact Or.inr rfl) (px_op2 op_addA prim_add (px_var 1) (px_lst (fxs_cons (fx_of (px_mkxk (c_SharedLine.knk hr hgd) (by rfl) (fks_cons (fx_of (px_var 0)) fks_nil))) (fxs_cons (fx_of (px_mkxk (c_NotReached.knk hr hgd) (by rfl) (fks_cons (fx_of (px_var 0)) fks_nil))) (fxs_cons (fx_of (px_mkxk (c_Noticed.knk hr hgd) (by rfl) (fks_cons (fx_of (px_var 0)) fks_nil))) fxs_nil))))))
    (sxs_cons (sx_set 1 sc_law_of_states.nd rfl (by first | exact Or.inl rfl | exact Or.inr rfl) (px_op2 op_addA prim_add (px_var 1) (px_lst (fxs_cons (fx_of (px_mkxk (c_CannotBeDone.knk hr hgd) (by rfl) (fks_cons (fx_of (px_var 0)) fks_nil))) fxs_nil))))
    (sxs_cons (sx_ret (px_var 1))
    sxs_nil))))
def s_law_bare : Stmt := top 51
theorem sc_law_bare : FnScope [] [] (defScope s_law_bare) := ⟨rfl, rfl, rfl, by decide +kernel, rfl, by decide +kernel, by decide +kernel⟩
def m_law_bare : SM :=
  (SM.seq (M.thn (M.bind (M.bind (M.bind (mkX "NotSmooth" [] []) frz) fun o => M.bind (M.bind (M.bind (mkX "NoStore" [] []) frz) fun o => M.bind (M.bind (M.bind (mkX "NothingToUndo" [] []) frz) fun o => M.bind (M.pure []) fun os => M.pure (o :: os)) fun os => M.pure (o :: os)) fun os => M.pure (o :: os)) mkL) fun o S => .rt o S)
    SM.nil)
def f_law_bare : FSem := runDef m_law_bare 0
theorem b_law_bare {f : Addr} (T : Bt mg) (c_NoStore : KC P w K mg base "NoStore" []) (c_NotSmooth : KC P w K mg base "NotSmooth" []) (c_NothingToUndo : KC P w K mg base "NothingToUndo" []) (cdv : Value) (A : Around) (outer : List Env) (s : Shared) (H : Hp) (E : XK) (hr : Room 2 (A.deeper (envOfC "_law_bare" (defScope s_law_bare) s.heap.objs.size f cdv))) (hgd : A.guards = some []) :
    SXs (cxOf (L2.CX P w) P w K mg base [] "_law_bare" (defScope s_law_bare) f cdv A outer s H E) (defBody s_law_bare) m_law_bare :=
  (sxs_cons (sx_ret (px_lst (fxs_cons (fx_of (px_mkx0 (c_NotSmooth.knX hr hgd) (by rfl))) (fxs_cons (fx_of (px_mkx0 (c_NoStore.knX hr hgd) (by rfl))) (fxs_cons (fx_of (px_mkx0 (c_NothingToUndo.knX hr hgd) (by rfl))) fxs_nil)))))
    sxs_nil)
def s_law_thrown : Stmt := top 52
theorem sc_law_thrown : FnScope ["_law_way", "_law_odd"] ["_law_way", "_law_odd"] (defScope s_law_thrown) := ⟨rfl, rfl, rfl, by decide +kernel, rfl, by decide +kernel, by decide +kernel⟩
def m_law_thrown : SM :=
  (SM.seq (M.thn (M.bind (getSl 0) fun x => M.bind (kst (.int 0)) fun y => cmpB eqDV x y) fun b => if b then (SM.seq (M.thn (M.bind (M.bind (getSl 1) frz) fun o => M.bind (M.pure []) fun os => M.pure (o :: os)) (raiseM "InvalidReactions" ["position"]))
    SM.nil) else SM.nil)
    (SM.seq (M.thn (M.bind (getSl 0) fun x => M.bind (kst (.int 1)) fun y => cmpB eqDV x y) fun b => if b then (SM.seq (M.thn (M.bind (M.bind (getSl 1) frz) fun o => M.bind (M.pure []) fun os => M.pure (o :: os)) (raiseM "InvalidReaction" ["value"]))
    SM.nil) else SM.nil)
    (SM.seq (M.thn (M.bind (getSl 0) fun x => M.bind (kst (.int 2)) fun y => cmpB eqDV x y) fun b => if b then (SM.seq (M.thn (M.bind (M.bind (getSl 1) frz) fun o => M.bind (M.pure []) fun os => M.pure (o :: os)) (raiseM "InvalidStandings" ["value"]))
    SM.nil) else SM.nil)
    (SM.seq (M.thn (M.bind (getSl 0) fun x => M.bind (kst (.int 3)) fun y => cmpB eqDV x y) fun b => if b then (SM.seq (M.thn (M.bind (M.bind (getSl 1) frz) fun o => M.bind (M.pure []) fun os => M.pure (o :: os)) (raiseM "InvalidStanding" ["value"]))
    SM.nil) else SM.nil)
    (SM.seq (M.thn (M.bind (getSl 0) fun x => M.bind (kst (.int 4)) fun y => cmpB eqDV x y) fun b => if b then (SM.seq (M.thn (M.bind (M.bind (getSl 1) frz) fun o => M.bind (M.pure []) fun os => M.pure (o :: os)) (raiseM "NoSuch" ["value"]))
    SM.nil) else SM.nil)
    (SM.seq (M.thn (M.bind (getSl 0) fun x => M.bind (kst (.int 5)) fun y => cmpB eqDV x y) fun b => if b then (SM.seq (raiseM "NotSmooth" [] [])
    SM.nil) else SM.nil)
    (SM.seq (M.thn (M.bind (getSl 0) fun x => M.bind (kst (.int 6)) fun y => cmpB eqDV x y) fun b => if b then (SM.seq (M.thn (M.bind (M.bind (getSl 1) frz) fun o => M.bind (M.bind (M.bind (getSl 0) frz) fun o => M.bind (M.pure []) fun os => M.pure (o :: os)) fun os => M.pure (o :: os)) (raiseM "NotAgreeing" ["one", "other"]))
    SM.nil) else SM.nil)
    (SM.seq (M.thn (M.bind (M.bind (getSl 0) frz) fun o => M.bind (M.bind (M.bind (getSl 1) frz) fun o => M.bind (M.pure []) fun os => M.pure (o :: os)) fun os => M.pure (o :: os)) (raiseM "TooMany" ["what", "limit"]))
    SM.nil))))))))
def f_law_thrown : FSem := runDef m_law_thrown 2
theorem b_law_thrown {f : Addr} (T : Bt mg) (c_InvalidReaction : KC P w K mg base "InvalidReaction" ["value"]) (c_InvalidReactions : KC P w K mg base "InvalidReactions" ["position"]) (c_InvalidStanding : KC P w K mg base "InvalidStanding" ["value"]) (c_InvalidStandings : KC P w K mg base "InvalidStandings" ["value"]) (c_NoSuch : KC P w K mg base "NoSuch" ["value"]) (c_NotAgreeing : KC P w K mg base "NotAgreeing" ["one", "other"]) (c_NotSmooth : KC P w K mg base "NotSmooth" []) (c_TooMany : KC P w K mg base "TooMany" ["what", "limit"]) (cdv : Value) (A : Around) (outer : List Env) (s : Shared) (H : Hp) (E : XK) (hr : Room 2 (A.deeper (envOfC "_law_thrown" (defScope s_law_thrown) s.heap.objs.size f cdv))) (hgd : A.guards = some []) :
    SXs (cxOf (L2.CX P w) P w K mg base ["_law_way", "_law_odd"] "_law_thrown" (defScope s_law_thrown) f cdv A outer s H E) (defBody s_law_thrown) m_law_thrown :=
  (sxs_cons (sx_if (bx_cmp (op_eqA hr.units) prim_eqA (px_var 0) px_int (nomark _)) (sxs_cons (sx_raise rfl (c_InvalidReactions.knR hr hgd) (by rfl) (fxs_cons (fx_of (px_var 1)) fxs_nil))
    sxs_nil) sxs_nil)
    (sxs_cons (sx_if (bx_cmp (op_eqA hr.units) prim_eqA (px_var 0) px_int (nomark _)) (sxs_cons (sx_raise rfl (c_InvalidReaction.knR hr hgd) (by rfl) (fxs_cons (fx_of (px_var 1)) fxs_nil))
    sxs_nil) sxs_nil)
    (sxs_cons (sx_if (bx_cmp (op_eqA hr.units) prim_eqA (px_var 0) px_int (nomark _)) (sxs_cons (sx_raise rfl (c_InvalidStandings.knR hr hgd) (by rfl) (fxs_cons (fx_of (px_var 1)) fxs_nil))
    sxs_nil) sxs_nil)
    (sxs_cons (sx_if (bx_cmp (op_eqA hr.units) prim_eqA (px_var 0) px_int (nomark _)) (sxs_cons (sx_raise rfl (c_InvalidStanding.knR hr hgd) (by rfl) (fxs_cons (fx_of (px_var 1)) fxs_nil))
    sxs_nil) sxs_nil)
    (sxs_cons (sx_if (bx_cmp (op_eqA hr.units) prim_eqA (px_var 0) px_int (nomark _)) (sxs_cons (sx_raise rfl (c_NoSuch.knR hr hgd) (by rfl) (fxs_cons (fx_of (px_var 1)) fxs_nil))
    sxs_nil) sxs_nil)
    (sxs_cons (sx_if (bx_cmp (op_eqA hr.units) prim_eqA (px_var 0) px_int (nomark _)) (sxs_cons (sx_raise0 rfl (c_NotSmooth.knR hr hgd) (by rfl))
    sxs_nil) sxs_nil)
    (sxs_cons (sx_if (bx_cmp (op_eqA hr.units) prim_eqA (px_var 0) px_int (nomark _)) (sxs_cons (sx_raise rfl (c_NotAgreeing.knR hr hgd) (by rfl) (fxs_cons (fx_of (px_var 1)) (fxs_cons (fx_of (px_var 0)) fxs_nil)))
    sxs_nil) sxs_nil)
    (sxs_cons (sx_raise rfl (c_TooMany.knR hr hgd) (by rfl) (fxs_cons (fx_of (px_var 0)) (fxs_cons (fx_of (px_var 1)) fxs_nil)))
    sxs_nil))))))))
def s_law_marks : Stmt := top 55
theorem sc_law_marks : FnScope ["_law_e", "_law_found"] ["_law_e"] (defScope s_law_marks) := ⟨rfl, rfl, rfl, by decide +kernel, rfl, by decide +kernel, by decide +kernel⟩
def m_law_marks : SM :=
  (SM.seq (M.thn (M.bind (M.bind (M.bind (M.bind (getSl 0) (isxM tabE sub_InvalidStandings)) frz) fun o => M.bind (M.bind (M.bind (M.bind (getSl 0) (isxM tabE sub_InvalidReaction)) frz) fun o => M.bind (M.bind (M.bind (M.bind (getSl 0) (isxM tabE sub_InvalidNames)) frz) fun o => M.bind (M.pure []) fun os => M.pure (o :: os)) fun os => M.pure (o :: os)) fun os => M.pure (o :: os)) mkL) (setSl 1))
    (SM.seq (M.thn (M.bind (getSl 1) fun x => M.bind (M.bind (M.bind (M.bind (M.bind (getSl 0) (isxM tabE sub_InvalidNumber)) frz) fun o => M.bind (M.bind (M.bind (M.bind (getSl 0) (isxM tabE sub_InvalidStanding)) frz) fun o => M.bind (M.bind (M.bind (M.bind (getSl 0) (isxM tabE sub_InvalidStreams)) frz) fun o => M.bind (M.pure []) fun os => M.pure (o :: os)) fun os => M.pure (o :: os)) fun os => M.pure (o :: os)) mkL) fun y => op2 fAdd x y) (setSl 1))
    (SM.seq (M.thn (M.bind (getSl 1) fun x => M.bind (M.bind (M.bind (M.bind (M.bind (getSl 0) (isxM tabE sub_InvalidRule)) frz) fun o => M.bind (M.bind (M.bind (M.bind (getSl 0) (isxM tabE sub_InvalidLine)) frz) fun o => M.bind (M.bind (M.bind (M.bind (getSl 0) (isxM tabE sub_InvalidFlows)) frz) fun o => M.bind (M.pure []) fun os => M.pure (o :: os)) fun os => M.pure (o :: os)) fun os => M.pure (o :: os)) mkL) fun y => op2 fAdd x y) (setSl 1))
    (SM.seq (M.thn (M.bind (getSl 1) fun x => M.bind (M.bind (M.bind (M.bind (M.bind (getSl 0) (isxM tabE sub_InvalidSizes)) frz) fun o => M.bind (M.bind (M.bind (M.bind (getSl 0) (isxM tabE sub_InvalidRooms)) frz) fun o => M.bind (M.bind (M.bind (M.bind (getSl 0) (isxM tabE sub_InvalidCount)) frz) fun o => M.bind (M.pure []) fun os => M.pure (o :: os)) fun os => M.pure (o :: os)) fun os => M.pure (o :: os)) mkL) fun y => op2 fAdd x y) (setSl 1))
    (SM.seq (M.thn (M.bind (getSl 1) fun x => M.bind (M.bind (M.bind (M.bind (M.bind (getSl 0) (isxM tabE sub_InvalidCounts)) frz) fun o => M.bind (M.bind (M.bind (M.bind (getSl 0) (isxM tabE sub_InvalidClaim)) frz) fun o => M.bind (M.bind (M.bind (M.bind (getSl 0) (isxM tabE sub_InvalidCommand)) frz) fun o => M.bind (M.pure []) fun os => M.pure (o :: os)) fun os => M.pure (o :: os)) fun os => M.pure (o :: os)) mkL) fun y => op2 fAdd x y) (setSl 1))
    (SM.seq (M.thn (M.bind (getSl 1) fun x => M.bind (M.bind (M.bind (M.bind (M.bind (getSl 0) (isxM tabE sub_InvalidIns)) frz) fun o => M.bind (M.bind (M.bind (M.bind (getSl 0) (isxM tabE sub_InvalidOuts)) frz) fun o => M.bind (M.bind (M.bind (M.bind (getSl 0) (isxM tabE sub_InvalidReactions)) frz) fun o => M.bind (M.pure []) fun os => M.pure (o :: os)) fun os => M.pure (o :: os)) fun os => M.pure (o :: os)) mkL) fun y => op2 fAdd x y) (setSl 1))
    (SM.seq (M.thn (M.bind (getSl 1) fun x => M.bind (M.bind (M.bind (M.bind (M.bind (getSl 0) (isxM tabE sub_InvalidRun)) frz) fun o => M.bind (M.bind (M.bind (M.bind (getSl 0) (isxM tabE sub_InvalidArrivals)) frz) fun o => M.bind (M.bind (M.bind (M.bind (getSl 0) (isxM tabE sub_InvalidLines)) frz) fun o => M.bind (M.pure []) fun os => M.pure (o :: os)) fun os => M.pure (o :: os)) fun os => M.pure (o :: os)) mkL) fun y => op2 fAdd x y) (setSl 1))
    (SM.seq (M.thn (M.bind (getSl 1) fun x => M.bind (M.bind (M.bind (M.bind (M.bind (getSl 0) (isxM tabE sub_SharedLine)) frz) fun o => M.bind (M.bind (M.bind (M.bind (getSl 0) (isxM tabE sub_NotReached)) frz) fun o => M.bind (M.bind (M.bind (M.bind (getSl 0) (isxM tabE sub_Noticed)) frz) fun o => M.bind (M.pure []) fun os => M.pure (o :: os)) fun os => M.pure (o :: os)) fun os => M.pure (o :: os)) mkL) fun y => op2 fAdd x y) (setSl 1))
    (SM.seq (M.thn (M.bind (getSl 1) fun x => M.bind (M.bind (M.bind (M.bind (M.bind (getSl 0) (isxM tabE sub_CannotBeDone)) frz) fun o => M.bind (M.bind (M.bind (M.bind (getSl 0) (isxM tabE sub_NotSmooth)) frz) fun o => M.bind (M.bind (M.bind (M.bind (getSl 0) (isxM tabE sub_NoStore)) frz) fun o => M.bind (M.pure []) fun os => M.pure (o :: os)) fun os => M.pure (o :: os)) fun os => M.pure (o :: os)) mkL) fun y => op2 fAdd x y) (setSl 1))
    (SM.seq (M.thn (M.bind (getSl 1) fun x => M.bind (M.bind (M.bind (M.bind (M.bind (getSl 0) (isxM tabE sub_NothingToUndo)) frz) fun o => M.bind (M.bind (M.bind (M.bind (getSl 0) (isxM tabE sub_InvalidText)) frz) fun o => M.bind (M.bind (M.bind (M.bind (getSl 0) (isxM tabE sub_NoSuch)) frz) fun o => M.bind (M.pure []) fun os => M.pure (o :: os)) fun os => M.pure (o :: os)) fun os => M.pure (o :: os)) mkL) fun y => op2 fAdd x y) (setSl 1))
    (SM.seq (M.thn (M.bind (getSl 1) fun x => M.bind (M.bind (M.bind (M.bind (M.bind (getSl 0) (isxM tabE sub_OtherLines)) frz) fun o => M.bind (M.bind (M.bind (M.bind (getSl 0) (isxM tabE sub_NotAgreeing)) frz) fun o => M.bind (M.bind (M.bind (M.bind (getSl 0) (isxM tabE sub_NotAlike)) frz) fun o => M.bind (M.pure []) fun os => M.pure (o :: os)) fun os => M.pure (o :: os)) fun os => M.pure (o :: os)) mkL) fun y => op2 fAdd x y) (setSl 1))
    (SM.seq (M.thn (M.bind (getSl 1) fun x => M.bind (M.bind (M.bind (M.bind (M.bind (getSl 0) (isxM tabE sub_CommandFailed)) frz) fun o => M.bind (M.bind (M.bind (M.bind (getSl 0) (isxM tabE sub_TooMany)) frz) fun o => M.bind (M.pure []) fun os => M.pure (o :: os)) fun os => M.pure (o :: os)) mkL) fun y => op2 fAdd x y) fun o S => .rt o S)
    SM.nil))))))))))))
def f_law_marks : FSem := runDef m_law_marks 2
theorem b_law_marks {f : Addr} (T : Bt mg) (is_CannotBeDone : IsA K mg tabE "CannotBeDone" sub_CannotBeDone) (is_CommandFailed : IsA K mg tabE "CommandFailed" sub_CommandFailed) (is_InvalidArrivals : IsA K mg tabE "InvalidArrivals" sub_InvalidArrivals) (is_InvalidClaim : IsA K mg tabE "InvalidClaim" sub_InvalidClaim) (is_InvalidCommand : IsA K mg tabE "InvalidCommand" sub_InvalidCommand) (is_InvalidCount : IsA K mg tabE "InvalidCount" sub_InvalidCount) (is_InvalidCounts : IsA K mg tabE "InvalidCounts" sub_InvalidCounts) (is_InvalidFlows : IsA K mg tabE "InvalidFlows" sub_InvalidFlows) (is_InvalidIns : IsA K mg tabE "InvalidIns" sub_InvalidIns) (is_InvalidLine : IsA K mg tabE "InvalidLine" sub_InvalidLine) (is_InvalidLines : IsA K mg tabE "InvalidLines" sub_InvalidLines) (is_InvalidNames : IsA K mg tabE "InvalidNames" sub_InvalidNames) (is_InvalidNumber : IsA K mg tabE "InvalidNumber" sub_InvalidNumber) (is_InvalidOuts : IsA K mg tabE "InvalidOuts" sub_InvalidOuts) (is_InvalidReaction : IsA K mg tabE "InvalidReaction" sub_InvalidReaction) (is_InvalidReactions : IsA K mg tabE "InvalidReactions" sub_InvalidReactions) (is_InvalidRooms : IsA K mg tabE "InvalidRooms" sub_InvalidRooms) (is_InvalidRule : IsA K mg tabE "InvalidRule" sub_InvalidRule) (is_InvalidRun : IsA K mg tabE "InvalidRun" sub_InvalidRun) (is_InvalidSizes : IsA K mg tabE "InvalidSizes" sub_InvalidSizes) (is_InvalidStanding : IsA K mg tabE "InvalidStanding" sub_InvalidStanding) (is_InvalidStandings : IsA K mg tabE "InvalidStandings" sub_InvalidStandings) (is_InvalidStreams : IsA K mg tabE "InvalidStreams" sub_InvalidStreams) (is_InvalidText : IsA K mg tabE "InvalidText" sub_InvalidText) (is_NoStore : IsA K mg tabE "NoStore" sub_NoStore) (is_NoSuch : IsA K mg tabE "NoSuch" sub_NoSuch) (is_NotAgreeing : IsA K mg tabE "NotAgreeing" sub_NotAgreeing) (is_NotAlike : IsA K mg tabE "NotAlike" sub_NotAlike) (is_NotReached : IsA K mg tabE "NotReached" sub_NotReached) (is_NotSmooth : IsA K mg tabE "NotSmooth" sub_NotSmooth) (is_NothingToUndo : IsA K mg tabE "NothingToUndo" sub_NothingToUndo) (is_Noticed : IsA K mg tabE "Noticed" sub_Noticed) (is_OtherLines : IsA K mg tabE "OtherLines" sub_OtherLines) (is_SharedLine : IsA K mg tabE "SharedLine" sub_SharedLine) (is_TooMany : IsA K mg tabE "TooMany" sub_TooMany) (cdv : Value) (A : Around) (outer : List Env) (s : Shared) (H : Hp) (E : XK) (hr : Room 0 (A.deeper (envOfC "_law_marks" (defScope s_law_marks) s.heap.objs.size f cdv))) (hgd : A.guards = some []) :
    SXs (cxOf (L2.CX P w) P w K mg base ["_law_e", "_law_found"] "_law_marks" (defScope s_law_marks) f cdv A outer s H E) (defBody s_law_marks) m_law_marks :=
  (sxs_cons (sx_set 1 sc_law_marks.nd rfl (by first | exact Or.inl rfl | exact Or.inr rfl) (px_lst (fxs_cons (fx_of (px_isa is_InvalidStandings T.isinstance_ (px_var 0))) (fxs_cons (fx_of (px_isa is_InvalidReaction T.isinstance_ (px_var 0))) (fxs_cons (fx_of (px_isa is_InvalidNames T.isinstance_ (px_var 0))) fxs_nil)))))
    (sxs_cons (sx_set 1 sc_law_marks.nd rfl (by first | exact Or.inl rfl | exact Or.inr rfl) (px_op2 op_addA prim_add (px_var 1) (px_lst (fxs_cons (fx_of (px_isa is_InvalidNumber T.isinstance_ (px_var 0))) (fxs_cons (fx_of (px_isa is_InvalidStanding T.isinstance_ (px_var 0))) (fxs_cons (fx_of (px_isa is_InvalidStreams T.isinstance_ (px_var 0))) fxs_nil))))))
    (sxs_cons (sx_set 1 sc_law_marks.nd rfl (by first | exact Or.inl rfl | exact Or.inr rfl) (px_op2 op_addA prim_add (px_var 1) (px_lst (fxs_cons (fx_of (px_isa is_InvalidRule T.isinstance_ (px_var 0))) (fxs_cons (fx_of (px_isa is_InvalidLine T.isinstance_ (px_var 0))) (fxs_cons (fx_of (px_isa is_InvalidFlows T.isinstance_ (px_var 0))) fxs_nil))))))
    (sxs_cons (sx_set 1 sc_law_marks.nd rfl (by first | exact Or.inl rfl | exact Or.inr rfl) (px_op2 op_addA prim_add (px_var 1) (px_lst (fxs_cons (fx_of (px_isa is_InvalidSizes T.isinstance_ (px_var 0))) (fxs_cons (fx_of (px_isa is_InvalidRooms T.isinstance_ (px_var 0))) (fxs_cons (fx_of (px_isa is_InvalidCount T.isinstance_ (px_var 0))) fxs_nil))))))
    (sxs_cons (sx_set 1 sc_law_marks.nd rfl (by first | exact Or.inl rfl | exact Or.inr rfl) (px_op2 op_addA prim_add (px_var 1) (px_lst (fxs_cons (fx_of (px_isa is_InvalidCounts T.isinstance_ (px_var 0))) (fxs_cons (fx_of (px_isa is_InvalidClaim T.isinstance_ (px_var 0))) (fxs_cons (fx_of (px_isa is_InvalidCommand T.isinstance_ (px_var 0))) fxs_nil))))))
    (sxs_cons (sx_set 1 sc_law_marks.nd rfl (by first | exact Or.inl rfl | exact Or.inr rfl) (px_op2 op_addA prim_add (px_var 1) (px_lst (fxs_cons (fx_of (px_isa is_InvalidIns T.isinstance_ (px_var 0))) (fxs_cons (fx_of (px_isa is_InvalidOuts T.isinstance_ (px_var 0))) (fxs_cons (fx_of (px_isa is_InvalidReactions T.isinstance_ (px_var 0))) fxs_nil))))))
    (sxs_cons (sx_set 1 sc_law_marks.nd rfl (by first | exact Or.inl rfl | exact Or.inr rfl) (px_op2 op_addA prim_add (px_var 1) (px_lst (fxs_cons (fx_of (px_isa is_InvalidRun T.isinstance_ (px_var 0))) (fxs_cons (fx_of (px_isa is_InvalidArrivals T.isinstance_ (px_var 0))) (fxs_cons (fx_of (px_isa is_InvalidLines T.isinstance_ (px_var 0))) fxs_nil))))))
    (sxs_cons (sx_set 1 sc_law_marks.nd rfl (by first | exact Or.inl rfl | exact Or.inr rfl) (px_op2 op_addA prim_add (px_var 1) (px_lst (fxs_cons (fx_of (px_isa is_SharedLine T.isinstance_ (px_var 0))) (fxs_cons (fx_of (px_isa is_NotReached T.isinstance_ (px_var 0))) (fxs_cons (fx_of (px_isa is_Noticed T.isinstance_ (px_var 0))) fxs_nil))))))
    (sxs_cons (sx_set 1 sc_law_marks.nd rfl (by first | exact Or.inl rfl | exact Or.inr rfl) (px_op2 op_addA prim_add (px_var 1) (px_lst (fxs_cons (fx_of (px_isa is_CannotBeDone T.isinstance_ (px_var 0))) (fxs_cons (fx_of (px_isa is_NotSmooth T.isinstance_ (px_var 0))) (fxs_cons (fx_of (px_isa is_NoStore T.isinstance_ (px_var 0))) fxs_nil))))))
    (sxs_cons (sx_set 1 sc_law_marks.nd rfl (by first | exact Or.inl rfl | exact Or.inr rfl) (px_op2 op_addA prim_add (px_var 1) (px_lst (fxs_cons (fx_of (px_isa is_NothingToUndo T.isinstance_ (px_var 0))) (fxs_cons (fx_of (px_isa is_InvalidText T.isinstance_ (px_var 0))) (fxs_cons (fx_of (px_isa is_NoSuch T.isinstance_ (px_var 0))) fxs_nil))))))
    (sxs_cons (sx_set 1 sc_law_marks.nd rfl (by first | exact Or.inl rfl | exact Or.inr rfl) (px_op2 op_addA prim_add (px_var 1) (px_lst (fxs_cons (fx_of (px_isa is_OtherLines T.isinstance_ (px_var 0))) (fxs_cons (fx_of (px_isa is_NotAgreeing T.isinstance_ (px_var 0))) (fxs_cons (fx_of (px_isa is_NotAlike T.isinstance_ (px_var 0))) fxs_nil))))))
    (sxs_cons (sx_ret (px_op2 op_addA prim_add (px_var 1) (px_lst (fxs_cons (fx_of (px_isa is_CommandFailed T.isinstance_ (px_var 0))) (fxs_cons (fx_of (px_isa is_TooMany T.isinstance_ (px_var 0))) fxs_nil)))))
    sxs_nil))))))))))))
def s_law_pick : Stmt := top 43
theorem sc_law_pick : FnScope ["_law_pot_here", "_law_some"] ["_law_pot_here", "_law_some"] (defScope s_law_pick) := ⟨rfl, rfl, rfl, by decide +kernel, rfl, by decide +kernel, by decide +kernel⟩
def m_law_pick : SM :=
  (SM.seq (M.thn (M.bind (getSl 1) fun x => M.bind (M.bind (getSl 0) fun _ => M.bind (M.bind (M.bind (M.bind (M.bind (getSl 1) fun o => M.bind (M.pure []) fun os => M.pure (o :: os)) (opN fLen)) frz) fun o => M.bind (M.pure []) fun os => M.pure (o :: os)) (callP f_law_draw 2 0)) fun y => op2 fIx x y) fun o S => .rt o S)
    SM.nil)
def f_law_pick : FSem := runDef m_law_pick 2
theorem b_law_pick {f : Addr} (T : Bt mg) (c_law_draw : KD P w K mg base "_law_draw" f_law_draw ["_law_pot_here", "_law_many"] 1) (cdv : Value) (A : Around) (outer : List Env) (s : Shared) (H : Hp) (E : XK) (hr : Room 1 (A.deeper (envOfC "_law_pick" (defScope s_law_pick) s.heap.objs.size f cdv))) (hgd : A.guards = some []) :
    SXs (cxOf (L2.CX P w) P w K mg base ["_law_pot_here", "_law_some"] "_law_pick" (defScope s_law_pick) f cdv A outer s H E) (defBody s_law_pick) m_law_pick :=
  (sxs_cons (sx_ret (px_ix (px_var 1) (px_callpD 0 c_law_draw rfl hr hgd (by decide) (by rfl) (px_var 0) (fxs_cons (fx_of (px_callB call_lenA prim_len (by rfl) T.len_ (by decide +kernel) (oxs_cons (px_var 1) oxs_nil))) fxs_nil))))
    sxs_nil)
def s_law_caught : Stmt := top 53
theorem sc_law_caught : FnScope ["_law_way", "_law_odd", "_law_told", "_law_e"] ["_law_way", "_law_odd"] (defScope s_law_caught) := ⟨rfl, rfl, rfl, by decide +kernel, rfl, by decide +kernel, by decide +kernel⟩
def m_law_caught : SM :=
  (SM.seq (M.thn (M.bind (M.bind (M.bind (kst (.str "nothing")) frz) fun o => M.bind (M.bind (M.bind (kst .non) frz) fun o => M.bind (M.pure []) fun os => M.pure (o :: os)) fun os => M.pure (o :: os)) mkL) (setSl 2))
    (SM.seq (tryM (SM.seq (M.thn (M.bind (M.bind (M.bind (getSl 0) frz) fun o => M.bind (M.bind (M.bind (getSl 1) frz) fun o => M.bind (M.pure []) fun os => M.pure (o :: os)) fun os => M.pure (o :: os)) (callF f_law_thrown 2)) fun _ => SM.nil)
    SM.nil) [{ sub := ca_InvalidReactions_sub, i := 3, h := fun c fs => M.thn (M.bind (M.bind (M.bind (kst (.int 0)) frz) fun o => M.bind (M.bind (fld tabF_position "position" (.exn c fs)) fun o => M.bind (M.pure []) fun os => M.pure (o :: os)) fun os => M.pure (o :: os)) mkL) (setSl 2) }, { sub := ca_InvalidReaction_sub, i := 3, h := fun c fs => M.thn (M.bind (M.bind (M.bind (kst (.int 1)) frz) fun o => M.bind (M.bind (fld tabF_value "value" (.exn c fs)) fun o => M.bind (M.pure []) fun os => M.pure (o :: os)) fun os => M.pure (o :: os)) mkL) (setSl 2) }, { sub := ca_InvalidStandings_sub, i := 3, h := fun c fs => M.thn (M.bind (M.bind (M.bind (kst (.int 2)) frz) fun o => M.bind (M.bind (fld tabF_value "value" (.exn c fs)) fun o => M.bind (M.pure []) fun os => M.pure (o :: os)) fun os => M.pure (o :: os)) mkL) (setSl 2) }, { sub := ca_InvalidStanding_sub, i := 3, h := fun c fs => M.thn (M.bind (M.bind (M.bind (kst (.int 3)) frz) fun o => M.bind (M.bind (fld tabF_value "value" (.exn c fs)) fun o => M.bind (M.pure []) fun os => M.pure (o :: os)) fun os => M.pure (o :: os)) mkL) (setSl 2) }, { sub := ca_MissingError_sub, i := 3, h := fun c fs => M.thn (M.bind (M.bind (M.bind (kst (.int 4)) frz) fun o => M.bind (M.bind (M.bind (getSl 1) frz) fun o => M.bind (M.pure []) fun os => M.pure (o :: os)) fun os => M.pure (o :: os)) mkL) (setSl 2) }, { sub := ca_NotSmooth_sub, i := 3, h := fun c fs => M.thn (M.bind (M.bind (M.bind (kst (.int 5)) frz) fun o => M.bind (M.bind (M.bind (getSl 1) frz) fun o => M.bind (M.pure []) fun os => M.pure (o :: os)) fun os => M.pure (o :: os)) mkL) (setSl 2) }, { sub := ca_StateError_sub, i := 3, h := fun c fs => M.thn (M.bind (M.bind (M.bind (kst (.int 6)) frz) fun o => M.bind (M.bind (M.bind (getSl 1) frz) fun o => M.bind (M.pure []) fun os => M.pure (o :: os)) fun os => M.pure (o :: os)) mkL) (setSl 2) }, { sub := ca_LimitError_sub, i := 3, h := fun c fs => M.thn (M.bind (M.bind (M.bind (kst (.int 7)) frz) fun o => M.bind (M.bind (M.bind (getSl 1) frz) fun o => M.bind (M.pure []) fun os => M.pure (o :: os)) fun os => M.pure (o :: os)) mkL) (setSl 2) }])
    (SM.seq (M.thn (getSl 2) fun o S => .rt o S)
    SM.nil)))
def f_law_caught : FSem := runDef m_law_caught 4
theorem b_law_caught {f : Addr} (T : Bt mg) (c_law_thrown : KD P w K mg base "_law_thrown" f_law_thrown ["_law_way", "_law_odd"] 3) (fd_position : FdA K mg tabF_position "position") (fd_value : FdA K mg tabF_value "value") (ca_InvalidReaction : CaA K mg "InvalidReaction" ca_InvalidReaction_sub) (ca_InvalidReactions : CaA K mg "InvalidReactions" ca_InvalidReactions_sub) (ca_InvalidStanding : CaA K mg "InvalidStanding" ca_InvalidStanding_sub) (ca_InvalidStandings : CaA K mg "InvalidStandings" ca_InvalidStandings_sub) (ca_LimitError : CaA K mg "LimitError" ca_LimitError_sub) (ca_MissingError : CaA K mg "MissingError" ca_MissingError_sub) (ca_NotSmooth : CaA K mg "NotSmooth" ca_NotSmooth_sub) (ca_StateError : CaA K mg "StateError" ca_StateError_sub) (cdv : Value) (A : Around) (outer : List Env) (s : Shared) (H : Hp) (E : XK) (hr : Room 3 (A.deeper (envOfC "_law_caught" (defScope s_law_caught) s.heap.objs.size f cdv))) (hgd : A.guards = some []) :
    SXs (cxOf (L2.CX P w) P w K mg base ["_law_way", "_law_odd", "_law_told", "_law_e"] "_law_caught" (defScope s_law_caught) f cdv A outer s H E) (defBody s_law_caught) m_law_caught :=
  (sxs_cons (sx_set 2 sc_law_caught.nd rfl (by first | exact Or.inl rfl | exact Or.inr rfl) (px_lst (fxs_cons (fx_of px_str) (fxs_cons (fx_of px_non) fxs_nil))))
    (sxs_cons (sx_try rfl rfl sc_law_caught.nd (fun pn xe => (sxs_cons (sx_expr (px_callD c_law_thrown rfl hr hgd (by decide) (by rfl) (fxs_cons (fx_of (px_var 0)) (fxs_cons (fx_of (px_var 1)) fxs_nil))))
    sxs_nil)) (hdm_cons ca_InvalidReactions (sxc_set 2 sc_law_caught.nd rfl (by first | exact Or.inl rfl | exact Or.inr rfl) (pxc_lst (fsc_cons (fxc_of fun a pn => (fx_of px_int)) (fsc_cons (fxc_fld fd_position.ex) fsc_nil)))) (hdm_cons ca_InvalidReaction (sxc_set 2 sc_law_caught.nd rfl (by first | exact Or.inl rfl | exact Or.inr rfl) (pxc_lst (fsc_cons (fxc_of fun a pn => (fx_of px_int)) (fsc_cons (fxc_fld fd_value.ex) fsc_nil)))) (hdm_cons ca_InvalidStandings (sxc_set 2 sc_law_caught.nd rfl (by first | exact Or.inl rfl | exact Or.inr rfl) (pxc_lst (fsc_cons (fxc_of fun a pn => (fx_of px_int)) (fsc_cons (fxc_fld fd_value.ex) fsc_nil)))) (hdm_cons ca_InvalidStanding (sxc_set 2 sc_law_caught.nd rfl (by first | exact Or.inl rfl | exact Or.inr rfl) (pxc_lst (fsc_cons (fxc_of fun a pn => (fx_of px_int)) (fsc_cons (fxc_fld fd_value.ex) fsc_nil)))) (hdm_cons ca_MissingError (sxc_set 2 sc_law_caught.nd rfl (by first | exact Or.inl rfl | exact Or.inr rfl) (pxc_lst (fsc_cons (fxc_of fun a pn => (fx_of px_int)) (fsc_cons (fxc_of fun a pn => (fx_of (px_var 1))) fsc_nil)))) (hdm_cons ca_NotSmooth (sxc_set 2 sc_law_caught.nd rfl (by first | exact Or.inl rfl | exact Or.inr rfl) (pxc_lst (fsc_cons (fxc_of fun a pn => (fx_of px_int)) (fsc_cons (fxc_of fun a pn => (fx_of (px_var 1))) fsc_nil)))) (hdm_cons ca_StateError (sxc_set 2 sc_law_caught.nd rfl (by first | exact Or.inl rfl | exact Or.inr rfl) (pxc_lst (fsc_cons (fxc_of fun a pn => (fx_of px_int)) (fsc_cons (fxc_of fun a pn => (fx_of (px_var 1))) fsc_nil)))) (hdm_cons ca_LimitError (sxc_set 2 sc_law_caught.nd rfl (by first | exact Or.inl rfl | exact Or.inr rfl) (pxc_lst (fsc_cons (fxc_of fun a pn => (fx_of px_int)) (fsc_cons (fxc_of fun a pn => (fx_of (px_var 1))) fsc_nil)))) .nil)))))))))
    (sxs_cons (sx_ret (px_var 2))
    sxs_nil)))
def s_law_each : Stmt := top 54
theorem sc_law_each : FnScope ["_law_odd", "_law_found"] ["_law_odd"] (defScope s_law_each) := ⟨rfl, rfl, rfl, by decide +kernel, rfl, by decide +kernel, by decide +kernel⟩
def m_law_each : SM :=
  (SM.seq (M.thn (M.bind (M.bind (M.bind (M.bind (M.bind (M.bind (getSl 0) frz) fun o => M.bind (M.pure []) fun os => M.pure (o :: os)) (callF f_law_by_value 1)) fun x => M.bind (M.bind (M.bind (M.bind (M.bind (getSl 0) frz) fun o => M.bind (M.pure []) fun os => M.pure (o :: os)) (callF f_law_by_place 1)) fun o => M.bind (M.pure none) fun l => M.bind (M.bind (M.bind (kst (.int 6)) frz) asInt) fun u => cutM o l u) fun y => op2 fAdd x y) fun x => M.bind (M.bind (M.bind (M.bind (M.bind (getSl 0) frz) fun o => M.bind (M.pure []) fun os => M.pure (o :: os)) (callF f_law_of_states 1)) fun o => M.bind (M.pure none) fun l => M.bind (M.bind (M.bind (kst (.int 4)) frz) asInt) fun u => cutM o l u) fun y => op2 fAdd x y) fun x => M.bind (callF f_law_bare 0 []) fun y => op2 fAdd x y) (setSl 1))
    (SM.seq (M.thn (M.bind (getSl 1) fun x => M.bind (M.bind (M.bind (M.bind (M.bind (M.bind (M.bind (getSl 0) frz) fun o => M.bind (M.pure []) fun os => M.pure (o :: os)) (mkX "InvalidText" ["line"])) frz) fun o => M.bind (M.bind (M.bind (M.bind (M.bind (M.bind (getSl 0) frz) fun o => M.bind (M.pure []) fun os => M.pure (o :: os)) (mkX "NoSuch" ["value"])) frz) fun o => M.bind (M.bind (M.bind (M.bind (M.bind (M.bind (getSl 0) frz) fun o => M.bind (M.bind (M.bind (getSl 0) frz) fun o => M.bind (M.pure []) fun os => M.pure (o :: os)) fun os => M.pure (o :: os)) (mkX "OtherLines" ["one", "other"])) frz) fun o => M.bind (M.bind (M.bind (M.bind (M.bind (M.bind (getSl 0) frz) fun o => M.bind (M.bind (M.bind (getSl 0) frz) fun o => M.bind (M.pure []) fun os => M.pure (o :: os)) fun os => M.pure (o :: os)) (mkX "NotAgreeing" ["one", "other"])) frz) fun o => M.bind (M.pure []) fun os => M.pure (o :: os)) fun os => M.pure (o :: os)) fun os => M.pure (o :: os)) fun os => M.pure (o :: os)) mkL) fun y => op2 fAdd x y) (setSl 1))
    (SM.seq (M.thn (M.bind (getSl 1) fun x => M.bind (M.bind (M.bind (M.bind (M.bind (M.bind (M.bind (getSl 0) frz) fun o => M.bind (M.pure []) fun os => M.pure (o :: os)) (mkX "NotAlike" ["which"])) frz) fun o => M.bind (M.bind (M.bind (M.bind (M.bind (M.bind (getSl 0) frz) fun o => M.bind (M.pure []) fun os => M.pure (o :: os)) (mkX "CommandFailed" ["position"])) frz) fun o => M.bind (M.bind (M.bind (M.bind (M.bind (M.bind (getSl 0) frz) fun o => M.bind (M.bind (M.bind (getSl 0) frz) fun o => M.bind (M.pure []) fun os => M.pure (o :: os)) fun os => M.pure (o :: os)) (mkX "TooMany" ["what", "limit"])) frz) fun o => M.bind (M.pure []) fun os => M.pure (o :: os)) fun os => M.pure (o :: os)) fun os => M.pure (o :: os)) mkL) fun y => op2 fAdd x y) fun o S => .rt o S)
    SM.nil)))
def f_law_each : FSem := runDef m_law_each 2
theorem b_law_each {f : Addr} (T : Bt mg) (c_law_bare : KD P w K mg base "_law_bare" f_law_bare [] 3) (c_law_by_place : KD P w K mg base "_law_by_place" f_law_by_place ["_law_odd"] 3) (c_law_by_value : KD P w K mg base "_law_by_value" f_law_by_value ["_law_odd"] 3) (c_law_of_states : KD P w K mg base "_law_of_states" f_law_of_states ["_law_odd"] 3) (c_CommandFailed : KC P w K mg base "CommandFailed" ["position"]) (c_InvalidText : KC P w K mg base "InvalidText" ["line"]) (c_NoSuch : KC P w K mg base "NoSuch" ["value"]) (c_NotAgreeing : KC P w K mg base "NotAgreeing" ["one", "other"]) (c_NotAlike : KC P w K mg base "NotAlike" ["which"]) (c_OtherLines : KC P w K mg base "OtherLines" ["one", "other"]) (c_TooMany : KC P w K mg base "TooMany" ["what", "limit"]) (cdv : Value) (A : Around) (outer : List Env) (s : Shared) (H : Hp) (E : XK) (hr : Room 3 (A.deeper (envOfC "_law_each" (defScope s_law_each) s.heap.objs.size f cdv))) (hgd : A.guards = some []) :
    SXs (cxOf (L2.CX P w) P w K mg base ["_law_odd", "_law_found"] "_law_each" (defScope s_law_each) f cdv A outer s H E) (defBody s_law_each) m_law_each :=
  (sxs_cons (sx_set 1 sc_law_each.nd rfl (by first | exact Or.inl rfl | exact Or.inr rfl) (px_op2 op_addA prim_add (px_op2 op_addA prim_add (px_op2 op_addA prim_add (px_callD c_law_by_value rfl hr hgd (by decide) (by rfl) (fxs_cons (fx_of (px_var 0)) fxs_nil)) (px_slice (px_callD c_law_by_place rfl hr hgd (by decide) (by rfl) (fxs_cons (fx_of (px_var 0)) fxs_nil)) optx_none (optx_some (fx_of px_int)))) (px_slice (px_callD c_law_of_states rfl hr hgd (by decide) (by rfl) (fxs_cons (fx_of (px_var 0)) fxs_nil)) optx_none (optx_some (fx_of px_int)))) (px_call0D c_law_bare rfl hr hgd (by decide) (by rfl))))
    (sxs_cons (sx_set 1 sc_law_each.nd rfl (by first | exact Or.inl rfl | exact Or.inr rfl) (px_op2 op_addA prim_add (px_var 1) (px_lst (fxs_cons (fx_of (px_mkx (c_InvalidText.knX hr hgd) (by rfl) (fxs_cons (fx_of (px_var 0)) fxs_nil))) (fxs_cons (fx_of (px_mkx (c_NoSuch.knX hr hgd) (by rfl) (fxs_cons (fx_of (px_var 0)) fxs_nil))) (fxs_cons (fx_of (px_mkx (c_OtherLines.knX hr hgd) (by rfl) (fxs_cons (fx_of (px_var 0)) (fxs_cons (fx_of (px_var 0)) fxs_nil)))) (fxs_cons (fx_of (px_mkx (c_NotAgreeing.knX hr hgd) (by rfl) (fxs_cons (fx_of (px_var 0)) (fxs_cons (fx_of (px_var 0)) fxs_nil)))) fxs_nil)))))))
    (sxs_cons (sx_ret (px_op2 op_addA prim_add (px_var 1) (px_lst (fxs_cons (fx_of (px_mkx (c_NotAlike.knX hr hgd) (by rfl) (fxs_cons (fx_of (px_var 0)) fxs_nil))) (fxs_cons (fx_of (px_mkx (c_CommandFailed.knX hr hgd) (by rfl) (fxs_cons (fx_of (px_var 0)) fxs_nil))) (fxs_cons (fx_of (px_mkx (c_TooMany.knX hr hgd) (by rfl) (fxs_cons (fx_of (px_var 0)) (fxs_cons (fx_of (px_var 0)) fxs_nil)))) fxs_nil))))))
    sxs_nil)))
def s_law_values_right : Stmt := top 57
theorem sc_law_values_right : FnScope ["_law_mine", "_law_yours", "_law_some", "_law_e"] ["_law_mine", "_law_yours"] (defScope s_law_values_right) := ⟨rfl, rfl, rfl, by decide +kernel, rfl, by decide +kernel, by decide +kernel⟩
def m_law_values_right : SM :=
  (SM.seq (M.thn (M.bind (M.bind (M.bind (M.bind (M.bind (getSl 0) frz) fun o => M.bind (M.pure []) fun os => M.pure (o :: os)) (callF f_law_by_value 1)) fun x => M.bind (M.bind (M.bind (M.bind (getSl 0) frz) fun o => M.bind (M.pure []) fun os => M.pure (o :: os)) (callF f_law_by_named_value 1)) fun y => op2 fAdd x y) fun x => M.bind (M.bind (M.bind (M.bind (getSl 1) frz) fun o => M.bind (M.pure []) fun os => M.pure (o :: os)) (callF f_law_by_value 1)) fun y => op2 fAdd x y) (setSl 2))
    (SM.seq (M.thn (M.bind (M.bind (M.bind (M.bind (M.bind (M.bind (M.bind (getSl 2) frz) asSeq) (compM ([("_law_e", 3)].map (·.2)) (storeD 3) (M.pure true) (M.bind (M.bind (getSl 3) frz) (fld tabF_value "value")))) fun o => M.bind (M.pure []) fun os => M.pure (o :: os)) (opN fRepr)) fun x => M.bind (M.bind (M.bind (M.bind (M.bind (M.bind (M.bind (M.bind (getSl 0) frz) fun o => M.bind (M.pure []) fun os => M.pure (o :: os)) mkL) fun x => M.bind (kst (.int 30)) fun y => op2 fMulB x y) fun x => M.bind (M.bind (M.bind (M.bind (M.bind (getSl 1) frz) fun o => M.bind (M.pure []) fun os => M.pure (o :: os)) mkL) fun x => M.bind (kst (.int 15)) fun y => op2 fMulB x y) fun y => op2 fAdd x y) fun o => M.bind (M.pure []) fun os => M.pure (o :: os)) (opN fRepr)) fun y => cmpB neDV x y) fun c => if c then M.pure true else (M.bind (M.bind (M.bind (getSl 2) fun o => M.bind (M.pure []) fun os => M.pure (o :: os)) (opN fLen)) fun x => M.bind (kst (.int 45)) fun y => cmpB neDV x y)) fun b => if b then (SM.seq (M.thn (kst (.bl false)) fun o S => .rt o S)
    SM.nil) else SM.nil)
    (SM.seq (M.thn (M.bind (M.bind (M.bind (M.bind (M.bind (M.bind (getSl 2) frz) asSeq) (compM ([("_law_e", 3)].map (·.2)) (storeD 3) (M.pure true) (M.bind (M.bind (M.bind (M.bind (M.bind (getSl 3) frz) fun o => M.bind (M.pure []) fun os => M.pure (o :: os)) (callF f_law_grounds 1)) fun x => M.bind (M.bind (M.bind (M.bind (kst (.int 0)) frz) fun o => M.bind (M.pure []) fun os => M.pure (o :: os)) (callF f_law_ground 1)) fun y => op2 (rvB neDV) x y) frz))) fun o => M.bind (M.pure []) fun os => M.pure (o :: os)) (opN fAny)) truthOf) fun b => if b then (SM.seq (M.thn (kst (.bl false)) fun o S => .rt o S)
    SM.nil) else SM.nil)
    (SM.seq (M.thn (M.bind (M.bind (M.bind (getSl 0) frz) fun o => M.bind (M.pure []) fun os => M.pure (o :: os)) (callF f_law_by_place 1)) (setSl 2))
    (SM.seq (M.thn (M.bind (M.bind (M.bind (M.bind (M.bind (M.bind (getSl 2) frz) asSeq) (compM ([("_law_e", 3)].map (·.2)) (storeD 3) (M.pure true) (M.bind (M.bind (getSl 3) frz) (fld tabF_position "position")))) fun o => M.bind (M.pure []) fun os => M.pure (o :: os)) (opN fRepr)) fun x => M.bind (M.bind (M.bind (M.bind (M.bind (M.bind (M.bind (getSl 0) frz) fun o => M.bind (M.pure []) fun os => M.pure (o :: os)) mkL) fun x => M.bind (kst (.int 12)) fun y => op2 fMulB x y) fun o => M.bind (M.pure []) fun os => M.pure (o :: os)) (opN fRepr)) fun y => cmpB neDV x y) fun b => if b then (SM.seq (M.thn (kst (.bl false)) fun o S => .rt o S)
    SM.nil) else SM.nil)
    (SM.seq (M.thn (M.bind (M.bind (M.bind (M.bind (M.bind (getSl 2) frz) asSeq) (compM ([("_law_e", 3)].map (·.2)) (storeD 3) (M.pure true) (M.bind (M.bind (M.bind (M.bind (M.bind (getSl 3) frz) fun o => M.bind (M.pure []) fun os => M.pure (o :: os)) (callF f_law_grounds 1)) fun x => M.bind (M.bind (M.bind (M.bind (kst (.int 0)) frz) fun o => M.bind (M.pure []) fun os => M.pure (o :: os)) (callF f_law_ground 1)) fun y => op2 (rvB eqDV) x y) frz))) fun o => M.bind (M.pure []) fun os => M.pure (o :: os)) (opN fAll)) fun o S => .rt o S)
    SM.nil))))))
def f_law_values_right : FSem := runDef m_law_values_right 4
theorem b_law_values_right {f : Addr} (T : Bt mg) (c_law_by_named_value : KD P w K mg base "_law_by_named_value" f_law_by_named_value ["_law_odd"] 3) (c_law_by_place : KD P w K mg base "_law_by_place" f_law_by_place ["_law_odd"] 3) (c_law_by_value : KD P w K mg base "_law_by_value" f_law_by_value ["_law_odd"] 3) (c_law_ground : KD P w K mg base "_law_ground" f_law_ground ["_law_way"] 1) (c_law_grounds : KD P w K mg base "_law_grounds" f_law_grounds ["_law_e"] 1) (fd_position : FdA K mg tabF_position "position") (fd_value : FdA K mg tabF_value "value") (hsys : ∃ o, base.get? sysModules = some o) (cdv : Value) (A : Around) (outer : List Env) (s : Shared) (H : Hp) (E : XK) (hr : Room 3 (A.deeper (envOfC "_law_values_right" (defScope s_law_values_right) s.heap.objs.size f cdv))) (hgd : A.guards = some []) :
    SXs (cxOf (L2.CX P w) P w K mg base ["_law_mine", "_law_yours", "_law_some", "_law_e"] "_law_values_right" (defScope s_law_values_right) f cdv A outer s H E) (defBody s_law_values_right) m_law_values_right :=
  (sxs_cons (sx_set 2 sc_law_values_right.nd rfl (by first | exact Or.inl rfl | exact Or.inr rfl) (px_op2 op_addA prim_add (px_op2 op_addA prim_add (px_callD c_law_by_value rfl hr hgd (by decide) (by rfl) (fxs_cons (fx_of (px_var 0)) fxs_nil)) (px_callD c_law_by_named_value rfl hr hgd (by decide) (by rfl) (fxs_cons (fx_of (px_var 0)) fxs_nil))) (px_callD c_law_by_value rfl hr hgd (by decide) (by rfl) (fxs_cons (fx_of (px_var 1)) fxs_nil))))
    (sxs_cons (sx_if (bx_bool (bw_or (bx_cmp (op_neA hr.units) prim_neA (px_callB (call_repr hgd (room200 hr) hsys) prim_repr (by rfl) T.repr_ (by decide +kernel) (oxs_cons (px_lc rfl sc_law_values_right.nd (by exact (ix_seq' (fx_of (px_var 2)))) (blk_of (own := [("_law_e", 3)]) (by rfl)) (by decide) (fun s H C cl fp => (gx_name 3 sc_law_values_right.nd rfl (by first | exact Or.inl rfl | exact Or.inr rfl))) (fun s H C cl fp => txs_nil) (fun s H C cl fp => (fx_fld fd_value.ex (fx_of (px_var 3))))) oxs_nil)) (px_callB (call_repr hgd (room200 hr) hsys) prim_repr (by rfl) T.repr_ (by decide +kernel) (oxs_cons (px_op2 op_addA prim_add (px_op2 op_mulB prim_mulB (px_lst (fxs_cons (fx_of (px_var 0)) fxs_nil)) px_int) (px_op2 op_mulB prim_mulB (px_lst (fxs_cons (fx_of (px_var 1)) fxs_nil)) px_int)) oxs_nil)) (nomark _)) (bw_or1 (bx_cmp (op_neA hr.units) prim_neA (px_callB call_lenA prim_len (by rfl) T.len_ (by decide +kernel) (oxs_cons (px_var 2) oxs_nil)) px_int (nomark _))))) (sxs_cons (sx_ret px_bl)
    sxs_nil) sxs_nil)
    (sxs_cons (sx_if (bx_val (px_callB (cr_any rfl) prim_any (by rfl) T.any_ (by decide +kernel) (oxs_cons (px_lc rfl sc_law_values_right.nd (by exact (ix_seq' (fx_of (px_var 2)))) (blk_of (own := [("_law_e", 3)]) (by rfl)) (by decide) (fun s H C cl fp => (gx_name 3 sc_law_values_right.nd rfl (by first | exact Or.inl rfl | exact Or.inr rfl))) (fun s H C cl fp => txs_nil) (fun s H C cl fp => (fx_of (px_cmp (op_neA hr.units) prim_neA (px_callD c_law_grounds rfl hr hgd (by decide) (by rfl) (fxs_cons (fx_of (px_var 3)) fxs_nil)) (px_callD c_law_ground rfl hr hgd (by decide) (by rfl) (fxs_cons (fx_of px_int) fxs_nil)) (nomark _))))) oxs_nil))) (sxs_cons (sx_ret px_bl)
    sxs_nil) sxs_nil)
    (sxs_cons (sx_set 2 sc_law_values_right.nd rfl (by first | exact Or.inl rfl | exact Or.inr rfl) (px_callD c_law_by_place rfl hr hgd (by decide) (by rfl) (fxs_cons (fx_of (px_var 0)) fxs_nil)))
    (sxs_cons (sx_if (bx_cmp (op_neA hr.units) prim_neA (px_callB (call_repr hgd (room200 hr) hsys) prim_repr (by rfl) T.repr_ (by decide +kernel) (oxs_cons (px_lc rfl sc_law_values_right.nd (by exact (ix_seq' (fx_of (px_var 2)))) (blk_of (own := [("_law_e", 3)]) (by rfl)) (by decide) (fun s H C cl fp => (gx_name 3 sc_law_values_right.nd rfl (by first | exact Or.inl rfl | exact Or.inr rfl))) (fun s H C cl fp => txs_nil) (fun s H C cl fp => (fx_fld fd_position.ex (fx_of (px_var 3))))) oxs_nil)) (px_callB (call_repr hgd (room200 hr) hsys) prim_repr (by rfl) T.repr_ (by decide +kernel) (oxs_cons (px_op2 op_mulB prim_mulB (px_lst (fxs_cons (fx_of (px_var 0)) fxs_nil)) px_int) oxs_nil)) (nomark _)) (sxs_cons (sx_ret px_bl)
    sxs_nil) sxs_nil)
    (sxs_cons (sx_ret (px_callB (cr_all rfl) prim_all (by rfl) T.all_ (by decide +kernel) (oxs_cons (px_lc rfl sc_law_values_right.nd (by exact (ix_seq' (fx_of (px_var 2)))) (blk_of (own := [("_law_e", 3)]) (by rfl)) (by decide) (fun s H C cl fp => (gx_name 3 sc_law_values_right.nd rfl (by first | exact Or.inl rfl | exact Or.inr rfl))) (fun s H C cl fp => txs_nil) (fun s H C cl fp => (fx_of (px_cmp (op_eqA hr.units) prim_eqA (px_callD c_law_grounds rfl hr hgd (by decide) (by rfl) (fxs_cons (fx_of (px_var 3)) fxs_nil)) (px_callD c_law_ground rfl hr hgd (by decide) (by rfl) (fxs_cons (fx_of px_int) fxs_nil)) (nomark _))))) oxs_nil)))
    sxs_nil))))))
def s_law_states_right : Stmt := top 58
theorem sc_law_states_right : FnScope ["_law_mine", "_law_yours", "_law_some", "_law_near", "_law_far", "_law_e"] ["_law_mine", "_law_yours"] (defScope s_law_states_right) := ⟨rfl, rfl, rfl, by decide +kernel, rfl, by decide +kernel, by decide +kernel⟩
def m_law_states_right : SM :=
  (SM.seq (M.thn (M.bind (M.bind (M.bind (getSl 0) frz) fun o => M.bind (M.pure []) fun os => M.pure (o :: os)) (callF f_law_of_states 1)) (setSl 2))
    (SM.seq (M.thn (M.bind (M.bind (M.bind (M.bind (M.bind (M.bind (M.bind (getSl 2) frz) asSeq) (compM ([("_law_e", 5)].map (·.2)) (storeD 5) (M.pure true) (M.bind (M.bind (getSl 5) frz) (fld tabF_value "value")))) fun o => M.bind (M.pure []) fun os => M.pure (o :: os)) (opN fRepr)) fun x => M.bind (M.bind (M.bind (M.bind (M.bind (M.bind (M.bind (getSl 0) frz) fun o => M.bind (M.pure []) fun os => M.pure (o :: os)) mkL) fun x => M.bind (kst (.int 8)) fun y => op2 fMulB x y) fun o => M.bind (M.pure []) fun os => M.pure (o :: os)) (opN fRepr)) fun y => cmpB neDV x y) fun c => if c then M.pure true else (M.bind (M.bind (M.bind (M.bind (M.bind (M.bind (getSl 2) frz) asSeq) (compM ([("_law_e", 5)].map (·.2)) (storeD 5) (M.pure true) (M.bind (M.bind (M.bind (M.bind (M.bind (getSl 5) frz) fun o => M.bind (M.pure []) fun os => M.pure (o :: os)) (callF f_law_grounds 1)) fun x => M.bind (M.bind (M.bind (M.bind (kst (.int 2)) frz) fun o => M.bind (M.pure []) fun os => M.pure (o :: os)) (callF f_law_ground 1)) fun y => op2 (rvB neDV) x y) frz))) fun o => M.bind (M.pure []) fun os => M.pure (o :: os)) (opN fAny)) truthOf)) fun b => if b then (SM.seq (M.thn (kst (.bl false)) fun o S => .rt o S)
    SM.nil) else SM.nil)
    (SM.seq (M.thn (M.bind (M.bind (M.bind (M.bind (M.bind (M.bind (callF f_law_bare 0 []) frz) asSeq) (compM ([("_law_e", 5)].map (·.2)) (storeD 5) (M.pure true) (M.bind (M.bind (M.bind (M.bind (M.bind (getSl 5) frz) fun o => M.bind (M.pure []) fun os => M.pure (o :: os)) (callF f_law_grounds 1)) fun x => M.bind (M.bind (M.bind (M.bind (kst (.int 2)) frz) fun o => M.bind (M.pure []) fun os => M.pure (o :: os)) (callF f_law_ground 1)) fun y => op2 (rvB neDV) x y) frz))) fun o => M.bind (M.pure []) fun os => M.pure (o :: os)) (opN fAny)) truthOf) fun b => if b then (SM.seq (M.thn (kst (.bl false)) fun o S => .rt o S)
    SM.nil) else SM.nil)
    (SM.seq (M.thn (M.bind (M.bind (M.bind (M.bind (M.bind (M.bind (getSl 0) frz) fun o => M.bind (M.bind (M.bind (getSl 1) frz) fun o => M.bind (M.pure []) fun os => M.pure (o :: os)) fun os => M.pure (o :: os)) (mkX "OtherLines" ["one", "other"])) frz) fun o => M.bind (M.bind (M.bind (M.bind (M.bind (M.bind (getSl 1) frz) fun o => M.bind (M.bind (M.bind (getSl 0) frz) fun o => M.bind (M.pure []) fun os => M.pure (o :: os)) fun os => M.pure (o :: os)) fun ds => mkX "OtherLines" ["one", "other"] (gk true ds)) frz) fun o => M.bind (M.bind (M.bind (M.bind (M.bind (M.bind (getSl 0) frz) fun o => M.bind (M.bind (M.bind (getSl 1) frz) fun o => M.bind (M.pure []) fun os => M.pure (o :: os)) fun os => M.pure (o :: os)) (mkX "NotAgreeing" ["one", "other"])) frz) fun o => M.bind (M.pure []) fun os => M.pure (o :: os)) fun os => M.pure (o :: os)) fun os => M.pure (o :: os)) mkL) (setSl 2))
    (SM.seq (appendM 2 (M.bind (M.bind (M.bind (M.bind (getSl 1) frz) fun o => M.bind (M.bind (M.bind (getSl 0) frz) fun o => M.bind (M.pure []) fun os => M.pure (o :: os)) fun os => M.pure (o :: os)) fun ds => mkX "NotAgreeing" ["one", "other"] (gk true ds)) frz))
    (SM.seq (M.thn (M.bind (M.bind (M.bind (M.bind (M.bind (M.bind (getSl 2) frz) asSeq) (compM ([("_law_e", 5)].map (·.2)) (storeD 5) (M.pure true) (M.bind (M.bind (M.bind (M.bind (M.bind (getSl 5) frz) (fld tabF_one "one")) fun o => M.bind (M.bind (M.bind (M.bind (getSl 5) frz) (fld tabF_other "other")) fun o => M.bind (M.pure []) fun os => M.pure (o :: os)) fun os => M.pure (o :: os)) mkL) frz))) fun o => M.bind (M.pure []) fun os => M.pure (o :: os)) (opN fRepr)) fun x => M.bind (M.bind (M.bind (M.bind (M.bind (M.bind (M.bind (M.bind (M.bind (M.bind (getSl 0) frz) fun o => M.bind (M.bind (M.bind (getSl 1) frz) fun o => M.bind (M.pure []) fun os => M.pure (o :: os)) fun os => M.pure (o :: os)) mkL) frz) fun o => M.bind (M.pure []) fun os => M.pure (o :: os)) mkL) fun x => M.bind (kst (.int 4)) fun y => op2 fMulB x y) fun o => M.bind (M.pure []) fun os => M.pure (o :: os)) (opN fRepr)) fun y => cmpB neDV x y) fun b => if b then (SM.seq (M.thn (kst (.bl false)) fun o S => .rt o S)
    SM.nil) else SM.nil)
    (SM.seq (M.thn (M.bind (M.bind (M.bind (M.bind (M.bind (M.bind (getSl 0) frz) fun o => M.bind (M.pure []) fun os => M.pure (o :: os)) (mkX "NotAlike" ["which"])) frz) fun o => M.bind (M.bind (M.bind (M.bind (M.bind (M.bind (getSl 0) frz) fun o => M.bind (M.pure []) fun os => M.pure (o :: os)) fun ds => mkX "NotAlike" ["which"] (gk false ds)) frz) fun o => M.bind (M.pure []) fun os => M.pure (o :: os)) fun os => M.pure (o :: os)) mkL) fun o1 => M.thn (M.bind (M.bind (M.bind (M.bind (M.bind (M.bind (getSl 1) frz) fun o => M.bind (M.pure []) fun os => M.pure (o :: os)) (mkX "CommandFailed" ["position"])) frz) fun o => M.bind (M.bind (M.bind (M.bind (M.bind (M.bind (getSl 1) frz) fun o => M.bind (M.pure []) fun os => M.pure (o :: os)) fun ds => mkX "CommandFailed" ["position"] (gk false ds)) frz) fun o => M.bind (M.pure []) fun os => M.pure (o :: os)) fun os => M.pure (o :: os)) mkL) fun o2 => parM 3 4 o1 o2)
    (SM.seq (M.thn (M.bind (M.bind (M.bind (M.bind (M.bind (M.bind (M.bind (getSl 3) frz) asSeq) (compM ([("_law_e", 5)].map (·.2)) (storeD 5) (M.pure true) (M.bind (M.bind (getSl 5) frz) (fld tabF_which "which")))) fun x => M.bind (M.bind (M.bind (M.bind (getSl 4) frz) asSeq) (compM ([("_law_e", 5)].map (·.2)) (storeD 5) (M.pure true) (M.bind (M.bind (getSl 5) frz) (fld tabF_position "position")))) fun y => op2 fAdd x y) fun o => M.bind (M.pure []) fun os => M.pure (o :: os)) (opN fRepr)) fun x => M.bind (M.bind (M.bind (M.bind (M.bind (M.bind (getSl 0) frz) fun o => M.bind (M.bind (M.bind (getSl 0) frz) fun o => M.bind (M.bind (M.bind (getSl 1) frz) fun o => M.bind (M.bind (M.bind (getSl 1) frz) fun o => M.bind (M.pure []) fun os => M.pure (o :: os)) fun os => M.pure (o :: os)) fun os => M.pure (o :: os)) fun os => M.pure (o :: os)) mkL) fun o => M.bind (M.pure []) fun os => M.pure (o :: os)) (opN fRepr)) fun y => cmpB neDV x y) fun b => if b then (SM.seq (M.thn (kst (.bl false)) fun o S => .rt o S)
    SM.nil) else SM.nil)
    (SM.seq (M.thn (M.bind (M.bind (M.bind (M.bind (M.bind (M.bind (M.bind (getSl 2) fun x => M.bind (getSl 3) fun y => op2 fAdd x y) fun x => M.bind (getSl 4) fun y => op2 fAdd x y) frz) asSeq) (compM ([("_law_e", 5)].map (·.2)) (storeD 5) (M.pure true) (M.bind (M.bind (M.bind (M.bind (M.bind (getSl 5) frz) fun o => M.bind (M.pure []) fun os => M.pure (o :: os)) (callF f_law_grounds 1)) fun x => M.bind (M.bind (M.bind (M.bind (kst (.int 2)) frz) fun o => M.bind (M.pure []) fun os => M.pure (o :: os)) (callF f_law_ground 1)) fun y => op2 (rvB eqDV) x y) frz))) fun o => M.bind (M.pure []) fun os => M.pure (o :: os)) (opN fAll)) fun o S => .rt o S)
    SM.nil)))))))))
def f_law_states_right : FSem := runDef m_law_states_right 6
theorem b_law_states_right {f : Addr} (T : Bt mg) (c_law_bare : KD P w K mg base "_law_bare" f_law_bare [] 3) (c_law_ground : KD P w K mg base "_law_ground" f_law_ground ["_law_way"] 1) (c_law_grounds : KD P w K mg base "_law_grounds" f_law_grounds ["_law_e"] 1) (c_law_of_states : KD P w K mg base "_law_of_states" f_law_of_states ["_law_odd"] 3) (c_CommandFailed : KC P w K mg base "CommandFailed" ["position"]) (c_NotAgreeing : KC P w K mg base "NotAgreeing" ["one", "other"]) (c_NotAlike : KC P w K mg base "NotAlike" ["which"]) (c_OtherLines : KC P w K mg base "OtherLines" ["one", "other"]) (fd_one : FdA K mg tabF_one "one") (fd_other : FdA K mg tabF_other "other") (fd_position : FdA K mg tabF_position "position") (fd_value : FdA K mg tabF_value "value") (fd_which : FdA K mg tabF_which "which") (hsys : ∃ o, base.get? sysModules = some o) (cdv : Value) (A : Around) (outer : List Env) (s : Shared) (H : Hp) (E : XK) (hr : Room 3 (A.deeper (envOfC "_law_states_right" (defScope s_law_states_right) s.heap.objs.size f cdv))) (hgd : A.guards = some []) :
    SXs (cxOf (L2.CX P w) P w K mg base ["_law_mine", "_law_yours", "_law_some", "_law_near", "_law_far", "_law_e"] "_law_states_right" (defScope s_law_states_right) f cdv A outer s H E) (defBody s_law_states_right) m_law_states_right :=
  (sxs_cons (sx_set 2 sc_law_states_right.nd rfl (by first | exact Or.inl rfl | exact Or.inr rfl) (px_callD c_law_of_states rfl hr hgd (by decide) (by rfl) (fxs_cons (fx_of (px_var 0)) fxs_nil)))
    (sxs_cons (sx_if (bx_bool (bw_or (bx_cmp (op_neA hr.units) prim_neA (px_callB (call_repr hgd (room200 hr) hsys) prim_repr (by rfl) T.repr_ (by decide +kernel) (oxs_cons (px_lc rfl sc_law_states_right.nd (by exact (ix_seq' (fx_of (px_var 2)))) (blk_of (own := [("_law_e", 5)]) (by rfl)) (by decide) (fun s H C cl fp => (gx_name 5 sc_law_states_right.nd rfl (by first | exact Or.inl rfl | exact Or.inr rfl))) (fun s H C cl fp => txs_nil) (fun s H C cl fp => (fx_fld fd_value.ex (fx_of (px_var 5))))) oxs_nil)) (px_callB (call_repr hgd (room200 hr) hsys) prim_repr (by rfl) T.repr_ (by decide +kernel) (oxs_cons (px_op2 op_mulB prim_mulB (px_lst (fxs_cons (fx_of (px_var 0)) fxs_nil)) px_int) oxs_nil)) (nomark _)) (bw_or1 (bx_val (px_callB (cr_any rfl) prim_any (by rfl) T.any_ (by decide +kernel) (oxs_cons (px_lc rfl sc_law_states_right.nd (by exact (ix_seq' (fx_of (px_var 2)))) (blk_of (own := [("_law_e", 5)]) (by rfl)) (by decide) (fun s H C cl fp => (gx_name 5 sc_law_states_right.nd rfl (by first | exact Or.inl rfl | exact Or.inr rfl))) (fun s H C cl fp => txs_nil) (fun s H C cl fp => (fx_of (px_cmp (op_neA hr.units) prim_neA (px_callD c_law_grounds rfl hr hgd (by decide) (by rfl) (fxs_cons (fx_of (px_var 5)) fxs_nil)) (px_callD c_law_ground rfl hr hgd (by decide) (by rfl) (fxs_cons (fx_of px_int) fxs_nil)) (nomark _))))) oxs_nil)))))) (sxs_cons (sx_ret px_bl)
    sxs_nil) sxs_nil)
    (sxs_cons (sx_if (bx_val (px_callB (cr_any rfl) prim_any (by rfl) T.any_ (by decide +kernel) (oxs_cons (px_lc rfl sc_law_states_right.nd (by exact (ix_seq' (fx_of (px_call0D c_law_bare rfl hr hgd (by decide) (by rfl))))) (blk_of (own := [("_law_e", 5)]) (by rfl)) (by decide) (fun s H C cl fp => (gx_name 5 sc_law_states_right.nd rfl (by first | exact Or.inl rfl | exact Or.inr rfl))) (fun s H C cl fp => txs_nil) (fun s H C cl fp => (fx_of (px_cmp (op_neA hr.units) prim_neA (px_callD c_law_grounds rfl hr hgd (by decide) (by rfl) (fxs_cons (fx_of (px_var 5)) fxs_nil)) (px_callD c_law_ground rfl hr hgd (by decide) (by rfl) (fxs_cons (fx_of px_int) fxs_nil)) (nomark _))))) oxs_nil))) (sxs_cons (sx_ret px_bl)
    sxs_nil) sxs_nil)
    (sxs_cons (sx_set 2 sc_law_states_right.nd rfl (by first | exact Or.inl rfl | exact Or.inr rfl) (px_lst (fxs_cons (fx_of (px_mkx (c_OtherLines.knX hr hgd) (by rfl) (fxs_cons (fx_of (px_var 0)) (fxs_cons (fx_of (px_var 1)) fxs_nil)))) (fxs_cons (fx_of (px_mkxk (c_OtherLines.knks hr hgd) (by rfl) (fks_cons (fx_of (px_var 1)) (fks_cons (fx_of (px_var 0)) fks_nil)))) (fxs_cons (fx_of (px_mkx (c_NotAgreeing.knX hr hgd) (by rfl) (fxs_cons (fx_of (px_var 0)) (fxs_cons (fx_of (px_var 1)) fxs_nil)))) fxs_nil)))))
    (sxs_cons (sx_append 2 rfl (fx_of (px_mkxk (c_NotAgreeing.knks hr hgd) (by rfl) (fks_cons (fx_of (px_var 1)) (fks_cons (fx_of (px_var 0)) fks_nil)))))
    (sxs_cons (sx_if (bx_cmp (op_neA hr.units) prim_neA (px_callB (call_repr hgd (room200 hr) hsys) prim_repr (by rfl) T.repr_ (by decide +kernel) (oxs_cons (px_lc rfl sc_law_states_right.nd (by exact (ix_seq' (fx_of (px_var 2)))) (blk_of (own := [("_law_e", 5)]) (by rfl)) (by decide) (fun s H C cl fp => (gx_name 5 sc_law_states_right.nd rfl (by first | exact Or.inl rfl | exact Or.inr rfl))) (fun s H C cl fp => txs_nil) (fun s H C cl fp => (fx_of (px_lst (fxs_cons (fx_fld fd_one.ex (fx_of (px_var 5))) (fxs_cons (fx_fld fd_other.ex (fx_of (px_var 5))) fxs_nil)))))) oxs_nil)) (px_callB (call_repr hgd (room200 hr) hsys) prim_repr (by rfl) T.repr_ (by decide +kernel) (oxs_cons (px_op2 op_mulB prim_mulB (px_lst (fxs_cons (fx_of (px_lst (fxs_cons (fx_of (px_var 0)) (fxs_cons (fx_of (px_var 1)) fxs_nil)))) fxs_nil)) px_int) oxs_nil)) (nomark _)) (sxs_cons (sx_ret px_bl)
    sxs_nil) sxs_nil)
    (sxs_cons (sx_par 3 4 rfl sc_law_states_right.nd rfl rfl (by decide) rfl rfl (px_lst (fxs_cons (fx_of (px_mkx (c_NotAlike.knX hr hgd) (by rfl) (fxs_cons (fx_of (px_var 0)) fxs_nil))) (fxs_cons (fx_of (px_mkxk (c_NotAlike.knk hr hgd) (by rfl) (fks_cons (fx_of (px_var 0)) fks_nil))) fxs_nil))) (px_lst (fxs_cons (fx_of (px_mkx (c_CommandFailed.knX hr hgd) (by rfl) (fxs_cons (fx_of (px_var 1)) fxs_nil))) (fxs_cons (fx_of (px_mkxk (c_CommandFailed.knk hr hgd) (by rfl) (fks_cons (fx_of (px_var 1)) fks_nil))) fxs_nil))))
    (sxs_cons (sx_if (bx_cmp (op_neA hr.units) prim_neA (px_callB (call_repr hgd (room200 hr) hsys) prim_repr (by rfl) T.repr_ (by decide +kernel) (oxs_cons (px_op2 op_addA prim_add (px_lc rfl sc_law_states_right.nd (by exact (ix_seq' (fx_of (px_var 3)))) (blk_of (own := [("_law_e", 5)]) (by rfl)) (by decide) (fun s H C cl fp => (gx_name 5 sc_law_states_right.nd rfl (by first | exact Or.inl rfl | exact Or.inr rfl))) (fun s H C cl fp => txs_nil) (fun s H C cl fp => (fx_fld fd_which.ex (fx_of (px_var 5))))) (px_lc rfl sc_law_states_right.nd (by exact (ix_seq' (fx_of (px_var 4)))) (blk_of (own := [("_law_e", 5)]) (by rfl)) (by decide) (fun s H C cl fp => (gx_name 5 sc_law_states_right.nd rfl (by first | exact Or.inl rfl | exact Or.inr rfl))) (fun s H C cl fp => txs_nil) (fun s H C cl fp => (fx_fld fd_position.ex (fx_of (px_var 5)))))) oxs_nil)) (px_callB (call_repr hgd (room200 hr) hsys) prim_repr (by rfl) T.repr_ (by decide +kernel) (oxs_cons (px_lst (fxs_cons (fx_of (px_var 0)) (fxs_cons (fx_of (px_var 0)) (fxs_cons (fx_of (px_var 1)) (fxs_cons (fx_of (px_var 1)) fxs_nil))))) oxs_nil)) (nomark _)) (sxs_cons (sx_ret px_bl)
    sxs_nil) sxs_nil)
    (sxs_cons (sx_ret (px_callB (cr_all rfl) prim_all (by rfl) T.all_ (by decide +kernel) (oxs_cons (px_lc rfl sc_law_states_right.nd (by exact (ix_seq' (fx_of (px_op2 op_addA prim_add (px_op2 op_addA prim_add (px_var 2) (px_var 3)) (px_var 4))))) (blk_of (own := [("_law_e", 5)]) (by rfl)) (by decide) (fun s H C cl fp => (gx_name 5 sc_law_states_right.nd rfl (by first | exact Or.inl rfl | exact Or.inr rfl))) (fun s H C cl fp => txs_nil) (fun s H C cl fp => (fx_of (px_cmp (op_eqA hr.units) prim_eqA (px_callD c_law_grounds rfl hr hgd (by decide) (by rfl) (fxs_cons (fx_of (px_var 5)) fxs_nil)) (px_callD c_law_ground rfl hr hgd (by decide) (by rfl) (fxs_cons (fx_of px_int) fxs_nil)) (nomark _))))) oxs_nil)))
    sxs_nil)))))))))
def s_law_others_right : Stmt := top 59
theorem sc_law_others_right : FnScope ["_law_mine", "_law_yours", "_law_much", "_law_near", "_law_far", "_law_e"] ["_law_mine", "_law_yours"] (defScope s_law_others_right) := ⟨rfl, rfl, rfl, by decide +kernel, rfl, by decide +kernel, by decide +kernel⟩
def m_law_others_right : SM :=
  (SM.seq (M.thn (M.bind (M.bind (M.bind (M.bind (M.bind (M.bind (getSl 0) frz) fun o => M.bind (M.pure []) fun os => M.pure (o :: os)) (mkX "InvalidText" ["line"])) frz) fun o => M.bind (M.bind (M.bind (M.bind (M.bind (M.bind (getSl 0) frz) fun o => M.bind (M.pure []) fun os => M.pure (o :: os)) fun ds => mkX "InvalidText" ["line"] (gk false ds)) frz) fun o => M.bind (M.pure []) fun os => M.pure (o :: os)) fun os => M.pure (o :: os)) mkL) fun o1 => M.thn (M.bind (M.bind (M.bind (M.bind (M.bind (M.bind (getSl 1) frz) fun o => M.bind (M.pure []) fun os => M.pure (o :: os)) (mkX "NoSuch" ["value"])) frz) fun o => M.bind (M.bind (M.bind (M.bind (M.bind (M.bind (getSl 1) frz) fun o => M.bind (M.pure []) fun os => M.pure (o :: os)) fun ds => mkX "NoSuch" ["value"] (gk false ds)) frz) fun o => M.bind (M.pure []) fun os => M.pure (o :: os)) fun os => M.pure (o :: os)) mkL) fun o2 => parM 3 4 o1 o2)
    (SM.seq (M.thn (M.bind (M.bind (M.bind (M.bind (M.bind (M.bind (getSl 0) frz) fun o => M.bind (M.bind (M.bind (getSl 1) frz) fun o => M.bind (M.pure []) fun os => M.pure (o :: os)) fun os => M.pure (o :: os)) (mkX "TooMany" ["what", "limit"])) frz) fun o => M.bind (M.bind (M.bind (M.bind (M.bind (M.bind (getSl 1) frz) fun o => M.bind (M.bind (M.bind (getSl 0) frz) fun o => M.bind (M.pure []) fun os => M.pure (o :: os)) fun os => M.pure (o :: os)) fun ds => mkX "TooMany" ["what", "limit"] (gk true ds)) frz) fun o => M.bind (M.pure []) fun os => M.pure (o :: os)) fun os => M.pure (o :: os)) mkL) (setSl 2))
    (SM.seq (M.thn (M.bind (M.bind (M.bind (M.bind (M.bind (M.bind (M.bind (getSl 3) frz) asSeq) (compM ([("_law_e", 5)].map (·.2)) (storeD 5) (M.pure true) (M.bind (M.bind (getSl 5) frz) (fld tabF_line "line")))) fun x => M.bind (M.bind (M.bind (M.bind (getSl 4) frz) asSeq) (compM ([("_law_e", 5)].map (·.2)) (storeD 5) (M.pure true) (M.bind (M.bind (getSl 5) frz) (fld tabF_value "value")))) fun y => op2 fAdd x y) fun o => M.bind (M.pure []) fun os => M.pure (o :: os)) (opN fRepr)) fun x => M.bind (M.bind (M.bind (M.bind (M.bind (M.bind (getSl 0) frz) fun o => M.bind (M.bind (M.bind (getSl 0) frz) fun o => M.bind (M.bind (M.bind (getSl 1) frz) fun o => M.bind (M.bind (M.bind (getSl 1) frz) fun o => M.bind (M.pure []) fun os => M.pure (o :: os)) fun os => M.pure (o :: os)) fun os => M.pure (o :: os)) fun os => M.pure (o :: os)) mkL) fun o => M.bind (M.pure []) fun os => M.pure (o :: os)) (opN fRepr)) fun y => cmpB neDV x y) fun b => if b then (SM.seq (M.thn (kst (.bl false)) fun o S => .rt o S)
    SM.nil) else SM.nil)
    (SM.seq (M.thn (M.bind (M.bind (M.bind (M.bind (M.bind (M.bind (getSl 2) frz) asSeq) (compM ([("_law_e", 5)].map (·.2)) (storeD 5) (M.pure true) (M.bind (M.bind (M.bind (M.bind (M.bind (getSl 5) frz) (fld tabF_what "what")) fun o => M.bind (M.bind (M.bind (M.bind (getSl 5) frz) (fld tabF_limit "limit")) fun o => M.bind (M.pure []) fun os => M.pure (o :: os)) fun os => M.pure (o :: os)) mkL) frz))) fun o => M.bind (M.pure []) fun os => M.pure (o :: os)) (opN fRepr)) fun x => M.bind (M.bind (M.bind (M.bind (M.bind (M.bind (M.bind (M.bind (M.bind (M.bind (getSl 0) frz) fun o => M.bind (M.bind (M.bind (getSl 1) frz) fun o => M.bind (M.pure []) fun os => M.pure (o :: os)) fun os => M.pure (o :: os)) mkL) frz) fun o => M.bind (M.pure []) fun os => M.pure (o :: os)) mkL) fun x => M.bind (kst (.int 2)) fun y => op2 fMulB x y) fun o => M.bind (M.pure []) fun os => M.pure (o :: os)) (opN fRepr)) fun y => cmpB neDV x y) fun b => if b then (SM.seq (M.thn (kst (.bl false)) fun o S => .rt o S)
    SM.nil) else SM.nil)
    (SM.seq (M.thn (M.bind (M.bind (M.bind (M.bind (M.bind (M.bind (M.bind (getSl 3) frz) asSeq) (compM ([("_law_e", 5)].map (·.2)) (storeD 5) (M.pure true) (M.bind (M.bind (M.bind (M.bind (M.bind (getSl 5) frz) fun o => M.bind (M.pure []) fun os => M.pure (o :: os)) (callF f_law_grounds 1)) fun x => M.bind (M.bind (M.bind (M.bind (kst (.int 0)) frz) fun o => M.bind (M.pure []) fun os => M.pure (o :: os)) (callF f_law_ground 1)) fun y => op2 (rvB neDV) x y) frz))) fun o => M.bind (M.pure []) fun os => M.pure (o :: os)) (opN fAny)) truthOf) fun c => if c then M.pure true else (M.bind (M.bind (M.bind (M.bind (M.bind (M.bind (getSl 4) frz) asSeq) (compM ([("_law_e", 5)].map (·.2)) (storeD 5) (M.pure true) (M.bind (M.bind (M.bind (M.bind (M.bind (getSl 5) frz) fun o => M.bind (M.pure []) fun os => M.pure (o :: os)) (callF f_law_grounds 1)) fun x => M.bind (M.bind (M.bind (M.bind (kst (.int 1)) frz) fun o => M.bind (M.pure []) fun os => M.pure (o :: os)) (callF f_law_ground 1)) fun y => op2 (rvB neDV) x y) frz))) fun o => M.bind (M.pure []) fun os => M.pure (o :: os)) (opN fAny)) truthOf)) fun b => if b then (SM.seq (M.thn (kst (.bl false)) fun o S => .rt o S)
    SM.nil) else SM.nil)
    (SM.seq (M.thn (M.bind (M.bind (M.bind (M.bind (M.bind (getSl 2) frz) asSeq) (compM ([("_law_e", 5)].map (·.2)) (storeD 5) (M.pure true) (M.bind (M.bind (M.bind (M.bind (M.bind (getSl 5) frz) fun o => M.bind (M.pure []) fun os => M.pure (o :: os)) (callF f_law_grounds 1)) fun x => M.bind (M.bind (M.bind (M.bind (kst (.int 3)) frz) fun o => M.bind (M.pure []) fun os => M.pure (o :: os)) (callF f_law_ground 1)) fun y => op2 (rvB eqDV) x y) frz))) fun o => M.bind (M.pure []) fun os => M.pure (o :: os)) (opN fAll)) fun o S => .rt o S)
    SM.nil))))))
def f_law_others_right : FSem := runDef m_law_others_right 6
theorem b_law_others_right {f : Addr} (T : Bt mg) (c_law_ground : KD P w K mg base "_law_ground" f_law_ground ["_law_way"] 1) (c_law_grounds : KD P w K mg base "_law_grounds" f_law_grounds ["_law_e"] 1) (c_InvalidText : KC P w K mg base "InvalidText" ["line"]) (c_NoSuch : KC P w K mg base "NoSuch" ["value"]) (c_TooMany : KC P w K mg base "TooMany" ["what", "limit"]) (fd_limit : FdA K mg tabF_limit "limit") (fd_line : FdA K mg tabF_line "line") (fd_value : FdA K mg tabF_value "value") (fd_what : FdA K mg tabF_what "what") (hsys : ∃ o, base.get? sysModules = some o) (cdv : Value) (A : Around) (outer : List Env) (s : Shared) (H : Hp) (E : XK) (hr : Room 2 (A.deeper (envOfC "_law_others_right" (defScope s_law_others_right) s.heap.objs.size f cdv))) (hgd : A.guards = some []) :
    SXs (cxOf (L2.CX P w) P w K mg base ["_law_mine", "_law_yours", "_law_much", "_law_near", "_law_far", "_law_e"] "_law_others_right" (defScope s_law_others_right) f cdv A outer s H E) (defBody s_law_others_right) m_law_others_right :=
  (sxs_cons (sx_par 3 4 rfl sc_law_others_right.nd rfl rfl (by decide) rfl rfl (px_lst (fxs_cons (fx_of (px_mkx (c_InvalidText.knX hr hgd) (by rfl) (fxs_cons (fx_of (px_var 0)) fxs_nil))) (fxs_cons (fx_of (px_mkxk (c_InvalidText.knk hr hgd) (by rfl) (fks_cons (fx_of (px_var 0)) fks_nil))) fxs_nil))) (px_lst (fxs_cons (fx_of (px_mkx (c_NoSuch.knX hr hgd) (by rfl) (fxs_cons (fx_of (px_var 1)) fxs_nil))) (fxs_cons (fx_of (px_mkxk (c_NoSuch.knk hr hgd) (by rfl) (fks_cons (fx_of (px_var 1)) fks_nil))) fxs_nil))))
    (sxs_cons (sx_set 2 sc_law_others_right.nd rfl (by first | exact Or.inl rfl | exact Or.inr rfl) (px_lst (fxs_cons (fx_of (px_mkx (c_TooMany.knX hr hgd) (by rfl) (fxs_cons (fx_of (px_var 0)) (fxs_cons (fx_of (px_var 1)) fxs_nil)))) (fxs_cons (fx_of (px_mkxk (c_TooMany.knks hr hgd) (by rfl) (fks_cons (fx_of (px_var 1)) (fks_cons (fx_of (px_var 0)) fks_nil)))) fxs_nil))))
    (sxs_cons (sx_if (bx_cmp (op_neA hr.units) prim_neA (px_callB (call_repr hgd (room200 hr) hsys) prim_repr (by rfl) T.repr_ (by decide +kernel) (oxs_cons (px_op2 op_addA prim_add (px_lc rfl sc_law_others_right.nd (by exact (ix_seq' (fx_of (px_var 3)))) (blk_of (own := [("_law_e", 5)]) (by rfl)) (by decide) (fun s H C cl fp => (gx_name 5 sc_law_others_right.nd rfl (by first | exact Or.inl rfl | exact Or.inr rfl))) (fun s H C cl fp => txs_nil) (fun s H C cl fp => (fx_fld fd_line.ex (fx_of (px_var 5))))) (px_lc rfl sc_law_others_right.nd (by exact (ix_seq' (fx_of (px_var 4)))) (blk_of (own := [("_law_e", 5)]) (by rfl)) (by decide) (fun s H C cl fp => (gx_name 5 sc_law_others_right.nd rfl (by first | exact Or.inl rfl | exact Or.inr rfl))) (fun s H C cl fp => txs_nil) (fun s H C cl fp => (fx_fld fd_value.ex (fx_of (px_var 5)))))) oxs_nil)) (px_callB (call_repr hgd (room200 hr) hsys) prim_repr (by rfl) T.repr_ (by decide +kernel) (oxs_cons (px_lst (fxs_cons (fx_of (px_var 0)) (fxs_cons (fx_of (px_var 0)) (fxs_cons (fx_of (px_var 1)) (fxs_cons (fx_of (px_var 1)) fxs_nil))))) oxs_nil)) (nomark _)) (sxs_cons (sx_ret px_bl)
    sxs_nil) sxs_nil)
    (sxs_cons (sx_if (bx_cmp (op_neA hr.units) prim_neA (px_callB (call_repr hgd (room200 hr) hsys) prim_repr (by rfl) T.repr_ (by decide +kernel) (oxs_cons (px_lc rfl sc_law_others_right.nd (by exact (ix_seq' (fx_of (px_var 2)))) (blk_of (own := [("_law_e", 5)]) (by rfl)) (by decide) (fun s H C cl fp => (gx_name 5 sc_law_others_right.nd rfl (by first | exact Or.inl rfl | exact Or.inr rfl))) (fun s H C cl fp => txs_nil) (fun s H C cl fp => (fx_of (px_lst (fxs_cons (fx_fld fd_what.ex (fx_of (px_var 5))) (fxs_cons (fx_fld fd_limit.ex (fx_of (px_var 5))) fxs_nil)))))) oxs_nil)) (px_callB (call_repr hgd (room200 hr) hsys) prim_repr (by rfl) T.repr_ (by decide +kernel) (oxs_cons (px_op2 op_mulB prim_mulB (px_lst (fxs_cons (fx_of (px_lst (fxs_cons (fx_of (px_var 0)) (fxs_cons (fx_of (px_var 1)) fxs_nil)))) fxs_nil)) px_int) oxs_nil)) (nomark _)) (sxs_cons (sx_ret px_bl)
    sxs_nil) sxs_nil)
    (sxs_cons (sx_if (bx_bool (bw_or (bx_val (px_callB (cr_any rfl) prim_any (by rfl) T.any_ (by decide +kernel) (oxs_cons (px_lc rfl sc_law_others_right.nd (by exact (ix_seq' (fx_of (px_var 3)))) (blk_of (own := [("_law_e", 5)]) (by rfl)) (by decide) (fun s H C cl fp => (gx_name 5 sc_law_others_right.nd rfl (by first | exact Or.inl rfl | exact Or.inr rfl))) (fun s H C cl fp => txs_nil) (fun s H C cl fp => (fx_of (px_cmp (op_neA hr.units) prim_neA (px_callD c_law_grounds rfl hr hgd (by decide) (by rfl) (fxs_cons (fx_of (px_var 5)) fxs_nil)) (px_callD c_law_ground rfl hr hgd (by decide) (by rfl) (fxs_cons (fx_of px_int) fxs_nil)) (nomark _))))) oxs_nil))) (bw_or1 (bx_val (px_callB (cr_any rfl) prim_any (by rfl) T.any_ (by decide +kernel) (oxs_cons (px_lc rfl sc_law_others_right.nd (by exact (ix_seq' (fx_of (px_var 4)))) (blk_of (own := [("_law_e", 5)]) (by rfl)) (by decide) (fun s H C cl fp => (gx_name 5 sc_law_others_right.nd rfl (by first | exact Or.inl rfl | exact Or.inr rfl))) (fun s H C cl fp => txs_nil) (fun s H C cl fp => (fx_of (px_cmp (op_neA hr.units) prim_neA (px_callD c_law_grounds rfl hr hgd (by decide) (by rfl) (fxs_cons (fx_of (px_var 5)) fxs_nil)) (px_callD c_law_ground rfl hr hgd (by decide) (by rfl) (fxs_cons (fx_of px_int) fxs_nil)) (nomark _))))) oxs_nil)))))) (sxs_cons (sx_ret px_bl)
    sxs_nil) sxs_nil)
    (sxs_cons (sx_ret (px_callB (cr_all rfl) prim_all (by rfl) T.all_ (by decide +kernel) (oxs_cons (px_lc rfl sc_law_others_right.nd (by exact (ix_seq' (fx_of (px_var 2)))) (blk_of (own := [("_law_e", 5)]) (by rfl)) (by decide) (fun s H C cl fp => (gx_name 5 sc_law_others_right.nd rfl (by first | exact Or.inl rfl | exact Or.inr rfl))) (fun s H C cl fp => txs_nil) (fun s H C cl fp => (fx_of (px_cmp (op_eqA hr.units) prim_eqA (px_callD c_law_grounds rfl hr hgd (by decide) (by rfl) (fxs_cons (fx_of (px_var 5)) fxs_nil)) (px_callD c_law_ground rfl hr hgd (by decide) (by rfl) (fxs_cons (fx_of px_int) fxs_nil)) (nomark _))))) oxs_nil)))
    sxs_nil))))))
def s_law_thing : Stmt := top 46
theorem sc_law_thing : FnScope ["_law_pot_here", "_law_turn"] ["_law_pot_here", "_law_turn"] (defScope s_law_thing) := ⟨rfl, rfl, rfl, by decide +kernel, rfl, by decide +kernel, by decide +kernel⟩
def m_law_thing : SM :=
  (SM.seq (M.thn (M.bind (getSl 0) fun _ => M.bind (M.bind (M.bind (M.bind (M.bind (M.bind (kst .non) frz) fun o => M.bind (M.bind (M.bind (getSl 1) frz) fun o => M.bind (M.bind (M.bind (M.bind (kst (.str "w")) fun x => M.bind (getSl 1) fun y => op2 fMulB x y) frz) fun o => M.bind (M.bind (M.bind (M.bind (M.bind (M.bind (getSl 1) frz) fun o => M.bind (M.bind (M.bind (M.bind (M.pure []) mkL) frz) fun o => M.bind (M.pure []) fun os => M.pure (o :: os)) fun os => M.pure (o :: os)) mkL) frz) fun o => M.bind (M.bind (M.bind (M.bind (M.bind (M.bind (getSl 1) frz) fun o => M.bind (M.bind (M.bind (M.bind (M.pure []) mkT) frz) fun o => M.bind (M.pure []) fun os => M.pure (o :: os)) fun os => M.pure (o :: os)) mkT) frz) fun o => M.bind (M.bind (M.bind (M.bind (M.bind (M.bind (getSl 1) frz) fun a => M.bind (M.bind (M.pure (.v (.od false []))) frz) fun b => M.bind (M.pure []) fun r => M.pure ((a, b) :: r)) dispM) frz) fun o => M.bind (M.bind (M.bind (kst (.bl true)) frz) fun o => M.bind (M.bind (M.bind (M.bind (getSl 1) fNeg) frz) fun o => M.bind (M.bind (M.bind (M.bind (kst (.int 10)) fun x => M.bind (kst (.int 20)) fun y => op2 fPow x y) frz) fun o => M.bind (M.pure []) fun os => M.pure (o :: os)) fun os => M.pure (o :: os)) fun os => M.pure (o :: os)) fun os => M.pure (o :: os)) fun os => M.pure (o :: os)) fun os => M.pure (o :: os)) fun os => M.pure (o :: os)) fun os => M.pure (o :: os)) fun os => M.pure (o :: os)) mkL) frz) fun o => M.bind (M.pure []) fun os => M.pure (o :: os)) (callP f_law_pick 2 0)) fun o S => .rt o S)
    SM.nil)
def f_law_thing : FSem := runDef m_law_thing 2
theorem b_law_thing {f : Addr} (T : Bt mg) (c_law_pick : KD P w K mg base "_law_pick" f_law_pick ["_law_pot_here", "_law_some"] 2) (cdv : Value) (A : Around) (outer : List Env) (s : Shared) (H : Hp) (E : XK) (hr : Room 2 (A.deeper (envOfC "_law_thing" (defScope s_law_thing) s.heap.objs.size f cdv))) (hgd : A.guards = some []) :
    SXs (cxOf (L2.CX P w) P w K mg base ["_law_pot_here", "_law_turn"] "_law_thing" (defScope s_law_thing) f cdv A outer s H E) (defBody s_law_thing) m_law_thing :=
  (sxs_cons (sx_ret (px_callpD 0 c_law_pick rfl hr hgd (by decide) (by rfl) (px_var 0) (fxs_cons (fx_of (px_lst (fxs_cons (fx_of px_non) (fxs_cons (fx_of (px_var 1)) (fxs_cons (fx_of (px_op2 op_mulB prim_mulB px_str (px_var 1))) (fxs_cons (fx_of (px_lst (fxs_cons (fx_of (px_var 1)) (fxs_cons (fx_of (px_lst fxs_nil)) fxs_nil)))) (fxs_cons (fx_of (px_tup (fxs_cons (fx_of (px_var 1)) (fxs_cons (fx_of (px_tup fxs_nil)) fxs_nil)))) (fxs_cons (fx_of (px_disp (ppx_cons (fx_of (px_var 1)) (fx_of px_dict0) ppx_nil))) (fxs_cons (fx_of px_bl) (fxs_cons (fx_of (px_neg (px_var 1))) (fxs_cons (fx_of (px_op2 op_pow prim_pow px_int px_int)) fxs_nil))))))))))) fxs_nil)))
    sxs_nil)
def s_law_each_right : Stmt := top 56
theorem sc_law_each_right : FnScope ["_law_odd", "_law_some", "_law_at", "_law_e", "_law_k"] ["_law_odd"] (defScope s_law_each_right) := ⟨rfl, rfl, rfl, by decide +kernel, rfl, by decide +kernel, by decide +kernel⟩
def m_law_each_right : SM :=
  (SM.seq (M.thn (M.bind (M.bind (M.bind (getSl 0) frz) fun o => M.bind (M.pure []) fun os => M.pure (o :: os)) (callF f_law_each 1)) (setSl 1))
    (SM.seq (M.thn (M.bind (M.bind (M.bind (getSl 1) frz) fun o => M.bind (M.pure []) fun os => M.pure (o :: os)) asEnum) fun ds => loopM (gTupM 2 (gConsM (storeD 2) (gConsM (storeD 3) gNilM))) (SM.seq (M.thn (M.bind (M.bind (M.bind (M.bind (getSl 3) frz) fun o => M.bind (M.pure []) fun os => M.pure (o :: os)) (callF f_law_marks 1)) fun x => M.bind (M.bind (M.bind (M.bind (M.bind (kst (.int 35)) frz) fun o => M.bind (M.pure []) fun os => M.pure (o :: os)) asRange1) (compM ([("_law_k", 4)].map (·.2)) (storeD 4) (M.pure true) (M.bind (M.bind (getSl 4) fun x => M.bind (getSl 2) fun y => op2 (rvB eqDV) x y) frz))) fun y => cmpB neDV x y) fun b => if b then (SM.seq (M.thn (kst (.bl false)) fun o S => .rt o S)
    SM.nil) else SM.nil)
    SM.nil) ds)
    (SM.seq (M.thn (M.bind (M.bind (M.bind (getSl 1) fun o => M.bind (M.pure []) fun os => M.pure (o :: os)) (opN fLen)) fun x => M.bind (kst (.int 35)) fun y => op2 (rvB eqDV) x y) fun o S => .rt o S)
    SM.nil)))
def f_law_each_right : FSem := runDef m_law_each_right 5
theorem b_law_each_right {f : Addr} (T : Bt mg) (c_law_each : KD P w K mg base "_law_each" f_law_each ["_law_odd"] 4) (c_law_marks : KD P w K mg base "_law_marks" f_law_marks ["_law_e"] 1) (cdv : Value) (A : Around) (outer : List Env) (s : Shared) (H : Hp) (E : XK) (hr : Room 4 (A.deeper (envOfC "_law_each_right" (defScope s_law_each_right) s.heap.objs.size f cdv))) (hgd : A.guards = some []) :
    SXs (cxOf (L2.CX P w) P w K mg base ["_law_odd", "_law_some", "_law_at", "_law_e", "_law_k"] "_law_each_right" (defScope s_law_each_right) f cdv A outer s H E) (defBody s_law_each_right) m_law_each_right :=
  (sxs_cons (sx_set 1 sc_law_each_right.nd rfl (by first | exact Or.inl rfl | exact Or.inr rfl) (px_callD c_law_each rfl hr hgd (by decide) (by rfl) (fxs_cons (fx_of (px_var 0)) fxs_nil)))
    (sxs_cons (sx_for rfl (ix_enum (by rfl) T.enumerate_ (fxs_cons (fx_of (px_var 1)) fxs_nil)) (gx_tup rfl (gxs_cons (gx_name 2 sc_law_each_right.nd rfl (by first | exact Or.inl rfl | exact Or.inr rfl)) (gxs_cons (gx_name 3 sc_law_each_right.nd rfl (by first | exact Or.inl rfl | exact Or.inr rfl)) gxs_nil))) (sxs_cons (sx_if (bx_cmp (op_neA hr.units) prim_neA (px_callD c_law_marks rfl hr hgd (by decide) (by rfl) (fxs_cons (fx_of (px_var 3)) fxs_nil)) (px_lc rfl sc_law_each_right.nd (by exact (ix_range1 (by rfl) T.range_ (fxs_cons (fx_of px_int) fxs_nil))) (blk_of (own := [("_law_k", 4)]) (by rfl)) (by decide) (fun s H C cl fp => (gx_name 4 sc_law_each_right.nd rfl (by first | exact Or.inl rfl | exact Or.inr rfl))) (fun s H C cl fp => txs_nil) (fun s H C cl fp => (fx_of (px_cmp (op_eqA hr.units) prim_eqA (px_var 4) (px_var 2) (nomark _))))) (nomark _)) (sxs_cons (sx_ret px_bl)
    sxs_nil) sxs_nil)
    sxs_nil))
    (sxs_cons (sx_ret (px_cmp (op_eqA hr.units) prim_eqA (px_callB call_lenA prim_len (by rfl) T.len_ (by decide +kernel) (oxs_cons (px_var 1) oxs_nil)) px_int (nomark _)))
    sxs_nil)))
def s_law_right : Stmt := top 60
theorem sc_law_right : FnScope ["_law_pot_here", "_law_turn", "_law_mine", "_law_yours", "_law_way"] ["_law_pot_here"] (defScope s_law_right) := ⟨rfl, rfl, rfl, by decide +kernel, rfl, by decide +kernel, by decide +kernel⟩
def m_law_right : SM :=
  (SM.seq (M.thn (M.bind (M.bind (M.bind (kst (.int 6)) frz) fun o => M.bind (M.pure []) fun os => M.pure (o :: os)) asRange1) fun ds => loopM (storeD 1) (SM.seq (M.thn (M.bind (M.bind (M.bind (M.bind (M.bind (getSl 0) fun _ => M.bind (M.bind (M.bind (getSl 1) frz) fun o => M.bind (M.pure []) fun os => M.pure (o :: os)) (callP f_law_thing 2 0)) frz) fun o => M.bind (M.bind (M.bind (M.bind (getSl 0) fun _ => M.bind (M.bind (M.bind (M.bind (getSl 1) fun x => M.bind (kst (.int 3)) fun y => op2 fAdd x y) frz) fun o => M.bind (M.pure []) fun os => M.pure (o :: os)) (callP f_law_thing 2 0)) frz) fun o => M.bind (M.pure []) fun os => M.pure (o :: os)) fun os => M.pure (o :: os)) mkT) frz) (gSM (gTupM 2 (gConsM (storeD 2) (gConsM (storeD 3) gNilM)))))
    (SM.seq (M.thn (M.bind (M.bind (M.bind (M.bind (M.bind (M.bind (getSl 2) frz) fun o => M.bind (M.bind (M.bind (getSl 3) frz) fun o => M.bind (M.pure []) fun os => M.pure (o :: os)) fun os => M.pure (o :: os)) (callF f_law_values_right 2)) truthOf) fun b => M.pure (!b)) fun c => if c then M.pure true else (M.bind (M.bind (M.bind (M.bind (M.bind (getSl 2) frz) fun o => M.bind (M.bind (M.bind (getSl 3) frz) fun o => M.bind (M.pure []) fun os => M.pure (o :: os)) fun os => M.pure (o :: os)) (callF f_law_states_right 2)) truthOf) fun b => M.pure (!b))) fun b => if b then (SM.seq (M.thn (kst (.bl false)) fun o S => .rt o S)
    SM.nil) else SM.nil)
    (SM.seq (M.thn (M.bind (M.bind (M.bind (M.bind (M.bind (M.bind (getSl 2) frz) fun o => M.bind (M.bind (M.bind (getSl 3) frz) fun o => M.bind (M.pure []) fun os => M.pure (o :: os)) fun os => M.pure (o :: os)) (callF f_law_others_right 2)) truthOf) fun b => M.pure (!b)) fun c => if c then M.pure true else (M.bind (M.bind (M.bind (M.bind (M.bind (getSl 2) frz) fun o => M.bind (M.pure []) fun os => M.pure (o :: os)) (callF f_law_each_right 1)) truthOf) fun b => M.pure (!b))) fun b => if b then (SM.seq (M.thn (kst (.bl false)) fun o S => .rt o S)
    SM.nil) else SM.nil)
    (SM.seq (M.thn (M.bind (M.bind (M.bind (M.bind (M.bind (kst (.int 8)) frz) fun o => M.bind (M.pure []) fun os => M.pure (o :: os)) asRange1) (compM ([("_law_way", 4)].map (·.2)) (storeD 4) (M.pure true) (M.bind (M.bind (M.bind (M.bind (M.bind (M.bind (getSl 4) frz) fun o => M.bind (M.bind (M.bind (getSl 2) frz) fun o => M.bind (M.pure []) fun os => M.pure (o :: os)) fun os => M.pure (o :: os)) (callF f_law_caught 2)) fun o => M.bind (M.pure []) fun os => M.pure (o :: os)) (opN fRepr)) frz))) fun x => M.bind (M.bind (M.bind (M.bind (M.bind (kst (.int 8)) frz) fun o => M.bind (M.pure []) fun os => M.pure (o :: os)) asRange1) (compM ([("_law_way", 4)].map (·.2)) (storeD 4) (M.pure true) (M.bind (M.bind (M.bind (M.bind (M.bind (M.bind (getSl 4) frz) fun o => M.bind (M.bind (M.bind (getSl 2) frz) fun o => M.bind (M.pure []) fun os => M.pure (o :: os)) fun os => M.pure (o :: os)) mkL) fun o => M.bind (M.pure []) fun os => M.pure (o :: os)) (opN fRepr)) frz))) fun y => cmpB neDV x y) fun b => if b then (SM.seq (M.thn (kst (.bl false)) fun o S => .rt o S)
    SM.nil) else SM.nil)
    SM.nil)))) ds)
    (SM.seq (M.thn (kst (.bl true)) fun o S => .rt o S)
    SM.nil))
def f_law_right : FSem := runDef m_law_right 5
theorem b_law_right {f : Addr} (T : Bt mg) (c_law_caught : KD P w K mg base "_law_caught" f_law_caught ["_law_way", "_law_odd"] 4) (c_law_each_right : KD P w K mg base "_law_each_right" f_law_each_right ["_law_odd"] 5) (c_law_others_right : KD P w K mg base "_law_others_right" f_law_others_right ["_law_mine", "_law_yours"] 3) (c_law_states_right : KD P w K mg base "_law_states_right" f_law_states_right ["_law_mine", "_law_yours"] 4) (c_law_thing : KD P w K mg base "_law_thing" f_law_thing ["_law_pot_here", "_law_turn"] 3) (c_law_values_right : KD P w K mg base "_law_values_right" f_law_values_right ["_law_mine", "_law_yours"] 4) (hsys : ∃ o, base.get? sysModules = some o) (cdv : Value) (A : Around) (outer : List Env) (s : Shared) (H : Hp) (E : XK) (hr : Room 5 (A.deeper (envOfC "_law_right" (defScope s_law_right) s.heap.objs.size f cdv))) (hgd : A.guards = some []) :
    SXs (cxOf (L2.CX P w) P w K mg base ["_law_pot_here", "_law_turn", "_law_mine", "_law_yours", "_law_way"] "_law_right" (defScope s_law_right) f cdv A outer s H E) (defBody s_law_right) m_law_right :=
  (sxs_cons (sx_for rfl (ix_range1 (by rfl) T.range_ (fxs_cons (fx_of px_int) fxs_nil)) (gx_name 1 sc_law_right.nd rfl (by first | exact Or.inl rfl | exact Or.inr rfl)) (sxs_cons (sx_asg (fx_of (px_tup (fxs_cons (fx_of (px_callpD 0 c_law_thing rfl hr hgd (by decide) (by rfl) (px_var 0) (fxs_cons (fx_of (px_var 1)) fxs_nil))) (fxs_cons (fx_of (px_callpD 0 c_law_thing rfl hr hgd (by decide) (by rfl) (px_var 0) (fxs_cons (fx_of (px_op2 op_addA prim_add (px_var 1) px_int)) fxs_nil))) fxs_nil)))) (gx_tup rfl (gxs_cons (gx_name 2 sc_law_right.nd rfl (by first | exact Or.inl rfl | exact Or.inr rfl)) (gxs_cons (gx_name 3 sc_law_right.nd rfl (by first | exact Or.inl rfl | exact Or.inr rfl)) gxs_nil))))
    (sxs_cons (sx_if (bx_bool (bw_or (bx_not (bx_val (px_callD c_law_values_right rfl hr hgd (by decide) (by rfl) (fxs_cons (fx_of (px_var 2)) (fxs_cons (fx_of (px_var 3)) fxs_nil))))) (bw_or1 (bx_not (bx_val (px_callD c_law_states_right rfl hr hgd (by decide) (by rfl) (fxs_cons (fx_of (px_var 2)) (fxs_cons (fx_of (px_var 3)) fxs_nil)))))))) (sxs_cons (sx_ret px_bl)
    sxs_nil) sxs_nil)
    (sxs_cons (sx_if (bx_bool (bw_or (bx_not (bx_val (px_callD c_law_others_right rfl hr hgd (by decide) (by rfl) (fxs_cons (fx_of (px_var 2)) (fxs_cons (fx_of (px_var 3)) fxs_nil))))) (bw_or1 (bx_not (bx_val (px_callD c_law_each_right rfl hr hgd (by decide) (by rfl) (fxs_cons (fx_of (px_var 2)) fxs_nil))))))) (sxs_cons (sx_ret px_bl)
    sxs_nil) sxs_nil)
    (sxs_cons (sx_if (bx_cmp (op_neA hr.units) prim_neA (px_lc rfl sc_law_right.nd (by exact (ix_range1 (by rfl) T.range_ (fxs_cons (fx_of px_int) fxs_nil))) (blk_of (own := [("_law_way", 4)]) (by rfl)) (by decide) (fun s H C cl fp => (gx_name 4 sc_law_right.nd rfl (by first | exact Or.inl rfl | exact Or.inr rfl))) (fun s H C cl fp => txs_nil) (fun s H C cl fp => (fx_of (px_callB (call_repr hgd (room200 hr) hsys) prim_repr (by rfl) T.repr_ (by decide +kernel) (oxs_cons (px_callD c_law_caught rfl hr hgd (by decide) (by rfl) (fxs_cons (fx_of (px_var 4)) (fxs_cons (fx_of (px_var 2)) fxs_nil))) oxs_nil))))) (px_lc rfl sc_law_right.nd (by exact (ix_range1 (by rfl) T.range_ (fxs_cons (fx_of px_int) fxs_nil))) (blk_of (own := [("_law_way", 4)]) (by rfl)) (by decide) (fun s H C cl fp => (gx_name 4 sc_law_right.nd rfl (by first | exact Or.inl rfl | exact Or.inr rfl))) (fun s H C cl fp => txs_nil) (fun s H C cl fp => (fx_of (px_callB (call_repr hgd (room200 hr) hsys) prim_repr (by rfl) T.repr_ (by decide +kernel) (oxs_cons (px_lst (fxs_cons (fx_of (px_var 4)) (fxs_cons (fx_of (px_var 2)) fxs_nil))) oxs_nil))))) (nomark _)) (sxs_cons (sx_ret px_bl)
    sxs_nil) sxs_nil)
    sxs_nil)))))
    (sxs_cons (sx_ret px_bl)
    sxs_nil))
def s_law : Stmt := top 61
theorem sc_law : FnScope ["_law_script", "_law_k"] ["_law_script"] (defScope s_law) := ⟨rfl, rfl, rfl, by decide +kernel, rfl, by decide +kernel, by decide +kernel⟩
def m_law : SM :=
  (SM.seq (M.thn (M.bind (M.bind (M.bind (M.bind (M.bind (M.bind (M.bind (M.bind (kst (.int 1)) fun o => M.bind (M.bind (M.bind (M.bind (M.bind (M.bind (getSl 0) fun o => M.bind (M.pure []) fun os => M.pure (o :: os)) (opN fLen)) fun o => M.bind (M.bind (kst (.int 3)) fun o => M.bind (M.pure []) fun os => M.pure (o :: os)) fun os => M.pure (o :: os)) (opN fMin)) fun o => M.bind (M.pure []) fun os => M.pure (o :: os)) fun os => M.pure (o :: os)) (opN fMax)) frz) fun o => M.bind (M.pure []) fun os => M.pure (o :: os)) asRange1) (compM ([("_law_k", 1)].map (·.2)) (storeD 1) (M.pure true) (M.bind (M.bind (M.bind (M.bind (M.bind (getSl 0) frz) fun o => M.bind (M.bind (M.bind (getSl 1) frz) fun o => M.bind (M.pure []) fun os => M.pure (o :: os)) fun os => M.pure (o :: os)) (callF f_law_pot 2)) fun o => M.bind (M.pure []) (callO f_law_right 1 o)) frz))) fun o => M.bind (M.pure []) fun os => M.pure (o :: os)) (opN fAll)) fun o S => .rt o S)
    SM.nil)
def f_law : FSem := runDef m_law 2
theorem b_law {f : Addr} (T : Bt mg) (c_law_pot : KD P w K mg base "_law_pot" f_law_pot ["_law_script", "_law_k"] 1) (c_law_right : KD P w K mg base "_law_right" f_law_right ["_law_pot_here"] 6) (cdv : Value) (A : Around) (outer : List Env) (s : Shared) (H : Hp) (E : XK) (hr : Room 6 (A.deeper (envOfC "law" (defScope s_law) s.heap.objs.size f cdv))) (hgd : A.guards = some []) :
    SXs (cxOf (L2.CX P w) P w K mg base ["_law_script", "_law_k"] "law" (defScope s_law) f cdv A outer s H E) (defBody s_law) m_law :=
  (sxs_cons (sx_ret (px_callB (cr_all rfl) prim_all (by rfl) T.all_ (by decide +kernel) (oxs_cons (px_lc rfl sc_law.nd (by exact (ix_range1 (by rfl) T.range_ (fxs_cons (fx_of (px_callB (call_max2 rfl) prim_max (by rfl) T.max_ (by decide +kernel) (oxs_cons px_int (oxs_cons (px_callB (call_min2 rfl) prim_min (by rfl) T.min_ (by decide +kernel) (oxs_cons (px_callB call_lenA prim_len (by rfl) T.len_ (by decide +kernel) (oxs_cons (px_var 0) oxs_nil)) (oxs_cons px_int oxs_nil))) oxs_nil)))) fxs_nil))) (blk_of (own := [("_law_k", 1)]) (by rfl)) (by decide) (fun s H C cl fp => (gx_name 1 sc_law.nd rfl (by first | exact Or.inl rfl | exact Or.inr rfl))) (fun s H C cl fp => txs_nil) (fun s H C cl fp => (fx_of (px_calloD c_law_right rfl hr hgd (by decide) (by rfl) (px_callD c_law_pot rfl hr hgd (by decide) (by rfl) (fxs_cons (fx_of (px_var 0)) (fxs_cons (fx_of (px_var 1)) fxs_nil))) fxs_nil)))) oxs_nil)))
    sxs_nil)
end
end Law
namespace Law
open PySem PySem.Spec PyProof.Rows L2 Lb
section
variable {P : Program} {w : World} {K : PySem.W.Frag} {mg : Mg} {base : Heap} {h : Heap}
def sx_InvalidIns : Stmt := inClass (top 2) 0
theorem scx_InvalidIns : FnScope ["self", "position"] ["self", "position"] (defScope sx_InvalidIns) := ⟨rfl, rfl, rfl, by decide +kernel, rfl, by decide +kernel, by decide +kernel⟩
theorem kc_InvalidIns (KX : K.In h) (G : h.Ns mainGlobals mg) (e : ExcK K "InvalidIns" "InvalidIns.__init__" sx_InvalidIns "ValueError.__new__" [.type "ValueError", .type "Exception", .type "BaseException", .type "object"] ["position"]) : KC P w K mg base "InvalidIns" ["position"] :=
  kc_of KX G e PySem.F.excBase_ValueError PySem.F.store_ValueError (ps := ["self", "position"]) rfl (by decide) (fun F => init1 F scx_InvalidIns rfl fun _ _ _ _ _ _ => pss_one (ps_xst (pv 0) (pv 1)))
    (fun _ _ _ _ _ _ us hl => match us, hl with | [_, _], _ => rfl) (fun _ _ _ _ _ _ u ws hl => match ws, hl with | [_], _ => rfl) (fun _ _ _ _ _ _ u ws hl => match ws, hl with | [_], _ => rfl)
def sx_InvalidOuts : Stmt := inClass (top 3) 0
theorem scx_InvalidOuts : FnScope ["self", "position"] ["self", "position"] (defScope sx_InvalidOuts) := ⟨rfl, rfl, rfl, by decide +kernel, rfl, by decide +kernel, by decide +kernel⟩
theorem kc_InvalidOuts (KX : K.In h) (G : h.Ns mainGlobals mg) (e : ExcK K "InvalidOuts" "InvalidOuts.__init__" sx_InvalidOuts "ValueError.__new__" [.type "ValueError", .type "Exception", .type "BaseException", .type "object"] ["position"]) : KC P w K mg base "InvalidOuts" ["position"] :=
  kc_of KX G e PySem.F.excBase_ValueError PySem.F.store_ValueError (ps := ["self", "position"]) rfl (by decide) (fun F => init1 F scx_InvalidOuts rfl fun _ _ _ _ _ _ => pss_one (ps_xst (pv 0) (pv 1)))
    (fun _ _ _ _ _ _ us hl => match us, hl with | [_, _], _ => rfl) (fun _ _ _ _ _ _ u ws hl => match ws, hl with | [_], _ => rfl) (fun _ _ _ _ _ _ u ws hl => match ws, hl with | [_], _ => rfl)
def sx_InvalidStandings : Stmt := inClass (top 4) 0
theorem scx_InvalidStandings : FnScope ["self", "value"] ["self", "value"] (defScope sx_InvalidStandings) := ⟨rfl, rfl, rfl, by decide +kernel, rfl, by decide +kernel, by decide +kernel⟩
theorem kc_InvalidStandings (KX : K.In h) (G : h.Ns mainGlobals mg) (e : ExcK K "InvalidStandings" "InvalidStandings.__init__" sx_InvalidStandings "ValueError.__new__" [.type "ValueError", .type "Exception", .type "BaseException", .type "object"] ["value"]) : KC P w K mg base "InvalidStandings" ["value"] :=
  kc_of KX G e PySem.F.excBase_ValueError PySem.F.store_ValueError (ps := ["self", "value"]) rfl (by decide) (fun F => init1 F scx_InvalidStandings rfl fun _ _ _ _ _ _ => pss_one (ps_xst (pv 0) (pv 1)))
    (fun _ _ _ _ _ _ us hl => match us, hl with | [_, _], _ => rfl) (fun _ _ _ _ _ _ u ws hl => match ws, hl with | [_], _ => rfl) (fun _ _ _ _ _ _ u ws hl => match ws, hl with | [_], _ => rfl)
def sx_InvalidReactions : Stmt := inClass (top 5) 0
theorem scx_InvalidReactions : FnScope ["self", "position"] ["self", "position"] (defScope sx_InvalidReactions) := ⟨rfl, rfl, rfl, by decide +kernel, rfl, by decide +kernel, by decide +kernel⟩
theorem kc_InvalidReactions (KX : K.In h) (G : h.Ns mainGlobals mg) (e : ExcK K "InvalidReactions" "InvalidReactions.__init__" sx_InvalidReactions "ValueError.__new__" [.type "ValueError", .type "Exception", .type "BaseException", .type "object"] ["position"]) : KC P w K mg base "InvalidReactions" ["position"] :=
  kc_of KX G e PySem.F.excBase_ValueError PySem.F.store_ValueError (ps := ["self", "position"]) rfl (by decide) (fun F => init1 F scx_InvalidReactions rfl fun _ _ _ _ _ _ => pss_one (ps_xst (pv 0) (pv 1)))
    (fun _ _ _ _ _ _ us hl => match us, hl with | [_, _], _ => rfl) (fun _ _ _ _ _ _ u ws hl => match ws, hl with | [_], _ => rfl) (fun _ _ _ _ _ _ u ws hl => match ws, hl with | [_], _ => rfl)
def sx_InvalidReaction : Stmt := inClass (top 6) 0
theorem scx_InvalidReaction : FnScope ["self", "value"] ["self", "value"] (defScope sx_InvalidReaction) := ⟨rfl, rfl, rfl, by decide +kernel, rfl, by decide +kernel, by decide +kernel⟩
theorem kc_InvalidReaction (KX : K.In h) (G : h.Ns mainGlobals mg) (e : ExcK K "InvalidReaction" "InvalidReaction.__init__" sx_InvalidReaction "ValueError.__new__" [.type "ValueError", .type "Exception", .type "BaseException", .type "object"] ["value"]) : KC P w K mg base "InvalidReaction" ["value"] :=
  kc_of KX G e PySem.F.excBase_ValueError PySem.F.store_ValueError (ps := ["self", "value"]) rfl (by decide) (fun F => init1 F scx_InvalidReaction rfl fun _ _ _ _ _ _ => pss_one (ps_xst (pv 0) (pv 1)))
    (fun _ _ _ _ _ _ us hl => match us, hl with | [_, _], _ => rfl) (fun _ _ _ _ _ _ u ws hl => match ws, hl with | [_], _ => rfl) (fun _ _ _ _ _ _ u ws hl => match ws, hl with | [_], _ => rfl)
def sx_InvalidNames : Stmt := inClass (top 7) 0
theorem scx_InvalidNames : FnScope ["self", "value"] ["self", "value"] (defScope sx_InvalidNames) := ⟨rfl, rfl, rfl, by decide +kernel, rfl, by decide +kernel, by decide +kernel⟩
theorem kc_InvalidNames (KX : K.In h) (G : h.Ns mainGlobals mg) (e : ExcK K "InvalidNames" "InvalidNames.__init__" sx_InvalidNames "ValueError.__new__" [.type "ValueError", .type "Exception", .type "BaseException", .type "object"] ["value"]) : KC P w K mg base "InvalidNames" ["value"] :=
  kc_of KX G e PySem.F.excBase_ValueError PySem.F.store_ValueError (ps := ["self", "value"]) rfl (by decide) (fun F => init1 F scx_InvalidNames rfl fun _ _ _ _ _ _ => pss_one (ps_xst (pv 0) (pv 1)))
    (fun _ _ _ _ _ _ us hl => match us, hl with | [_, _], _ => rfl) (fun _ _ _ _ _ _ u ws hl => match ws, hl with | [_], _ => rfl) (fun _ _ _ _ _ _ u ws hl => match ws, hl with | [_], _ => rfl)
def sx_InvalidNumber : Stmt := inClass (top 8) 0
theorem scx_InvalidNumber : FnScope ["self", "value"] ["self", "value"] (defScope sx_InvalidNumber) := ⟨rfl, rfl, rfl, by decide +kernel, rfl, by decide +kernel, by decide +kernel⟩
theorem kc_InvalidNumber (KX : K.In h) (G : h.Ns mainGlobals mg) (e : ExcK K "InvalidNumber" "InvalidNumber.__init__" sx_InvalidNumber "ValueError.__new__" [.type "ValueError", .type "Exception", .type "BaseException", .type "object"] ["value"]) : KC P w K mg base "InvalidNumber" ["value"] :=
  kc_of KX G e PySem.F.excBase_ValueError PySem.F.store_ValueError (ps := ["self", "value"]) rfl (by decide) (fun F => init1 F scx_InvalidNumber rfl fun _ _ _ _ _ _ => pss_one (ps_xst (pv 0) (pv 1)))
    (fun _ _ _ _ _ _ us hl => match us, hl with | [_, _], _ => rfl) (fun _ _ _ _ _ _ u ws hl => match ws, hl with | [_], _ => rfl) (fun _ _ _ _ _ _ u ws hl => match ws, hl with | [_], _ => rfl)
def sx_InvalidStanding : Stmt := inClass (top 9) 0
theorem scx_InvalidStanding : FnScope ["self", "value"] ["self", "value"] (defScope sx_InvalidStanding) := ⟨rfl, rfl, rfl, by decide +kernel, rfl, by decide +kernel, by decide +kernel⟩
theorem kc_InvalidStanding (KX : K.In h) (G : h.Ns mainGlobals mg) (e : ExcK K "InvalidStanding" "InvalidStanding.__init__" sx_InvalidStanding "ValueError.__new__" [.type "ValueError", .type "Exception", .type "BaseException", .type "object"] ["value"]) : KC P w K mg base "InvalidStanding" ["value"] :=
  kc_of KX G e PySem.F.excBase_ValueError PySem.F.store_ValueError (ps := ["self", "value"]) rfl (by decide) (fun F => init1 F scx_InvalidStanding rfl fun _ _ _ _ _ _ => pss_one (ps_xst (pv 0) (pv 1)))
    (fun _ _ _ _ _ _ us hl => match us, hl with | [_, _], _ => rfl) (fun _ _ _ _ _ _ u ws hl => match ws, hl with | [_], _ => rfl) (fun _ _ _ _ _ _ u ws hl => match ws, hl with | [_], _ => rfl)
def sx_InvalidStreams : Stmt := inClass (top 10) 0
theorem scx_InvalidStreams : FnScope ["self", "value"] ["self", "value"] (defScope sx_InvalidStreams) := ⟨rfl, rfl, rfl, by decide +kernel, rfl, by decide +kernel, by decide +kernel⟩
theorem kc_InvalidStreams (KX : K.In h) (G : h.Ns mainGlobals mg) (e : ExcK K "InvalidStreams" "InvalidStreams.__init__" sx_InvalidStreams "ValueError.__new__" [.type "ValueError", .type "Exception", .type "BaseException", .type "object"] ["value"]) : KC P w K mg base "InvalidStreams" ["value"] :=
  kc_of KX G e PySem.F.excBase_ValueError PySem.F.store_ValueError (ps := ["self", "value"]) rfl (by decide) (fun F => init1 F scx_InvalidStreams rfl fun _ _ _ _ _ _ => pss_one (ps_xst (pv 0) (pv 1)))
    (fun _ _ _ _ _ _ us hl => match us, hl with | [_, _], _ => rfl) (fun _ _ _ _ _ _ u ws hl => match ws, hl with | [_], _ => rfl) (fun _ _ _ _ _ _ u ws hl => match ws, hl with | [_], _ => rfl)
def sx_InvalidRun : Stmt := inClass (top 11) 0
theorem scx_InvalidRun : FnScope ["self", "position"] ["self", "position"] (defScope sx_InvalidRun) := ⟨rfl, rfl, rfl, by decide +kernel, rfl, by decide +kernel, by decide +kernel⟩
theorem kc_InvalidRun (KX : K.In h) (G : h.Ns mainGlobals mg) (e : ExcK K "InvalidRun" "InvalidRun.__init__" sx_InvalidRun "ValueError.__new__" [.type "ValueError", .type "Exception", .type "BaseException", .type "object"] ["position"]) : KC P w K mg base "InvalidRun" ["position"] :=
  kc_of KX G e PySem.F.excBase_ValueError PySem.F.store_ValueError (ps := ["self", "position"]) rfl (by decide) (fun F => init1 F scx_InvalidRun rfl fun _ _ _ _ _ _ => pss_one (ps_xst (pv 0) (pv 1)))
    (fun _ _ _ _ _ _ us hl => match us, hl with | [_, _], _ => rfl) (fun _ _ _ _ _ _ u ws hl => match ws, hl with | [_], _ => rfl) (fun _ _ _ _ _ _ u ws hl => match ws, hl with | [_], _ => rfl)
def sx_InvalidArrivals : Stmt := inClass (top 12) 0
theorem scx_InvalidArrivals : FnScope ["self", "position"] ["self", "position"] (defScope sx_InvalidArrivals) := ⟨rfl, rfl, rfl, by decide +kernel, rfl, by decide +kernel, by decide +kernel⟩
theorem kc_InvalidArrivals (KX : K.In h) (G : h.Ns mainGlobals mg) (e : ExcK K "InvalidArrivals" "InvalidArrivals.__init__" sx_InvalidArrivals "ValueError.__new__" [.type "ValueError", .type "Exception", .type "BaseException", .type "object"] ["position"]) : KC P w K mg base "InvalidArrivals" ["position"] :=
  kc_of KX G e PySem.F.excBase_ValueError PySem.F.store_ValueError (ps := ["self", "position"]) rfl (by decide) (fun F => init1 F scx_InvalidArrivals rfl fun _ _ _ _ _ _ => pss_one (ps_xst (pv 0) (pv 1)))
    (fun _ _ _ _ _ _ us hl => match us, hl with | [_, _], _ => rfl) (fun _ _ _ _ _ _ u ws hl => match ws, hl with | [_], _ => rfl) (fun _ _ _ _ _ _ u ws hl => match ws, hl with | [_], _ => rfl)
def sx_InvalidRule : Stmt := inClass (top 13) 0
theorem scx_InvalidRule : FnScope ["self", "value"] ["self", "value"] (defScope sx_InvalidRule) := ⟨rfl, rfl, rfl, by decide +kernel, rfl, by decide +kernel, by decide +kernel⟩
theorem kc_InvalidRule (KX : K.In h) (G : h.Ns mainGlobals mg) (e : ExcK K "InvalidRule" "InvalidRule.__init__" sx_InvalidRule "ValueError.__new__" [.type "ValueError", .type "Exception", .type "BaseException", .type "object"] ["value"]) : KC P w K mg base "InvalidRule" ["value"] :=
  kc_of KX G e PySem.F.excBase_ValueError PySem.F.store_ValueError (ps := ["self", "value"]) rfl (by decide) (fun F => init1 F scx_InvalidRule rfl fun _ _ _ _ _ _ => pss_one (ps_xst (pv 0) (pv 1)))
    (fun _ _ _ _ _ _ us hl => match us, hl with | [_, _], _ => rfl) (fun _ _ _ _ _ _ u ws hl => match ws, hl with | [_], _ => rfl) (fun _ _ _ _ _ _ u ws hl => match ws, hl with | [_], _ => rfl)
def sx_InvalidLine : Stmt := inClass (top 14) 0
theorem scx_InvalidLine : FnScope ["self", "value"] ["self", "value"] (defScope sx_InvalidLine) := ⟨rfl, rfl, rfl, by decide +kernel, rfl, by decide +kernel, by decide +kernel⟩
theorem kc_InvalidLine (KX : K.In h) (G : h.Ns mainGlobals mg) (e : ExcK K "InvalidLine" "InvalidLine.__init__" sx_InvalidLine "ValueError.__new__" [.type "ValueError", .type "Exception", .type "BaseException", .type "object"] ["value"]) : KC P w K mg base "InvalidLine" ["value"] :=
  kc_of KX G e PySem.F.excBase_ValueError PySem.F.store_ValueError (ps := ["self", "value"]) rfl (by decide) (fun F => init1 F scx_InvalidLine rfl fun _ _ _ _ _ _ => pss_one (ps_xst (pv 0) (pv 1)))
    (fun _ _ _ _ _ _ us hl => match us, hl with | [_, _], _ => rfl) (fun _ _ _ _ _ _ u ws hl => match ws, hl with | [_], _ => rfl) (fun _ _ _ _ _ _ u ws hl => match ws, hl with | [_], _ => rfl)
def sx_InvalidLines : Stmt := inClass (top 15) 0
theorem scx_InvalidLines : FnScope ["self", "position"] ["self", "position"] (defScope sx_InvalidLines) := ⟨rfl, rfl, rfl, by decide +kernel, rfl, by decide +kernel, by decide +kernel⟩
theorem kc_InvalidLines (KX : K.In h) (G : h.Ns mainGlobals mg) (e : ExcK K "InvalidLines" "InvalidLines.__init__" sx_InvalidLines "ValueError.__new__" [.type "ValueError", .type "Exception", .type "BaseException", .type "object"] ["position"]) : KC P w K mg base "InvalidLines" ["position"] :=
  kc_of KX G e PySem.F.excBase_ValueError PySem.F.store_ValueError (ps := ["self", "position"]) rfl (by decide) (fun F => init1 F scx_InvalidLines rfl fun _ _ _ _ _ _ => pss_one (ps_xst (pv 0) (pv 1)))
    (fun _ _ _ _ _ _ us hl => match us, hl with | [_, _], _ => rfl) (fun _ _ _ _ _ _ u ws hl => match ws, hl with | [_], _ => rfl) (fun _ _ _ _ _ _ u ws hl => match ws, hl with | [_], _ => rfl)
def sx_InvalidFlows : Stmt := inClass (top 16) 0
theorem scx_InvalidFlows : FnScope ["self", "value"] ["self", "value"] (defScope sx_InvalidFlows) := ⟨rfl, rfl, rfl, by decide +kernel, rfl, by decide +kernel, by decide +kernel⟩
theorem kc_InvalidFlows (KX : K.In h) (G : h.Ns mainGlobals mg) (e : ExcK K "InvalidFlows" "InvalidFlows.__init__" sx_InvalidFlows "ValueError.__new__" [.type "ValueError", .type "Exception", .type "BaseException", .type "object"] ["value"]) : KC P w K mg base "InvalidFlows" ["value"] :=
  kc_of KX G e PySem.F.excBase_ValueError PySem.F.store_ValueError (ps := ["self", "value"]) rfl (by decide) (fun F => init1 F scx_InvalidFlows rfl fun _ _ _ _ _ _ => pss_one (ps_xst (pv 0) (pv 1)))
    (fun _ _ _ _ _ _ us hl => match us, hl with | [_, _], _ => rfl) (fun _ _ _ _ _ _ u ws hl => match ws, hl with | [_], _ => rfl) (fun _ _ _ _ _ _ u ws hl => match ws, hl with | [_], _ => rfl)
def sx_InvalidSizes : Stmt := inClass (top 17) 0
theorem scx_InvalidSizes : FnScope ["self", "value"] ["self", "value"] (defScope sx_InvalidSizes) := ⟨rfl, rfl, rfl, by decide +kernel, rfl, by decide +kernel, by decide +kernel⟩
theorem kc_InvalidSizes (KX : K.In h) (G : h.Ns mainGlobals mg) (e : ExcK K "InvalidSizes" "InvalidSizes.__init__" sx_InvalidSizes "ValueError.__new__" [.type "ValueError", .type "Exception", .type "BaseException", .type "object"] ["value"]) : KC P w K mg base "InvalidSizes" ["value"] :=
  kc_of KX G e PySem.F.excBase_ValueError PySem.F.store_ValueError (ps := ["self", "value"]) rfl (by decide) (fun F => init1 F scx_InvalidSizes rfl fun _ _ _ _ _ _ => pss_one (ps_xst (pv 0) (pv 1)))
    (fun _ _ _ _ _ _ us hl => match us, hl with | [_, _], _ => rfl) (fun _ _ _ _ _ _ u ws hl => match ws, hl with | [_], _ => rfl) (fun _ _ _ _ _ _ u ws hl => match ws, hl with | [_], _ => rfl)
def sx_InvalidRooms : Stmt := inClass (top 18) 0
theorem scx_InvalidRooms : FnScope ["self", "value"] ["self", "value"] (defScope sx_InvalidRooms) := ⟨rfl, rfl, rfl, by decide +kernel, rfl, by decide +kernel, by decide +kernel⟩
theorem kc_InvalidRooms (KX : K.In h) (G : h.Ns mainGlobals mg) (e : ExcK K "InvalidRooms" "InvalidRooms.__init__" sx_InvalidRooms "ValueError.__new__" [.type "ValueError", .type "Exception", .type "BaseException", .type "object"] ["value"]) : KC P w K mg base "InvalidRooms" ["value"] :=
  kc_of KX G e PySem.F.excBase_ValueError PySem.F.store_ValueError (ps := ["self", "value"]) rfl (by decide) (fun F => init1 F scx_InvalidRooms rfl fun _ _ _ _ _ _ => pss_one (ps_xst (pv 0) (pv 1)))
    (fun _ _ _ _ _ _ us hl => match us, hl with | [_, _], _ => rfl) (fun _ _ _ _ _ _ u ws hl => match ws, hl with | [_], _ => rfl) (fun _ _ _ _ _ _ u ws hl => match ws, hl with | [_], _ => rfl)
def sx_InvalidCount : Stmt := inClass (top 19) 0
theorem scx_InvalidCount : FnScope ["self", "value"] ["self", "value"] (defScope sx_InvalidCount) := ⟨rfl, rfl, rfl, by decide +kernel, rfl, by decide +kernel, by decide +kernel⟩
theorem kc_InvalidCount (KX : K.In h) (G : h.Ns mainGlobals mg) (e : ExcK K "InvalidCount" "InvalidCount.__init__" sx_InvalidCount "ValueError.__new__" [.type "ValueError", .type "Exception", .type "BaseException", .type "object"] ["value"]) : KC P w K mg base "InvalidCount" ["value"] :=
  kc_of KX G e PySem.F.excBase_ValueError PySem.F.store_ValueError (ps := ["self", "value"]) rfl (by decide) (fun F => init1 F scx_InvalidCount rfl fun _ _ _ _ _ _ => pss_one (ps_xst (pv 0) (pv 1)))
    (fun _ _ _ _ _ _ us hl => match us, hl with | [_, _], _ => rfl) (fun _ _ _ _ _ _ u ws hl => match ws, hl with | [_], _ => rfl) (fun _ _ _ _ _ _ u ws hl => match ws, hl with | [_], _ => rfl)
def sx_InvalidCounts : Stmt := inClass (top 20) 0
theorem scx_InvalidCounts : FnScope ["self", "value"] ["self", "value"] (defScope sx_InvalidCounts) := ⟨rfl, rfl, rfl, by decide +kernel, rfl, by decide +kernel, by decide +kernel⟩
theorem kc_InvalidCounts (KX : K.In h) (G : h.Ns mainGlobals mg) (e : ExcK K "InvalidCounts" "InvalidCounts.__init__" sx_InvalidCounts "ValueError.__new__" [.type "ValueError", .type "Exception", .type "BaseException", .type "object"] ["value"]) : KC P w K mg base "InvalidCounts" ["value"] :=
  kc_of KX G e PySem.F.excBase_ValueError PySem.F.store_ValueError (ps := ["self", "value"]) rfl (by decide) (fun F => init1 F scx_InvalidCounts rfl fun _ _ _ _ _ _ => pss_one (ps_xst (pv 0) (pv 1)))
    (fun _ _ _ _ _ _ us hl => match us, hl with | [_, _], _ => rfl) (fun _ _ _ _ _ _ u ws hl => match ws, hl with | [_], _ => rfl) (fun _ _ _ _ _ _ u ws hl => match ws, hl with | [_], _ => rfl)
def sx_InvalidText : Stmt := inClass (top 21) 0
theorem scx_InvalidText : FnScope ["self", "line"] ["self", "line"] (defScope sx_InvalidText) := ⟨rfl, rfl, rfl, by decide +kernel, rfl, by decide +kernel, by decide +kernel⟩
theorem kc_InvalidText (KX : K.In h) (G : h.Ns mainGlobals mg) (e : ExcK K "InvalidText" "InvalidText.__init__" sx_InvalidText "ValueError.__new__" [.type "ValueError", .type "Exception", .type "BaseException", .type "object"] ["line"]) : KC P w K mg base "InvalidText" ["line"] :=
  kc_of KX G e PySem.F.excBase_ValueError PySem.F.store_ValueError (ps := ["self", "line"]) rfl (by decide) (fun F => init1 F scx_InvalidText rfl fun _ _ _ _ _ _ => pss_one (ps_xst (pv 0) (pv 1)))
    (fun _ _ _ _ _ _ us hl => match us, hl with | [_, _], _ => rfl) (fun _ _ _ _ _ _ u ws hl => match ws, hl with | [_], _ => rfl) (fun _ _ _ _ _ _ u ws hl => match ws, hl with | [_], _ => rfl)
def sx_InvalidClaim : Stmt := inClass (top 22) 0
theorem scx_InvalidClaim : FnScope ["self", "value"] ["self", "value"] (defScope sx_InvalidClaim) := ⟨rfl, rfl, rfl, by decide +kernel, rfl, by decide +kernel, by decide +kernel⟩
theorem kc_InvalidClaim (KX : K.In h) (G : h.Ns mainGlobals mg) (e : ExcK K "InvalidClaim" "InvalidClaim.__init__" sx_InvalidClaim "ValueError.__new__" [.type "ValueError", .type "Exception", .type "BaseException", .type "object"] ["value"]) : KC P w K mg base "InvalidClaim" ["value"] :=
  kc_of KX G e PySem.F.excBase_ValueError PySem.F.store_ValueError (ps := ["self", "value"]) rfl (by decide) (fun F => init1 F scx_InvalidClaim rfl fun _ _ _ _ _ _ => pss_one (ps_xst (pv 0) (pv 1)))
    (fun _ _ _ _ _ _ us hl => match us, hl with | [_, _], _ => rfl) (fun _ _ _ _ _ _ u ws hl => match ws, hl with | [_], _ => rfl) (fun _ _ _ _ _ _ u ws hl => match ws, hl with | [_], _ => rfl)
def sx_InvalidCommand : Stmt := inClass (top 23) 0
theorem scx_InvalidCommand : FnScope ["self", "value"] ["self", "value"] (defScope sx_InvalidCommand) := ⟨rfl, rfl, rfl, by decide +kernel, rfl, by decide +kernel, by decide +kernel⟩
theorem kc_InvalidCommand (KX : K.In h) (G : h.Ns mainGlobals mg) (e : ExcK K "InvalidCommand" "InvalidCommand.__init__" sx_InvalidCommand "ValueError.__new__" [.type "ValueError", .type "Exception", .type "BaseException", .type "object"] ["value"]) : KC P w K mg base "InvalidCommand" ["value"] :=
  kc_of KX G e PySem.F.excBase_ValueError PySem.F.store_ValueError (ps := ["self", "value"]) rfl (by decide) (fun F => init1 F scx_InvalidCommand rfl fun _ _ _ _ _ _ => pss_one (ps_xst (pv 0) (pv 1)))
    (fun _ _ _ _ _ _ us hl => match us, hl with | [_, _], _ => rfl) (fun _ _ _ _ _ _ u ws hl => match ws, hl with | [_], _ => rfl) (fun _ _ _ _ _ _ u ws hl => match ws, hl with | [_], _ => rfl)
def sx_NoSuch : Stmt := inClass (top 25) 0
theorem scx_NoSuch : FnScope ["self", "value"] ["self", "value"] (defScope sx_NoSuch) := ⟨rfl, rfl, rfl, by decide +kernel, rfl, by decide +kernel, by decide +kernel⟩
theorem kc_NoSuch (KX : K.In h) (G : h.Ns mainGlobals mg) (e : ExcK K "NoSuch" "NoSuch.__init__" sx_NoSuch "LookupError.__new__" [.type "LookupError", .type "Exception", .type "BaseException", .type "object"] ["value"]) : KC P w K mg base "NoSuch" ["value"] :=
  kc_of KX G e PySem.F.excBase_LookupError PySem.F.store_LookupError (ps := ["self", "value"]) rfl (by decide) (fun F => init1 F scx_NoSuch rfl fun _ _ _ _ _ _ => pss_one (ps_xst (pv 0) (pv 1)))
    (fun _ _ _ _ _ _ us hl => match us, hl with | [_, _], _ => rfl) (fun _ _ _ _ _ _ u ws hl => match ws, hl with | [_], _ => rfl) (fun _ _ _ _ _ _ u ws hl => match ws, hl with | [_], _ => rfl)
def sx_SharedLine : Stmt := inClass (top 27) 0
theorem scx_SharedLine : FnScope ["self", "value"] ["self", "value"] (defScope sx_SharedLine) := ⟨rfl, rfl, rfl, by decide +kernel, rfl, by decide +kernel, by decide +kernel⟩
theorem kc_SharedLine (KX : K.In h) (G : h.Ns mainGlobals mg) (e : ExcK K "SharedLine" "SharedLine.__init__" sx_SharedLine "RuntimeError.__new__" [.type "RuntimeError", .type "Exception", .type "BaseException", .type "object"] ["value"]) : KC P w K mg base "SharedLine" ["value"] :=
  kc_of KX G e PySem.F.excBase_RuntimeError PySem.F.store_RuntimeError (ps := ["self", "value"]) rfl (by decide) (fun F => init1 F scx_SharedLine rfl fun _ _ _ _ _ _ => pss_one (ps_xst (pv 0) (pv 1)))
    (fun _ _ _ _ _ _ us hl => match us, hl with | [_, _], _ => rfl) (fun _ _ _ _ _ _ u ws hl => match ws, hl with | [_], _ => rfl) (fun _ _ _ _ _ _ u ws hl => match ws, hl with | [_], _ => rfl)
def sx_OtherLines : Stmt := inClass (top 28) 0
theorem scx_OtherLines : FnScope ["self", "one", "other"] ["self", "one", "other"] (defScope sx_OtherLines) := ⟨rfl, rfl, rfl, by decide +kernel, rfl, by decide +kernel, by decide +kernel⟩
theorem kc_OtherLines (KX : K.In h) (G : h.Ns mainGlobals mg) (e : ExcK K "OtherLines" "OtherLines.__init__" sx_OtherLines "RuntimeError.__new__" [.type "RuntimeError", .type "Exception", .type "BaseException", .type "object"] ["one", "other"]) : KC P w K mg base "OtherLines" ["one", "other"] :=
  kc_of KX G e PySem.F.excBase_RuntimeError PySem.F.store_RuntimeError (ps := ["self", "one", "other"]) rfl (by decide) (fun F => init2 F scx_OtherLines rfl fun _ _ _ _ _ _ => pss_cons (ps_xst (pv 0) (pv 1)) (pss_one (ps_xst (pv 0) (pv 2))))
    (fun _ _ _ _ _ _ us hl => match us, hl with | [_, _, _], _ => rfl) (fun _ _ _ _ _ _ u ws hl => match ws, hl with | [_, _], _ => rfl) (fun _ _ _ _ _ _ u ws hl => match ws, hl with | [_, _], _ => rfl)
def sx_NotAgreeing : Stmt := inClass (top 29) 0
theorem scx_NotAgreeing : FnScope ["self", "one", "other"] ["self", "one", "other"] (defScope sx_NotAgreeing) := ⟨rfl, rfl, rfl, by decide +kernel, rfl, by decide +kernel, by decide +kernel⟩
theorem kc_NotAgreeing (KX : K.In h) (G : h.Ns mainGlobals mg) (e : ExcK K "NotAgreeing" "NotAgreeing.__init__" sx_NotAgreeing "RuntimeError.__new__" [.type "RuntimeError", .type "Exception", .type "BaseException", .type "object"] ["one", "other"]) : KC P w K mg base "NotAgreeing" ["one", "other"] :=
  kc_of KX G e PySem.F.excBase_RuntimeError PySem.F.store_RuntimeError (ps := ["self", "one", "other"]) rfl (by decide) (fun F => init2 F scx_NotAgreeing rfl fun _ _ _ _ _ _ => pss_cons (ps_xst (pv 0) (pv 1)) (pss_one (ps_xst (pv 0) (pv 2))))
    (fun _ _ _ _ _ _ us hl => match us, hl with | [_, _, _], _ => rfl) (fun _ _ _ _ _ _ u ws hl => match ws, hl with | [_, _], _ => rfl) (fun _ _ _ _ _ _ u ws hl => match ws, hl with | [_, _], _ => rfl)
def sx_NotReached : Stmt := inClass (top 30) 0
theorem scx_NotReached : FnScope ["self", "value"] ["self", "value"] (defScope sx_NotReached) := ⟨rfl, rfl, rfl, by decide +kernel, rfl, by decide +kernel, by decide +kernel⟩
theorem kc_NotReached (KX : K.In h) (G : h.Ns mainGlobals mg) (e : ExcK K "NotReached" "NotReached.__init__" sx_NotReached "RuntimeError.__new__" [.type "RuntimeError", .type "Exception", .type "BaseException", .type "object"] ["value"]) : KC P w K mg base "NotReached" ["value"] :=
  kc_of KX G e PySem.F.excBase_RuntimeError PySem.F.store_RuntimeError (ps := ["self", "value"]) rfl (by decide) (fun F => init1 F scx_NotReached rfl fun _ _ _ _ _ _ => pss_one (ps_xst (pv 0) (pv 1)))
    (fun _ _ _ _ _ _ us hl => match us, hl with | [_, _], _ => rfl) (fun _ _ _ _ _ _ u ws hl => match ws, hl with | [_], _ => rfl) (fun _ _ _ _ _ _ u ws hl => match ws, hl with | [_], _ => rfl)
def sx_NotAlike : Stmt := inClass (top 31) 0
theorem scx_NotAlike : FnScope ["self", "which"] ["self", "which"] (defScope sx_NotAlike) := ⟨rfl, rfl, rfl, by decide +kernel, rfl, by decide +kernel, by decide +kernel⟩
theorem kc_NotAlike (KX : K.In h) (G : h.Ns mainGlobals mg) (e : ExcK K "NotAlike" "NotAlike.__init__" sx_NotAlike "RuntimeError.__new__" [.type "RuntimeError", .type "Exception", .type "BaseException", .type "object"] ["which"]) : KC P w K mg base "NotAlike" ["which"] :=
  kc_of KX G e PySem.F.excBase_RuntimeError PySem.F.store_RuntimeError (ps := ["self", "which"]) rfl (by decide) (fun F => init1 F scx_NotAlike rfl fun _ _ _ _ _ _ => pss_one (ps_xst (pv 0) (pv 1)))
    (fun _ _ _ _ _ _ us hl => match us, hl with | [_, _], _ => rfl) (fun _ _ _ _ _ _ u ws hl => match ws, hl with | [_], _ => rfl) (fun _ _ _ _ _ _ u ws hl => match ws, hl with | [_], _ => rfl)
def sx_NotSmooth : Stmt := inClass (top 32) 0
theorem scx_NotSmooth : FnScope ["self"] ["self"] (defScope sx_NotSmooth) := ⟨rfl, rfl, rfl, by decide +kernel, rfl, by decide +kernel, by decide +kernel⟩
theorem kc_NotSmooth (KX : K.In h) (G : h.Ns mainGlobals mg) (e : ExcK K "NotSmooth" "NotSmooth.__init__" sx_NotSmooth "RuntimeError.__new__" [.type "RuntimeError", .type "Exception", .type "BaseException", .type "object"] []) : KC P w K mg base "NotSmooth" [] :=
  kc_of KX G e PySem.F.excBase_RuntimeError PySem.F.store_RuntimeError (ps := ["self"]) rfl (by decide) (fun F => init0 F scx_NotSmooth rfl fun _ _ _ _ _ _ => pss_one ps_pass)
    (fun _ _ _ _ _ _ us hl => match us, hl with | [_], _ => rfl) (fun _ _ _ _ _ _ u ws hl => match ws, hl with | [], _ => rfl) (fun _ _ _ _ _ _ u ws hl => match ws, hl with | [], _ => rfl)
def sx_Noticed : Stmt := inClass (top 33) 0
theorem scx_Noticed : FnScope ["self", "value"] ["self", "value"] (defScope sx_Noticed) := ⟨rfl, rfl, rfl, by decide +kernel, rfl, by decide +kernel, by decide +kernel⟩
theorem kc_Noticed (KX : K.In h) (G : h.Ns mainGlobals mg) (e : ExcK K "Noticed" "Noticed.__init__" sx_Noticed "RuntimeError.__new__" [.type "RuntimeError", .type "Exception", .type "BaseException", .type "object"] ["value"]) : KC P w K mg base "Noticed" ["value"] :=
  kc_of KX G e PySem.F.excBase_RuntimeError PySem.F.store_RuntimeError (ps := ["self", "value"]) rfl (by decide) (fun F => init1 F scx_Noticed rfl fun _ _ _ _ _ _ => pss_one (ps_xst (pv 0) (pv 1)))
    (fun _ _ _ _ _ _ us hl => match us, hl with | [_, _], _ => rfl) (fun _ _ _ _ _ _ u ws hl => match ws, hl with | [_], _ => rfl) (fun _ _ _ _ _ _ u ws hl => match ws, hl with | [_], _ => rfl)
def sx_NoStore : Stmt := inClass (top 34) 0
theorem scx_NoStore : FnScope ["self"] ["self"] (defScope sx_NoStore) := ⟨rfl, rfl, rfl, by decide +kernel, rfl, by decide +kernel, by decide +kernel⟩
theorem kc_NoStore (KX : K.In h) (G : h.Ns mainGlobals mg) (e : ExcK K "NoStore" "NoStore.__init__" sx_NoStore "RuntimeError.__new__" [.type "RuntimeError", .type "Exception", .type "BaseException", .type "object"] []) : KC P w K mg base "NoStore" [] :=
  kc_of KX G e PySem.F.excBase_RuntimeError PySem.F.store_RuntimeError (ps := ["self"]) rfl (by decide) (fun F => init0 F scx_NoStore rfl fun _ _ _ _ _ _ => pss_one ps_pass)
    (fun _ _ _ _ _ _ us hl => match us, hl with | [_], _ => rfl) (fun _ _ _ _ _ _ u ws hl => match ws, hl with | [], _ => rfl) (fun _ _ _ _ _ _ u ws hl => match ws, hl with | [], _ => rfl)
def sx_CannotBeDone : Stmt := inClass (top 35) 0
theorem scx_CannotBeDone : FnScope ["self", "value"] ["self", "value"] (defScope sx_CannotBeDone) := ⟨rfl, rfl, rfl, by decide +kernel, rfl, by decide +kernel, by decide +kernel⟩
theorem kc_CannotBeDone (KX : K.In h) (G : h.Ns mainGlobals mg) (e : ExcK K "CannotBeDone" "CannotBeDone.__init__" sx_CannotBeDone "RuntimeError.__new__" [.type "RuntimeError", .type "Exception", .type "BaseException", .type "object"] ["value"]) : KC P w K mg base "CannotBeDone" ["value"] :=
  kc_of KX G e PySem.F.excBase_RuntimeError PySem.F.store_RuntimeError (ps := ["self", "value"]) rfl (by decide) (fun F => init1 F scx_CannotBeDone rfl fun _ _ _ _ _ _ => pss_one (ps_xst (pv 0) (pv 1)))
    (fun _ _ _ _ _ _ us hl => match us, hl with | [_, _], _ => rfl) (fun _ _ _ _ _ _ u ws hl => match ws, hl with | [_], _ => rfl) (fun _ _ _ _ _ _ u ws hl => match ws, hl with | [_], _ => rfl)
def sx_NothingToUndo : Stmt := inClass (top 36) 0
theorem scx_NothingToUndo : FnScope ["self"] ["self"] (defScope sx_NothingToUndo) := ⟨rfl, rfl, rfl, by decide +kernel, rfl, by decide +kernel, by decide +kernel⟩
theorem kc_NothingToUndo (KX : K.In h) (G : h.Ns mainGlobals mg) (e : ExcK K "NothingToUndo" "NothingToUndo.__init__" sx_NothingToUndo "RuntimeError.__new__" [.type "RuntimeError", .type "Exception", .type "BaseException", .type "object"] []) : KC P w K mg base "NothingToUndo" [] :=
  kc_of KX G e PySem.F.excBase_RuntimeError PySem.F.store_RuntimeError (ps := ["self"]) rfl (by decide) (fun F => init0 F scx_NothingToUndo rfl fun _ _ _ _ _ _ => pss_one ps_pass)
    (fun _ _ _ _ _ _ us hl => match us, hl with | [_], _ => rfl) (fun _ _ _ _ _ _ u ws hl => match ws, hl with | [], _ => rfl) (fun _ _ _ _ _ _ u ws hl => match ws, hl with | [], _ => rfl)
def sx_CommandFailed : Stmt := inClass (top 37) 0
theorem scx_CommandFailed : FnScope ["self", "position"] ["self", "position"] (defScope sx_CommandFailed) := ⟨rfl, rfl, rfl, by decide +kernel, rfl, by decide +kernel, by decide +kernel⟩
theorem kc_CommandFailed (KX : K.In h) (G : h.Ns mainGlobals mg) (e : ExcK K "CommandFailed" "CommandFailed.__init__" sx_CommandFailed "RuntimeError.__new__" [.type "RuntimeError", .type "Exception", .type "BaseException", .type "object"] ["position"]) : KC P w K mg base "CommandFailed" ["position"] :=
  kc_of KX G e PySem.F.excBase_RuntimeError PySem.F.store_RuntimeError (ps := ["self", "position"]) rfl (by decide) (fun F => init1 F scx_CommandFailed rfl fun _ _ _ _ _ _ => pss_one (ps_xst (pv 0) (pv 1)))
    (fun _ _ _ _ _ _ us hl => match us, hl with | [_, _], _ => rfl) (fun _ _ _ _ _ _ u ws hl => match ws, hl with | [_], _ => rfl) (fun _ _ _ _ _ _ u ws hl => match ws, hl with | [_], _ => rfl)
def sx_TooMany : Stmt := inClass (top 39) 0
theorem scx_TooMany : FnScope ["self", "what", "limit"] ["self", "what", "limit"] (defScope sx_TooMany) := ⟨rfl, rfl, rfl, by decide +kernel, rfl, by decide +kernel, by decide +kernel⟩
theorem kc_TooMany (KX : K.In h) (G : h.Ns mainGlobals mg) (e : ExcK K "TooMany" "TooMany.__init__" sx_TooMany "ArithmeticError.__new__" [.type "ArithmeticError", .type "Exception", .type "BaseException", .type "object"] ["what", "limit"]) : KC P w K mg base "TooMany" ["what", "limit"] :=
  kc_of KX G e PySem.F.excBase_ArithmeticError PySem.F.store_ArithmeticError (ps := ["self", "what", "limit"]) rfl (by decide) (fun F => init2 F scx_TooMany rfl fun _ _ _ _ _ _ => pss_cons (ps_xst (pv 0) (pv 1)) (pss_one (ps_xst (pv 0) (pv 2))))
    (fun _ _ _ _ _ _ us hl => match us, hl with | [_, _, _], _ => rfl) (fun _ _ _ _ _ _ u ws hl => match ws, hl with | [_, _], _ => rfl) (fun _ _ _ _ _ _ u ws hl => match ws, hl with | [_, _], _ => rfl)
structure Facts (K : PySem.W.Frag) : Prop where
  n_divmod : PySem.W.nsIn K mainGlobals "divmod" = some none
  n_int : PySem.W.nsIn K mainGlobals "int" = some none
  n_max : PySem.W.nsIn K mainGlobals "max" = some none
  n_min : PySem.W.nsIn K mainGlobals "min" = some none
  n_abs : PySem.W.nsIn K mainGlobals "abs" = some none
  n_len : PySem.W.nsIn K mainGlobals "len" = some none
  n_any : PySem.W.nsIn K mainGlobals "any" = some none
  n_all : PySem.W.nsIn K mainGlobals "all" = some none
  n_repr : PySem.W.nsIn K mainGlobals "repr" = some none
  n_isinstance : PySem.W.nsIn K mainGlobals "isinstance" = some none
  n_range : PySem.W.nsIn K mainGlobals "range" = some none
  n_enumerate : PySem.W.nsIn K mainGlobals "enumerate" = some none
  n_zip : PySem.W.nsIn K mainGlobals "zip" = some none
  k_InvalidIns : ExcK K "InvalidIns" "InvalidIns.__init__" sx_InvalidIns "ValueError.__new__" [.type "ValueError", .type "Exception", .type "BaseException", .type "object"] ["position"]
  k_InvalidOuts : ExcK K "InvalidOuts" "InvalidOuts.__init__" sx_InvalidOuts "ValueError.__new__" [.type "ValueError", .type "Exception", .type "BaseException", .type "object"] ["position"]
  k_InvalidStandings : ExcK K "InvalidStandings" "InvalidStandings.__init__" sx_InvalidStandings "ValueError.__new__" [.type "ValueError", .type "Exception", .type "BaseException", .type "object"] ["value"]
  k_InvalidReactions : ExcK K "InvalidReactions" "InvalidReactions.__init__" sx_InvalidReactions "ValueError.__new__" [.type "ValueError", .type "Exception", .type "BaseException", .type "object"] ["position"]
  k_InvalidReaction : ExcK K "InvalidReaction" "InvalidReaction.__init__" sx_InvalidReaction "ValueError.__new__" [.type "ValueError", .type "Exception", .type "BaseException", .type "object"] ["value"]
  k_InvalidNames : ExcK K "InvalidNames" "InvalidNames.__init__" sx_InvalidNames "ValueError.__new__" [.type "ValueError", .type "Exception", .type "BaseException", .type "object"] ["value"]
  k_InvalidNumber : ExcK K "InvalidNumber" "InvalidNumber.__init__" sx_InvalidNumber "ValueError.__new__" [.type "ValueError", .type "Exception", .type "BaseException", .type "object"] ["value"]
  k_InvalidStanding : ExcK K "InvalidStanding" "InvalidStanding.__init__" sx_InvalidStanding "ValueError.__new__" [.type "ValueError", .type "Exception", .type "BaseException", .type "object"] ["value"]
  k_InvalidStreams : ExcK K "InvalidStreams" "InvalidStreams.__init__" sx_InvalidStreams "ValueError.__new__" [.type "ValueError", .type "Exception", .type "BaseException", .type "object"] ["value"]
  k_InvalidRun : ExcK K "InvalidRun" "InvalidRun.__init__" sx_InvalidRun "ValueError.__new__" [.type "ValueError", .type "Exception", .type "BaseException", .type "object"] ["position"]
  k_InvalidArrivals : ExcK K "InvalidArrivals" "InvalidArrivals.__init__" sx_InvalidArrivals "ValueError.__new__" [.type "ValueError", .type "Exception", .type "BaseException", .type "object"] ["position"]
  k_InvalidRule : ExcK K "InvalidRule" "InvalidRule.__init__" sx_InvalidRule "ValueError.__new__" [.type "ValueError", .type "Exception", .type "BaseException", .type "object"] ["value"]
  k_InvalidLine : ExcK K "InvalidLine" "InvalidLine.__init__" sx_InvalidLine "ValueError.__new__" [.type "ValueError", .type "Exception", .type "BaseException", .type "object"] ["value"]
  k_InvalidLines : ExcK K "InvalidLines" "InvalidLines.__init__" sx_InvalidLines "ValueError.__new__" [.type "ValueError", .type "Exception", .type "BaseException", .type "object"] ["position"]
  k_InvalidFlows : ExcK K "InvalidFlows" "InvalidFlows.__init__" sx_InvalidFlows "ValueError.__new__" [.type "ValueError", .type "Exception", .type "BaseException", .type "object"] ["value"]
  k_InvalidSizes : ExcK K "InvalidSizes" "InvalidSizes.__init__" sx_InvalidSizes "ValueError.__new__" [.type "ValueError", .type "Exception", .type "BaseException", .type "object"] ["value"]
  k_InvalidRooms : ExcK K "InvalidRooms" "InvalidRooms.__init__" sx_InvalidRooms "ValueError.__new__" [.type "ValueError", .type "Exception", .type "BaseException", .type "object"] ["value"]
  k_InvalidCount : ExcK K "InvalidCount" "InvalidCount.__init__" sx_InvalidCount "ValueError.__new__" [.type "ValueError", .type "Exception", .type "BaseException", .type "object"] ["value"]
  k_InvalidCounts : ExcK K "InvalidCounts" "InvalidCounts.__init__" sx_InvalidCounts "ValueError.__new__" [.type "ValueError", .type "Exception", .type "BaseException", .type "object"] ["value"]
  k_InvalidText : ExcK K "InvalidText" "InvalidText.__init__" sx_InvalidText "ValueError.__new__" [.type "ValueError", .type "Exception", .type "BaseException", .type "object"] ["line"]
  k_InvalidClaim : ExcK K "InvalidClaim" "InvalidClaim.__init__" sx_InvalidClaim "ValueError.__new__" [.type "ValueError", .type "Exception", .type "BaseException", .type "object"] ["value"]
  k_InvalidCommand : ExcK K "InvalidCommand" "InvalidCommand.__init__" sx_InvalidCommand "ValueError.__new__" [.type "ValueError", .type "Exception", .type "BaseException", .type "object"] ["value"]
  k_NoSuch : ExcK K "NoSuch" "NoSuch.__init__" sx_NoSuch "LookupError.__new__" [.type "LookupError", .type "Exception", .type "BaseException", .type "object"] ["value"]
  k_SharedLine : ExcK K "SharedLine" "SharedLine.__init__" sx_SharedLine "RuntimeError.__new__" [.type "RuntimeError", .type "Exception", .type "BaseException", .type "object"] ["value"]
  k_OtherLines : ExcK K "OtherLines" "OtherLines.__init__" sx_OtherLines "RuntimeError.__new__" [.type "RuntimeError", .type "Exception", .type "BaseException", .type "object"] ["one", "other"]
  k_NotAgreeing : ExcK K "NotAgreeing" "NotAgreeing.__init__" sx_NotAgreeing "RuntimeError.__new__" [.type "RuntimeError", .type "Exception", .type "BaseException", .type "object"] ["one", "other"]
  k_NotReached : ExcK K "NotReached" "NotReached.__init__" sx_NotReached "RuntimeError.__new__" [.type "RuntimeError", .type "Exception", .type "BaseException", .type "object"] ["value"]
  k_NotAlike : ExcK K "NotAlike" "NotAlike.__init__" sx_NotAlike "RuntimeError.__new__" [.type "RuntimeError", .type "Exception", .type "BaseException", .type "object"] ["which"]
  k_NotSmooth : ExcK K "NotSmooth" "NotSmooth.__init__" sx_NotSmooth "RuntimeError.__new__" [.type "RuntimeError", .type "Exception", .type "BaseException", .type "object"] []
  k_Noticed : ExcK K "Noticed" "Noticed.__init__" sx_Noticed "RuntimeError.__new__" [.type "RuntimeError", .type "Exception", .type "BaseException", .type "object"] ["value"]
  k_NoStore : ExcK K "NoStore" "NoStore.__init__" sx_NoStore "RuntimeError.__new__" [.type "RuntimeError", .type "Exception", .type "BaseException", .type "object"] []
  k_CannotBeDone : ExcK K "CannotBeDone" "CannotBeDone.__init__" sx_CannotBeDone "RuntimeError.__new__" [.type "RuntimeError", .type "Exception", .type "BaseException", .type "object"] ["value"]
  k_NothingToUndo : ExcK K "NothingToUndo" "NothingToUndo.__init__" sx_NothingToUndo "RuntimeError.__new__" [.type "RuntimeError", .type "Exception", .type "BaseException", .type "object"] []
  k_CommandFailed : ExcK K "CommandFailed" "CommandFailed.__init__" sx_CommandFailed "RuntimeError.__new__" [.type "RuntimeError", .type "Exception", .type "BaseException", .type "object"] ["position"]
  k_TooMany : ExcK K "TooMany" "TooMany.__init__" sx_TooMany "ArithmeticError.__new__" [.type "ArithmeticError", .type "Exception", .type "BaseException", .type "object"] ["what", "limit"]
  i_ArithmeticError : isBltB K tabE "ArithmeticError" sub_ArithmeticError = true
  j_ArithmeticError : PySem.W.nsIn K mainGlobals "ArithmeticError" = some none
  i_BeatError : isOwnB K tabE "BeatError" sub_BeatError = true
  i_CannotBeDone : isOwnB K tabE "CannotBeDone" sub_CannotBeDone = true
  i_CommandFailed : isOwnB K tabE "CommandFailed" sub_CommandFailed = true
  i_InvalidArrivals : isOwnB K tabE "InvalidArrivals" sub_InvalidArrivals = true
  i_InvalidClaim : isOwnB K tabE "InvalidClaim" sub_InvalidClaim = true
  i_InvalidCommand : isOwnB K tabE "InvalidCommand" sub_InvalidCommand = true
  i_InvalidCount : isOwnB K tabE "InvalidCount" sub_InvalidCount = true
  i_InvalidCounts : isOwnB K tabE "InvalidCounts" sub_InvalidCounts = true
  i_InvalidFlows : isOwnB K tabE "InvalidFlows" sub_InvalidFlows = true
  i_InvalidIns : isOwnB K tabE "InvalidIns" sub_InvalidIns = true
  i_InvalidLine : isOwnB K tabE "InvalidLine" sub_InvalidLine = true
  i_InvalidLines : isOwnB K tabE "InvalidLines" sub_InvalidLines = true
  i_InvalidNames : isOwnB K tabE "InvalidNames" sub_InvalidNames = true
  i_InvalidNumber : isOwnB K tabE "InvalidNumber" sub_InvalidNumber = true
  i_InvalidOuts : isOwnB K tabE "InvalidOuts" sub_InvalidOuts = true
  i_InvalidReaction : isOwnB K tabE "InvalidReaction" sub_InvalidReaction = true
  i_InvalidReactions : isOwnB K tabE "InvalidReactions" sub_InvalidReactions = true
  i_InvalidRooms : isOwnB K tabE "InvalidRooms" sub_InvalidRooms = true
  i_InvalidRule : isOwnB K tabE "InvalidRule" sub_InvalidRule = true
  i_InvalidRun : isOwnB K tabE "InvalidRun" sub_InvalidRun = true
  i_InvalidSizes : isOwnB K tabE "InvalidSizes" sub_InvalidSizes = true
  i_InvalidStanding : isOwnB K tabE "InvalidStanding" sub_InvalidStanding = true
  i_InvalidStandings : isOwnB K tabE "InvalidStandings" sub_InvalidStandings = true
  i_InvalidStreams : isOwnB K tabE "InvalidStreams" sub_InvalidStreams = true
  i_InvalidText : isOwnB K tabE "InvalidText" sub_InvalidText = true
  i_LimitError : isOwnB K tabE "LimitError" sub_LimitError = true
  i_LookupError : isBltB K tabE "LookupError" sub_LookupError = true
  j_LookupError : PySem.W.nsIn K mainGlobals "LookupError" = some none
  i_MissingError : isOwnB K tabE "MissingError" sub_MissingError = true
  i_NoStore : isOwnB K tabE "NoStore" sub_NoStore = true
  i_NoSuch : isOwnB K tabE "NoSuch" sub_NoSuch = true
  i_NotAgreeing : isOwnB K tabE "NotAgreeing" sub_NotAgreeing = true
  i_NotAlike : isOwnB K tabE "NotAlike" sub_NotAlike = true
  i_NotReached : isOwnB K tabE "NotReached" sub_NotReached = true
  i_NotSmooth : isOwnB K tabE "NotSmooth" sub_NotSmooth = true
  i_NothingToUndo : isOwnB K tabE "NothingToUndo" sub_NothingToUndo = true
  i_Noticed : isOwnB K tabE "Noticed" sub_Noticed = true
  i_OtherLines : isOwnB K tabE "OtherLines" sub_OtherLines = true
  i_RuntimeError : isBltB K tabE "RuntimeError" sub_RuntimeError = true
  j_RuntimeError : PySem.W.nsIn K mainGlobals "RuntimeError" = some none
  i_SharedLine : isOwnB K tabE "SharedLine" sub_SharedLine = true
  i_StateError : isOwnB K tabE "StateError" sub_StateError = true
  i_TooMany : isOwnB K tabE "TooMany" sub_TooMany = true
  i_ValueError : isBltB K tabE "ValueError" sub_ValueError = true
  j_ValueError : PySem.W.nsIn K mainGlobals "ValueError" = some none
  a_InvalidReaction : caB K tabE "InvalidReaction" [("InvalidReaction" : Str)] = true
  a_InvalidReactions : caB K tabE "InvalidReactions" [("InvalidReactions" : Str)] = true
  a_InvalidStanding : caB K tabE "InvalidStanding" [("InvalidStanding" : Str)] = true
  a_InvalidStandings : caB K tabE "InvalidStandings" [("InvalidStandings" : Str)] = true
  a_LimitError : caB K tabE "LimitError" [("TooMany" : Str)] = true
  a_MissingError : caB K tabE "MissingError" [("NoSuch" : Str)] = true
  a_NotSmooth : caB K tabE "NotSmooth" [("NotSmooth" : Str)] = true
  a_StateError : caB K tabE "StateError" [("SharedLine" : Str), ("OtherLines" : Str), ("NotAgreeing" : Str), ("NotReached" : Str), ("NotAlike" : Str), ("NotSmooth" : Str), ("Noticed" : Str), ("NoStore" : Str), ("CannotBeDone" : Str), ("NothingToUndo" : Str), ("CommandFailed" : Str)] = true
  f_limit : fdB K tabF_limit "limit" = true
  f_line : fdB K tabF_line "line" = true
  f_one : fdB K tabF_one "one" = true
  f_other : fdB K tabF_other "other" = true
  f_position : fdB K tabF_position "position" = true
  f_value : fdB K tabF_value "value" = true
  f_what : fdB K tabF_what "what" = true
  f_which : fdB K tabF_which "which" = true
  d_law_pot : DefK K "_law_pot" s_law_pot
  d_law_draw : DefK K "_law_draw" s_law_draw
  d_law_grounds : DefK K "_law_grounds" s_law_grounds
  d_law_ground : DefK K "_law_ground" s_law_ground
  d_law_by_value : DefK K "_law_by_value" s_law_by_value
  d_law_by_named_value : DefK K "_law_by_named_value" s_law_by_named_value
  d_law_by_place : DefK K "_law_by_place" s_law_by_place
  d_law_of_states : DefK K "_law_of_states" s_law_of_states
  d_law_bare : DefK K "_law_bare" s_law_bare
  d_law_thrown : DefK K "_law_thrown" s_law_thrown
  d_law_marks : DefK K "_law_marks" s_law_marks
  d_law_pick : DefK K "_law_pick" s_law_pick
  d_law_caught : DefK K "_law_caught" s_law_caught
  d_law_each : DefK K "_law_each" s_law_each
  d_law_values_right : DefK K "_law_values_right" s_law_values_right
  d_law_states_right : DefK K "_law_states_right" s_law_states_right
  d_law_others_right : DefK K "_law_others_right" s_law_others_right
  d_law_thing : DefK K "_law_thing" s_law_thing
  d_law_each_right : DefK K "_law_each_right" s_law_each_right
  d_law_right : DefK K "_law_right" s_law_right
  d_law : DefK K "law" s_law
theorem the_law (KX : K.In h) (G : h.Ns mainGlobals mg) (Q : Facts K) {fa : Addr} (hfa : mg "law" = some (.ref fa)) :
    ∃ fd : FuncData, (∀ (s : Shared) (u : Value), BindsTo s fd ⟨[u], []⟩ [("_law_script", u)]) ∧ ∀ base : Heap, (∃ o, base.get? sysModules = some o) → FnG P w K mg base (L2.CX P w) 7 fa fd ["_law_script"] (spM mg f_law 1) := by
  obtain ⟨f, fd, hn, FL⟩ := Q.d_law
  have e := hfa.symm.trans (PySem.W.mg_of KX G hn)
  cases e
  refine ⟨fd, fun s u => ?_, fun base hsys => ?_⟩
  · obtain ⟨oc, od, kV, doc, pm, an, cdv, ct, osl, rfl, lk, hcd⟩ := FL.ex
    exact .of_eq rfl
  have T : Bt mg := ⟨PySem.W.mg_none_of KX G Q.n_divmod, PySem.W.mg_none_of KX G Q.n_int, PySem.W.mg_none_of KX G Q.n_max, PySem.W.mg_none_of KX G Q.n_min, PySem.W.mg_none_of KX G Q.n_abs, PySem.W.mg_none_of KX G Q.n_len, PySem.W.mg_none_of KX G Q.n_any, PySem.W.mg_none_of KX G Q.n_all, PySem.W.mg_none_of KX G Q.n_repr, PySem.W.mg_none_of KX G Q.n_isinstance, PySem.W.mg_none_of KX G Q.n_range, PySem.W.mg_none_of KX G Q.n_enumerate, PySem.W.mg_none_of KX G Q.n_zip⟩
  have c_InvalidIns : KC P w K mg base "InvalidIns" ["position"] := kc_InvalidIns KX G Q.k_InvalidIns
  have c_InvalidOuts : KC P w K mg base "InvalidOuts" ["position"] := kc_InvalidOuts KX G Q.k_InvalidOuts
  have c_InvalidStandings : KC P w K mg base "InvalidStandings" ["value"] := kc_InvalidStandings KX G Q.k_InvalidStandings
  have c_InvalidReactions : KC P w K mg base "InvalidReactions" ["position"] := kc_InvalidReactions KX G Q.k_InvalidReactions
  have c_InvalidReaction : KC P w K mg base "InvalidReaction" ["value"] := kc_InvalidReaction KX G Q.k_InvalidReaction
  have c_InvalidNames : KC P w K mg base "InvalidNames" ["value"] := kc_InvalidNames KX G Q.k_InvalidNames
  have c_InvalidNumber : KC P w K mg base "InvalidNumber" ["value"] := kc_InvalidNumber KX G Q.k_InvalidNumber
  have c_InvalidStanding : KC P w K mg base "InvalidStanding" ["value"] := kc_InvalidStanding KX G Q.k_InvalidStanding
  have c_InvalidStreams : KC P w K mg base "InvalidStreams" ["value"] := kc_InvalidStreams KX G Q.k_InvalidStreams
  have c_InvalidRun : KC P w K mg base "InvalidRun" ["position"] := kc_InvalidRun KX G Q.k_InvalidRun
  have c_InvalidArrivals : KC P w K mg base "InvalidArrivals" ["position"] := kc_InvalidArrivals KX G Q.k_InvalidArrivals
  have c_InvalidRule : KC P w K mg base "InvalidRule" ["value"] := kc_InvalidRule KX G Q.k_InvalidRule
  have c_InvalidLine : KC P w K mg base "InvalidLine" ["value"] := kc_InvalidLine KX G Q.k_InvalidLine
  have c_InvalidLines : KC P w K mg base "InvalidLines" ["position"] := kc_InvalidLines KX G Q.k_InvalidLines
  have c_InvalidFlows : KC P w K mg base "InvalidFlows" ["value"] := kc_InvalidFlows KX G Q.k_InvalidFlows
  have c_InvalidSizes : KC P w K mg base "InvalidSizes" ["value"] := kc_InvalidSizes KX G Q.k_InvalidSizes
  have c_InvalidRooms : KC P w K mg base "InvalidRooms" ["value"] := kc_InvalidRooms KX G Q.k_InvalidRooms
  have c_InvalidCount : KC P w K mg base "InvalidCount" ["value"] := kc_InvalidCount KX G Q.k_InvalidCount
  have c_InvalidCounts : KC P w K mg base "InvalidCounts" ["value"] := kc_InvalidCounts KX G Q.k_InvalidCounts
  have c_InvalidText : KC P w K mg base "InvalidText" ["line"] := kc_InvalidText KX G Q.k_InvalidText
  have c_InvalidClaim : KC P w K mg base "InvalidClaim" ["value"] := kc_InvalidClaim KX G Q.k_InvalidClaim
  have c_InvalidCommand : KC P w K mg base "InvalidCommand" ["value"] := kc_InvalidCommand KX G Q.k_InvalidCommand
  have c_NoSuch : KC P w K mg base "NoSuch" ["value"] := kc_NoSuch KX G Q.k_NoSuch
  have c_SharedLine : KC P w K mg base "SharedLine" ["value"] := kc_SharedLine KX G Q.k_SharedLine
  have c_OtherLines : KC P w K mg base "OtherLines" ["one", "other"] := kc_OtherLines KX G Q.k_OtherLines
  have c_NotAgreeing : KC P w K mg base "NotAgreeing" ["one", "other"] := kc_NotAgreeing KX G Q.k_NotAgreeing
  have c_NotReached : KC P w K mg base "NotReached" ["value"] := kc_NotReached KX G Q.k_NotReached
  have c_NotAlike : KC P w K mg base "NotAlike" ["which"] := kc_NotAlike KX G Q.k_NotAlike
  have c_NotSmooth : KC P w K mg base "NotSmooth" [] := kc_NotSmooth KX G Q.k_NotSmooth
  have c_Noticed : KC P w K mg base "Noticed" ["value"] := kc_Noticed KX G Q.k_Noticed
  have c_NoStore : KC P w K mg base "NoStore" [] := kc_NoStore KX G Q.k_NoStore
  have c_CannotBeDone : KC P w K mg base "CannotBeDone" ["value"] := kc_CannotBeDone KX G Q.k_CannotBeDone
  have c_NothingToUndo : KC P w K mg base "NothingToUndo" [] := kc_NothingToUndo KX G Q.k_NothingToUndo
  have c_CommandFailed : KC P w K mg base "CommandFailed" ["position"] := kc_CommandFailed KX G Q.k_CommandFailed
  have c_TooMany : KC P w K mg base "TooMany" ["what", "limit"] := kc_TooMany KX G Q.k_TooMany
  have is_ArithmeticError : IsA K mg tabE "ArithmeticError" sub_ArithmeticError := isa_blt KX G Q.i_ArithmeticError Q.j_ArithmeticError (by decide +kernel)
  have is_BeatError : IsA K mg tabE "BeatError" sub_BeatError := isa_own KX G Q.i_BeatError
  have is_CannotBeDone : IsA K mg tabE "CannotBeDone" sub_CannotBeDone := isa_own KX G Q.i_CannotBeDone
  have is_CommandFailed : IsA K mg tabE "CommandFailed" sub_CommandFailed := isa_own KX G Q.i_CommandFailed
  have is_InvalidArrivals : IsA K mg tabE "InvalidArrivals" sub_InvalidArrivals := isa_own KX G Q.i_InvalidArrivals
  have is_InvalidClaim : IsA K mg tabE "InvalidClaim" sub_InvalidClaim := isa_own KX G Q.i_InvalidClaim
  have is_InvalidCommand : IsA K mg tabE "InvalidCommand" sub_InvalidCommand := isa_own KX G Q.i_InvalidCommand
  have is_InvalidCount : IsA K mg tabE "InvalidCount" sub_InvalidCount := isa_own KX G Q.i_InvalidCount
  have is_InvalidCounts : IsA K mg tabE "InvalidCounts" sub_InvalidCounts := isa_own KX G Q.i_InvalidCounts
  have is_InvalidFlows : IsA K mg tabE "InvalidFlows" sub_InvalidFlows := isa_own KX G Q.i_InvalidFlows
  have is_InvalidIns : IsA K mg tabE "InvalidIns" sub_InvalidIns := isa_own KX G Q.i_InvalidIns
  have is_InvalidLine : IsA K mg tabE "InvalidLine" sub_InvalidLine := isa_own KX G Q.i_InvalidLine
  have is_InvalidLines : IsA K mg tabE "InvalidLines" sub_InvalidLines := isa_own KX G Q.i_InvalidLines
  have is_InvalidNames : IsA K mg tabE "InvalidNames" sub_InvalidNames := isa_own KX G Q.i_InvalidNames
  have is_InvalidNumber : IsA K mg tabE "InvalidNumber" sub_InvalidNumber := isa_own KX G Q.i_InvalidNumber
  have is_InvalidOuts : IsA K mg tabE "InvalidOuts" sub_InvalidOuts := isa_own KX G Q.i_InvalidOuts
  have is_InvalidReaction : IsA K mg tabE "InvalidReaction" sub_InvalidReaction := isa_own KX G Q.i_InvalidReaction
  have is_InvalidReactions : IsA K mg tabE "InvalidReactions" sub_InvalidReactions := isa_own KX G Q.i_InvalidReactions
  have is_InvalidRooms : IsA K mg tabE "InvalidRooms" sub_InvalidRooms := isa_own KX G Q.i_InvalidRooms
  have is_InvalidRule : IsA K mg tabE "InvalidRule" sub_InvalidRule := isa_own KX G Q.i_InvalidRule
  have is_InvalidRun : IsA K mg tabE "InvalidRun" sub_InvalidRun := isa_own KX G Q.i_InvalidRun
  have is_InvalidSizes : IsA K mg tabE "InvalidSizes" sub_InvalidSizes := isa_own KX G Q.i_InvalidSizes
  have is_InvalidStanding : IsA K mg tabE "InvalidStanding" sub_InvalidStanding := isa_own KX G Q.i_InvalidStanding
  have is_InvalidStandings : IsA K mg tabE "InvalidStandings" sub_InvalidStandings := isa_own KX G Q.i_InvalidStandings
  have is_InvalidStreams : IsA K mg tabE "InvalidStreams" sub_InvalidStreams := isa_own KX G Q.i_InvalidStreams
  have is_InvalidText : IsA K mg tabE "InvalidText" sub_InvalidText := isa_own KX G Q.i_InvalidText
  have is_LimitError : IsA K mg tabE "LimitError" sub_LimitError := isa_own KX G Q.i_LimitError
  have is_LookupError : IsA K mg tabE "LookupError" sub_LookupError := isa_blt KX G Q.i_LookupError Q.j_LookupError (by decide +kernel)
  have is_MissingError : IsA K mg tabE "MissingError" sub_MissingError := isa_own KX G Q.i_MissingError
  have is_NoStore : IsA K mg tabE "NoStore" sub_NoStore := isa_own KX G Q.i_NoStore
  have is_NoSuch : IsA K mg tabE "NoSuch" sub_NoSuch := isa_own KX G Q.i_NoSuch
  have is_NotAgreeing : IsA K mg tabE "NotAgreeing" sub_NotAgreeing := isa_own KX G Q.i_NotAgreeing
  have is_NotAlike : IsA K mg tabE "NotAlike" sub_NotAlike := isa_own KX G Q.i_NotAlike
  have is_NotReached : IsA K mg tabE "NotReached" sub_NotReached := isa_own KX G Q.i_NotReached
  have is_NotSmooth : IsA K mg tabE "NotSmooth" sub_NotSmooth := isa_own KX G Q.i_NotSmooth
  have is_NothingToUndo : IsA K mg tabE "NothingToUndo" sub_NothingToUndo := isa_own KX G Q.i_NothingToUndo
  have is_Noticed : IsA K mg tabE "Noticed" sub_Noticed := isa_own KX G Q.i_Noticed
  have is_OtherLines : IsA K mg tabE "OtherLines" sub_OtherLines := isa_own KX G Q.i_OtherLines
  have is_RuntimeError : IsA K mg tabE "RuntimeError" sub_RuntimeError := isa_blt KX G Q.i_RuntimeError Q.j_RuntimeError (by decide +kernel)
  have is_SharedLine : IsA K mg tabE "SharedLine" sub_SharedLine := isa_own KX G Q.i_SharedLine
  have is_StateError : IsA K mg tabE "StateError" sub_StateError := isa_own KX G Q.i_StateError
  have is_TooMany : IsA K mg tabE "TooMany" sub_TooMany := isa_own KX G Q.i_TooMany
  have is_ValueError : IsA K mg tabE "ValueError" sub_ValueError := isa_blt KX G Q.i_ValueError Q.j_ValueError (by decide +kernel)
  have ca_InvalidReaction : CaA K mg "InvalidReaction" ca_InvalidReaction_sub := ca_of KX G Q.a_InvalidReaction
  have ca_InvalidReactions : CaA K mg "InvalidReactions" ca_InvalidReactions_sub := ca_of KX G Q.a_InvalidReactions
  have ca_InvalidStanding : CaA K mg "InvalidStanding" ca_InvalidStanding_sub := ca_of KX G Q.a_InvalidStanding
  have ca_InvalidStandings : CaA K mg "InvalidStandings" ca_InvalidStandings_sub := ca_of KX G Q.a_InvalidStandings
  have ca_LimitError : CaA K mg "LimitError" ca_LimitError_sub := ca_of KX G Q.a_LimitError
  have ca_MissingError : CaA K mg "MissingError" ca_MissingError_sub := ca_of KX G Q.a_MissingError
  have ca_NotSmooth : CaA K mg "NotSmooth" ca_NotSmooth_sub := ca_of KX G Q.a_NotSmooth
  have ca_StateError : CaA K mg "StateError" ca_StateError_sub := ca_of KX G Q.a_StateError
  have fd_limit : FdA K mg tabF_limit "limit" := fd_of KX G Q.f_limit
  have fd_line : FdA K mg tabF_line "line" := fd_of KX G Q.f_line
  have fd_one : FdA K mg tabF_one "one" := fd_of KX G Q.f_one
  have fd_other : FdA K mg tabF_other "other" := fd_of KX G Q.f_other
  have fd_position : FdA K mg tabF_position "position" := fd_of KX G Q.f_position
  have fd_value : FdA K mg tabF_value "value" := fd_of KX G Q.f_value
  have fd_what : FdA K mg tabF_what "what" := fd_of KX G Q.f_what
  have fd_which : FdA K mg tabF_which "which" := fd_of KX G Q.f_which
  have c_law_pot : KD P w K mg base "_law_pot" f_law_pot ["_law_script", "_law_k"] 1 := by
    obtain ⟨f, fd, hn, F⟩ := Q.d_law_pot
    exact kd_mk F sc_law_pot (PySem.W.mg_of KX G hn) (F.binds fun _ _ _ _ _ _ us hl => match us, hl with | [_, _], _ => rfl) (fun cdv A outer s H E hr hgd => b_law_pot T cdv A outer s H E hr hgd)
  have c_law_draw : KD P w K mg base "_law_draw" f_law_draw ["_law_pot_here", "_law_many"] 1 := by
    obtain ⟨f, fd, hn, F⟩ := Q.d_law_draw
    exact kd_mk F sc_law_draw (PySem.W.mg_of KX G hn) (F.binds fun _ _ _ _ _ _ us hl => match us, hl with | [_, _], _ => rfl) (fun cdv A outer s H E hr hgd => b_law_draw T cdv A outer s H E hr hgd)
  have c_law_grounds : KD P w K mg base "_law_grounds" f_law_grounds ["_law_e"] 1 := by
    obtain ⟨f, fd, hn, F⟩ := Q.d_law_grounds
    exact kd_mk F sc_law_grounds (PySem.W.mg_of KX G hn) (F.binds fun _ _ _ _ _ _ us hl => match us, hl with | [_], _ => rfl) (fun cdv A outer s H E hr hgd => b_law_grounds T is_ArithmeticError is_BeatError is_LimitError is_LookupError is_MissingError is_RuntimeError is_StateError is_ValueError cdv A outer s H E hr hgd)
  have c_law_ground : KD P w K mg base "_law_ground" f_law_ground ["_law_way"] 1 := by
    obtain ⟨f, fd, hn, F⟩ := Q.d_law_ground
    exact kd_mk F sc_law_ground (PySem.W.mg_of KX G hn) (F.binds fun _ _ _ _ _ _ us hl => match us, hl with | [_], _ => rfl) (fun cdv A outer s H E hr hgd => b_law_ground T cdv A outer s H E hr hgd)
  have c_law_by_value : KD P w K mg base "_law_by_value" f_law_by_value ["_law_odd"] 3 := by
    obtain ⟨f, fd, hn, F⟩ := Q.d_law_by_value
    exact kd_mk F sc_law_by_value (PySem.W.mg_of KX G hn) (F.binds fun _ _ _ _ _ _ us hl => match us, hl with | [_], _ => rfl) (fun cdv A outer s H E hr hgd => b_law_by_value T c_InvalidClaim c_InvalidCommand c_InvalidCount c_InvalidCounts c_InvalidFlows c_InvalidLine c_InvalidNames c_InvalidNumber c_InvalidReaction c_InvalidRooms c_InvalidRule c_InvalidSizes c_InvalidStanding c_InvalidStandings c_InvalidStreams cdv A outer s H E hr hgd)
  have c_law_by_named_value : KD P w K mg base "_law_by_named_value" f_law_by_named_value ["_law_odd"] 3 := by
    obtain ⟨f, fd, hn, F⟩ := Q.d_law_by_named_value
    exact kd_mk F sc_law_by_named_value (PySem.W.mg_of KX G hn) (F.binds fun _ _ _ _ _ _ us hl => match us, hl with | [_], _ => rfl) (fun cdv A outer s H E hr hgd => b_law_by_named_value T c_InvalidClaim c_InvalidCommand c_InvalidCount c_InvalidCounts c_InvalidFlows c_InvalidLine c_InvalidNames c_InvalidNumber c_InvalidReaction c_InvalidRooms c_InvalidRule c_InvalidSizes c_InvalidStanding c_InvalidStandings c_InvalidStreams cdv A outer s H E hr hgd)
  have c_law_by_place : KD P w K mg base "_law_by_place" f_law_by_place ["_law_odd"] 3 := by
    obtain ⟨f, fd, hn, F⟩ := Q.d_law_by_place
    exact kd_mk F sc_law_by_place (PySem.W.mg_of KX G hn) (F.binds fun _ _ _ _ _ _ us hl => match us, hl with | [_], _ => rfl) (fun cdv A outer s H E hr hgd => b_law_by_place T c_InvalidArrivals c_InvalidIns c_InvalidLines c_InvalidOuts c_InvalidReactions c_InvalidRun cdv A outer s H E hr hgd)
  have c_law_of_states : KD P w K mg base "_law_of_states" f_law_of_states ["_law_odd"] 3 := by
    obtain ⟨f, fd, hn, F⟩ := Q.d_law_of_states
    exact kd_mk F sc_law_of_states (PySem.W.mg_of KX G hn) (F.binds fun _ _ _ _ _ _ us hl => match us, hl with | [_], _ => rfl) (fun cdv A outer s H E hr hgd => b_law_of_states T c_CannotBeDone c_NotReached c_Noticed c_SharedLine cdv A outer s H E hr hgd)
  have c_law_bare : KD P w K mg base "_law_bare" f_law_bare [] 3 := by
    obtain ⟨f, fd, hn, F⟩ := Q.d_law_bare
    exact kd_mk F sc_law_bare (PySem.W.mg_of KX G hn) (F.binds fun _ _ _ _ _ _ us hl => match us, hl with | [], _ => rfl) (fun cdv A outer s H E hr hgd => b_law_bare T c_NoStore c_NotSmooth c_NothingToUndo cdv A outer s H E hr hgd)
  have c_law_thrown : KD P w K mg base "_law_thrown" f_law_thrown ["_law_way", "_law_odd"] 3 := by
    obtain ⟨f, fd, hn, F⟩ := Q.d_law_thrown
    exact kd_mk F sc_law_thrown (PySem.W.mg_of KX G hn) (F.binds fun _ _ _ _ _ _ us hl => match us, hl with | [_, _], _ => rfl) (fun cdv A outer s H E hr hgd => b_law_thrown T c_InvalidReaction c_InvalidReactions c_InvalidStanding c_InvalidStandings c_NoSuch c_NotAgreeing c_NotSmooth c_TooMany cdv A outer s H E hr hgd)
  have c_law_marks : KD P w K mg base "_law_marks" f_law_marks ["_law_e"] 1 := by
    obtain ⟨f, fd, hn, F⟩ := Q.d_law_marks
    exact kd_mk F sc_law_marks (PySem.W.mg_of KX G hn) (F.binds fun _ _ _ _ _ _ us hl => match us, hl with | [_], _ => rfl) (fun cdv A outer s H E hr hgd => b_law_marks T is_CannotBeDone is_CommandFailed is_InvalidArrivals is_InvalidClaim is_InvalidCommand is_InvalidCount is_InvalidCounts is_InvalidFlows is_InvalidIns is_InvalidLine is_InvalidLines is_InvalidNames is_InvalidNumber is_InvalidOuts is_InvalidReaction is_InvalidReactions is_InvalidRooms is_InvalidRule is_InvalidRun is_InvalidSizes is_InvalidStanding is_InvalidStandings is_InvalidStreams is_InvalidText is_NoStore is_NoSuch is_NotAgreeing is_NotAlike is_NotReached is_NotSmooth is_NothingToUndo is_Noticed is_OtherLines is_SharedLine is_TooMany cdv A outer s H E hr hgd)
  have c_law_pick : KD P w K mg base "_law_pick" f_law_pick ["_law_pot_here", "_law_some"] 2 := by
    obtain ⟨f, fd, hn, F⟩ := Q.d_law_pick
    exact kd_mk F sc_law_pick (PySem.W.mg_of KX G hn) (F.binds fun _ _ _ _ _ _ us hl => match us, hl with | [_, _], _ => rfl) (fun cdv A outer s H E hr hgd => b_law_pick T c_law_draw cdv A outer s H E hr hgd)
  have c_law_caught : KD P w K mg base "_law_caught" f_law_caught ["_law_way", "_law_odd"] 4 := by
    obtain ⟨f, fd, hn, F⟩ := Q.d_law_caught
    exact kd_mk F sc_law_caught (PySem.W.mg_of KX G hn) (F.binds fun _ _ _ _ _ _ us hl => match us, hl with | [_, _], _ => rfl) (fun cdv A outer s H E hr hgd => b_law_caught T c_law_thrown fd_position fd_value ca_InvalidReaction ca_InvalidReactions ca_InvalidStanding ca_InvalidStandings ca_LimitError ca_MissingError ca_NotSmooth ca_StateError cdv A outer s H E hr hgd)
  have c_law_each : KD P w K mg base "_law_each" f_law_each ["_law_odd"] 4 := by
    obtain ⟨f, fd, hn, F⟩ := Q.d_law_each
    exact kd_mk F sc_law_each (PySem.W.mg_of KX G hn) (F.binds fun _ _ _ _ _ _ us hl => match us, hl with | [_], _ => rfl) (fun cdv A outer s H E hr hgd => b_law_each T c_law_bare c_law_by_place c_law_by_value c_law_of_states c_CommandFailed c_InvalidText c_NoSuch c_NotAgreeing c_NotAlike c_OtherLines c_TooMany cdv A outer s H E hr hgd)
  have c_law_values_right : KD P w K mg base "_law_values_right" f_law_values_right ["_law_mine", "_law_yours"] 4 := by
    obtain ⟨f, fd, hn, F⟩ := Q.d_law_values_right
    exact kd_mk F sc_law_values_right (PySem.W.mg_of KX G hn) (F.binds fun _ _ _ _ _ _ us hl => match us, hl with | [_, _], _ => rfl) (fun cdv A outer s H E hr hgd => b_law_values_right T c_law_by_named_value c_law_by_place c_law_by_value c_law_ground c_law_grounds fd_position fd_value hsys cdv A outer s H E hr hgd)
  have c_law_states_right : KD P w K mg base "_law_states_right" f_law_states_right ["_law_mine", "_law_yours"] 4 := by
    obtain ⟨f, fd, hn, F⟩ := Q.d_law_states_right
    exact kd_mk F sc_law_states_right (PySem.W.mg_of KX G hn) (F.binds fun _ _ _ _ _ _ us hl => match us, hl with | [_, _], _ => rfl) (fun cdv A outer s H E hr hgd => b_law_states_right T c_law_bare c_law_ground c_law_grounds c_law_of_states c_CommandFailed c_NotAgreeing c_NotAlike c_OtherLines fd_one fd_other fd_position fd_value fd_which hsys cdv A outer s H E hr hgd)
  have c_law_others_right : KD P w K mg base "_law_others_right" f_law_others_right ["_law_mine", "_law_yours"] 3 := by
    obtain ⟨f, fd, hn, F⟩ := Q.d_law_others_right
    exact kd_mk F sc_law_others_right (PySem.W.mg_of KX G hn) (F.binds fun _ _ _ _ _ _ us hl => match us, hl with | [_, _], _ => rfl) (fun cdv A outer s H E hr hgd => b_law_others_right T c_law_ground c_law_grounds c_InvalidText c_NoSuch c_TooMany fd_limit fd_line fd_value fd_what hsys cdv A outer s H E hr hgd)
  have c_law_thing : KD P w K mg base "_law_thing" f_law_thing ["_law_pot_here", "_law_turn"] 3 := by
    obtain ⟨f, fd, hn, F⟩ := Q.d_law_thing
    exact kd_mk F sc_law_thing (PySem.W.mg_of KX G hn) (F.binds fun _ _ _ _ _ _ us hl => match us, hl with | [_, _], _ => rfl) (fun cdv A outer s H E hr hgd => b_law_thing T c_law_pick cdv A outer s H E hr hgd)
  have c_law_each_right : KD P w K mg base "_law_each_right" f_law_each_right ["_law_odd"] 5 := by
    obtain ⟨f, fd, hn, F⟩ := Q.d_law_each_right
    exact kd_mk F sc_law_each_right (PySem.W.mg_of KX G hn) (F.binds fun _ _ _ _ _ _ us hl => match us, hl with | [_], _ => rfl) (fun cdv A outer s H E hr hgd => b_law_each_right T c_law_each c_law_marks cdv A outer s H E hr hgd)
  have c_law_right : KD P w K mg base "_law_right" f_law_right ["_law_pot_here"] 6 := by
    obtain ⟨f, fd, hn, F⟩ := Q.d_law_right
    exact kd_mk F sc_law_right (PySem.W.mg_of KX G hn) (F.binds fun _ _ _ _ _ _ us hl => match us, hl with | [_], _ => rfl) (fun cdv A outer s H E hr hgd => b_law_right T c_law_caught c_law_each_right c_law_others_right c_law_states_right c_law_thing c_law_values_right hsys cdv A outer s H E hr hgd)
  exact fn_mk FL sc_law (fun cdv A outer s H E hr hgd => b_law T c_law_pot c_law_right cdv A outer s H E hr hgd)
end
-- the facts: exact ⟨rfl, rfl, rfl, rfl, rfl, rfl, rfl, rfl, rfl, rfl, rfl, rfl, rfl, ⟨_, _, _, rfl, fun_mk rfl rfl rfl, ⟨rfl, rfl, rfl, rfl, rfl, rfl, rfl, rfl, rfl⟩, by simp only [List.forall_mem_cons]; exact ..⟩ ..⟩
end Law
namespace Law
open PySem PySem.Spec PyProof.Rows L2 Lb
def ex1 (f : Str) (d : DV) (c : Str) : DV := .exn c [(f, d)]
def cV : List Str := [("InvalidStandings" : Str), ("InvalidReaction" : Str), ("InvalidNames" : Str), ("InvalidNumber" : Str), ("InvalidStanding" : Str), ("InvalidStreams" : Str), ("InvalidRule" : Str), ("InvalidLine" : Str), ("InvalidFlows" : Str), ("InvalidSizes" : Str), ("InvalidRooms" : Str), ("InvalidCount" : Str), ("InvalidCounts" : Str), ("InvalidClaim" : Str), ("InvalidCommand" : Str)]
def cP : List Str := [("InvalidIns" : Str), ("InvalidOuts" : Str), ("InvalidReactions" : Str), ("InvalidRun" : Str), ("InvalidArrivals" : Str), ("InvalidLines" : Str)]
def cS : List Str := [("SharedLine" : Str), ("NotReached" : Str), ("Noticed" : Str), ("CannotBeDone" : Str)]
def cB : List Str := [("NotSmooth" : Str), ("NoStore" : Str), ("NothingToUndo" : Str)]
theorem by_value (d : DV) : f_law_by_value [.v d] = .ret (.ol false (cV.map (ex1 "value" d))) [.v d] := by kernel_rfl
theorem by_named_value (d : DV) : f_law_by_named_value [.v d] = .ret (.ol false (cV.map (ex1 "value" d))) [.v d] := by kernel_rfl
theorem by_place (d : DV) : f_law_by_place [.v d] = .ret (.ol false ((cP ++ cP).map (ex1 "position" d))) [.v d] := by kernel_rfl
theorem of_states (d : DV) : f_law_of_states [.v d] = .ret (.ol false ((cS ++ cS).map (ex1 "value" d))) [.v d] := by kernel_rfl
theorem bare : f_law_bare [] = .ret (.ol false (cB.map fun c => .exn c [])) [] := by kernel_rfl
theorem each (d : DV) : f_law_each [.v d] = .ret (.ol false (cV.map (ex1 "value" d) ++ cP.map (ex1 "position" d) ++ cS.map (ex1 "value" d) ++ (cB.map fun c => .exn c []) ++
  [.exn "InvalidText" [("line", d)], .exn "NoSuch" [("value", d)], .exn "OtherLines" [("other", d), ("one", d)], .exn "NotAgreeing" [("other", d), ("one", d)], .exn "NotAlike" [("which", d)], .exn "CommandFailed" [("position", d)], .exn "TooMany" [("limit", d), ("what", d)]])) [.v d] := by kernel_rfl
def gnd (k : Nat) : List DV := ((List.range 4).map fun i => DV.bl (i == k)) ++ ((List.range 4).map fun i => DV.bl (i == k))
theorem ground0 : f_law_ground [.v (.int 0)] = .ret (.ol false (gnd 0)) [.v (.int 0)] := by kernel_rfl
theorem ground1 : f_law_ground [.v (.int 1)] = .ret (.ol false (gnd 1)) [.v (.int 1)] := by kernel_rfl
theorem ground2 : f_law_ground [.v (.int 2)] = .ret (.ol false (gnd 2)) [.v (.int 2)] := by kernel_rfl
theorem ground3 : f_law_ground [.v (.int 3)] = .ret (.ol false (gnd 3)) [.v (.int 3)] := by kernel_rfl
theorem each_right (d : DV) : f_law_each_right [.v d] = .ret (.v (.bl true)) [.v d] := by kernel_rfl
end Law
namespace Law
open PySem PySem.Spec PyProof.Rows L2 Lb
theorem bind_ok {α β : Type} {m : M α} {f : α → M β} {S S1 : Sl} {a : α} (h : m S = .ok a S1) : M.bind m f S = f a S1 := by unfold M.bind; rw [h]
theorem thn_ok {α : Type} {m : M α} {f : α → SM} {S S1 : Sl} {a : α} (h : m S = .ok a S1) : M.thn m f S = f a S1 := by unfold M.thn; rw [h]
theorem seq_nx {m k : SM} {S S1 : Sl} (h : m S = .nx S1) : SM.seq m k S = k S1 := by unfold SM.seq; rw [h]
theorem seq_rt {m k : SM} {S S1 : Sl} {o : Opd} (h : m S = .rt o S1) : SM.seq m k S = .rt o S1 := by unfold SM.seq; rw [h]
def nxt (b : Int) : Int := (b * 39373 + 18793) % 2147483629
theorem nxt_small (b : Int) : smallI (nxt b) = true := by
  have h1 : 0 ≤ nxt b := Int.emod_nonneg _ (by decide)
  have h2 : nxt b < 2147483629 := Int.emod_lt_of_pos _ (by decide)
  unfold smallI
  exact decide_eq_true ⟨by omega, by omega⟩
theorem ix0 {x y : DV} : fIx (.lst [x, y]) (.int 0) = some (.v x) := rfl
theorem ix1 {x y : DV} : fIx (.lst [x, y]) (.int 1) = some (.v y) := rfl
theorem mulL {b : Int} : fMulB (.int b) (.int 39373) = some (.v (.int (b * 39373))) := by
  show (if smallI b || smallI 39373 then _ else _) = _
  rw [show smallI 39373 = true from by decide, Bool.or_true]; rfl
theorem mulS {b : Int} (h : smallI b = true) : fMulB (.int b) (.int b) = some (.v (.int (b * b))) := by
  show (if smallI b || smallI b then _ else _) = _
  rw [h]; rfl
theorem addI {a b : Int} : fAdd (.int a) (.int b) = some (.v (.int (a + b))) := rfl
theorem modI {a : Int} {b : Int} (h : 0 < b) : fMod (.int a) (.int b) = some (.v (.int (a % b))) := by
  show (if 0 < b then _ else _) = _
  rw [if_pos h]
theorem divI {a : Int} : fDiv (.int a) (.int 13) = some (.v (.int (a / 13))) := rfl
theorem intI {a : Int} : fInt [.int a] = some (.v (.int a)) := rfl
theorem dmI {a : Int} : fDivmod [.int a, .int 9] = some (.v (.tup [.int (a / 9), .int (a % 9)])) := rfl
theorem gt_pos {a : Int} (h : 0 < a) : fGt (.int a) (.int 0) = some true := by
  show some (decide (0 < a)) = _
  rw [decide_eq_true h]
theorem ixN20 : ixN 2 0 = some 0 := rfl
theorem ixN21 : ixN 2 1 = some 1 := rfl
theorem gt_no {a : Int} (h : ¬ 0 < a) : fGt (.int a) (.int 0) = some false := by
  show some (decide (0 < a)) = _
  rw [decide_eq_false h]
theorem draw_pos {a b : Int} (h : 0 < a) : f_law_draw [.ol true [.int a, .int b], .v (.int 9)] = .ret (.v (.int (a % 9))) [.ol true [.int (a / 9), .int b], .v (.int 9)] := by
  simp [f_law_draw, runDef, m_law_draw, SM.seq, M.thn, M.bind, M.pure, getSl, op2, cmpB, opN, Opd.dv, Opd.dvs, kst, frz, RV.dv, RV.isPin, ix0, gt_pos h, dmI, startS, outsOf, retOf, gSM, gTupM, gConsM, gNilM, storeAt, storeD, SM.nil, RV.isOwn, ixN20]
theorem draw_no {a b : Int} (h : ¬ 0 < a) : f_law_draw [.ol true [.int a, .int b], .v (.int 9)] = .ret (.v (.int (nxt b * nxt b % 2147483549 / 13 % 9))) [.ol true [.int a, .int (nxt b)], .v (.int 9)] := by
  have e : (b * 39373 + 18793) % 2147483629 = nxt b := rfl
  simp [f_law_draw, runDef, m_law_draw, SM.seq, M.thn, M.bind, M.pure, getSl, op2, cmpB, opN, Opd.dv, Opd.dvs, kst, frz, RV.dv, RV.isPin, ix0, ix1, gt_no h, mulL, addI, modI, intI, startS, outsOf, retOf, gSM, storeAt, storeD, SM.nil, RV.isOwn, ixN20, ixN21, e, mulS (nxt_small b), divI]
theorem draw9 (a b : Int) (h : 0 ≤ a) : ∃ r : Nat, ∃ a' b' : Int, r < 9 ∧ 0 ≤ a' ∧ f_law_draw [.ol true [.int a, .int b], .v (.int 9)] = .ret (.v (.int r)) [.ol true [.int a', .int b'], .v (.int 9)] := by
  by_cases hp : 0 < a
  · refine ⟨(a % 9).toNat, a / 9, b, ?_, by omega, ?_⟩
    · omega
    · rw [draw_pos hp, Int.toNat_of_nonneg (by omega)]
  · refine ⟨(nxt b * nxt b % 2147483549 / 13 % 9).toNat, a, nxt b, ?_, h, ?_⟩
    · omega
    · rw [draw_no hp, Int.toNat_of_nonneg (by omega)]
theorem ixL {L : List DV} {r : Nat} (h : r < L.length) : fIx (.lst L) (.int (r : Int)) = some (.v L[r]) := by
  have e : ixN L.length (r : Int) = some r := by
    unfold ixN
    rw [if_pos (by omega), if_pos (by omega)]; simp
  show (L2.atI L (r : Int)).map RV.v = _
  unfold L2.atI
  rw [e]; simp [h]
theorem lenL {L : List DV} : fLen [.lst L] = some (.v (.int L.length)) := rfl
theorem pick9 (a b : Int) (h : 0 ≤ a) (L : List DV) (hL : L.length = 9) : ∃ r : Nat, ∃ hr : r < L.length, ∃ a' b' : Int, 0 ≤ a' ∧ f_law_pick [.ol true [.int a, .int b], .v (.lst L)] = .ret (.v L[r]) [.ol true [.int a', .int b'], .v (.lst L)] := by
  obtain ⟨r, a', b', hr, h0, e⟩ := draw9 a b h
  refine ⟨r, by omega, a', b', h0, ?_⟩
  simp [f_law_pick, runDef, m_law_pick, SM.seq, M.thn, M.bind, M.pure, getSl, op2, cmpB, opN, Opd.dv, Opd.dvs, kst, frz, RV.dv, RV.isPin, startS, outsOf, retOf, SM.nil, RV.isOwn, callP, RV.rePin, lenL, hL, e, ixL (show r < L.length by omega)]
def things (t : Nat) : List DV := [.non, .int t, .str (repS "w" t), .lst [.int t, .lst []], .tup [.int t, .tup []], .dct [(.inl t, .dct [])], .bl true, .int (-(t : Int)), .int 100000000000000000000]
theorem wT {t : Nat} (h : t ≤ 8) : fMulB (.str "w") (.int (t : Int)) = some (.v (.str (repS "w" t))) := by
  have h1 : ("w" : Str).length = 1 := by decide
  show (if _ then _ else _) = _
  rw [if_pos ⟨by rw [h1]; decide, by omega, by omega, by rw [h1]; omega⟩]; simp
theorem powT : fPow (.int 10) (.int 20) = some (.v (.int 100000000000000000000)) := by rfl
theorem thing9 (a b : Int) (h : 0 ≤ a) (t : Nat) (ht : t ≤ 8) : ∃ d ∈ things t, ∃ a' b' : Int, 0 ≤ a' ∧ f_law_thing [.ol true [.int a, .int b], .v (.int (t : Int))] = .ret (.v d) [.ol true [.int a', .int b'], .v (.int (t : Int))] := by
  obtain ⟨r, hr, a', b', h0, e⟩ := pick9 a b h (things t) rfl
  refine ⟨(things t)[r], List.getElem_mem hr, a', b', h0, ?_⟩
  unfold things at e
  simp [f_law_thing, runDef, m_law_thing, SM.seq, M.thn, M.bind, M.pure, getSl, op2, cmpB, opN, Opd.dv, Opd.dvs, kst, frz, RV.dv, RV.isPin, startS, outsOf, retOf, SM.nil, RV.isOwn, callP, RV.rePin, mkL, mkT, dispM, keysDV, keyDV, mergeD, putD, fNeg, wT ht, powT, sizeLine_eq, e]
  rfl
end Law
namespace Law
open PySem PySem.Spec PyProof.Rows L2 Lb
def Sm (d : DV) : Prop := ∃ p, toPy d = some p ∧ Small p ∧ p.shown.length ≤ 45 ∧ p.depth ≤ 9
theorem Sm.sm {d : DV} (h : Sm d) : ∃ p, toPy d = some p ∧ Small p := h.imp fun p z => ⟨z.1, z.2.1⟩
theorem repr_ne {A B : M (List Opd)} {S1 S2 S3 : Sl} {oa ob : Opd} {L : List DV} (hL : ∀ d ∈ L, ∃ p, toPy d = some p ∧ Small p) (hl : L.length ≤ 1000) (hA : A S1 = .ok [oa] S2) (ha : oa.dv S2 = some (.lst L)) (hB : B S2 = .ok [ob] S3) (hb : ob.dv S3 = some (.lst L)) :
    (M.bind (M.bind A (opN fRepr)) fun x => M.bind (M.bind B (opN fRepr)) fun y => cmpB neDV x y) S1 = .ok false S3 := by
  obtain ⟨s, e⟩ := fRepr_list hL hl
  have h1 : M.bind A (opN fRepr) S1 = .ok (.v (.v (.str s))) S2 := by rw [bind_ok hA]; simp [opN, Opd.dvs, ha, e]
  have h2 : M.bind B (opN fRepr) S2 = .ok (.v (.v (.str s))) S3 := by rw [bind_ok hB]; simp [opN, Opd.dvs, hb, e]
  rw [bind_ok h1, bind_ok h2]
  have h3 : neDV (.str s) (.str s) = some false := by
    show some (!(s == s)) = some false
    simp
  simp [cmpB, Opd.dv, RV.dv, h3]
theorem two_sm {m y : DV} (hm : Sm m) (hy : Sm y) : ∀ {L : List DV}, (∀ d ∈ L, d = m ∨ d = y) → ∀ d ∈ L, ∃ p, toPy d = some p ∧ Small p := fun h d hd => by
  rcases h d hd with e | e
  · subst e; exact hm.sm
  · subst e; exact hy.sm
def Lv (m y : DV) : List DV := (cV.map fun _ => m) ++ (cV.map fun _ => m) ++ (cV.map fun _ => y)
def Xv (m y : DV) : List DV := cV.map (ex1 "value" m) ++ cV.map (ex1 "value" m) ++ cV.map (ex1 "value" y)
theorem values_right {m y : DV} (hm : Sm m) (hy : Sm y) : f_law_values_right [.v m, .v y] = .ret (.v (.bl true)) [.v m, .v y] := by
  have hL : ∀ d ∈ Lv m y, ∃ p, toPy d = some p ∧ Small p := two_sm hm hy fun d hd => by
    simp only [Lv, List.mem_append, List.mem_map] at hd
    rcases hd with (⟨_, _, e⟩ | ⟨_, _, e⟩) | ⟨_, _, e⟩
    · exact .inl e.symm
    · exact .inl e.symm
    · exact .inr e.symm
  have hP : ∀ d ∈ ((cP ++ cP).map fun _ => m), ∃ p, toPy d = some p ∧ Small p := two_sm hm hy fun d hd => by
    simp only [List.mem_map] at hd
    obtain ⟨_, _, e⟩ := hd
    exact .inl e.symm
  unfold f_law_values_right runDef m_law_values_right
  rw [seq_nx (S1 := [some (.v m), some (.v y), some (.ol false (Xv m y)), none]) (by kernel_rfl)]
  rw [seq_nx (S1 := [some (.v m), some (.v y), some (.v (.lst (Xv m y))), none]) (by
    rw [thn_ok (a := false) (S1 := [some (.v m), some (.v y), some (.v (.lst (Xv m y))), none]) (by
      rw [bind_ok (a := false) (S1 := [some (.v m), some (.v y), some (.v (.lst (Xv m y))), none]) (repr_ne (S2 := [some (.v m), some (.v y), some (.v (.lst (Xv m y))), none]) (oa := .v (.ol false (Lv m y))) (ob := .v (.ol false (Lv m y))) hL (by simp [Lv, cV]) (by kernel_rfl) rfl (by kernel_rfl) rfl)]
      kernel_rfl)]
    kernel_rfl)]
  rw [seq_nx (S1 := [some (.v m), some (.v y), some (.v (.lst (Xv m y))), none]) (by kernel_rfl)]
  rw [seq_nx (S1 := [some (.v m), some (.v y), some (.ol false ((cP ++ cP).map (ex1 "position" m))), none]) (by kernel_rfl)]
  rw [seq_nx (S1 := [some (.v m), some (.v y), some (.v (.lst ((cP ++ cP).map (ex1 "position" m)))), none]) (by
    rw [thn_ok (a := false) (S1 := [some (.v m), some (.v y), some (.v (.lst ((cP ++ cP).map (ex1 "position" m)))), none]) (repr_ne (S2 := [some (.v m), some (.v y), some (.v (.lst ((cP ++ cP).map (ex1 "position" m)))), none]) (oa := .v (.ol false ((cP ++ cP).map fun _ => m))) (ob := .v (.ol false ((cP ++ cP).map fun _ => m))) hP (by simp [cP]) (by kernel_rfl) rfl (by kernel_rfl) rfl)]
    kernel_rfl)]
  kernel_rfl
end Law
namespace Law
open PySem PySem.Spec PyProof.Rows L2 Lb
def Xs (m : DV) : DV := .lst ((cS ++ cS).map (ex1 "value" m))
def oy (c : Str) (m y : DV) : DV := .exn c [("other", y), ("one", m)]
def X4 (m y : DV) : List DV := [oy "OtherLines" m y, oy "OtherLines" m y, oy "NotAgreeing" m y, oy "NotAgreeing" m y]
def na (m : DV) : List DV := [ex1 "which" m "NotAlike", ex1 "which" m "NotAlike"]
def cf (y : DV) : List DV := [ex1 "position" y "CommandFailed", ex1 "position" y "CommandFailed"]
theorem states_right {m y : DV} (hm : Sm m) (hy : Sm y) : f_law_states_right [.v m, .v y] = .ret (.v (.bl true)) [.v m, .v y] := by
  have h8 : ∀ d ∈ ((cS ++ cS).map fun _ => m), ∃ p, toPy d = some p ∧ Small p := two_sm hm hy fun d hd => by
    simp only [List.mem_map] at hd
    obtain ⟨_, _, e⟩ := hd
    exact .inl e.symm
  have h4 : ∀ d ∈ [DV.lst [m, y], .lst [m, y], .lst [m, y], .lst [m, y]], ∃ p, toPy d = some p ∧ Small p := fun d hd => by
    have e : d = .lst [m, y] := by simpa using hd
    subst e
    exact small_pair hm hy
  have h3 : ∀ d ∈ [m, m, y, y], ∃ p, toPy d = some p ∧ Small p := two_sm hm hy fun d hd => by
    simp only [List.mem_cons, List.not_mem_nil, or_false] at hd
    rcases hd with e | e | e | e <;> simp [e]
  unfold f_law_states_right runDef m_law_states_right
  rw [seq_nx (S1 := [some (.v m), some (.v y), some (.ol false ((cS ++ cS).map (ex1 "value" m))), none, none, none]) (by kernel_rfl)]
  rw [seq_nx (S1 := [some (.v m), some (.v y), some (.v (Xs m)), none, none, none]) (by
    rw [thn_ok (a := false) (S1 := [some (.v m), some (.v y), some (.v (Xs m)), none, none, none]) (by
      rw [bind_ok (a := false) (S1 := [some (.v m), some (.v y), some (.v (Xs m)), none, none, none]) (repr_ne (S2 := [some (.v m), some (.v y), some (.v (Xs m)), none, none, none]) (oa := .v (.ol false ((cS ++ cS).map fun _ => m))) (ob := .v (.ol false ((cS ++ cS).map fun _ => m))) h8 (by simp [cS]) (by kernel_rfl) rfl (by kernel_rfl) rfl)]
      kernel_rfl)]
    kernel_rfl)]
  rw [seq_nx (S1 := [some (.v m), some (.v y), some (.v (Xs m)), none, none, none]) (by kernel_rfl)]
  rw [seq_nx (S1 := [some (.v m), some (.v y), some (.ol false [oy "OtherLines" m y, oy "OtherLines" m y, oy "NotAgreeing" m y]), none, none, none]) (by kernel_rfl)]
  rw [seq_nx (S1 := [some (.v m), some (.v y), some (.ol false (X4 m y)), none, none, none]) (by kernel_rfl)]
  rw [seq_nx (S1 := [some (.v m), some (.v y), some (.v (.lst (X4 m y))), none, none, none]) (by
    rw [thn_ok (a := false) (S1 := [some (.v m), some (.v y), some (.v (.lst (X4 m y))), none, none, none]) (repr_ne (S2 := [some (.v m), some (.v y), some (.v (.lst (X4 m y))), none, none, none]) (oa := .v (.ol false [DV.lst [m, y], .lst [m, y], .lst [m, y], .lst [m, y]])) (ob := .v (.ol false [DV.lst [m, y], .lst [m, y], .lst [m, y], .lst [m, y]])) h4 (by simp) (by kernel_rfl) rfl (by kernel_rfl) rfl)]
    kernel_rfl)]
  rw [seq_nx (S1 := [some (.v m), some (.v y), some (.v (.lst (X4 m y))), some (.ol false (na m)), some (.ol false (cf y)), none]) (by kernel_rfl)]
  rw [seq_nx (S1 := [some (.v m), some (.v y), some (.v (.lst (X4 m y))), some (.v (.lst (na m))), some (.v (.lst (cf y))), none]) (by
    rw [thn_ok (a := false) (S1 := [some (.v m), some (.v y), some (.v (.lst (X4 m y))), some (.v (.lst (na m))), some (.v (.lst (cf y))), none]) (repr_ne (S2 := [some (.v m), some (.v y), some (.v (.lst (X4 m y))), some (.v (.lst (na m))), some (.v (.lst (cf y))), none]) (oa := .v (.ol false [m, m, y, y])) (ob := .v (.ol false [m, m, y, y])) h3 (by simp) (by kernel_rfl) rfl (by kernel_rfl) rfl)]
    kernel_rfl)]
  kernel_rfl
def it (m : DV) : List DV := [ex1 "line" m "InvalidText", ex1 "line" m "InvalidText"]
def ns' (y : DV) : List DV := [ex1 "value" y "NoSuch", ex1 "value" y "NoSuch"]
def tm (m y : DV) : List DV := [.exn "TooMany" [("limit", y), ("what", m)], .exn "TooMany" [("limit", y), ("what", m)]]
theorem others_right {m y : DV} (hm : Sm m) (hy : Sm y) : f_law_others_right [.v m, .v y] = .ret (.v (.bl true)) [.v m, .v y] := by
  have h2 : ∀ d ∈ [DV.lst [m, y], .lst [m, y]], ∃ p, toPy d = some p ∧ Small p := fun d hd => by
    have e : d = .lst [m, y] := by simpa using hd
    subst e
    exact small_pair hm hy
  have h3 : ∀ d ∈ [m, m, y, y], ∃ p, toPy d = some p ∧ Small p := two_sm hm hy fun d hd => by
    simp only [List.mem_cons, List.not_mem_nil, or_false] at hd
    rcases hd with e | e | e | e <;> simp [e]
  unfold f_law_others_right runDef m_law_others_right
  rw [seq_nx (S1 := [some (.v m), some (.v y), none, some (.ol false (it m)), some (.ol false (ns' y)), none]) (by kernel_rfl)]
  rw [seq_nx (S1 := [some (.v m), some (.v y), some (.ol false (tm m y)), some (.ol false (it m)), some (.ol false (ns' y)), none]) (by kernel_rfl)]
  rw [seq_nx (S1 := [some (.v m), some (.v y), some (.ol false (tm m y)), some (.v (.lst (it m))), some (.v (.lst (ns' y))), none]) (by
    rw [thn_ok (a := false) (S1 := [some (.v m), some (.v y), some (.ol false (tm m y)), some (.v (.lst (it m))), some (.v (.lst (ns' y))), none]) (repr_ne (S2 := [some (.v m), some (.v y), some (.ol false (tm m y)), some (.v (.lst (it m))), some (.v (.lst (ns' y))), none]) (oa := .v (.ol false [m, m, y, y])) (ob := .v (.ol false [m, m, y, y])) h3 (by simp) (by kernel_rfl) rfl (by kernel_rfl) rfl)]
    kernel_rfl)]
  rw [seq_nx (S1 := [some (.v m), some (.v y), some (.v (.lst (tm m y))), some (.v (.lst (it m))), some (.v (.lst (ns' y))), none]) (by
    rw [thn_ok (a := false) (S1 := [some (.v m), some (.v y), some (.v (.lst (tm m y))), some (.v (.lst (it m))), some (.v (.lst (ns' y))), none]) (repr_ne (S2 := [some (.v m), some (.v y), some (.v (.lst (tm m y))), some (.v (.lst (it m))), some (.v (.lst (ns' y))), none]) (oa := .v (.ol false [DV.lst [m, y], .lst [m, y]])) (ob := .v (.ol false [DV.lst [m, y], .lst [m, y]])) h2 (by simp) (by kernel_rfl) rfl (by kernel_rfl) rfl)]
    kernel_rfl)]
  kernel_rfl
end Law
namespace Law
open PySem PySem.Spec PyProof.Rows L2 Lb
def smB (d : DV) : Bool := match toPy d with
  | some p => p.showable && (decide (p.shown.length ≤ 45) && decide (p.depth ≤ 9))
  | none => false
theorem sm_of {d : DV} (h : smB d = true) : Sm d := by
  unfold smB at h
  split at h
  · rename_i p e
    simp only [Bool.and_eq_true, decide_eq_true_eq] at h
    exact ⟨p, e, ⟨h.1, by omega, by omega⟩, h.2.1, h.2.2⟩
  · cases h
theorem sm_things : ∀ t : Nat, t ≤ 8 → (things t).all smB = true
  | 0, _ => by kernel_rfl
  | 1, _ => by kernel_rfl
  | 2, _ => by kernel_rfl
  | 3, _ => by kernel_rfl
  | 4, _ => by kernel_rfl
  | 5, _ => by kernel_rfl
  | 6, _ => by kernel_rfl
  | 7, _ => by kernel_rfl
  | 8, _ => by kernel_rfl
  | n + 9, h => absurd h (by omega)
theorem sm_thing {t : Nat} (ht : t ≤ 8) {d : DV} (h : d ∈ things t) : Sm d := sm_of (List.all_eq_true.mp (sm_things t ht) d h)
theorem loop_inv {g : GM} {body : SM} (I : Sl → Prop) : ∀ (ds : List DV), (∀ d ∈ ds, ∀ S, I S → ∃ S1 S2, g d S = some S1 ∧ body S1 = .nx S2 ∧ I S2) → ∀ S, I S → ∃ S', loopM g body ds S = .nx S' ∧ I S'
  | [], _, S, h => ⟨S, rfl, h⟩
  | d :: ds, k, S, h => by
    obtain ⟨S1, S2, e1, e2, h2⟩ := k d List.mem_cons_self S h
    obtain ⟨S', e3, h3⟩ := loop_inv I ds (fun x hx => k x (List.mem_cons_of_mem _ hx)) S2 h2
    refine ⟨S', ?_, h3⟩
    show (match g d S with | none => SOut.stuck | some S1 => _) = _
    rw [e1]
    dsimp only
    rw [e2]
    exact e3
def nv (x : Option RV) : Prop := x = none ∨ ∃ d, x = some (.v d)
def InvR (S : Sl) : Prop := ∃ a b x1 x2 x3, (0 : Int) ≤ a ∧ nv x1 ∧ nv x2 ∧ nv x3 ∧ S = [some (.ol true [.int a, .int b]), x1, x2, x3, none]
theorem storeD_nv {i : Nat} {S : Sl} {x : Option RV} {d : DV} (e : S[i]? = some x) (h : nv x) : storeD i d S = some (S.set i (some (.v d))) := by
  unfold storeD
  rw [e]
  rcases h with rfl | ⟨d', rfl⟩ <;> rfl
theorem seq_loop {X : M (List DV)} {g : GM} {body rest : SM} {S S0 : Sl} {ds : List DV} {o : Opd} (I : Sl → Prop) (hX : X S = .ok ds S0) (hI : I S0) (hb : ∀ d ∈ ds, ∀ S, I S → ∃ S1 S2, g d S = some S1 ∧ body S1 = .nx S2 ∧ I S2) (hr : ∀ S', I S' → rest S' = .rt o S') :
    ∃ S', SM.seq (M.thn X fun ds => loopM g body ds) rest S = .rt o S' ∧ I S' := by
  obtain ⟨S', e, h⟩ := loop_inv I ds hb S0 hI
  exact ⟨S', by rw [seq_nx (S1 := S') (by rw [thn_ok hX]; exact e)]; exact hr S' h, h⟩
theorem right (a b : Int) (h : 0 ≤ a) : ∃ outs, f_law_right [.ol true [.int a, .int b]] = .ret (.v (.bl true)) outs := by
  have key : ∃ S', m_law_right (startS 5 [.ol true [.int a, .int b]]) = .rt (.v (.v (.bl true))) S' ∧ InvR S' := by
    unfold m_law_right
    refine seq_loop InvR (ds := [.int 0, .int 1, .int 2, .int 3, .int 4, .int 5]) (S0 := startS 5 [.ol true [.int a, .int b]]) (by kernel_rfl) ⟨a, b, none, none, none, h, .inl rfl, .inl rfl, .inl rfl, rfl⟩ (fun d hd S hS => ?_) (fun S' hS => by rfl)
    obtain ⟨t, ht, rfl⟩ : ∃ t : Nat, t ≤ 5 ∧ d = .int t := by
      simp only [List.mem_cons, List.not_mem_nil, or_false] at hd
      rcases hd with e | e | e | e | e | e
      · exact ⟨0, by omega, e⟩
      · exact ⟨1, by omega, e⟩
      · exact ⟨2, by omega, e⟩
      · exact ⟨3, by omega, e⟩
      · exact ⟨4, by omega, e⟩
      · exact ⟨5, by omega, e⟩
    obtain ⟨a, b, x1, x2, x3, ha, n1, n2, n3, rfl⟩ := hS
    obtain ⟨d1, hd1, a1, b1, ha1, e1⟩ := thing9 a b ha t (by omega)
    obtain ⟨d2, hd2, a2, b2, ha2, e2⟩ := thing9 a1 b1 ha1 (t + 3) (by omega)
    have m1 := sm_thing (by omega) hd1
    have m2 := sm_thing (by omega) hd2
    refine ⟨_, [some (.ol true [.int a2, .int b2]), some (.v (.int t)), some (.v d1), some (.v d2), none], storeD_nv rfl n1, ?_, a2, b2, _, _, _, ha2, .inr ⟨_, rfl⟩, .inr ⟨_, rfl⟩, .inr ⟨_, rfl⟩, rfl⟩
    have ad : fAdd (.int (t : Int)) (.int 3) = some (.v (.int ((t : Int) + 3))) := rfl
    have cast : ((t + 3 : Nat) : Int) = (t : Int) + 3 := by simp
    rw [cast] at e2
    rw [seq_nx (S1 := [some (.ol true [.int a2, .int b2]), some (.v (.int t)), some (.v d1), some (.v d2), none]) (by
      rcases n2 with rfl | ⟨y2, rfl⟩ <;> rcases n3 with rfl | ⟨y3, rfl⟩ <;>
      simp [M.thn, M.bind, M.pure, getSl, op2, Opd.dv, kst, frz, RV.dv, RV.isPin, RV.isOwn, callP, RV.rePin, e1, e2, ad, mkT, sizeLine_eq, gSM, gTupM, gConsM, gNilM, storeD])]
    rw [seq_nx (S1 := [some (.ol true [.int a2, .int b2]), some (.v (.int t)), some (.v d1), some (.v d2), none]) (by
      simp [M.thn, M.bind, M.pure, getSl, Opd.dv, frz, RV.dv, RV.isPin, callF, values_right m1 m2, states_right m1 m2, truthOf, SM.nil])]
    rw [seq_nx (S1 := [some (.ol true [.int a2, .int b2]), some (.v (.int t)), some (.v d1), some (.v d2), none]) (by
      simp [M.thn, M.bind, M.pure, getSl, Opd.dv, frz, RV.dv, RV.isPin, callF, others_right m1 m2, each_right, truthOf, SM.nil])]
    rw [seq_nx (S1 := [some (.ol true [.int a2, .int b2]), some (.v (.int t)), some (.v d1), some (.v d2), none]) (by
      clear e1 e2 m1 m2 ad cast hd2
      have h6 : t = 0 ∨ t = 1 ∨ t = 2 ∨ t = 3 ∨ t = 4 ∨ t = 5 := by omega
      simp only [things, List.mem_cons, List.not_mem_nil, or_false] at hd1
      rcases h6 with rfl | rfl | rfl | rfl | rfl | rfl <;> rcases hd1 with rfl | rfl | rfl | rfl | rfl | rfl | rfl | rfl | rfl <;> kernel_rfl)]
    rfl
  obtain ⟨S', e, _⟩ := key
  refine ⟨outsOf [.ol true [.int a, .int b]] S', ?_⟩
  unfold f_law_right runDef
  rw [e]
  rfl
end Law
namespace Law
open PySem PySem.Spec PyProof.Rows L2 Lb
theorem mulR {a b : Int} (h : smallI b = true) : fMulB (.int a) (.int b) = some (.v (.int (a * b))) := by
  show (if smallI a || smallI b then _ else _) = _
  rw [h, Bool.or_true]; rfl
theorem mulL' {a b : Int} (h : smallI a = true) : fMulB (.int a) (.int b) = some (.v (.int (a * b))) := by
  show (if smallI a || smallI b then _ else _) = _
  rw [h, Bool.true_or]; rfl
theorem subI {a b : Int} : fSub (.int a) (.int b) = some (.v (.int (a - b))) := rfl
theorem pow18 : fPow (.int 10) (.int 18) = some (.v (.int 1000000000000000000)) := by rfl
theorem lenS {ns : List Int} : fLen [.scr ns] = some (.v (.int ns.length)) := rfl
theorem ixS {ns : List Int} {k : Nat} (h : k < ns.length) : fIx (.scr ns) (.int (k : Int)) = some (.v (.int ns[k])) := by
  have e : ixN ns.length (k : Int) = some k := by
    unfold ixN
    rw [if_pos (by omega), if_pos (by omega)]; simp
  show (L2.atI ns (k : Int)).map (fun n => RV.v (.int n)) = _
  unfold L2.atI
  rw [e]; simp [h]
theorem absI {a : Int} : fAbs [.int a] = some (.v (.int (if a < 0 then -a else a))) := rfl
theorem maxI {a b : Int} : fMax [.int a, .int b] = some (.v (.int (if b > a then b else a))) := rfl
theorem minI {a b : Int} : fMin [.int a, .int b] = some (.v (.int (if b < a then b else a))) := rfl
theorem ltT {a b : Int} (h : a < b) : fLt (.int a) (.int b) = some true := by
  show some (decide (a < b)) = _
  rw [decide_eq_true h]
theorem ltF {a b : Int} (h : ¬ a < b) : fLt (.int a) (.int b) = some false := by
  show some (decide (a < b)) = _
  rw [decide_eq_false h]
theorem s1 : smallI 48271 = true := by decide
theorem s2 : smallI 60107 = true := by decide
theorem s3 : smallI 61 = true := by decide
theorem max0 (x : Int) : 0 ≤ (if x > 0 then x else 0) := by split <;> omega
def potA (c : Int) : Int := if c - 1000000000000000000 > 0 then c - 1000000000000000000 else 0
def potB (c k : Int) : Int := (c % 2147483579 * 48271 + 60107 * k + 59) % 2147483563 + 1
theorem pot_all (ns : List Int) (k c a b a2 : Int) (h1 : fPow (.int 10) (.int 18) = some (.v (.int a2))) (h2 : fMax [.int 0, .int (c - a2)] = some (.v (.int a)))
    (h3 : fMod (.int c) (.int 2147483579) = some (.v (.int (c % 2147483579)))) (h4 : fMod (.int (c % 2147483579 * 48271 + 60107 * k + 59)) (.int 2147483563) = some (.v (.int b)))
    (h0 : (fLt (.int k) (.int ns.length) = some true ∧ ∃ n, fIx (.scr ns) (.int k) = some (.v (.int n)) ∧ fAbs [.int n] = some (.v (.int c))) ∨ (fLt (.int k) (.int ns.length) = some false ∧ c = 61 * k + 29)) :
    m_law_pot [some (.v (.scr ns)), some (.v (.int k)), none] = .rt (.v (.ol false [.int a, .int (b + 1)])) [some (.v (.scr ns)), some (.v (.int k)), some (.v (.int c))] := by
  unfold m_law_pot
  rw [seq_nx (S1 := [some (.v (.scr ns)), some (.v (.int k)), some (.v (.int c))]) (by
    rcases h0 with ⟨hl, n, hx, ha⟩ | ⟨hl, rfl⟩
    · simp only [M.thn, M.bind, M.pure, getSl, op2, cmpB, opN, Opd.dv, Opd.dvs, RV.dv, lenS, hl, hx, ha, setSl, List.getElem?_cons_zero, List.getElem?_cons_succ, if_true]
      rfl
    · simp only [M.thn, M.bind, M.pure, getSl, op2, cmpB, opN, Opd.dv, Opd.dvs, RV.dv, lenS, hl, mulL' s3, addI, kst, setSl, List.getElem?_cons_zero, List.getElem?_cons_succ, if_false, Bool.false_eq_true]
      rfl)]
  simp only [SM.seq, M.thn, M.bind, M.pure, getSl, op2, opN, Opd.dv, Opd.dvs, kst, frz, RV.dv, RV.isPin, h1, subI, h2, intI, h3, mulR s1, mulL' s2, addI, h4, mkL, List.getElem?_cons_zero, List.getElem?_cons_succ, List.length_cons, List.length_nil, sizeLine_eq]
  rfl
theorem pot_of {ns : List Int} {k : Nat} {a b c : Int} (ha : 0 ≤ a) (e : m_law_pot [some (.v (.scr ns)), some (.v (.int k)), none] = .rt (.v (.ol false [.int a, .int b])) [some (.v (.scr ns)), some (.v (.int k)), some (.v (.int c))]) :
    ∃ a b : Int, 0 ≤ a ∧ f_law_pot [.v (.scr ns), .v (.int (k : Int))] = .ret (.ol false [.int a, .int b]) [.v (.scr ns), .v (.int (k : Int))] := by
  refine ⟨a, b, ha, ?_⟩
  unfold f_law_pot runDef
  rw [show startS 3 [RV.v (.scr ns), .v (.int (k : Int))] = [some (.v (.scr ns)), some (.v (.int k)), none] from rfl, e]
  rfl
theorem pot (ns : List Int) (k : Nat) : ∃ a b : Int, 0 ≤ a ∧ f_law_pot [.v (.scr ns), .v (.int (k : Int))] = .ret (.ol false [.int a, .int b]) [.v (.scr ns), .v (.int (k : Int))] := by
  have key : ∃ c : Int, (fLt (.int k) (.int ns.length) = some true ∧ ∃ n, fIx (.scr ns) (.int k) = some (.v (.int n)) ∧ fAbs [.int n] = some (.v (.int c))) ∨ (fLt (.int k) (.int ns.length) = some false ∧ c = 61 * k + 29) := by
    by_cases hk : k < ns.length
    · exact ⟨_, .inl ⟨ltT (by omega), _, ixS hk, absI⟩⟩
    · exact ⟨_, .inr ⟨ltF (by omega), rfl⟩⟩
  obtain ⟨c, h0⟩ := key
  have e := pot_all ns k c _ _ _ pow18 maxI (modI (by decide)) (modI (by decide)) h0
  exact pot_of (max0 _) e
end Law
namespace Law
open PySem PySem.Spec PyProof.Rows L2 Lb
theorem pot_n (ns : List Int) (k : Int) (n : Nat) (h : k = n) : ∃ a b : Int, ∃ outs, 0 ≤ a ∧ f_law_pot [.v (.scr ns), .v (.int k)] = .ret (.ol false [.int a, .int b]) [.v (.scr ns), .v (.int k)] ∧ f_law_right [.ol true [.int a, .int b]] = .ret (.v (.bl true)) outs := by
  subst h
  obtain ⟨a, b, p, e⟩ := pot ns n
  obtain ⟨o, r⟩ := right a b p
  exact ⟨a, b, o, p, e, r⟩
theorem law_1 (ns : List Int) (q : Int) (h1 : fMin [.int ns.length, .int 3] = some (.v (.int q))) (h2 : fMax [.int 1, .int q] = some (.v (.int 1))) :
    m_law [some (.v (.scr ns)), none] = .rt (.v (.v (.bl true))) [some (.v (.scr ns)), none] := by
  obtain ⟨a0, b0, o0, _, e0, r0⟩ := pot_n ns 0 0 rfl
  have hR : asRange1 [.int 1] = M.pure [.int 0] := by rfl
  unfold m_law
  simp [SM.seq, M.thn, M.bind, M.pure, getSl, opN, Opd.dv, Opd.dvs, kst, frz, RV.dv, RV.isPin, RV.isOwn, lenS, h1, h2, hR, compM, compL, noOwn, wipeS, restS, storeD, callF, callO, RV.rePin, e0, r0, sizeLine_eq, fAll, boolsDV]
theorem law_2 (ns : List Int) (q : Int) (h1 : fMin [.int ns.length, .int 3] = some (.v (.int q))) (h2 : fMax [.int 1, .int q] = some (.v (.int 2))) :
    m_law [some (.v (.scr ns)), none] = .rt (.v (.v (.bl true))) [some (.v (.scr ns)), none] := by
  obtain ⟨a0, b0, o0, _, e0, r0⟩ := pot_n ns 0 0 rfl
  obtain ⟨a1, b1, o1, _, e1, r1⟩ := pot_n ns 1 1 rfl
  have hR : asRange1 [.int 2] = M.pure [.int 0, .int 1] := by rfl
  unfold m_law
  simp [SM.seq, M.thn, M.bind, M.pure, getSl, opN, Opd.dv, Opd.dvs, kst, frz, RV.dv, RV.isPin, RV.isOwn, lenS, h1, h2, hR, compM, compL, noOwn, wipeS, restS, storeD, callF, callO, RV.rePin, e0, r0, e1, r1, sizeLine_eq, fAll, boolsDV]
theorem law_3 (ns : List Int) (q : Int) (h1 : fMin [.int ns.length, .int 3] = some (.v (.int q))) (h2 : fMax [.int 1, .int q] = some (.v (.int 3))) :
    m_law [some (.v (.scr ns)), none] = .rt (.v (.v (.bl true))) [some (.v (.scr ns)), none] := by
  obtain ⟨a0, b0, o0, _, e0, r0⟩ := pot_n ns 0 0 rfl
  obtain ⟨a1, b1, o1, _, e1, r1⟩ := pot_n ns 1 1 rfl
  obtain ⟨a2, b2, o2, _, e2, r2⟩ := pot_n ns 2 2 rfl
  have hR : asRange1 [.int 3] = M.pure [.int 0, .int 1, .int 2] := by rfl
  unfold m_law
  simp [SM.seq, M.thn, M.bind, M.pure, getSl, opN, Opd.dv, Opd.dvs, kst, frz, RV.dv, RV.isPin, RV.isOwn, lenS, h1, h2, hR, compM, compL, noOwn, wipeS, restS, storeD, callF, callO, RV.rePin, e0, r0, e1, r1, e2, r2, sizeLine_eq, fAll, boolsDV]
theorem pure_law (ns : List Int) (_ : ns.length ≤ 63) : ∃ outs, f_law [.v (.scr ns)] = .ret (.v (.bl true)) outs := by
  have key : m_law [some (.v (.scr ns)), none] = .rt (.v (.v (.bl true))) [some (.v (.scr ns)), none] := by
    by_cases h3 : 3 ≤ ns.length
    · by_cases h4 : (3 : Int) < ns.length
      · exact law_3 ns 3 (by rw [minI, if_pos h4]) (by rw [maxI]; rfl)
      · exact law_3 ns 3 (by rw [minI, if_neg h4, show (ns.length : Int) = 3 by omega]) (by rw [maxI]; rfl)
    · by_cases h2 : ns.length = 2
      · exact law_2 ns 2 (by rw [minI, h2]; rfl) (by rw [maxI]; rfl)
      · by_cases h1 : ns.length = 1
        · exact law_1 ns 1 (by rw [minI, h1]; rfl) (by rw [maxI]; rfl)
        · exact law_1 ns 0 (by rw [minI, show ns.length = 0 by omega]; rfl) (by rw [maxI]; rfl)
  refine ⟨[.v (.scr ns)], ?_⟩
  unfold f_law runDef
  rw [show startS 2 [RV.v (.scr ns)] = [some (.v (.scr ns)), none] from rfl, key]
  rfl
end Law
namespace Law
open PySem PySem.Spec PySem.W PySem.Calls PyProof.Rows L2 Lb
section
open PySem PySem.Spec PyProof.Rows L2 Lb
def hb0_0 (K : PySem.W.Frag) : List Bool := [
  excAllB K tabE,
  noLst K,
  He.eqO (PySem.W.nsIn K mainGlobals "divmod") (some none),
  He.eqO (PySem.W.nsIn K mainGlobals "int") (some none),
  He.eqO (PySem.W.nsIn K mainGlobals "max") (some none),
  He.eqO (PySem.W.nsIn K mainGlobals "min") (some none),
  He.eqO (PySem.W.nsIn K mainGlobals "abs") (some none),
  He.eqO (PySem.W.nsIn K mainGlobals "len") (some none),
  He.eqO (PySem.W.nsIn K mainGlobals "any") (some none),
  He.eqO (PySem.W.nsIn K mainGlobals "all") (some none),
  He.eqO (PySem.W.nsIn K mainGlobals "repr") (some none),
  He.eqO (PySem.W.nsIn K mainGlobals "isinstance") (some none)]
def hb0_1 (K : PySem.W.Frag) : List Bool := [
  He.eqO (PySem.W.nsIn K mainGlobals "range") (some none),
  He.eqO (PySem.W.nsIn K mainGlobals "enumerate") (some none),
  He.eqO (PySem.W.nsIn K mainGlobals "zip") (some none),
  excB K "InvalidIns" "ValueError.__new__" [.type "ValueError", .type "Exception", .type "BaseException", .type "object"] ["position"],
  excB K "InvalidOuts" "ValueError.__new__" [.type "ValueError", .type "Exception", .type "BaseException", .type "object"] ["position"],
  excB K "InvalidStandings" "ValueError.__new__" [.type "ValueError", .type "Exception", .type "BaseException", .type "object"] ["value"],
  excB K "InvalidReactions" "ValueError.__new__" [.type "ValueError", .type "Exception", .type "BaseException", .type "object"] ["position"],
  excB K "InvalidReaction" "ValueError.__new__" [.type "ValueError", .type "Exception", .type "BaseException", .type "object"] ["value"],
  excB K "InvalidNames" "ValueError.__new__" [.type "ValueError", .type "Exception", .type "BaseException", .type "object"] ["value"],
  excB K "InvalidNumber" "ValueError.__new__" [.type "ValueError", .type "Exception", .type "BaseException", .type "object"] ["value"],
  excB K "InvalidStanding" "ValueError.__new__" [.type "ValueError", .type "Exception", .type "BaseException", .type "object"] ["value"],
  excB K "InvalidStreams" "ValueError.__new__" [.type "ValueError", .type "Exception", .type "BaseException", .type "object"] ["value"]]
def hb0_2 (K : PySem.W.Frag) : List Bool := [
  excB K "InvalidRun" "ValueError.__new__" [.type "ValueError", .type "Exception", .type "BaseException", .type "object"] ["position"],
  excB K "InvalidArrivals" "ValueError.__new__" [.type "ValueError", .type "Exception", .type "BaseException", .type "object"] ["position"],
  excB K "InvalidRule" "ValueError.__new__" [.type "ValueError", .type "Exception", .type "BaseException", .type "object"] ["value"],
  excB K "InvalidLine" "ValueError.__new__" [.type "ValueError", .type "Exception", .type "BaseException", .type "object"] ["value"],
  excB K "InvalidLines" "ValueError.__new__" [.type "ValueError", .type "Exception", .type "BaseException", .type "object"] ["position"],
  excB K "InvalidFlows" "ValueError.__new__" [.type "ValueError", .type "Exception", .type "BaseException", .type "object"] ["value"],
  excB K "InvalidSizes" "ValueError.__new__" [.type "ValueError", .type "Exception", .type "BaseException", .type "object"] ["value"],
  excB K "InvalidRooms" "ValueError.__new__" [.type "ValueError", .type "Exception", .type "BaseException", .type "object"] ["value"],
  excB K "InvalidCount" "ValueError.__new__" [.type "ValueError", .type "Exception", .type "BaseException", .type "object"] ["value"],
  excB K "InvalidCounts" "ValueError.__new__" [.type "ValueError", .type "Exception", .type "BaseException", .type "object"] ["value"],
  excB K "InvalidText" "ValueError.__new__" [.type "ValueError", .type "Exception", .type "BaseException", .type "object"] ["line"],
  excB K "InvalidClaim" "ValueError.__new__" [.type "ValueError", .type "Exception", .type "BaseException", .type "object"] ["value"]]
def hb0_3 (K : PySem.W.Frag) : List Bool := [
  excB K "InvalidCommand" "ValueError.__new__" [.type "ValueError", .type "Exception", .type "BaseException", .type "object"] ["value"],
  excB K "NoSuch" "LookupError.__new__" [.type "LookupError", .type "Exception", .type "BaseException", .type "object"] ["value"]]
def hbs0 (K : PySem.W.Frag) : List Bool := hb0_0 K ++ hb0_1 K ++ hb0_2 K ++ hb0_3 K
def hB0 (K : PySem.W.Frag) : Bool := (hbs0 K).all fun z => z
def hb1_0 (K : PySem.W.Frag) : List Bool := [
  excB K "SharedLine" "RuntimeError.__new__" [.type "RuntimeError", .type "Exception", .type "BaseException", .type "object"] ["value"],
  excB K "OtherLines" "RuntimeError.__new__" [.type "RuntimeError", .type "Exception", .type "BaseException", .type "object"] ["one", "other"],
  excB K "NotAgreeing" "RuntimeError.__new__" [.type "RuntimeError", .type "Exception", .type "BaseException", .type "object"] ["one", "other"],
  excB K "NotReached" "RuntimeError.__new__" [.type "RuntimeError", .type "Exception", .type "BaseException", .type "object"] ["value"],
  excB K "NotAlike" "RuntimeError.__new__" [.type "RuntimeError", .type "Exception", .type "BaseException", .type "object"] ["which"],
  excB K "NotSmooth" "RuntimeError.__new__" [.type "RuntimeError", .type "Exception", .type "BaseException", .type "object"] [],
  excB K "Noticed" "RuntimeError.__new__" [.type "RuntimeError", .type "Exception", .type "BaseException", .type "object"] ["value"],
  excB K "NoStore" "RuntimeError.__new__" [.type "RuntimeError", .type "Exception", .type "BaseException", .type "object"] [],
  excB K "CannotBeDone" "RuntimeError.__new__" [.type "RuntimeError", .type "Exception", .type "BaseException", .type "object"] ["value"],
  excB K "NothingToUndo" "RuntimeError.__new__" [.type "RuntimeError", .type "Exception", .type "BaseException", .type "object"] [],
  excB K "CommandFailed" "RuntimeError.__new__" [.type "RuntimeError", .type "Exception", .type "BaseException", .type "object"] ["position"],
  excB K "TooMany" "ArithmeticError.__new__" [.type "ArithmeticError", .type "Exception", .type "BaseException", .type "object"] ["what", "limit"]]
def hb1_1 (K : PySem.W.Frag) : List Bool := [
  kitBltB K tabE "ArithmeticError" sub_ArithmeticError,
  He.eqO (PySem.W.nsIn K mainGlobals "ArithmeticError") (some none),
  kitOwnB K tabE "BeatError" sub_BeatError,
  kitOwnB K tabE "CannotBeDone" sub_CannotBeDone,
  kitOwnB K tabE "CommandFailed" sub_CommandFailed,
  kitOwnB K tabE "InvalidArrivals" sub_InvalidArrivals,
  kitOwnB K tabE "InvalidClaim" sub_InvalidClaim,
  kitOwnB K tabE "InvalidCommand" sub_InvalidCommand,
  kitOwnB K tabE "InvalidCount" sub_InvalidCount,
  kitOwnB K tabE "InvalidCounts" sub_InvalidCounts,
  kitOwnB K tabE "InvalidFlows" sub_InvalidFlows,
  kitOwnB K tabE "InvalidIns" sub_InvalidIns]
def hb1_2 (K : PySem.W.Frag) : List Bool := [
  kitOwnB K tabE "InvalidLine" sub_InvalidLine,
  kitOwnB K tabE "InvalidLines" sub_InvalidLines,
  kitOwnB K tabE "InvalidNames" sub_InvalidNames,
  kitOwnB K tabE "InvalidNumber" sub_InvalidNumber,
  kitOwnB K tabE "InvalidOuts" sub_InvalidOuts,
  kitOwnB K tabE "InvalidReaction" sub_InvalidReaction,
  kitOwnB K tabE "InvalidReactions" sub_InvalidReactions,
  kitOwnB K tabE "InvalidRooms" sub_InvalidRooms,
  kitOwnB K tabE "InvalidRule" sub_InvalidRule,
  kitOwnB K tabE "InvalidRun" sub_InvalidRun,
  kitOwnB K tabE "InvalidSizes" sub_InvalidSizes,
  kitOwnB K tabE "InvalidStanding" sub_InvalidStanding]
def hb1_3 (K : PySem.W.Frag) : List Bool := [
  kitOwnB K tabE "InvalidStandings" sub_InvalidStandings,
  kitOwnB K tabE "InvalidStreams" sub_InvalidStreams]
def hbs1 (K : PySem.W.Frag) : List Bool := hb1_0 K ++ hb1_1 K ++ hb1_2 K ++ hb1_3 K
def hB1 (K : PySem.W.Frag) : Bool := (hbs1 K).all fun z => z
def hb2_0 (K : PySem.W.Frag) : List Bool := [
  kitOwnB K tabE "InvalidText" sub_InvalidText,
  kitOwnB K tabE "LimitError" sub_LimitError,
  kitBltB K tabE "LookupError" sub_LookupError,
  He.eqO (PySem.W.nsIn K mainGlobals "LookupError") (some none),
  kitOwnB K tabE "MissingError" sub_MissingError,
  kitOwnB K tabE "NoStore" sub_NoStore,
  kitOwnB K tabE "NoSuch" sub_NoSuch,
  kitOwnB K tabE "NotAgreeing" sub_NotAgreeing,
  kitOwnB K tabE "NotAlike" sub_NotAlike,
  kitOwnB K tabE "NotReached" sub_NotReached,
  kitOwnB K tabE "NotSmooth" sub_NotSmooth,
  kitOwnB K tabE "NothingToUndo" sub_NothingToUndo]
def hb2_1 (K : PySem.W.Frag) : List Bool := [
  kitOwnB K tabE "Noticed" sub_Noticed,
  kitOwnB K tabE "OtherLines" sub_OtherLines,
  kitBltB K tabE "RuntimeError" sub_RuntimeError,
  He.eqO (PySem.W.nsIn K mainGlobals "RuntimeError") (some none),
  kitOwnB K tabE "SharedLine" sub_SharedLine,
  kitOwnB K tabE "StateError" sub_StateError,
  kitOwnB K tabE "TooMany" sub_TooMany,
  kitBltB K tabE "ValueError" sub_ValueError,
  He.eqO (PySem.W.nsIn K mainGlobals "ValueError") (some none),
  caB K tabE "InvalidReaction" [("InvalidReaction" : Str)],
  caB K tabE "InvalidReactions" [("InvalidReactions" : Str)],
  caB K tabE "InvalidStanding" [("InvalidStanding" : Str)]]
def hb2_2 (K : PySem.W.Frag) : List Bool := [
  caB K tabE "InvalidStandings" [("InvalidStandings" : Str)],
  caB K tabE "LimitError" [("TooMany" : Str)],
  caB K tabE "MissingError" [("NoSuch" : Str)],
  caB K tabE "NotSmooth" [("NotSmooth" : Str)],
  caB K tabE "StateError" [("SharedLine" : Str), ("OtherLines" : Str), ("NotAgreeing" : Str), ("NotReached" : Str), ("NotAlike" : Str), ("NotSmooth" : Str), ("Noticed" : Str), ("NoStore" : Str), ("CannotBeDone" : Str), ("NothingToUndo" : Str), ("CommandFailed" : Str)],
  fdB K tabF_limit "limit",
  fdB K tabF_line "line",
  fdB K tabF_one "one",
  fdB K tabF_other "other",
  fdB K tabF_position "position",
  fdB K tabF_value "value",
  fdB K tabF_what "what"]
def hb2_3 (K : PySem.W.Frag) : List Bool := [
  fdB K tabF_which "which"]
def hbs2 (K : PySem.W.Frag) : List Bool := hb2_0 K ++ hb2_1 K ++ hb2_2 K ++ hb2_3 K
def hB2 (K : PySem.W.Frag) : Bool := (hbs2 K).all fun z => z
def hn0 : List PySem.Str := [
  ("BeatError" : PySem.Str),
  ("InvalidIns" : PySem.Str),
  ("InvalidOuts" : PySem.Str),
  ("InvalidStandings" : PySem.Str),
  ("InvalidReactions" : PySem.Str),
  ("InvalidReaction" : PySem.Str),
  ("InvalidNames" : PySem.Str),
  ("InvalidNumber" : PySem.Str),
  ("InvalidStanding" : PySem.Str),
  ("InvalidStreams" : PySem.Str),
  ("InvalidRun" : PySem.Str),
  ("InvalidArrivals" : PySem.Str)]
def hn1 : List PySem.Str := [
  ("InvalidRule" : PySem.Str),
  ("InvalidLine" : PySem.Str),
  ("InvalidLines" : PySem.Str),
  ("InvalidFlows" : PySem.Str),
  ("InvalidSizes" : PySem.Str),
  ("InvalidRooms" : PySem.Str),
  ("InvalidCount" : PySem.Str),
  ("InvalidCounts" : PySem.Str),
  ("InvalidText" : PySem.Str),
  ("InvalidClaim" : PySem.Str),
  ("InvalidCommand" : PySem.Str),
  ("MissingError" : PySem.Str)]
def hn2 : List PySem.Str := [
  ("NoSuch" : PySem.Str),
  ("StateError" : PySem.Str),
  ("SharedLine" : PySem.Str),
  ("OtherLines" : PySem.Str),
  ("NotAgreeing" : PySem.Str),
  ("NotReached" : PySem.Str),
  ("NotAlike" : PySem.Str),
  ("NotSmooth" : PySem.Str),
  ("Noticed" : PySem.Str),
  ("NoStore" : PySem.Str),
  ("CannotBeDone" : PySem.Str),
  ("NothingToUndo" : PySem.Str)]
def hn3 : List PySem.Str := [
  ("CommandFailed" : PySem.Str),
  ("LimitError" : PySem.Str),
  ("TooMany" : PySem.Str),
  ("_law_pot" : PySem.Str),
  ("_law_draw" : PySem.Str),
  ("_law_pick" : PySem.Str),
  ("_law_grounds" : PySem.Str),
  ("_law_ground" : PySem.Str),
  ("_law_thing" : PySem.Str),
  ("_law_by_value" : PySem.Str),
  ("_law_by_named_value" : PySem.Str),
  ("_law_by_place" : PySem.Str)]
def hn4 : List PySem.Str := [
  ("_law_of_states" : PySem.Str),
  ("_law_bare" : PySem.Str),
  ("_law_thrown" : PySem.Str),
  ("_law_caught" : PySem.Str),
  ("_law_each" : PySem.Str),
  ("_law_marks" : PySem.Str),
  ("_law_each_right" : PySem.Str),
  ("_law_values_right" : PySem.Str),
  ("_law_states_right" : PySem.Str),
  ("_law_others_right" : PySem.Str),
  ("_law_right" : PySem.Str)]
def loose : List PySem.Str := hn0 ++ hn1 ++ hn2 ++ hn3 ++ hn4
def hf0_0 : List He.FnD := [
  fnD "InvalidIns" (some "__init__") "__init__" "InvalidIns.__init__" sx_InvalidIns,
  fnD "InvalidOuts" (some "__init__") "__init__" "InvalidOuts.__init__" sx_InvalidOuts,
  fnD "InvalidStandings" (some "__init__") "__init__" "InvalidStandings.__init__" sx_InvalidStandings,
  fnD "InvalidReactions" (some "__init__") "__init__" "InvalidReactions.__init__" sx_InvalidReactions,
  fnD "InvalidReaction" (some "__init__") "__init__" "InvalidReaction.__init__" sx_InvalidReaction,
  fnD "InvalidNames" (some "__init__") "__init__" "InvalidNames.__init__" sx_InvalidNames,
  fnD "InvalidNumber" (some "__init__") "__init__" "InvalidNumber.__init__" sx_InvalidNumber,
  fnD "InvalidStanding" (some "__init__") "__init__" "InvalidStanding.__init__" sx_InvalidStanding,
  fnD "InvalidStreams" (some "__init__") "__init__" "InvalidStreams.__init__" sx_InvalidStreams,
  fnD "InvalidRun" (some "__init__") "__init__" "InvalidRun.__init__" sx_InvalidRun,
  fnD "InvalidArrivals" (some "__init__") "__init__" "InvalidArrivals.__init__" sx_InvalidArrivals,
  fnD "InvalidRule" (some "__init__") "__init__" "InvalidRule.__init__" sx_InvalidRule]
def hf0_1 : List He.FnD := [
  fnD "InvalidLine" (some "__init__") "__init__" "InvalidLine.__init__" sx_InvalidLine,
  fnD "InvalidLines" (some "__init__") "__init__" "InvalidLines.__init__" sx_InvalidLines,
  fnD "InvalidFlows" (some "__init__") "__init__" "InvalidFlows.__init__" sx_InvalidFlows,
  fnD "InvalidSizes" (some "__init__") "__init__" "InvalidSizes.__init__" sx_InvalidSizes,
  fnD "InvalidRooms" (some "__init__") "__init__" "InvalidRooms.__init__" sx_InvalidRooms,
  fnD "InvalidCount" (some "__init__") "__init__" "InvalidCount.__init__" sx_InvalidCount,
  fnD "InvalidCounts" (some "__init__") "__init__" "InvalidCounts.__init__" sx_InvalidCounts]
def fns0 : List He.FnD := hf0_0 ++ hf0_1
def hf1_0 : List He.FnD := [
  fnD "InvalidText" (some "__init__") "__init__" "InvalidText.__init__" sx_InvalidText,
  fnD "InvalidClaim" (some "__init__") "__init__" "InvalidClaim.__init__" sx_InvalidClaim,
  fnD "InvalidCommand" (some "__init__") "__init__" "InvalidCommand.__init__" sx_InvalidCommand,
  fnD "NoSuch" (some "__init__") "__init__" "NoSuch.__init__" sx_NoSuch,
  fnD "SharedLine" (some "__init__") "__init__" "SharedLine.__init__" sx_SharedLine,
  fnD "OtherLines" (some "__init__") "__init__" "OtherLines.__init__" sx_OtherLines,
  fnD "NotAgreeing" (some "__init__") "__init__" "NotAgreeing.__init__" sx_NotAgreeing,
  fnD "NotReached" (some "__init__") "__init__" "NotReached.__init__" sx_NotReached,
  fnD "NotAlike" (some "__init__") "__init__" "NotAlike.__init__" sx_NotAlike,
  fnD "NotSmooth" (some "__init__") "__init__" "NotSmooth.__init__" sx_NotSmooth,
  fnD "Noticed" (some "__init__") "__init__" "Noticed.__init__" sx_Noticed,
  fnD "NoStore" (some "__init__") "__init__" "NoStore.__init__" sx_NoStore]
def hf1_1 : List He.FnD := [
  fnD "CannotBeDone" (some "__init__") "__init__" "CannotBeDone.__init__" sx_CannotBeDone,
  fnD "NothingToUndo" (some "__init__") "__init__" "NothingToUndo.__init__" sx_NothingToUndo,
  fnD "CommandFailed" (some "__init__") "__init__" "CommandFailed.__init__" sx_CommandFailed,
  fnD "TooMany" (some "__init__") "__init__" "TooMany.__init__" sx_TooMany,
  fnD "_law_pot" none "_law_pot" "_law_pot" s_law_pot,
  fnD "_law_draw" none "_law_draw" "_law_draw" s_law_draw,
  fnD "_law_grounds" none "_law_grounds" "_law_grounds" s_law_grounds]
def fns1 : List He.FnD := hf1_0 ++ hf1_1
def hf2_0 : List He.FnD := [
  fnD "_law_ground" none "_law_ground" "_law_ground" s_law_ground,
  fnD "_law_by_value" none "_law_by_value" "_law_by_value" s_law_by_value,
  fnD "_law_by_named_value" none "_law_by_named_value" "_law_by_named_value" s_law_by_named_value,
  fnD "_law_by_place" none "_law_by_place" "_law_by_place" s_law_by_place,
  fnD "_law_of_states" none "_law_of_states" "_law_of_states" s_law_of_states,
  fnD "_law_bare" none "_law_bare" "_law_bare" s_law_bare,
  fnD "_law_thrown" none "_law_thrown" "_law_thrown" s_law_thrown,
  fnD "_law_marks" none "_law_marks" "_law_marks" s_law_marks,
  fnD "_law_pick" none "_law_pick" "_law_pick" s_law_pick,
  fnD "_law_caught" none "_law_caught" "_law_caught" s_law_caught,
  fnD "_law_each" none "_law_each" "_law_each" s_law_each,
  fnD "_law_values_right" none "_law_values_right" "_law_values_right" s_law_values_right]
def hf2_1 : List He.FnD := [
  fnD "_law_states_right" none "_law_states_right" "_law_states_right" s_law_states_right,
  fnD "_law_others_right" none "_law_others_right" "_law_others_right" s_law_others_right,
  fnD "_law_thing" none "_law_thing" "_law_thing" s_law_thing,
  fnD "_law_each_right" none "_law_each_right" "_law_each_right" s_law_each_right,
  fnD "_law_right" none "_law_right" "_law_right" s_law_right,
  fnD "law" none "law" "law" s_law]
def fns2 : List He.FnD := hf2_0 ++ hf2_1
def ads : List Addr := mainGlobals :: List.range' 11 854
def hB : PySem.W.Frag → Bool := (fun K => hB0 K && (fun K => hB1 K && hB2 K) K)
def fns : List He.FnD := (fns0 ++ (fns1 ++ fns2))
abbrev R : PySem.W.OpenRow := PySem.W.OpenLaw.row PySem.Challenge.rw_loosebeats_k17_errors_by_families
def qv : Program := PySem.W.view R.prog [61]
abbrev hk : PySem.W.Hook := hookH ads hB fns
def ob (s : PySem.W.SharedT) : AlH := obsHF ads hB fns (HandSHeadRun.getT s)
theorem ob_eq (s : PySem.W.SharedT) : ob s = hk.obs s.abs := obsHF_eq (HandSHeadRun.getT_eq s)
theorem facts_of {K : PySem.W.Frag} (c : SaysH hB fns K) : Facts K := by
  obtain ⟨t0, u0⟩ := He.ba c.truth
  obtain ⟨t1, u1⟩ := He.ba u0
  have t2 := u1
  exact ⟨He.eqO_ok (all_at t0 2 rfl),
  He.eqO_ok (all_at t0 3 rfl),
  He.eqO_ok (all_at t0 4 rfl),
  He.eqO_ok (all_at t0 5 rfl),
  He.eqO_ok (all_at t0 6 rfl),
  He.eqO_ok (all_at t0 7 rfl),
  He.eqO_ok (all_at t0 8 rfl),
  He.eqO_ok (all_at t0 9 rfl),
  He.eqO_ok (all_at t0 10 rfl),
  He.eqO_ok (all_at t0 11 rfl),
  He.eqO_ok (all_at t0 12 rfl),
  He.eqO_ok (all_at t0 13 rfl),
  He.eqO_ok (all_at t0 14 rfl),
  c.exck 0 (all_at t0 15 rfl) rfl,
  c.exck 1 (all_at t0 16 rfl) rfl,
  c.exck 2 (all_at t0 17 rfl) rfl,
  c.exck 3 (all_at t0 18 rfl) rfl,
  c.exck 4 (all_at t0 19 rfl) rfl,
  c.exck 5 (all_at t0 20 rfl) rfl,
  c.exck 6 (all_at t0 21 rfl) rfl,
  c.exck 7 (all_at t0 22 rfl) rfl,
  c.exck 8 (all_at t0 23 rfl) rfl,
  c.exck 9 (all_at t0 24 rfl) rfl,
  c.exck 10 (all_at t0 25 rfl) rfl,
  c.exck 11 (all_at t0 26 rfl) rfl,
  c.exck 12 (all_at t0 27 rfl) rfl,
  c.exck 13 (all_at t0 28 rfl) rfl,
  c.exck 14 (all_at t0 29 rfl) rfl,
  c.exck 15 (all_at t0 30 rfl) rfl,
  c.exck 16 (all_at t0 31 rfl) rfl,
  c.exck 17 (all_at t0 32 rfl) rfl,
  c.exck 18 (all_at t0 33 rfl) rfl,
  c.exck 19 (all_at t0 34 rfl) rfl,
  c.exck 20 (all_at t0 35 rfl) rfl,
  c.exck 21 (all_at t0 36 rfl) rfl,
  c.exck 22 (all_at t0 37 rfl) rfl,
  c.exck 23 (all_at t1 0 rfl) rfl,
  c.exck 24 (all_at t1 1 rfl) rfl,
  c.exck 25 (all_at t1 2 rfl) rfl,
  c.exck 26 (all_at t1 3 rfl) rfl,
  c.exck 27 (all_at t1 4 rfl) rfl,
  c.exck 28 (all_at t1 5 rfl) rfl,
  c.exck 29 (all_at t1 6 rfl) rfl,
  c.exck 30 (all_at t1 7 rfl) rfl,
  c.exck 31 (all_at t1 8 rfl) rfl,
  c.exck 32 (all_at t1 9 rfl) rfl,
  c.exck 33 (all_at t1 10 rfl) rfl,
  c.exck 34 (all_at t1 11 rfl) rfl,
  isBltB_of (all_at t0 0 rfl) (all_at t1 12 rfl),
  He.eqO_ok (all_at t1 13 rfl),
  isOwnB_of (all_at t0 0 rfl) (all_at t1 14 rfl),
  isOwnB_of (all_at t0 0 rfl) (all_at t1 15 rfl),
  isOwnB_of (all_at t0 0 rfl) (all_at t1 16 rfl),
  isOwnB_of (all_at t0 0 rfl) (all_at t1 17 rfl),
  isOwnB_of (all_at t0 0 rfl) (all_at t1 18 rfl),
  isOwnB_of (all_at t0 0 rfl) (all_at t1 19 rfl),
  isOwnB_of (all_at t0 0 rfl) (all_at t1 20 rfl),
  isOwnB_of (all_at t0 0 rfl) (all_at t1 21 rfl),
  isOwnB_of (all_at t0 0 rfl) (all_at t1 22 rfl),
  isOwnB_of (all_at t0 0 rfl) (all_at t1 23 rfl),
  isOwnB_of (all_at t0 0 rfl) (all_at t1 24 rfl),
  isOwnB_of (all_at t0 0 rfl) (all_at t1 25 rfl),
  isOwnB_of (all_at t0 0 rfl) (all_at t1 26 rfl),
  isOwnB_of (all_at t0 0 rfl) (all_at t1 27 rfl),
  isOwnB_of (all_at t0 0 rfl) (all_at t1 28 rfl),
  isOwnB_of (all_at t0 0 rfl) (all_at t1 29 rfl),
  isOwnB_of (all_at t0 0 rfl) (all_at t1 30 rfl),
  isOwnB_of (all_at t0 0 rfl) (all_at t1 31 rfl),
  isOwnB_of (all_at t0 0 rfl) (all_at t1 32 rfl),
  isOwnB_of (all_at t0 0 rfl) (all_at t1 33 rfl),
  isOwnB_of (all_at t0 0 rfl) (all_at t1 34 rfl),
  isOwnB_of (all_at t0 0 rfl) (all_at t1 35 rfl),
  isOwnB_of (all_at t0 0 rfl) (all_at t1 36 rfl),
  isOwnB_of (all_at t0 0 rfl) (all_at t1 37 rfl),
  isOwnB_of (all_at t0 0 rfl) (all_at t2 0 rfl),
  isOwnB_of (all_at t0 0 rfl) (all_at t2 1 rfl),
  isBltB_of (all_at t0 0 rfl) (all_at t2 2 rfl),
  He.eqO_ok (all_at t2 3 rfl),
  isOwnB_of (all_at t0 0 rfl) (all_at t2 4 rfl),
  isOwnB_of (all_at t0 0 rfl) (all_at t2 5 rfl),
  isOwnB_of (all_at t0 0 rfl) (all_at t2 6 rfl),
  isOwnB_of (all_at t0 0 rfl) (all_at t2 7 rfl),
  isOwnB_of (all_at t0 0 rfl) (all_at t2 8 rfl),
  isOwnB_of (all_at t0 0 rfl) (all_at t2 9 rfl),
  isOwnB_of (all_at t0 0 rfl) (all_at t2 10 rfl),
  isOwnB_of (all_at t0 0 rfl) (all_at t2 11 rfl),
  isOwnB_of (all_at t0 0 rfl) (all_at t2 12 rfl),
  isOwnB_of (all_at t0 0 rfl) (all_at t2 13 rfl),
  isBltB_of (all_at t0 0 rfl) (all_at t2 14 rfl),
  He.eqO_ok (all_at t2 15 rfl),
  isOwnB_of (all_at t0 0 rfl) (all_at t2 16 rfl),
  isOwnB_of (all_at t0 0 rfl) (all_at t2 17 rfl),
  isOwnB_of (all_at t0 0 rfl) (all_at t2 18 rfl),
  isBltB_of (all_at t0 0 rfl) (all_at t2 19 rfl),
  He.eqO_ok (all_at t2 20 rfl),
  (all_at t2 21 rfl),
  (all_at t2 22 rfl),
  (all_at t2 23 rfl),
  (all_at t2 24 rfl),
  (all_at t2 25 rfl),
  (all_at t2 26 rfl),
  (all_at t2 27 rfl),
  (all_at t2 28 rfl),
  (all_at t2 29 rfl),
  (all_at t2 30 rfl),
  (all_at t2 31 rfl),
  (all_at t2 32 rfl),
  (all_at t2 33 rfl),
  (all_at t2 34 rfl),
  (all_at t2 35 rfl),
  (all_at t2 36 rfl),
  c.defk 35 rfl,
  c.defk 36 rfl,
  c.defk 37 rfl,
  c.defk 38 rfl,
  c.defk 39 rfl,
  c.defk 40 rfl,
  c.defk 41 rfl,
  c.defk 42 rfl,
  c.defk 43 rfl,
  c.defk 44 rfl,
  c.defk 45 rfl,
  c.defk 46 rfl,
  c.defk 47 rfl,
  c.defk 48 rfl,
  c.defk 49 rfl,
  c.defk 50 rfl,
  c.defk 51 rfl,
  c.defk 52 rfl,
  c.defk 53 rfl,
  c.defk 54 rfl,
  c.defk 55 rfl⟩
theorem noLst_of {K : PySem.W.Frag} (c : SaysH hB fns K) : noLst K = true := by
  obtain ⟨t0, u0⟩ := He.ba c.truth
  obtain ⟨t1, u1⟩ := He.ba u0
  have t2 := u1
  exact (all_at t0 1 rfl)
end
theorem run0 (w : World) (os : OsState) : (HandSHeadRun.endF (HandSHeadRun.stepQ (HandSHeadRun.denQ HandSHeadRun.tabQ) R.prog w) 20000 R.prog w os).map (fun s => (HandSHeadRun.looksF R.prog (boot_heap w.params) s.abs, HandSHeadRun.seenQ qv loose (importedModules R.prog.main.body) (fun s => xlAt qv [] s && recOk R.toRowW.records s) s.abs)) = some (true, openGood qv loose) := by
  kernel_rfl
theorem runh0 (w : World) (os : OsState) : (HandSHeadRun.endF (HandSHeadRun.stepQ (HandSHeadRun.denQ HandSHeadRun.tabQ) R.prog w) 20000 R.prog w os).map (fun s => obsHF ads hB0 fns0 (HandSHeadRun.getT s)) = some (valH fns0) := by
  kernel_rfl
theorem runh1 (w : World) (os : OsState) : (HandSHeadRun.endF (HandSHeadRun.stepQ (HandSHeadRun.denQ HandSHeadRun.tabQ) R.prog w) 20000 R.prog w os).map (fun s => obsHF ads hB1 fns1 (HandSHeadRun.getT s)) = some (valH fns1) := by
  kernel_rfl
theorem runh2 (w : World) (os : OsState) : (HandSHeadRun.endF (HandSHeadRun.stepQ (HandSHeadRun.denQ HandSHeadRun.tabQ) R.prog w) 20000 R.prog w os).map (fun s => obsHF ads hB2 fns2 (HandSHeadRun.getT s)) = some (valH fns2) := by
  kernel_rfl
theorem run (w : World) : HandSHeadRun.RunEq R qv hk ob 20000 loose w := fun os => run_join (run0 w os) (run_and (runh0 w os) (run_and (runh1 w os) (runh2 w os)))
end Law
open PySem PySem.W PyProof.Rows in
theorem PySem.Challenge.cw_loosebeats_k17_errors_by_families_holds : PySem.Challenge.rw_loosebeats_k17_errors_by_families.Holds := by
  w_on; o_law
  refine HandSHeadRun.head_any (r := Law.R) (q := Law.qv) (H := Law.hk) (ob := Law.ob) (M := 20000) (loose := Law.loose) (d := HandSHeadRun.topDef Law.R.prog 61) (kwd := []) Law.ob_eq
    (by kernel_rfl) (fun s => by kernel_rfl) Law.run (by kernel_rfl) (by kernel_rfl) (by kernel_rfl) (by rfl) (by first | assumption | decide +kernel) (by decide +kernel) ⟨rfl, rfl, rfl, rfl, rfl, by decide +kernel⟩ ?hw ?hc
  case hw => w_witness2
  case hc =>
    refine Lb.walkH (l := PySem.Challenge.rw_loosebeats_k17_errors_by_families) (k := 7) (n := Law.ads) (b := Law.hB) (fn := Law.fns) (x := "_law_script") (f := Law.f_law) rfl (by kernel_rfl) (by decide +kernel) ⟨rfl, by decide, by decide⟩ (fun K => Law.noLst_of) ?F Law.pure_law
    intro w mg fa h K KX c G hmg0
    have hmg : mg ("law" : PySem.Str) = some (.ref fa) := by
      have e : (HandSHeadRun.topDef Law.R.prog 61).name = ("law" : PySem.Str) := by kernel_rfl
      rw [← e]
      exact hmg0
    obtain ⟨fd, h1, h2⟩ := Law.the_law KX G (P := PySem.Challenge.rw_loosebeats_k17_errors_by_families.prog) (w := w) (Law.facts_of c) hmg
    exact ⟨fd, h1, fun base _ _ hs => h2 base hs⟩
