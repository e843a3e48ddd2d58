import PyProof.Rows.All
import Wide.All
import OpenK.AllK
import Wide.FinOn
import HandS.ForMost
import HandS.ForExc
import HandS.ExcInit
import HandS.ExcIs
import HandS.ExcField
import HandS.Lambda
import HandS.CallSlots
import HandS.Wide
import HandS.Comp
import HandS.Iter
import KE.KExcInit
import HandS.IsInst
import KE.KExcIs
import HandS.TryMany
import PyProof.ReprRoads
import PyProof.CallFns
import HandS.Dict
import PyProof.EqLayable
import PyProof.StrOps2
import HandS.Text
import HandS.TupAny
import HandS.EndBits
import PyProof.ReprLen
import KE.KStateDown
import HandS.Head0
import HandS.Head1
import HandS.Head2
import HandS.HeadHook1
import HandS.Property
import HandS.SlotsOwn
import PyProof.P3In
import KE.KEqNest
import PyProof.NeKinds
import HandS.TupSets
import HandS.ListItems
import HandS.Finally
import KE.KDictPairs
import HandS.ClsMeth
import HandS.DictComp
import PyProof.DictUpdate
import PyProof.MeetsSeq2
import HandS.SetFor
import HandS.Strs
import HandS.Codes
import HandS.FStr
import PySem.Challenge.RW_loosebeats_k15_whole_reactions_that_agre
set_option Elab.async false
set_option linter.all false
set_option maxRecDepth 100000
set_option maxHeartbeats  4000000
set_option autoImplicit false
/-! The core: data, what it is on the abstract heap, the state of a body. -/
namespace Lb
open PySem PySem.Spec PyProof.Rows L2
/-- data, as trees -/
inductive DV where
  | non | bl (b : Bool) | int (i : Int) | str (x : Str)
  | lst (xs : List DV) | tup (xs : List DV) | dct (kvs : List (Key × DV))
  | ins (c : Str) (fs : List (Str × DV))
  /-- the script -/
  | scr (ns : List Int)
  /-- an exception that is held as data -/
  | exn (c : Str) (fs : List (Str × DV))
  /-- a tuple that is known to have no attributes (dict() may be asked of it) -/
  | tuf (xs : List DV)
  /-- a place that is told by others -/
  | hole
  /-- the thing that stands there, whatever it is -/
  | loc (b : Addr)
  /-- a lambda: its function and code object, its name, what its maker's names hold (that which is data) -/
  | clo (f c : Addr) (q : Str) (σ : List (Option V)) (S : List (Option DV))
/-- the globals that matter: which class stands under a name -/
abbrev Mg := Str → Option Value
mutual
inductive Rep (mg : Mg) (B : Hp) : V → DV → Prop
  | non : Rep mg B .non .non
  | bl (b : Bool) : Rep mg B (.bl b) (.bl b)
  | int (i : Int) : Rep mg B (.int i) (.int i)
  | str (x : Str) : Rep mg B (.str x) (.str x)
  | lst {a : Addr} {xs : List V} {ds : List DV} : B a = some (.lst xs) → Reps mg B xs ds → Rep mg B (.ref a) (.lst ds)
  | tup {a : Addr} {xs : List V} {ds : List DV} : B a = some (.tup xs) → Reps mg B xs ds → Rep mg B (.ref a) (.tup ds)
  | tuf {a : Addr} {o : Obj} {xs : List V} {ds : List DV} : B a = some (.frz o (.tup xs)) → o.dict = none → Reps mg B xs ds → Rep mg B (.ref a) (.tuf ds)
  | hole {v : V} : Rep mg B v .hole
  | loc {b : Addr} : Rep mg B (.ref b) (.loc b)
  | dct {a : Addr} {kvs : List (Key × V)} {ds : List (Key × DV)} : Rd B a (.dK kvs) → RepK mg B kvs ds → Rep mg B (.ref a) (.dct ds)
  | ins {a C dx : Addr} {fs : List (Str × V)} {c : Str} {gs : List (Str × DV)} : mg c = some (.ref C) → B a = some (.ins C dx fs) → RepF mg B fs gs → Rep mg B (.ref a) (.ins c gs)
  | scr {a : Addr} {ns : List Int} : Rd B a (.lst (ns.map V.int)) → Rep mg B (.ref a) (.scr ns)
  | exn {a C : Addr} {c : Str} : mg c = some (.ref C) → B a = some (exo a C none) → Rep mg B (.ref a) (.exn c [])
  | exd {a C dx : Addr} {fs : List (Str × V)} {c : Str} {gs : List (Str × DV)} : mg c = some (.ref C) → B a = some (exo a C (some dx)) → B dx = some (exd dx fs) → RepF mg B fs gs → Rep mg B (.ref a) (.exn c gs)
  | clo {f c : Addr} {q : Str} {σ : List (Option V)} {S : List (Option DV)} : B c = some (LamX.CodeO c q) → RepO mg B σ S → Rep mg B (.ref f) (.clo f c q σ S)
inductive RepO (mg : Mg) (B : Hp) : List (Option V) → List (Option DV) → Prop
  | nil : RepO mg B [] []
  | no {x : Option V} {xs : List (Option V)} {ds : List (Option DV)} : RepO mg B xs ds → RepO mg B (x :: xs) (none :: ds)
  | yes {x : V} {d : DV} {xs : List (Option V)} {ds : List (Option DV)} : Rep mg B x d → RepO mg B xs ds → RepO mg B (some x :: xs) (some d :: ds)
inductive Reps (mg : Mg) (B : Hp) : List V → List DV → Prop
  | nil : Reps mg B [] []
  | cons {x : V} {d : DV} {xs : List V} {ds : List DV} : Rep mg B x d → Reps mg B xs ds → Reps mg B (x :: xs) (d :: ds)
inductive RepK (mg : Mg) (B : Hp) : List (Key × V) → List (Key × DV) → Prop
  | nil : RepK mg B [] []
  | cons {k : Key} {x : V} {d : DV} {xs : List (Key × V)} {ds : List (Key × DV)} : Rep mg B x d → RepK mg B xs ds → RepK mg B ((k, x) :: xs) ((k, d) :: ds)
inductive RepF (mg : Mg) (B : Hp) : List (Str × V) → List (Str × DV) → Prop
  | nil : RepF mg B [] []
  | cons {k : Str} {x : V} {d : DV} {xs : List (Str × V)} {ds : List (Str × DV)} : Rep mg B x d → RepF mg B xs ds → RepF mg B ((k, x) :: xs) ((k, d) :: ds)
end
/-- all but dicts, which may be locked for a while, and tables, which grow -/
def solid : HO → Bool
  | .dK _ => false
  | .frz _ (.dK _) => false
  | .tbl _ => false
  | _ => true
/-- what is read off the one is read off the other -/
structure Sub (B B' : Hp) : Prop where
  keep : ∀ a o, B a = some o → solid o = true → B' a = some o
  rd : ∀ a kvs, Rd B a (.dK kvs) → Rd B' a (.dK kvs)
  tb : ∀ a ps, B a = some (.tbl ps) → ∃ qs, B' a = some (.tbl qs)
theorem Sub.refl (B : Hp) : Sub B B := ⟨fun _ _ h _ => h, fun _ _ h => h, fun _ ps h => ⟨ps, h⟩⟩
theorem Sub.trans {B B1 B2 : Hp} (a : Sub B B1) (b : Sub B1 B2) : Sub B B2 := ⟨fun c o h s => b.keep c o (a.keep c o h s) s, fun c u h => b.rd c u (a.rd c u h), fun c u h => let ⟨v, e⟩ := a.tb c u h; b.tb c v e⟩
theorem Sub.of {B B' : Hp} (h : Same B B') : Sub B B' := ⟨fun a o e _ => h _ _ e, fun a u r => r.elim (fun e => .inl (h _ _ e)) fun ⟨o, e⟩ => .inr ⟨o, h _ _ e⟩, fun a ps e => ⟨ps, h _ _ e⟩⟩
theorem same_upd {B : Hp} {a : Addr} {o : HO} (h : B a = none) : Same B (upd B a o) := fun b u e => by rw [upd_ne (ne_of_none e h)]; exact e
theorem Sub.upd {B : Hp} {a : Addr} {o : HO} (h : B a = none) : Sub B (L2.upd B a o) := .of (same_upd h)
theorem not_solid {o : HO} (h : ¬ solid o = true) : (∃ kvs, o = .dK kvs ∨ ∃ ob, o = .frz ob (.dK kvs)) ∨ ∃ ps, o = .tbl ps := by
  unfold solid at h
  split at h
  · exact .inl ⟨_, .inl rfl⟩
  · exact .inl ⟨_, .inr ⟨_, rfl⟩⟩
  · exact .inr ⟨_, rfl⟩
  · exact absurd rfl h
theorem Sub.none {B H : Hp} (le : Sub B H) {a : Addr} (h : H a = none) : B a = none := by
  cases q : B a with
  | none => rfl
  | some o =>
    by_cases s : solid o = true
    · have := le.keep a o q s
      rw [h] at this; cases this
    · rcases not_solid s with ⟨kvs, e⟩ | ⟨ps, e⟩
      case inr =>
        subst e
        obtain ⟨qs, z⟩ := le.tb a ps q
        rw [h] at z; cases z
      have r : Rd B a (.dK kvs) := by
        rcases e with e | ⟨ob, e⟩
        · subst e; exact .inl q
        · subst e; exact .inr ⟨ob, q⟩
      rcases le.rd a kvs r with z | ⟨ob, z⟩ <;> rw [h] at z <;> cases z
theorem Sub.rdl {B B' : Hp} (s : Sub B B') {a : Addr} {xs : List V} (r : Rd B a (.lst xs)) : Rd B' a (.lst xs) :=
  r.elim (fun e => .inl (s.keep _ _ e rfl)) fun ⟨o, e⟩ => .inr ⟨o, s.keep _ _ e rfl⟩
section
variable {KK : PySem.W.Frag} {mg : Mg} {B B' : Hp}
mutual
theorem Rep.mono (s : Sub B B') : ∀ {v : V} {d : DV}, Rep mg B v d → Rep mg B' v d
  | _, _, .non => .non
  | _, _, .bl b => .bl b
  | _, _, .int i => .int i
  | _, _, .str x => .str x
  | _, _, .lst r q => .lst (s.keep _ _ r rfl) (Reps.mono s q)
  | _, _, .tup r q => .tup (s.keep _ _ r rfl) (Reps.mono s q)
  | _, _, .tuf r h q => .tuf (s.keep _ _ r rfl) h (Reps.mono s q)
  | _, _, .hole => .hole
  | _, _, .loc => .loc
  | _, _, .scr r => .scr (s.rdl r)
  | _, _, .dct r q => .dct (s.rd _ _ r) (RepK.mono s q)
  | _, _, .ins m r q => .ins m (s.keep _ _ r rfl) (RepF.mono s q)
  | _, _, .exn m r => .exn m (s.keep _ _ r rfl)
  | _, _, .exd m r e q => .exd m (s.keep _ _ r rfl) (s.keep _ _ e rfl) (RepF.mono s q)
  | _, _, .clo h q => .clo (s.keep _ _ h rfl) (RepO.mono s q)
theorem RepO.mono (s : Sub B B') : ∀ {v : List (Option V)} {d : List (Option DV)}, RepO mg B v d → RepO mg B' v d
  | _, _, .nil => .nil
  | _, _, .no q => .no (RepO.mono s q)
  | _, _, .yes r q => .yes (Rep.mono s r) (RepO.mono s q)
theorem Reps.mono (s : Sub B B') : ∀ {v : List V} {d : List DV}, Reps mg B v d → Reps mg B' v d
  | _, _, .nil => .nil
  | _, _, .cons r q => .cons (Rep.mono s r) (Reps.mono s q)
theorem RepK.mono (s : Sub B B') : ∀ {v : List (Key × V)} {d : List (Key × DV)}, RepK mg B v d → RepK mg B' v d
  | _, _, .nil => .nil
  | _, _, .cons r q => .cons (Rep.mono s r) (RepK.mono s q)
theorem RepF.mono (s : Sub B B') : ∀ {v : List (Str × V)} {d : List (Str × DV)}, RepF mg B v d → RepF mg B' v d
  | _, _, .nil => .nil
  | _, _, .cons r q => .cons (Rep.mono s r) (RepF.mono s q)
end
theorem Reps.length : ∀ {v : List V} {d : List DV}, Reps mg B v d → v.length = d.length
  | _, _, .nil => rfl
  | _, _, .cons _ q => congrArg (· + 1) (Reps.length q)
theorem Reps.get : ∀ {v : List V} {d : List DV} {i : Nat} {x : V}, Reps mg B v d → v[i]? = some x → ∃ e, d[i]? = some e ∧ Rep mg B x e
  | _, _, _, _, .nil, h => by simp at h
  | _, _, 0, _, .cons r _, h => by simp at h; subst h; exact ⟨_, rfl, r⟩
  | _, _, i + 1, _, .cons _ q, h => by
    obtain ⟨e, h1, h2⟩ := Reps.get (i := i) q (by simpa using h)
    exact ⟨e, by simpa using h1, h2⟩
theorem Reps.getD' : ∀ {v : List V} {d : List DV} {i : Nat} {e : DV}, Reps mg B v d → d[i]? = some e → ∃ x, v[i]? = some x ∧ Rep mg B x e
  | _, _, _, _, .nil, h => by simp at h
  | _, _, 0, _, .cons r _, h => by simp at h; subst h; exact ⟨_, rfl, r⟩
  | _, _, i + 1, _, .cons _ q, h => by
    obtain ⟨e, h1, h2⟩ := Reps.getD' (i := i) q (by simpa using h)
    exact ⟨e, by simpa using h1, h2⟩
theorem Reps.append : ∀ {v w : List V} {d e : List DV}, Reps mg B v d → Reps mg B w e → Reps mg B (v ++ w) (d ++ e)
  | _, _, _, _, .nil, q => q
  | _, _, _, _, .cons r p, q => .cons r (Reps.append p q)
theorem Reps.take : ∀ {v : List V} {d : List DV} (n : Nat), Reps mg B v d → Reps mg B (v.take n) (d.take n)
  | _, _, 0, _ => by simpa using .nil
  | _, _, _ + 1, .nil => .nil
  | _, _, n + 1, .cons r p => .cons r (Reps.take n p)
theorem Reps.drop : ∀ {v : List V} {d : List DV} (n : Nat), Reps mg B v d → Reps mg B (v.drop n) (d.drop n)
  | _, _, 0, r => r
  | _, _, _ + 1, .nil => .nil
  | _, _, n + 1, .cons r p => Reps.drop n p
theorem Reps.set : ∀ {v : List V} {d : List DV} {x : V} {e : DV} (n : Nat), Reps mg B v d → Rep mg B x e → Reps mg B (v.set n x) (d.set n e)
  | _, _, _, _, _, .nil, _ => .nil
  | _, _, _, _, 0, .cons _ p, q => .cons q p
  | _, _, _, _, n + 1, .cons r p, q => .cons r (Reps.set n p q)
theorem Reps.eraseIdx : ∀ {v : List V} {d : List DV} (n : Nat), Reps mg B v d → Reps mg B (v.eraseIdx n) (d.eraseIdx n)
  | _, _, _, .nil => .nil
  | _, _, 0, .cons _ p => p
  | _, _, n + 1, .cons r p => .cons r (Reps.eraseIdx n p)
theorem Reps.snoc {v : List V} {d : List DV} {x : V} {e : DV} (r : Reps mg B v d) (q : Rep mg B x e) : Reps mg B (v ++ [x]) (d ++ [e]) := r.append (.cons q .nil)
theorem RepK.length : ∀ {v : List (Key × V)} {d : List (Key × DV)}, RepK mg B v d → v.length = d.length
  | _, _, .nil => rfl
  | _, _, .cons _ q => congrArg (· + 1) (RepK.length q)
end
/-- what an expression gives: data, or a new list | dict that nothing else holds (pin: handed in, stays where it is) -/
inductive RV where
  | v (d : DV)
  | ol (pin : Bool) (ds : List DV)
  | od (pin : Bool) (kvs : List (Key × DV))
  | oi (pin : Bool) (c : Str) (fs : List (Str × DV))
def RV.dv : RV → DV
  | .v d => d
  | .ol _ ds => .lst ds
  | .od _ kvs => .dct kvs
  | .oi _ c fs => .ins c fs
def RV.isOwn : RV → Bool
  | .v _ => false
  | _ => true
def RV.isPin : RV → Bool
  | .v _ => false
  | .ol p _ => p
  | .od p _ => p
  | .oi p _ _ => p
inductive RVR (mg : Mg) (B H : Hp) : V → RV → Prop
  | v {x : V} {d : DV} : Rep mg B x d → RVR mg B H x (.v d)
  | ol {a : Addr} {p : Bool} {xs : List V} {ds : List DV} : B a = none → H a = some (.lst xs) → Reps mg B xs ds → RVR mg B H (.ref a) (.ol p ds)
  | od {a : Addr} {p : Bool} {xs : List (Key × V)} {ds : List (Key × DV)} : B a = none → H a = some (.dK xs) → RepK mg B xs ds → RVR mg B H (.ref a) (.od p ds)
  | oi {a C dx : Addr} {p : Bool} {c : Str} {xs : List (Str × V)} {gs : List (Str × DV)} : mg c = some (.ref C) → B a = none → H a = some (.ins C dx xs) → RepF mg B xs gs → RVR mg B H (.ref a) (.oi p c gs)
abbrev Sg := L2.St
abbrev Sl := List (Option RV)
/-- the slot i holds the own object at a -/
def OwnAt (σ : Sg) (S : Sl) (i : Nat) (a : Addr) : Prop := (∃ r : RV, S[i]? = some (some r) ∧ r.isOwn = true) ∧ σ[i]? = some (some (.ref a))
def OwnA (σ : Sg) (S : Sl) (a : Addr) : Prop := ∃ i, OwnAt σ S i a
/-- a def of the law -/
def lawName (n : Str) : Bool := decide (n.cps.toList.take 4 = ("_law" : Str).cps.toList)
/-- the tables of code objects that the law's defs hold, and what a lambda is called there -/
def tblOf (o : Obj) : Option (Addr × Str) := match o.cls, o.data with
  | .type "code", .fields vs => (match (vs[1]? : Option Value), (vs[11]? : Option Value) with
    | some (.str n _), some (.ref P) => if lawName n then some (P, (n ++ (".<locals>." : Str)) ++ ("<lambda>" : Str)) else none
    | _, _ => none)
  | _, _ => none
def tblsOf (K : PySem.W.Frag) : List (Addr × Str) := K.filterMap fun p => tblOf p.2
/-- the table at P: each code object that it tells bears the name q, and is frozen -/
def TabS2 (B H : Hp) (P : Addr) (q : Str) : Prop := ∃ ps : Array Value, H P = some (.tbl ps) ∧ TriplesOk ps.toList ∧ ∀ (pos : Pos) (cv : Value), codeAmong pos ps.toList = some cv → ∃ c, cv = .ref c ∧ B c = some (LamX.CodeO c q)
def Tabs2 (T : List (Addr × Str)) (B H : Hp) : Prop := ∀ p ∈ T, TabS2 B H p.1 p.2
theorem TabS2.sub {B B' H : Hp} {P : Addr} {q : Str} (t : TabS2 B H P q) (s : Sub B B') : TabS2 B' H P q := by
  obtain ⟨ps, h1, h2, h3⟩ := t
  exact ⟨ps, h1, h2, fun pos cv hc => by
    obtain ⟨c, e1, e2⟩ := h3 pos cv hc
    exact ⟨c, e1, s.keep _ _ e2 rfl⟩⟩
theorem Tabs2.sub {T : List (Addr × Str)} {B B' H : Hp} (t : Tabs2 T B H) (s : Sub B B') : Tabs2 T B' H := fun p hp => (t p hp).sub s
theorem TabS2.nil {B H : Hp} {P : Addr} {q : Str} (h : H P = some (.tbl #[])) : TabS2 B H P q := by
  obtain ⟨ps, h1, h2, h3⟩ := LamX.TabS.nil (q := q) h
  rw [h] at h1; cases h1
  exact ⟨#[], h, h2, fun pos cv hc => by
    have z : codeAmong pos [] = some cv := hc
    simp [codeAmong] at z⟩
theorem TabS2.ext {B H H' : Hp} {P : Addr} {q : Str} (t : TabS2 B H P q) (e : ∀ b o, H b = some o → H' b = some o) : TabS2 B H' P q := by
  obtain ⟨ps, h1, h2, h3⟩ := t
  exact ⟨ps, e _ _ h1, h2, h3⟩
theorem Tabs2.tabs {T : List (Addr × Str)} {B H : Hp} (t : Tabs2 T B H) (le : Sub B H) : LamX.Tabs T H := fun p hp => by
  obtain ⟨ps, h1, h2, h3⟩ := t p hp
  exact ⟨ps, h1, h2, fun pos cv hc => by
    obtain ⟨c, e1, e2⟩ := h3 pos cv hc
    exact ⟨c, e1, le.keep _ _ e2 rfl⟩⟩
structure StR (KK : PySem.W.Frag) (mg : Mg) (B H : Hp) (σ : Sg) (S : Sl) : Prop where
  le : Sub B H
  len : σ.length = S.length
  at_ : ∀ (i : Nat) (r : RV), S[i]? = some (some r) → ∃ v, σ[i]? = some (some v) ∧ RVR mg B H v r
  dis : ∀ (i j : Nat) (a : Addr), OwnAt σ S i a → OwnAt σ S j a → i = j
  tbs : Tabs2 (tblsOf KK) B H
/-- all but the tables of code objects, which grow -/
def nTbl : HO → Bool
  | .tbl _ => false
  | _ => true
theorem nTbl_tbl {o : HO} (h : nTbl o = true) (ps : Array Value) : o ≠ .tbl ps := fun e => by subst e; cases h
theorem tab_upd {B H : Hp} {P a : Addr} {q : Str} {o : HO} (t : TabS2 B H P q) (h : ∀ u, H a = some u → nTbl u = true ∧ ∀ c q, u ≠ LamX.CodeO c q) : TabS2 B (upd H a o) P q := by
  obtain ⟨ps, h1, h2, h3⟩ := t
  have hP : P ≠ a := fun z => by subst z; have := (h _ h1).1; cases this
  exact ⟨ps, by rw [upd_ne hP]; exact h1, h2, h3⟩
theorem tab_new {B H : Hp} {P a : Addr} {q : Str} {o : HO} (t : TabS2 B H P q) (h : H a = none) : TabS2 B (upd H a o) P q := tab_upd t fun u e => by rw [h] at e; cases e
/-- from one state to a later one: M may be changed -/
structure Grow (KK : PySem.W.Frag) (B H B' H' : Hp) (M : Addr → Prop) : Prop where
  sub : Sub B B'
  keep : ∀ a o, H a = some o → ¬ M a → nTbl o = true → H' a = some o
  tab : Tabs2 (tblsOf KK) B H → Tabs2 (tblsOf KK) B' H'
  there : ∀ a, H a ≠ none → H' a ≠ none
  new : ∀ a, B' a ≠ none → B a ≠ none ∨ H a = none ∨ M a
theorem tabs_grow {T : List (Addr × Str)} {B H B' H' : Hp} (t : Tabs2 T B H) (h : ∀ P q, TabS2 B H P q → TabS2 B' H' P q) : Tabs2 T B' H' := fun p hp => h p.1 p.2 (t p hp)
def PinAt (S : Sl) (i : Nat) : Prop := ∃ r : RV, S[i]? = some (some r) ∧ r.isPin = true
structure Stp (KK : PySem.W.Frag) (mg : Mg) (B H : Hp) (σ : Sg) (S : Sl) (B' H' : Hp) (σ' : Sg) (S' : Sl) : Prop where
  grow : Grow KK B H B' H' (OwnA σ S)
  st : StR KK mg B' H' σ' S'
  own : ∀ a, OwnA σ' S' a → OwnA σ S a ∨ H a = none
  pin : ∀ i, PinAt S i → PinAt S' i ∧ σ'[i]? = σ[i]?
  len : S'.length = S.length
theorem Grow.refl {KK : PySem.W.Frag} {B H : Hp} {M : Addr → Prop} : Grow KK B H B H M := ⟨.refl _, fun _ _ h _ _ => h, fun t => t, fun _ h => h, fun _ h => .inl h⟩
theorem Grow.trans {KK : PySem.W.Frag} {B H B1 H1 B2 H2 : Hp} {M M1 : Addr → Prop} (a : Grow KK B H B1 H1 M) (b : Grow KK B1 H1 B2 H2 M1) (hm : ∀ a, M1 a → M a ∨ H a = none) : Grow KK B H B2 H2 M where
  sub := a.sub.trans b.sub
  keep := fun c o h n t => b.keep c o (a.keep c o h n t) (fun z => (hm c z).elim n fun z => by rw [z] at h; cases h) t
  tab := fun t => b.tab (a.tab t)
  there := fun c h => b.there c (a.there c h)
  new := fun c h => by
    rcases b.new c h with z | z | z
    · exact a.new c z
    · by_cases q : H c = none
      · exact .inr (.inl q)
      · exact absurd z (a.there c q)
    · rcases hm c z with z | z
      · exact .inr (.inr z)
      · exact .inr (.inl z)
theorem Grow.imp {KK : PySem.W.Frag} {B H B' H' : Hp} {M M' : Addr → Prop} (g : Grow KK B H B' H' M) (h : ∀ a, M a → M' a) : Grow KK B H B' H' M' :=
  ⟨g.sub, fun a o e n t => g.keep a o e (fun z => n (h a z)) t, g.tab, g.there, fun a e => (g.new a e).imp id (Or.imp id (h a))⟩
section
variable {KK : PySem.W.Frag} {mg : Mg} {B H B1 H1 B2 H2 : Hp} {σ σ1 σ2 : Sg} {S S1 S2 : Sl}
theorem Stp.refl (x : StR KK mg B H σ S) : Stp KK mg B H σ S B H σ S := ⟨.refl, x, fun _ h => .inl h, fun _ h => ⟨h, rfl⟩, rfl⟩
theorem Stp.trans (a : Stp KK mg B H σ S B1 H1 σ1 S1) (b : Stp KK mg B1 H1 σ1 S1 B2 H2 σ2 S2) : Stp KK mg B H σ S B2 H2 σ2 S2 where
  grow := a.grow.trans b.grow a.own
  st := b.st
  own := fun c h => by
    rcases b.own c h with z | z
    · exact a.own c z
    · by_cases q : H c = none
      · exact .inr q
      · exact absurd z (a.grow.there c q)
  pin := fun i h => by
    obtain ⟨h1, e1⟩ := a.pin i h
    obtain ⟨h2, e2⟩ := b.pin i h1
    exact ⟨h2, e2.trans e1⟩
  len := b.len.trans a.len
end
/-- an operand: a value, or the slot it stands in -/
inductive Opd where
  | v (r : RV)
  | sl (i : Nat)
inductive OpdR (mg : Mg) (B H : Hp) (σ : Sg) (S : Sl) : V → Opd → Prop
  | v {x : V} {r : RV} : RVR mg B H x r → (∀ a, r.isOwn = true → x = .ref a → ¬ OwnA σ S a) → OpdR mg B H σ S x (.v r)
  | sl {x : V} {i : Nat} : σ[i]? = some (some x) → (∃ r : RV, S[i]? = some (some r)) → OpdR mg B H σ S x (.sl i)
def Opd.dv (S : Sl) : Opd → Option DV
  | .v r => some r.dv
  | .sl i => match S[i]? with
    | some (some r) => some r.dv
    | _ => none
section
variable {KK : PySem.W.Frag} {mg : Mg} {B H B' H' : Hp} {σ σ' : Sg} {S S' : Sl} {x : V}
/-- a value that stands in no slot lives on -/
theorem RVR.step {r : RV} (q : RVR mg B H x r) (n : ∀ a, r.isOwn = true → x = .ref a → ¬ OwnA σ S a) (s : Stp KK mg B H σ S B' H' σ' S') : RVR mg B' H' x r ∧ ∀ a, r.isOwn = true → x = .ref a → ¬ OwnA σ' S' a := by
  have key : ∀ a o, x = .ref a → r.isOwn = true → B a = none → H a = some o → nTbl o = true → B' a = none ∧ H' a = some o ∧ ¬ OwnA σ' S' a := fun a o e hr hb hh ht => by
    have nm := n a hr e
    refine ⟨?_, s.grow.keep a o hh nm ht, fun z => ?_⟩
    · cases q : B' a with
      | none => rfl
      | some u =>
        rcases s.grow.new a (by rw [q]; simp) with z | z | z
        · exact absurd hb z
        · rw [z] at hh; cases hh
        · exact absurd z nm
    · rcases s.own a z with z | z
      · exact nm z
      · rw [z] at hh; cases hh
  cases q with
  | v q => exact ⟨.v (q.mono s.grow.sub), fun a h => by cases h⟩
  | @ol a p xs ds hb hh q =>
    obtain ⟨k1, k2, k3⟩ := key a _ rfl rfl hb hh rfl
    exact ⟨.ol k1 k2 (q.mono s.grow.sub), fun b _ e => by cases e; exact k3⟩
  | @od a p xs ds hb hh q =>
    obtain ⟨k1, k2, k3⟩ := key a _ rfl rfl hb hh rfl
    exact ⟨.od k1 k2 (q.mono s.grow.sub), fun b _ e => by cases e; exact k3⟩
  | @oi a C dx p c xs ds hc hb hh q =>
    obtain ⟨k1, k2, k3⟩ := key a _ rfl rfl hb hh rfl
    exact ⟨.oi hc k1 k2 (q.mono s.grow.sub), fun b _ e => by cases e; exact k3⟩
end
end Lb
/-! The judgements: a piece of syntax and the plain function that it is. -/
namespace Lb
open PySem PySem.Spec PyProof.Rows L2
inductive Out (α : Type) where
  | stuck
  | ok (a : α) (S : Sl)
  | exc (c : Str) (fs : List (Str × DV)) (S : Sl)
abbrev M (α : Type) := Sl → Out α
def M.pure {α : Type} (a : α) : M α := fun S => .ok a S
def M.bind {α β : Type} (m : M α) (f : α → M β) : M β := fun S => match m S with
  | .stuck => .stuck
  | .ok a S' => f a S'
  | .exc c fs S' => .exc c fs S'
def M.stuck {α : Type} : M α := fun _ => .stuck
instance : Monad M where
  pure := M.pure
  bind := M.bind
def M.of {α : Type} : Option α → M α
  | some a => M.pure a
  | none => M.stuck
def deref (o : Opd) : M DV := fun S => match o.dv S with
  | some d => .ok d S
  | none => .stuck
/-- held by others from now on -/
def frz (o : Opd) : M DV := fun S => match o with
  | .v r => .ok r.dv S
  | .sl i => match S[i]? with
    | some (some (.v d)) => .ok d S
    | some (some r) => if r.isPin then .stuck else .ok r.dv (S.set i (some (.v r.dv)))
    | _ => .stuck
def Has (S S' : Sl) : Prop := ∀ (i : Nat), (∃ r : RV, S[i]? = some (some r)) → ∃ r : RV, S'[i]? = some (some r)
theorem Has.refl (S : Sl) : Has S S := fun _ h => h
theorem Has.trans {S S1 S2 : Sl} (a : Has S S1) (b : Has S1 S2) : Has S S2 := fun i h => b i (a i h)
/-- an own result is younger than H -/
def Young (H : Hp) (v : V) : Opd → Prop
  | .v r => ∀ a, r.isOwn = true → v = .ref a → H a = none
  | .sl _ => True
/-- what is wanted of an exception -/
def xPost (KK : PySem.W.Frag) (mg : Mg) (W : WX) (B H : Hp) (σ : Sg) (S : Sl) (c : Str) (fs : List (Str × DV)) (S' : Sl) : Prop :=
  ∀ C B' H' σ' d, mg c = some (.ref C) → Stp KK mg B H σ S B' H' σ' S' →
    (match d with | none => fs = [] | some dx => ∃ xs, H' dx = some (.xd xs) ∧ RepF mg B' xs fs) → W (.ref C) d σ' H'
/-- what holds of an outcome -/
def Out.spec {α : Type} (o : Out α) (K : α → Sl → Prop) (E : Str → List (Str × DV) → Sl → Prop) : Prop := match o with
  | .stuck => False
  | .ok a S' => K a S'
  | .exc c fs S' => E c fs S'
theorem spec_bind {α β : Type} {m : M α} {f : α → M β} {S : Sl} {K : β → Sl → Prop} {E : Str → List (Str × DV) → Sl → Prop} : (M.bind m f S).spec K E ↔ (m S).spec (fun a S1 => (f a S1).spec K E) E := by
  unfold M.bind
  cases m S <;> exact Iff.rfl
theorem Out.spec.imp {α : Type} {o : Out α} {K K' : α → Sl → Prop} {E E' : Str → List (Str × DV) → Sl → Prop} (h : o.spec K E) (k : ∀ a S', o = .ok a S' → K a S' → K' a S') (e : ∀ c fs S', E c fs S' → E' c fs S') : o.spec K' E' := by
  cases o with
  | stuck => exact h
  | ok a S' => exact k a S' rfl h
  | exc c fs S' => exact e c fs S' h
def tM (KK : PySem.W.Frag) (mg : Mg) (m : M Opd) (W : WX) : TE := fun σ H Q => ∃ B S, StR KK mg B H σ S ∧ (m S).spec
  (fun o S' => ∀ v B' H', Stp KK mg B H σ S B' H' σ S' → Has S S' → OpdR mg B' H' σ S' v o → Young H v o → Q v H') (xPost KK mg W B H σ S)
def tF (KK : PySem.W.Frag) (mg : Mg) (m : M DV) (W : WX) : TE := fun σ H Q => ∃ B S, StR KK mg B H σ S ∧ (m S).spec
  (fun d S' => ∀ v B' H', Stp KK mg B H σ S B' H' σ S' → Has S S' → Rep mg B' v d → Q v H') (xPost KK mg W B H σ S)
def tB (KK : PySem.W.Frag) (mg : Mg) (m : M Bool) (W : WX) : TT := fun σ H Q => ∃ B S, StR KK mg B H σ S ∧ (m S).spec
  (fun b S' => ∀ B' H', Stp KK mg B H σ S B' H' σ S' → Has S S' → Q b H') (xPost KK mg W B H σ S)
def tFs (KK : PySem.W.Frag) (mg : Mg) (m : M (List DV)) (W : WX) : TA := fun σ H Q => ∃ B S, StR KK mg B H σ S ∧ (m S).spec
  (fun ds S' => ∀ vs B' H', Stp KK mg B H σ S B' H' σ S' → Has S S' → Reps mg B' vs ds → Q vs H') (xPost KK mg W B H σ S)
/-- operands, each as it stands -/
inductive OpdsR (mg : Mg) (B H : Hp) (σ : Sg) (S : Sl) : List V → List Opd → Prop
  | nil : OpdsR mg B H σ S [] []
  | cons {v : V} {o : Opd} {vs : List V} {os : List Opd} : OpdR mg B H σ S v o → OpdsR mg B H σ S vs os → OpdsR mg B H σ S (v :: vs) (o :: os)
def tOs (KK : PySem.W.Frag) (mg : Mg) (m : M (List Opd)) (W : WX) : TA := fun σ H Q => ∃ B S, StR KK mg B H σ S ∧ (m S).spec
  (fun os S' => ∀ vs B' H', Stp KK mg B H σ S B' H' σ S' → Has S S' → OpdsR mg B' H' σ S' vs os → Q vs H') (xPost KK mg W B H σ S)
def PX (X : Cx) (e : Expr) (m : M Opd) : Prop := ∀ W, Takes X W → PE X e (tM X.K X.mg m W)
def FX (X : Cx) (e : Expr) (m : M DV) : Prop := ∀ W, Takes X W → PE X e (tF X.K X.mg m W)
def BX (X : Cx) (e : Expr) (m : M Bool) : Prop := ∀ W, Takes X W → PT X e (tB X.K X.mg m W)
def FXs (X : Cx) (es : List Expr) (m : M (List DV)) : Prop := ∀ W, Takes X W → PA X es (tFs X.K X.mg m W)
def OXs (X : Cx) (es : List Expr) (m : M (List Opd)) : Prop := ∀ W, Takes X W → PA X es (tOs X.K X.mg m W)
theorem PE.imp {X : Cx} {e : Expr} {t t' : TE} (h : PE X e t) (i : ∀ σ H Q, t' σ H Q → t σ H Q) : PE X e t' := ⟨fun p s σ H Q I q => h.run p s σ H Q I (i σ H Q q)⟩
theorem PT.imp {X : Cx} {e : Expr} {t t' : TT} (h : PT X e t) (i : ∀ σ H Q, t' σ H Q → t σ H Q) : PT X e t' := ⟨fun p s σ H Q I q => h.run p s σ H Q I (i σ H Q q)⟩
theorem PA.imp {X : Cx} {e : List Expr} {t t' : TA} (h : PA X e t) (i : ∀ σ H Q, t' σ H Q → t σ H Q) : PA X e t' := ⟨fun p q s σ H Q I r => h.run p q s σ H Q I (i σ H Q r)⟩
theorem PS.imp {X : Cx} {e : Stmt} {t t' : TS} (h : PS X e t) (i : ∀ D σ H, t' D σ H → t D σ H) : PS X e t' := ⟨fun p s σ H D I q => h.run p s σ H D I (i D σ H q)⟩
theorem PSs.imp {X : Cx} {e : List Stmt} {t t' : TS} (h : PSs X e t) (i : ∀ D σ H, t' D σ H → t D σ H) : PSs X e t' := ⟨fun p s σ H D I q => h.run p s σ H D I (i D σ H q)⟩
theorem xPost.pre {KK : PySem.W.Frag} {mg : Mg} {W : WX} {B H B1 H1 : Hp} {σ σ1 : Sg} {S S1 S' : Sl} {c : Str} {fs : List (Str × DV)} (s : Stp KK mg B H σ S B1 H1 σ1 S1) (x : xPost KK mg W B H σ S c fs S') : xPost KK mg W B1 H1 σ1 S1 c fs S' :=
  fun C B' H' σ' d hC s' h => x C B' H' σ' d hC (s.trans s') h
/-! ### operands live on -/
section
variable {KK : PySem.W.Frag} {mg : Mg} {B H B' H' : Hp} {σ : Sg} {S S' : Sl}
theorem OpdR.step {v : V} {o : Opd} (q : OpdR mg B H σ S v o) (s : Stp KK mg B H σ S B' H' σ S') (h : Has S S') : OpdR mg B' H' σ S' v o := by
  cases q with
  | v q n =>
    obtain ⟨q', n'⟩ := q.step n s
    exact .v q' n'
  | sl e r => exact .sl e (h _ r)
theorem OpdsR.step : ∀ {vs : List V} {os : List Opd}, OpdsR mg B H σ S vs os → Stp KK mg B H σ S B' H' σ S' → Has S S' → OpdsR mg B' H' σ S' vs os
  | _, _, .nil, _, _ => .nil
  | _, _, .cons q r, s, h => .cons (q.step s h) (r.step s h)
/-- what an operand is, seen from outside: its spine in H, what it holds in B -/
inductive View (mg : Mg) (B H : Hp) : V → DV → Prop
  | r {v : V} {d : DV} : Rep mg B v d → View mg B H v d
  | lst {a : Addr} {xs : List V} {ds : List DV} : H a = some (.lst xs) → Reps mg B xs ds → View mg B H (.ref a) (.lst ds)
  | dct {a : Addr} {xs : List (Key × V)} {ds : List (Key × DV)} : H a = some (.dK xs) → RepK mg B xs ds → View mg B H (.ref a) (.dct ds)
  | ins {a C dx : Addr} {c : Str} {xs : List (Str × V)} {ds : List (Str × DV)} : mg c = some (.ref C) → H a = some (.ins C dx xs) → RepF mg B xs ds → View mg B H (.ref a) (.ins c ds)
theorem RVR.view {v : V} {r : RV} (q : RVR mg B H v r) : View mg B H v r.dv := by
  cases q with
  | v q => exact .r q
  | ol _ h q => exact .lst h q
  | od _ h q => exact .dct h q
  | oi m _ h q => exact .ins m h q
theorem OpdR.view (x : StR KK mg B H σ S) {v : V} {o : Opd} {d : DV} (q : OpdR mg B H σ S v o) (e : o.dv S = some d) : View mg B H v d := by
  cases q with
  | v q _ =>
    cases e
    exact q.view
  | sl e1 r =>
    obtain ⟨r, hr⟩ := r
    obtain ⟨v', e2, q⟩ := x.at_ _ r hr
    rw [e1] at e2
    cases e2
    have : d = r.dv := by
      simp only [Opd.dv, hr] at e
      exact (Option.some.inj e).symm
    subst this
    exact q.view
/-- it may be read as a list -/
theorem View.list (le : Sub B H) {v : V} {ds : List DV} (q : View mg B H v (.lst ds)) : ∃ a xs, v = .ref a ∧ H a = some (.lst xs) ∧ Reps mg B xs ds := by
  cases q with
  | r q =>
    cases q with
    | lst h q => exact ⟨_, _, rfl, le.keep _ _ h rfl, q⟩
  | lst h q => exact ⟨_, _, rfl, h, q⟩
theorem View.tuple (le : Sub B H) {v : V} {ds : List DV} (q : View mg B H v (.tup ds)) : ∃ a xs, v = .ref a ∧ H a = some (.tup xs) ∧ Reps mg B xs ds := by
  cases q with
  | r q =>
    cases q with
    | tup h q => exact ⟨_, _, rfl, le.keep _ _ h rfl, q⟩
theorem View.dict (le : Sub B H) {v : V} {ds : List (Key × DV)} (q : View mg B H v (.dct ds)) : ∃ a xs, v = .ref a ∧ Rd H a (.dK xs) ∧ RepK mg B xs ds := by
  cases q with
  | r q =>
    cases q with
    | dct h q => exact ⟨_, _, rfl, le.rd _ _ h, q⟩
  | dct h q => exact ⟨_, _, rfl, .inl h, q⟩
theorem View.int {v : V} {i : Int} (q : View mg B H v (.int i)) : v = .int i := by cases q with | r q => cases q; rfl
theorem View.bl {v : V} {b : Bool} (q : View mg B H v (.bl b)) : v = .bl b := by cases q with | r q => cases q; rfl
theorem View.str {v : V} {x : Str} (q : View mg B H v (.str x)) : v = .str x := by cases q with | r q => cases q; rfl
theorem View.non {v : V} (q : View mg B H v .non) : v = .non := by cases q with | r q => cases q; rfl
end
/-! ### what is new -/
section
variable {KK : PySem.W.Frag} {mg : Mg} {B H : Hp} {σ : Sg} {S : Sl} {a : Addr}
/-- a new object that is held by none -/
theorem StR.alloc (x : StR KK mg B H σ S) (hn : H a = none) (o : HO) : Stp KK mg B H σ S B (upd H a o) σ S := by
  have same : Same H (upd H a o) := same_upd hn
  have nB : ∀ b, B b ≠ none → b ≠ a ∨ True := fun _ _ => .inr trivial
  refine ⟨⟨.refl _, fun b u e _ _ => same b u e, fun t => tabs_grow t fun P q t => tab_new t hn, fun b e => ?_, fun b e => .inl e⟩, ⟨x.le.trans (.of same), x.len, fun i r e => ?_, x.dis, tabs_grow x.tbs fun P q t => tab_new t hn⟩, fun b h => .inl h, fun i h => ⟨h, rfl⟩, rfl⟩
  · cases q : H b with
    | none => exact absurd q e
    | some u => rw [same b u q]; simp
  · obtain ⟨v, e1, q⟩ := x.at_ i r e
    refine ⟨v, e1, ?_⟩
    cases q with
    | v q => exact .v q
    | ol h1 h2 q => exact .ol h1 (same _ _ h2) q
    | od h1 h2 q => exact .od h1 (same _ _ h2) q
    | oi m h1 h2 q => exact .oi m h1 (same _ _ h2) q
theorem StR.notOwn (x : StR KK mg B H σ S) (hn : H a = none) : ¬ OwnA σ S a := fun ⟨i, ⟨r, e, hr⟩, e2⟩ => by
  obtain ⟨v, e1, q⟩ := x.at_ i r e
  rw [e2] at e1
  cases e1
  cases q with
  | v q => cases hr
  | ol _ h _ => rw [hn] at h; cases h
  | od _ h _ => rw [hn] at h; cases h
  | oi _ _ h _ => rw [hn] at h; cases h
/-- nothing of B stands at an own place -/
theorem StR.noB (x : StR KK mg B H σ S) (o : OwnA σ S a) : B a = none := by
  obtain ⟨i, ⟨r, e, hr⟩, e2⟩ := o
  obtain ⟨v, e1, q⟩ := x.at_ i r e
  rw [e2] at e1
  cases e1
  cases q with
  | v q => cases hr
  | ol h _ _ => exact h
  | od h _ _ => exact h
  | oi _ h _ _ => exact h
end
end Lb
/-! Held by others from now on; arguments; the simplest expressions. -/
namespace Lb
open PySem PySem.Spec PyProof.Rows L2
section
variable {KK : PySem.W.Frag} {mg : Mg} {B H B0 H0 : Hp} {σ : Sg} {S S0 S' : Sl} {a : Addr} {o : HO}
theorem sub_upd_le (le : Sub B H) (hh : H a = some o) : Sub (upd B a o) H := ⟨fun b u e s => by
    by_cases hb : b = a
    · subst hb; rw [upd_same] at e; cases e; exact hh
    · rw [upd_ne hb] at e; exact le.keep b u e s,
  fun b u r => by
    by_cases hb : b = a
    · subst hb
      rcases r with r | ⟨ob, r⟩
      · rw [upd_same] at r; cases r; exact .inl hh
      · rw [upd_same] at r; cases r; exact .inr ⟨ob, hh⟩
    · exact le.rd b u (by unfold Rd at r ⊢; rw [upd_ne hb] at r; exact r), fun b ps e => by
    by_cases hb : b = a
    · subst hb; rw [upd_same] at e; cases e; exact ⟨ps, hh⟩
    · rw [upd_ne hb] at e; exact le.tb b ps e⟩
theorem StR.frz (x : StR KK mg B H σ S) (hb : B a = none) (hh : H a = some o) (hl : S'.length = S.length)
    (hS : ∀ (i : Nat) (r : RV), S'[i]? = some (some r) → (S[i]? = some (some r) ∧ ¬ OwnAt σ S i a) ∨ ∃ d v, r = .v d ∧ σ[i]? = some (some v) ∧ Rep mg (upd B a o) v d) :
    StR KK mg (upd B a o) H σ S' ∧ ∀ b, OwnA σ S' b → OwnA σ S b ∧ b ≠ a := by
  have own : ∀ i b, OwnAt σ S' i b → OwnAt σ S i b ∧ b ≠ a := fun i b ⟨⟨r, e, hr⟩, e2⟩ => by
    rcases hS i r e with ⟨h1, h2⟩ | ⟨d, v, h1, _⟩
    · exact ⟨⟨⟨r, h1, hr⟩, e2⟩, fun z => h2 (by subst z; exact ⟨⟨r, h1, hr⟩, e2⟩)⟩
    · subst h1; cases hr
  refine ⟨⟨sub_upd_le x.le hh, by rw [hl]; exact x.len, fun i r e => ?_, fun i j b h1 h2 => x.dis i j b (own i b h1).1 (own j b h2).1, x.tbs.sub (Sub.upd hb)⟩, fun b ⟨i, h⟩ => ⟨⟨i, (own i b h).1⟩, (own i b h).2⟩⟩
  rcases hS i r e with ⟨h1, h2⟩ | ⟨d, v, h1, h2, h3⟩
  · obtain ⟨v, e1, q⟩ := x.at_ i r h1
    refine ⟨v, e1, ?_⟩
    cases q with
    | v q => exact .v (q.mono (Sub.upd hb))
    | @ol c p xs ds g1 g2 q =>
      have nc : c ≠ a := fun z => h2 (by subst z; exact ⟨⟨_, h1, rfl⟩, e1⟩)
      exact .ol (by rw [upd_ne nc]; exact g1) g2 (q.mono (Sub.upd hb))
    | @od c p xs ds g1 g2 q =>
      have nc : c ≠ a := fun z => h2 (by subst z; exact ⟨⟨_, h1, rfl⟩, e1⟩)
      exact .od (by rw [upd_ne nc]; exact g1) g2 (q.mono (Sub.upd hb))
    | @oi c C dx p k xs ds g0 g1 g2 q =>
      have nc : c ≠ a := fun z => h2 (by subst z; exact ⟨⟨_, h1, rfl⟩, e1⟩)
      exact .oi g0 (by rw [upd_ne nc]; exact g1) g2 (q.mono (Sub.upd hb))
  · subst h1
    exact ⟨v, h2, .v h3⟩
/-- .. and what came before stands as it stood -/
theorem Stp.frz (s : Stp KK mg B0 H0 σ S0 B H σ S) (hb : B a = none) (hh : H a = some o) (hl : S'.length = S.length) (hy : H0 a = none ∨ OwnA σ S0 a)
    (hp : ∀ i, PinAt S i → PinAt S' i)
    (hS : ∀ (i : Nat) (r : RV), S'[i]? = some (some r) → (S[i]? = some (some r) ∧ ¬ OwnAt σ S i a) ∨ ∃ d v, r = .v d ∧ σ[i]? = some (some v) ∧ Rep mg (upd B a o) v d) :
    Stp KK mg B0 H0 σ S0 (upd B a o) H σ S' := by
  obtain ⟨x, ow⟩ := s.st.frz hb hh hl hS
  refine ⟨⟨s.grow.sub.trans (Sub.upd hb), s.grow.keep, fun t => (s.grow.tab t).sub (Sub.upd hb), s.grow.there, fun b e => ?_⟩, x, fun b e => s.own b (ow b e).1, fun i h => ?_, hl.trans s.len⟩
  · by_cases hba : b = a
    · subst hba; exact .inr hy
    · rw [upd_ne hba] at e; exact s.grow.new b e
  · obtain ⟨h1, h2⟩ := s.pin i h
    exact ⟨hp i h1, h2⟩
end
theorem set_some_cases {S : Sl} {i j : Nat} {x : Option RV} {r : RV} (h : (S.set i x)[j]? = some (some r)) : (j = i ∧ x = some r) ∨ (j ≠ i ∧ S[j]? = some (some r)) := by
  by_cases hj : i = j
  · subst hj
    by_cases hl : i < S.length
    · rw [List.getElem?_set_self hl] at h
      exact .inl ⟨rfl, Option.some.inj h⟩
    · rw [List.getElem?_eq_none (by simpa using hl)] at h; cases h
  · rw [List.getElem?_set_ne hj] at h
    exact .inr ⟨fun z => hj z.symm, h⟩
theorem set_other {S : Sl} {i j : Nat} {x : Option RV} (h : j ≠ i) : (S.set i x)[j]? = S[j]? := List.getElem?_set_ne (Ne.symm h)
section
variable {KK : PySem.W.Frag} {mg : Mg} {B H B1 H1 : Hp} {σ : Sg} {S S1 S2 : Sl} {v : V} {o : Opd} {d : DV}
/-- an operand is frozen -/
theorem frz_ok (s : Stp KK mg B H σ S B1 H1 σ S1) (hs : Has S S1) (q : OpdR mg B1 H1 σ S1 v o) (y : Young H v o) (e : frz o S1 = .ok d S2) :
    ∃ B2, Stp KK mg B H σ S B2 H1 σ S2 ∧ Has S S2 ∧ Rep mg B2 v d := by
  cases q with
  | v q n =>
    simp only [frz, Out.ok.injEq] at e
    obtain ⟨rfl, rfl⟩ := e
    cases q with
    | v q => exact ⟨B1, s, hs, q⟩
    | @ol a p xs ds hb hh q =>
      refine ⟨upd B1 a (.lst xs), s.frz hb hh rfl (.inl (y a rfl rfl)) (fun _ h => h) (fun i r e => .inl ⟨e, fun h => n a rfl rfl ⟨i, h⟩⟩), hs, .lst upd_same (q.mono (Sub.upd hb))⟩
    | @od a p xs ds hb hh q =>
      refine ⟨upd B1 a (.dK xs), s.frz hb hh rfl (.inl (y a rfl rfl)) (fun _ h => h) (fun i r e => .inl ⟨e, fun h => n a rfl rfl ⟨i, h⟩⟩), hs, .dct (.inl upd_same) (q.mono (Sub.upd hb))⟩
    | @oi a C dx p k xs ds hc hb hh q =>
      refine ⟨upd B1 a (.ins C dx xs), s.frz hb hh rfl (.inl (y a rfl rfl)) (fun _ h => h) (fun i r e => .inl ⟨e, fun h => n a rfl rfl ⟨i, h⟩⟩), hs, .ins hc upd_same (q.mono (Sub.upd hb))⟩
  | @sl i e1 hr =>
    obtain ⟨r, hr⟩ := hr
    obtain ⟨v', e2, q⟩ := s.st.at_ i r hr
    rw [e1] at e2
    cases e2
    have hilt : i < S1.length := (List.getElem?_eq_some_iff.mp hr).1
    have fin : ∀ (a : Addr) (ob : HO), v = .ref a → B1 a = none → H1 a = some ob → r.isOwn = true → r.isPin = false → S2 = S1.set i (some (.v r.dv)) → (Rep mg (upd B1 a ob) (.ref a) r.dv) →
        Stp KK mg B H σ S (upd B1 a ob) H1 σ S2 ∧ Has S S2 := fun a ob ev hb hh hro hrp e2 hrep => by
      subst ev
      have at_i : OwnAt σ S1 i a := ⟨⟨r, hr, hro⟩, e1⟩
      subst e2
      refine ⟨s.frz hb hh (by simp) ?_ (fun j hj => ?_) (fun j r' h => ?_), fun j hj => ?_⟩
      · exact (s.own a ⟨i, at_i⟩).symm
      · obtain ⟨r', h1, h2⟩ := hj
        have nj : j ≠ i := fun z => by subst z; rw [hr] at h1; cases h1; rw [hrp] at h2; cases h2
        exact ⟨r', by rw [set_other nj]; exact h1, h2⟩
      · rcases set_some_cases h with ⟨h1, h2⟩ | ⟨h1, h2⟩
        · subst h1
          exact .inr ⟨_, _, (Option.some.inj h2).symm, e1, hrep⟩
        · exact .inl ⟨h2, fun z => h1 (s.st.dis _ _ _ z at_i)⟩
      · obtain ⟨r', h1⟩ := hs j hj
        by_cases nj : j = i
        · subst nj
          exact ⟨_, List.getElem?_set_self hilt⟩
        · exact ⟨r', by rw [set_other nj]; exact h1⟩
    cases q with
    | v q =>
      simp only [Lb.frz, hr, Out.ok.injEq] at e
      obtain ⟨rfl, rfl⟩ := e
      exact ⟨B1, s, hs, q⟩
    | @ol a p xs ds hb hh q =>
      simp only [Lb.frz, hr, RV.isPin, RV.dv] at e
      cases p with
      | true => simp at e
      | false =>
        simp only [Bool.false_eq_true, if_false, Out.ok.injEq] at e
        obtain ⟨e1', e2'⟩ := e
        subst e1'
        have rep : Rep mg (upd B1 a (.lst xs)) (.ref a) (.lst ds) := .lst upd_same (q.mono (Sub.upd hb))
        obtain ⟨k1, k2⟩ := fin a _ rfl hb hh rfl rfl e2'.symm rep
        exact ⟨_, k1, k2, rep⟩
    | @od a p xs ds hb hh q =>
      simp only [Lb.frz, hr, RV.isPin, RV.dv] at e
      cases p with
      | true => simp at e
      | false =>
        simp only [Bool.false_eq_true, if_false, Out.ok.injEq] at e
        obtain ⟨e1', e2'⟩ := e
        subst e1'
        have rep : Rep mg (upd B1 a (.dK xs)) (.ref a) (.dct ds) := .dct (.inl upd_same) (q.mono (Sub.upd hb))
        obtain ⟨k1, k2⟩ := fin a _ rfl hb hh rfl rfl e2'.symm rep
        exact ⟨_, k1, k2, rep⟩
    | @oi a C dx p k xs ds hc hb hh q =>
      simp only [Lb.frz, hr, RV.isPin, RV.dv] at e
      cases p with
      | true => simp at e
      | false =>
        simp only [Bool.false_eq_true, if_false, Out.ok.injEq] at e
        obtain ⟨e1', e2'⟩ := e
        subst e1'
        have rep : Rep mg (upd B1 a (.ins C dx xs)) (.ref a) (.ins k ds) := .ins hc upd_same (q.mono (Sub.upd hb))
        obtain ⟨k1, k2⟩ := fin a _ rfl hb hh rfl rfl e2'.symm rep
        exact ⟨_, k1, k2, rep⟩
end
theorem frz_noexc {o : Opd} {S : Sl} {c : Str} {fs : List (Str × DV)} {S' : Sl} (e : frz o S = .exc c fs S') : False := by
  unfold frz at e; cases o <;> simp at e <;> (repeat' split at e) <;> simp at e
section
variable {X : Cx} {e : Expr} {m : M Opd}
theorem fx_of (h : PX X e m) : FX X e (M.bind m frz) := fun W tk => PE.imp (h W tk) fun σ H Q ⟨B, S, st, q⟩ => by
  refine ⟨B, S, st, (spec_bind.mp q).imp (fun o S1 _ q v B1 H1 s hs or y => ?_) fun _ _ _ h => h⟩
  cases ef : frz o S1 with
  | stuck => rw [ef] at q; exact q.elim
  | exc c fs S' => exact (frz_noexc ef).elim
  | ok d S2 =>
    rw [ef] at q
    obtain ⟨B2, s2, h2, r⟩ := frz_ok s hs or y ef
    exact q v B2 H1 s2 h2 r
/-- back: a frozen value is an operand -/
def M.map {α β : Type} (f : α → β) (m : M α) : M β := M.bind m fun a => M.pure (f a)
theorem px_of {m : M DV} (h : FX X e m) : PX X e (M.map (fun d => .v (.v d)) m) := fun W tk => PE.imp (h W tk) fun σ H Q ⟨B, S, st, q⟩ =>
  ⟨B, S, st, (spec_bind.mp q).imp (fun d S1 _ q v B1 H1 s hs r => q v B1 H1 s hs (.v (.v r) fun a h => by cases h) fun a h => by cases h) fun _ _ _ h => h⟩
/-- a name -/
def getSl (i : Nat) : M Opd := fun S => match S[i]? with
  | some (some _) => .ok (.sl i) S
  | _ => .stuck
theorem px_var (i : Nat) {x : Str} {pos : Pos} (hN : X.N[i]? = some x := by rfl) (hv : Vis X.env.scope x := by first | exact Or.inl rfl | exact Or.inr (Or.inl rfl) | exact Or.inr (Or.inr rfl)) (hd : (x == ("__debug__" : Str)) = false := by decide)
    (hcd : (x == ("__classdict__" : Str)) = false := by decide) : PX X (.Name x pos) (getSl i) := fun W tk => PE.imp (pe_var hN hv hd hcd) fun σ H Q ⟨B, S, st, q⟩ => by
  unfold getSl at q
  cases hr : S[i]? with
  | none => rw [hr] at q; exact q.elim
  | some z =>
    rw [hr] at q
    cases z with
    | none => exact q.elim
    | some r =>
      obtain ⟨v, e, _⟩ := st.at_ i r hr
      exact ⟨v, e, q v B H (.refl st) (.refl S) (.sl e ⟨r, hr⟩) trivial⟩
def kst (d : DV) : M Opd := M.pure (.v (.v d))
theorem kst_of {t : TE} {v : V} {d : DV} (h : PE X e t) (ht : ∀ σ H Q, Q v H → t σ H Q) (hr : ∀ B, Rep X.mg B v d) : PX X e (kst d) := fun W tk => PE.imp h fun σ H Q ⟨B, S, st, q⟩ =>
  ht σ H Q (q v B H (.refl st) (.refl S) (.v (.v (hr B)) fun a h => by cases h) fun a h => by cases h)
theorem px_int {i j pos} : PX X (.Constant (.int i) j pos) (kst (.int i)) := kst_of pe_int (fun _ _ _ h => h) fun _ => .int i
theorem px_str {x j pos} : PX X (.Constant (.str x) j pos) (kst (.str x)) := kst_of pe_str (fun _ _ _ h => h) fun _ => .str x
theorem px_bl {b j pos} : PX X (.Constant (.bool b) j pos) (kst (.bl b)) := kst_of pe_bl (fun _ _ _ h => h) fun _ => .bl b
theorem px_non {j pos} : PX X (.Constant .none j pos) (kst .non) := kst_of pe_non (fun _ _ _ h => h) fun _ => .non
end
/-! ### arguments -/
section
variable {X : Cx} {e : Expr} {es : List Expr}
theorem oxs_nil : OXs X [] (M.pure []) := fun W tk => PA.imp pa_nil fun σ H Q ⟨B, S, st, q⟩ => q [] B H (.refl st) (.refl S) .nil
theorem oxs_cons {m : M Opd} {ms : M (List Opd)} (h : PX X e m) (hs : OXs X es ms) (hst : starEach (e :: es) X.env = (false, eval e X.env) :: starEach es X.env := by rfl) :
    OXs X (e :: es) (M.bind m fun o => M.bind ms fun os => M.pure (o :: os)) := fun W tk => PA.imp (pa_cons (h W tk) (hs W tk) hst) fun σ H Q ⟨B, S, st, q⟩ =>
  ⟨B, S, st, (spec_bind.mp q).imp (fun o S1 _ q v B1 H1 s hs or y => ⟨B1, S1, s.st, (spec_bind.mp q).imp (fun os S2 _ q vs B2 H2 s2 hs2 ors =>
    q (v :: vs) B2 H2 (s.trans s2) (hs.trans hs2) (.cons (or.step s2 hs2) ors)) fun _ _ _ h => h.pre s⟩) fun _ _ _ h => h⟩
theorem fxs_nil : FXs X [] (M.pure []) := fun W tk => PA.imp pa_nil fun σ H Q ⟨B, S, st, q⟩ => q [] B H (.refl st) (.refl S) .nil
theorem fxs_cons {m : M DV} {ms : M (List DV)} (h : FX X e m) (hs : FXs X es ms) (hst : starEach (e :: es) X.env = (false, eval e X.env) :: starEach es X.env := by rfl) :
    FXs X (e :: es) (M.bind m fun o => M.bind ms fun os => M.pure (o :: os)) := fun W tk => PA.imp (pa_cons (h W tk) (hs W tk) hst) fun σ H Q ⟨B, S, st, q⟩ =>
  ⟨B, S, st, (spec_bind.mp q).imp (fun o S1 _ q v B1 H1 s hs or => ⟨B1, S1, s.st, (spec_bind.mp q).imp (fun os S2 _ q vs B2 H2 s2 hs2 ors =>
    q (v :: vs) B2 H2 (s.trans s2) (hs.trans hs2) (.cons (or.mono s2.grow.sub) ors)) fun _ _ _ h => h.pre s⟩) fun _ _ _ h => h⟩
end
end Lb
/-! Operations on what operands are: the result is data or new. -/
namespace Lb
open PySem PySem.Spec PyProof.Rows L2
/-- all that stood stands; what B has besides is new -/
structure New (B H B' H' : Hp) : Prop where
  same : ∀ a o, H a = some o → nTbl o = true → H' a = some o
  tab : ∀ P q, TabS2 B H P q → TabS2 B' H' P q
  there : ∀ a, H a ≠ none → H' a ≠ none
  sub : Sub B B'
  le : Sub B' H'
  new : ∀ a, B' a ≠ none → B a ≠ none ∨ H a = none
theorem New.refl {B H : Hp} (le : Sub B H) : New B H B H := ⟨fun _ _ h _ => h, fun _ _ t => t, fun _ h => h, .refl B, le, fun _ h => .inl h⟩
theorem New.trans {B H B1 H1 B2 H2 : Hp} (a : New B H B1 H1) (b : New B1 H1 B2 H2) : New B H B2 H2 :=
  ⟨fun c o h t => b.same c o (a.same c o h t) t, fun P q t => b.tab P q (a.tab P q t), fun c h => b.there c (a.there c h), a.sub.trans b.sub, b.le, fun c h => by
    rcases b.new c h with z | z
    · exact a.new c z
    · exact .inr (by cases q : H c with | none => rfl | some o => exact absurd z (a.there c (by rw [q]; simp)))⟩
/-- a new object for all -/
theorem New.alloc {B H : Hp} (le : Sub B H) {a : Addr} {o : HO} (hn : H a = none) : New B H (upd B a o) (upd H a o) :=
  have hb := le.none hn
  ⟨fun b o h _ => same_upd hn b o h, fun P q t => (tab_new t hn).sub (Sub.upd hb), fun b h => by
    cases q : H b with
    | none => exact absurd q h
    | some o => rw [same_upd hn b o q]; simp, Sub.upd hb, ⟨fun b u e s => by
    by_cases q : b = a
    · subst q; rw [upd_same] at e ⊢; exact e
    · rw [upd_ne q] at e ⊢; exact le.keep b u e s, fun b u r => by
    by_cases q : b = a
    · subst q; unfold Rd at r ⊢; rw [upd_same] at r ⊢; exact r
    · unfold Rd at r ⊢; rw [upd_ne q] at r ⊢; exact le.rd b u r, fun b ps e => by
    by_cases q : b = a
    · subst q; rw [upd_same] at e ⊢; exact ⟨ps, e⟩
    · rw [upd_ne q] at e ⊢; exact le.tb b ps e⟩, fun b h => by
    by_cases q : b = a
    · subst q; exact .inr hn
    · rw [upd_ne q] at h; exact .inl h⟩
/-- a new object that one holds -/
theorem New.own {B H : Hp} (le : Sub B H) {a : Addr} {o : HO} (hn : H a = none) : New B H B (upd H a o) :=
  ⟨fun b o h _ => same_upd hn b o h, fun P q t => tab_new t hn, fun b h => by
    cases q : H b with
    | none => exact absurd q h
    | some o => rw [same_upd hn b o q]; simp, .refl B, le.trans (.upd hn), fun b h => .inl h⟩
/-- the same, of the tables of K's law alone -/
structure NewK (KK : PySem.W.Frag) (B H B' H' : Hp) : Prop where
  same : ∀ a o, H a = some o → nTbl o = true → H' a = some o
  tab : Tabs2 (tblsOf KK) B H → Tabs2 (tblsOf KK) B' H'
  there : ∀ a, H a ≠ none → H' a ≠ none
  sub : Sub B B'
  le : Sub B' H'
  new : ∀ a, B' a ≠ none → B a ≠ none ∨ H a = none
theorem New.k {KK : PySem.W.Frag} {B H B' H' : Hp} (n : New B H B' H') : NewK KK B H B' H' := ⟨n.same, fun t => tabs_grow t n.tab, n.there, n.sub, n.le, n.new⟩
section
variable {KK : PySem.W.Frag} {mg : Mg} {B H B' H' : Hp} {σ : Sg} {S : Sl}
/-- B is empty where H is (as far as reading goes) -/
theorem StR.stepK (x : StR KK mg B H σ S) (n : NewK KK B H B' H') : Stp KK mg B H σ S B' H' σ S := by
  refine ⟨⟨n.sub, fun a o e _ t => n.same a o e t, n.tab, fun a e => ?_, fun a e => (n.new a e).imp id .inl⟩, ⟨n.le, x.len, fun i r e => ?_, x.dis, n.tab x.tbs⟩, fun a h => .inl h, fun i h => ⟨h, rfl⟩, rfl⟩
  · cases q : H a with
    | none => exact absurd q e
    | some o => exact n.there a e
  · obtain ⟨v, e1, q⟩ := x.at_ i r e
    have nb : ∀ a o, B a = none → H a = some o → B' a = none := fun a o h1 h2 => by
      cases q : B' a with
      | none => rfl
      | some u =>
        rcases n.new a (by rw [q]; simp) with z | z
        · exact absurd h1 z
        · rw [h2] at z; cases z
    refine ⟨v, e1, ?_⟩
    cases q with
    | v q => exact .v (q.mono n.sub)
    | ol h1 h2 q => exact .ol (nb _ _ h1 h2) (n.same _ _ h2 rfl) (q.mono n.sub)
    | od h1 h2 q => exact .od (nb _ _ h1 h2) (n.same _ _ h2 rfl) (q.mono n.sub)
    | oi m h1 h2 q => exact .oi m (nb _ _ h1 h2) (n.same _ _ h2 rfl) (q.mono n.sub)
theorem StR.step (x : StR KK mg B H σ S) (n : New B H B' H') : Stp KK mg B H σ S B' H' σ S := x.stepK n.k
/-- a result: data, or own and new -/
structure Res (mg : Mg) (B H : Hp) (v : V) (r : RV) (B' H' : Hp) : Prop where
  new : New B H B' H'
  rv : RVR mg B' H' v r
  young : ∀ a, r.isOwn = true → v = .ref a → H a = none
theorem Res.v {v : V} {d : DV} (le : Sub B H) (h : Rep mg B v d) : Res mg B H v (.v d) B H := ⟨.refl le, .v h, fun a h => by cases h⟩
theorem opdK (x : StR KK mg B H σ S) {v : V} {r : RV} (n : NewK KK B H B' H') (q : RVR mg B' H' v r) (y : ∀ a, r.isOwn = true → v = .ref a → H a = none) : Stp KK mg B H σ S B' H' σ S ∧ OpdR mg B' H' σ S v (.v r) ∧ Young H v (.v r) :=
  ⟨x.stepK n, .v q fun a h1 h2 h3 => x.notOwn (y a h1 h2) h3, y⟩
theorem Res.opd (x : StR KK mg B H σ S) {v : V} {r : RV} (q : Res mg B H v r B' H') : Stp KK mg B H σ S B' H' σ S ∧ OpdR mg B' H' σ S v (.v r) ∧ Young H v (.v r) :=
  ⟨x.step q.new, .v q.rv fun a h1 h2 h3 => x.notOwn (q.young a h1 h2) h3, q.young⟩
end
/-- B holds nothing where H holds nothing: kept by all steps -/
inductive Views (mg : Mg) (B H : Hp) : List V → List DV → Prop
  | nil : Views mg B H [] []
  | cons {v : V} {d : DV} {vs : List V} {ds : List DV} : View mg B H v d → Views mg B H vs ds → Views mg B H (v :: vs) (d :: ds)
def Opd.dvs (S : Sl) : List Opd → Option (List DV)
  | [] => some []
  | o :: os => match o.dv S, Opd.dvs S os with
    | some d, some ds => some (d :: ds)
    | _, _ => none
theorem OpdsR.views {KK : PySem.W.Frag} {mg : Mg} {B H : Hp} {σ : Sg} {S : Sl} (x : StR KK mg B H σ S) : ∀ {vs : List V} {os : List Opd} {ds : List DV}, OpdsR mg B H σ S vs os → Opd.dvs S os = some ds → Views mg B H vs ds
  | _, _, _, .nil, e => by cases e; exact .nil
  | _, _, _, .cons (o := o) (os := os) q r, e => by
    unfold Opd.dvs at e
    split at e
    · rename_i d ds h1 h2
      cases e
      exact .cons (q.view x h1) (r.views x h2)
    · cases e
/-- a two-place operation of values is the function F of data -/
def Prim2 (mg : Mg) (r : R2) (F : DV → DV → Option RV) : Prop := ∀ (B H : Hp) (x y : V) (dx dy : DV) (rv : RV) (Q : VK), Sub B H → View mg B H x dx → View mg B H y dy → F dx dy = some rv →
  (∀ v B' H', Res mg B H v rv B' H' → Q v H') → r x y H Q
def PrimN (mg : Mg) (r : List V → Hp → VK → Prop) (F : List DV → Option RV) : Prop := ∀ (B H : Hp) (xs : List V) (ds : List DV) (rv : RV) (Q : VK), Sub B H → Views mg B H xs ds → F ds = some rv →
  (∀ v B' H', Res mg B H v rv B' H' → Q v H') → r xs H Q
def op2 (F : DV → DV → Option RV) (x y : Opd) : M Opd := fun S => match x.dv S, y.dv S with
  | some dx, some dy => match F dx dy with
    | some r => .ok (.v r) S
    | none => .stuck
  | _, _ => .stuck
def opN (F : List DV → Option RV) (xs : List Opd) : M Opd := fun S => match Opd.dvs S xs with
  | some ds => match F ds with
    | some r => .ok (.v r) S
    | none => .stuck
  | none => .stuck
end Lb
/-! Expressions. -/
namespace Lb
open PySem PySem.Spec PyProof.Rows L2
section
variable {KK : PySem.W.Frag} {mg : Mg} {B H B1 H1 : Hp} {σ σ1 : Sg} {S S1 : Sl}
theorem Stp.free (s : Stp KK mg B H σ S B1 H1 σ1 S1) {a : Addr} (h : H1 a = none) : H a = none := by
  cases q : H a with
  | none => rfl
  | some o => exact absurd h (s.grow.there a (by rw [q]; simp))
theorem Young.pre (s : Stp KK mg B H σ S B1 H1 σ1 S1) {v : V} {o : Opd} (y : Young H1 v o) : Young H v o := by
  cases o with
  | v r => exact fun a h e => s.free (y a h e)
  | sl i => trivial
theorem op2_spec {F : DV → DV → Option RV} {x y : Opd} {S : Sl} {K : Opd → Sl → Prop} {E : Str → List (Str × DV) → Sl → Prop} (h : (op2 F x y S).spec K E) :
    ∃ dx dy r, x.dv S = some dx ∧ y.dv S = some dy ∧ F dx dy = some r ∧ K (.v r) S := by
  unfold op2 at h
  split at h
  · rename_i dx dy h1 h2
    split at h
    · rename_i r h3
      exact ⟨dx, dy, r, h1, h2, h3, h⟩
    · exact h.elim
  · exact h.elim
theorem opN_spec {F : List DV → Option RV} {xs : List Opd} {S : Sl} {K : Opd → Sl → Prop} {E : Str → List (Str × DV) → Sl → Prop} (h : (opN F xs S).spec K E) :
    ∃ ds r, Opd.dvs S xs = some ds ∧ F ds = some r ∧ K (.v r) S := by
  unfold opN at h
  split at h
  · rename_i ds h1
    split at h
    · rename_i r h3
      exact ⟨ds, r, h1, h3, h⟩
    · exact h.elim
  · exact h.elim
end
section
variable {X : Cx} {a b c e : Expr} {es : List Expr} {ma mb mc : M Opd} {pos p : Pos}
/-- the last step of a two-place operation -/
theorem op2_end {KK : PySem.W.Frag} {mg : Mg} {r : R2} {F : DV → DV → Option RV} (hp : Prim2 mg r F) {B H B1 H1 B2 H2 : Hp} {σ : Sg} {S S1 S2 : Sl} {v w : V} {x y : Opd} {Q : VK} {E : Str → List (Str × DV) → Sl → Prop}
    (s : Stp KK mg B H σ S B1 H1 σ S1) (hs : Has S S1) (or : OpdR mg B1 H1 σ S1 v x) (s2 : Stp KK mg B1 H1 σ S1 B2 H2 σ S2) (hs2 : Has S1 S2) (or2 : OpdR mg B2 H2 σ S2 w y)
    (q : (op2 F x y S2).spec (fun o S' => ∀ v B' H', Stp KK mg B H σ S B' H' σ S' → Has S S' → OpdR mg B' H' σ S' v o → Young H v o → Q v H') E) : r v w H2 Q := by
  obtain ⟨dx, dy, rv, hx, hy, hF, q⟩ := op2_spec q
  have or' := or.step s2 hs2
  refine hp B2 H2 v w dx dy rv Q s2.st.le (or'.view s2.st hx) (or2.view s2.st hy) hF fun v' B' H' res => ?_
  obtain ⟨s3, opd, yg⟩ := res.opd s2.st
  exact q v' B' H' ((s.trans s2).trans s3) (hs.trans hs2) opd ((yg.pre s2).pre s)
theorem px_op2 {op : Operator} {r : R2} {F : DV → DV → Option RV} (ho : OpR X (binaryOp op) r) (hp : Prim2 X.mg r F) (ha : PX X a ma) (hb : PX X b mb) :
    PX X (.BinOp a op b pos) (M.bind ma fun x => M.bind mb fun y => op2 F x y) := fun W tk => PE.imp (pe_op ho (ha W tk) (hb W tk)) fun σ H Q ⟨B, S, st, q⟩ =>
  ⟨B, S, st, (spec_bind.mp q).imp (fun x S1 _ q v B1 H1 s hs or _ => ⟨B1, S1, s.st, (spec_bind.mp q).imp (fun y S2 _ q w B2 H2 s2 hs2 or2 _ =>
    op2_end hp s hs or s2 hs2 or2 q) fun _ _ _ h => h.pre s⟩) fun _ _ _ h => h⟩
theorem px_cmp {op : CmpOp} {r : R2} {F : DV → DV → Option RV} (ho : OpR X (compareOp op) r) (hp : Prim2 X.mg r F) (ha : PX X a ma) (hb : PX X b mb) (hm : behindInMarks op b = false) :
    PX X (.Compare a [op] [b] pos) (M.bind ma fun x => M.bind mb fun y => op2 F x y) := fun W tk => PE.imp (pe_cmpR ho (ha W tk) (hb W tk) hm) fun σ H Q ⟨B, S, st, q⟩ =>
  ⟨B, S, st, (spec_bind.mp q).imp (fun x S1 _ q v B1 H1 s hs or _ => ⟨B1, S1, s.st, (spec_bind.mp q).imp (fun y S2 _ q w B2 H2 s2 hs2 or2 _ =>
    op2_end hp s hs or s2 hs2 or2 q) fun _ _ _ h => h.pre s⟩) fun _ _ _ h => h⟩
/-- a comparison whose answer is a truth -/
def cmpB (F : DV → DV → Option Bool) (x y : Opd) : M Bool := fun S => match x.dv S, y.dv S with
  | some dx, some dy => match F dx dy with
    | some r => .ok r S
    | none => .stuck
  | _, _ => .stuck
def rvB (F : DV → DV → Option Bool) : DV → DV → Option RV := fun x y => (F x y).map fun b => .v (.bl b)
theorem cmpB_op2 {F : DV → DV → Option Bool} {x y : Opd} {S : Sl} {K : Bool → Sl → Prop} {E : Str → List (Str × DV) → Sl → Prop} (h : (cmpB F x y S).spec K E) :
    (op2 (rvB F) x y S).spec (fun o S' => ∃ b, o = .v (.v (.bl b)) ∧ K b S') E := by
  unfold cmpB at h
  unfold op2 rvB
  split at h
  · rename_i dx dy h1 h2
    try rw [h1, h2]
    try dsimp only
    cases h3 : F dx dy with
    | none => rw [h3] at h; exact h.elim
    | some r =>
      rw [h3] at h
      exact ⟨r, rfl, h⟩
  · exact h.elim
theorem bx_cmp {op : CmpOp} {r : R2} {F : DV → DV → Option Bool} (ho : OpR X (compareOp op) r) (hp : Prim2 X.mg r (rvB F)) (ha : PX X a ma) (hb : PX X b mb) (hm : behindInMarks op b = false) :
    BX X (.Compare a [op] [b] pos) (M.bind ma fun x => M.bind mb fun y => cmpB F x y) := fun W tk => PT.imp (pt_cmpR ho (ha W tk) (hb W tk) hm) fun σ H Q ⟨B, S, st, q⟩ =>
  ⟨B, S, st, (spec_bind.mp q).imp (fun x S1 _ q v B1 H1 s hs or _ => ⟨B1, S1, s.st, (spec_bind.mp q).imp (fun y S2 _ q w B2 H2 s2 hs2 or2 _ =>
    op2_end (E := xPost X.K X.mg W B H σ S) hp s hs or s2 hs2 or2 ((cmpB_op2 q).imp (fun o S' _ ⟨b, eo, k⟩ v B' H' s' hs' or' _ => by
      subst eo
      cases or' with
      | v qv _ =>
        cases qv with
        | v qv =>
          cases qv
          exact ⟨b, rfl, k B' H' s' hs'⟩) fun _ _ _ h => h)) fun _ _ _ h => h.pre s⟩) fun _ _ _ h => h⟩
/-! ### calls of built-ins -/
theorem opN_end {KK : PySem.W.Frag} {mg : Mg} {r : List V → Hp → VK → Prop} {F : List DV → Option RV} (hp : PrimN mg r F) {B H B1 H1 : Hp} {σ : Sg} {S S1 : Sl} {vs : List V} {xs : List Opd} {Q : VK} {E : Str → List (Str × DV) → Sl → Prop}
    (s : Stp KK mg B H σ S B1 H1 σ S1) (hs : Has S S1) (or : OpdsR mg B1 H1 σ S1 vs xs)
    (q : (opN F xs S1).spec (fun o S' => ∀ v B' H', Stp KK mg B H σ S B' H' σ S' → Has S S' → OpdR mg B' H' σ S' v o → Young H v o → Q v H') E) : r vs H1 Q := by
  obtain ⟨ds, rv, hx, hF, q⟩ := opN_spec q
  refine hp B1 H1 vs ds rv Q s.st.le (or.views s.st hx) hF fun v' B' H' res => ?_
  obtain ⟨s3, opd, yg⟩ := res.opd s.st
  exact q v' B' H' (s.trans s3) hs opd (yg.pre s)
variable {x : Str} {id T : String} {r : List V → Hp → VK → Prop} {F : List DV → Option RV} {ms : M (List Opd)}
theorem px_callB (hc : CallR X (.builtin id) r) (hp : PrimN X.mg r F) (hg : Gl X x) (hm : X.mg x = none) (hv : bootBuiltins x = some (.builtin id)) (ha : OXs X (e :: es) ms) (hn : x ≠ "__name__" := by decide) (hdb : (x == ("__debug__" : Str)) = false := by decide)
    (he : starEach (e :: es) X.env = (false, eval e X.env) :: starEach es X.env := by rfl) (hpl : (backTo pos (starEach es X.env)).any (·.1) = false := by rfl) :
    PX X (.Call (.Name x p) (e :: es) [] pos) (M.bind ms (opN F)) := fun W tk => PE.imp (pe_callB hc hg hm hv (ha W tk) hn hdb he hpl) fun σ H Q ⟨B, S, st, q⟩ =>
  ⟨B, S, st, (spec_bind.mp q).imp (fun xs S1 _ q vs B1 H1 s hs or => opN_end hp s hs or q) fun _ _ _ h => h⟩
theorem px_callTy (hc : CallR X (.type T) r) (hp : PrimN X.mg r F) (hg : Gl X x) (hm : X.mg x = none) (hv : bootBuiltins x = some (.type T)) (ha : OXs X (e :: es) ms) (hn : x ≠ "__name__" := by decide) (hdb : (x == ("__debug__" : Str)) = false := by decide)
    (he : starEach (e :: es) X.env = (false, eval e X.env) :: starEach es X.env := by rfl) (hpl : (backTo pos (starEach es X.env)).any (·.1) = false := by rfl) :
    PX X (.Call (.Name x p) (e :: es) [] pos) (M.bind ms (opN F)) := fun W tk => PE.imp (pe_callTy hc hg hm hv (ha W tk) hn hdb he hpl) fun σ H Q ⟨B, S, st, q⟩ =>
  ⟨B, S, st, (spec_bind.mp q).imp (fun xs S1 _ q vs B1 H1 s hs or => opN_end hp s hs or q) fun _ _ _ h => h⟩
/-! ### displays -/
def mkL (ds : List DV) : M Opd := fun S => if ds.length ≤ sizeLine then .ok (.v (.ol false ds)) S else .stuck
def mkT (ds : List DV) : M Opd := fun S => if ds.length ≤ sizeLine then .ok (.v (.v (.tup ds))) S else .stuck
variable {fs : M (List DV)}
theorem if_spec {α : Type} {c : Prop} [Decidable c] {a : Out α} {K : α → Sl → Prop} {E : Str → List (Str × DV) → Sl → Prop} (h : (if c then a else Out.stuck).spec K E) : c ∧ a.spec K E := by
  split at h
  · exact ⟨by assumption, h⟩
  · exact h.elim
theorem px_lst (ha : FXs X es fs) : PX X (.List es pos) (M.bind fs mkL) := fun W tk => PE.imp (pe_lst (ha W tk)) fun σ H Q ⟨B, S, st, q⟩ =>
  ⟨B, S, st, (spec_bind.mp q).imp (fun ds S1 _ q vs B1 H1 s hs r => by
    obtain ⟨hl, q⟩ := if_spec q
    refine ⟨by rw [r.length]; exact hl, fun a ha => ?_⟩
    have res : Res X.mg B1 H1 (.ref a) (.ol false ds) B1 (upd H1 a (.lst vs)) := ⟨.own s.st.le ha, .ol (s.st.le.none ha) upd_same r, fun b _ e => by cases e; exact ha⟩
    obtain ⟨s3, opd, yg⟩ := res.opd s.st
    exact q _ _ _ (s.trans s3) hs opd (yg.pre s)) fun _ _ _ h => h⟩
theorem px_tup {k : Nat} (ha : FXs X es fs) : PX X (.Tuple es k pos) (M.bind fs mkT) := fun W tk => PE.imp (pe_tup (ha W tk)) fun σ H Q ⟨B, S, st, q⟩ =>
  ⟨B, S, st, (spec_bind.mp q).imp (fun ds S1 _ q vs B1 H1 s hs r => by
    obtain ⟨hl, q⟩ := if_spec q
    refine ⟨by rw [r.length]; exact hl, fun a ha => ?_⟩
    have n : New B1 H1 (upd B1 a (.tup vs)) (upd H1 a (.tup vs)) := .alloc s.st.le ha
    have res : Res X.mg B1 H1 (.ref a) (.v (.tup ds)) (upd B1 a (.tup vs)) (upd H1 a (.tup vs)) := ⟨n, .v (.tup upd_same (r.mono n.sub)), fun b h => by cases h⟩
    obtain ⟨s3, opd, yg⟩ := res.opd s.st
    exact q _ _ _ (s.trans s3) hs opd (yg.pre s)) fun _ _ _ h => h⟩
/-! ### truth -/
def truDV : DV → Option Bool
  | .non => some false
  | .bl b => some b
  | .int i => some (i != 0)
  | .str x => if x.length ≤ sizeLine then some (x.length != 0) else none
  | .lst ds => some (!ds.isEmpty)
  | .tup ds => some (!ds.isEmpty)
  | .dct ds => some (!ds.isEmpty)
  | .ins _ _ => none
  | .scr _ => none
  | .exn _ _ => none
  | .tuf ds => some (!ds.isEmpty)
  | .hole => none
  | .loc _ => none
  | .clo _ _ _ _ _ => none
def tru (o : Opd) : M Bool := fun S => match o.dv S with
  | some d => match truDV d with
    | some b => .ok b S
    | none => .stuck
  | none => .stuck
theorem reps_isEmpty {mg : Mg} {B : Hp} {xs : List V} {ds : List DV} (r : Reps mg B xs ds) : xs.isEmpty = ds.isEmpty := by cases r <;> rfl
theorem repk_isEmpty {mg : Mg} {B : Hp} {xs : List (Key × V)} {ds : List (Key × DV)} (r : RepK mg B xs ds) : xs.isEmpty = ds.isEmpty := by cases r <;> rfl
end
end Lb
/-! Statements. -/
namespace Lb
open PySem PySem.Spec PyProof.Rows L2
inductive SOut where
  | stuck
  | nx (S : Sl)
  | rt (o : Opd) (S : Sl)
  | bk (S : Sl)
  | ct (S : Sl)
  | exc (c : Str) (fs : List (Str × DV)) (S : Sl)
abbrev SM := Sl → SOut
def SOut.spec (o : SOut) (N : Sl → Prop) (R : Opd → Sl → Prop) (Bk Ct : Sl → Prop) (E : Str → List (Str × DV) → Sl → Prop) : Prop := match o with
  | .stuck => False
  | .nx S => N S
  | .rt o S => R o S
  | .bk S => Bk S
  | .ct S => Ct S
  | .exc c fs S => E c fs S
theorem SOut.spec.imp {o : SOut} {N N' : Sl → Prop} {R R' : Opd → Sl → Prop} {Bk Bk' Ct Ct' : Sl → Prop} {E E' : Str → List (Str × DV) → Sl → Prop} (h : o.spec N R Bk Ct E)
    (a : ∀ S, N S → N' S) (b : ∀ o S, R o S → R' o S) (c : ∀ S, Bk S → Bk' S) (d : ∀ S, Ct S → Ct' S) (e : ∀ c fs S, E c fs S → E' c fs S) : o.spec N' R' Bk' Ct' E' := by
  cases o with
  | stuck => exact h
  | nx S => exact a S h
  | rt o S => exact b o S h
  | bk S => exact c S h
  | ct S => exact d S h
  | exc k fs S => exact e k fs S h
def SM.seq (m k : SM) : SM := fun S => match m S with
  | .nx S' => k S'
  | o => o
/-- an expression ahead of a statement -/
def M.thn {α : Type} (m : M α) (k : α → SM) : SM := fun S => match m S with
  | .stuck => .stuck
  | .ok a S' => k a S'
  | .exc c fs S' => .exc c fs S'
theorem spec_seq {m k : SM} {S : Sl} {N : Sl → Prop} {R : Opd → Sl → Prop} {Bk Ct : Sl → Prop} {E : Str → List (Str × DV) → Sl → Prop} : (SM.seq m k S).spec N R Bk Ct E ↔ (m S).spec (fun S1 => (k S1).spec N R Bk Ct E) R Bk Ct E := by
  unfold SM.seq
  cases m S <;> exact Iff.rfl
theorem spec_thn {α : Type} {m : M α} {k : α → SM} {S : Sl} {N : Sl → Prop} {R : Opd → Sl → Prop} {Bk Ct : Sl → Prop} {E : Str → List (Str × DV) → Sl → Prop} : (M.thn m k S).spec N R Bk Ct E ↔ (m S).spec (fun a S1 => (k a S1).spec N R Bk Ct E) E := by
  unfold M.thn
  cases m S <;> exact Iff.rfl
def tS (KK : PySem.W.Frag) (mg : Mg) (m : SM) (W : WX) : TS := fun D σ H => ∃ B S, StR KK mg B H σ S ∧ (m S).spec
  (fun S' => ∀ B' H' σ', Stp KK mg B H σ S B' H' σ' S' → D.nx σ' H')
  (fun o S' => ∀ v B' H' σ', Stp KK mg B H σ S B' H' σ' S' → OpdR mg B' H' σ' S' v o → Young H v o → D.rt v H')
  (fun S' => ∀ B' H' σ', Stp KK mg B H σ S B' H' σ' S' → D.bk σ' H')
  (fun S' => ∀ B' H' σ', Stp KK mg B H σ S B' H' σ' S' → D.ct σ' H')
  (xPost KK mg W B H σ S)
abbrev Ps (X : Cx) : Prop := PassesOwn (model X.prog X.w) X.A X.env X.xe
def SX (X : Cx) (st : Stmt) (m : SM) : Prop := ∀ W, Takes X W → Ps X → PS X st (tS X.K X.mg m W)
def SXs (X : Cx) (st : List Stmt) (m : SM) : Prop := ∀ W, Takes X W → Ps X → PSs X st (tS X.K X.mg m W)
def SM.nil : SM := fun S => .nx S
/-- what is wanted, told from a later state on -/
theorem tS_pre {KK : PySem.W.Frag} {mg : Mg} {W : WX} {D : Ends} {B H B1 H1 : Hp} {σ σ1 : Sg} {S S1 : Sl} {o : SOut} (s : Stp KK mg B H σ S B1 H1 σ1 S1)
    (h : o.spec (fun S' => ∀ B' H' σ', Stp KK mg B H σ S B' H' σ' S' → D.nx σ' H') (fun o S' => ∀ v B' H' σ', Stp KK mg B H σ S B' H' σ' S' → OpdR mg B' H' σ' S' v o → Young H v o → D.rt v H')
      (fun S' => ∀ B' H' σ', Stp KK mg B H σ S B' H' σ' S' → D.bk σ' H') (fun S' => ∀ B' H' σ', Stp KK mg B H σ S B' H' σ' S' → D.ct σ' H') (xPost KK mg W B H σ S)) :
    o.spec (fun S' => ∀ B' H' σ', Stp KK mg B1 H1 σ1 S1 B' H' σ' S' → D.nx σ' H') (fun o S' => ∀ v B' H' σ', Stp KK mg B1 H1 σ1 S1 B' H' σ' S' → OpdR mg B' H' σ' S' v o → Young H1 v o → D.rt v H')
      (fun S' => ∀ B' H' σ', Stp KK mg B1 H1 σ1 S1 B' H' σ' S' → D.bk σ' H') (fun S' => ∀ B' H' σ', Stp KK mg B1 H1 σ1 S1 B' H' σ' S' → D.ct σ' H') (xPost KK mg W B1 H1 σ1 S1) :=
  h.imp (fun S k B' H' σ' s' => k B' H' σ' (s.trans s')) (fun o S k v B' H' σ' s' r y => k v B' H' σ' (s.trans s') r (y.pre s)) (fun S k B' H' σ' s' => k B' H' σ' (s.trans s')) (fun S k B' H' σ' s' => k B' H' σ' (s.trans s')) fun c fs S k => k.pre s
section
variable {X : Cx} {st : Stmt} {rest body orelse : List Stmt} {m k : SM} {e : Expr} {me : M Opd} {pos : Pos}
theorem sxs_nil : SXs X [] SM.nil := fun W tk pp => PSs.imp pss_nil fun D σ H ⟨B, S, x, q⟩ => q B H σ (.refl x)
theorem sxs_cons (h1 : SX X st m) (h2 : SXs X rest k) : SXs X (st :: rest) (SM.seq m k) := fun W tk pp => PSs.imp (pss_cons (h1 W tk pp) (h2 W tk pp)) fun D σ H ⟨B, S, x, q⟩ =>
  ⟨B, S, x, (spec_seq.mp q).imp (fun S1 q B1 H1 σ1 s => ⟨B1, S1, s.st, tS_pre s q⟩) (fun _ _ h => h) (fun _ h => h) (fun _ h => h) fun _ _ _ h => h⟩
theorem sxs_one (h1 : SX X st m) : SXs X [st] m := fun W tk pp => pss_one (h1 W tk pp)
theorem sx_pass : SX X (.Pass pos) SM.nil := fun W tk pp => PS.imp ps_pass fun D σ H ⟨B, S, x, q⟩ => q B H σ (.refl x)
theorem sx_break : SX X (.Break pos) (fun S => .bk S) := fun W tk pp => PS.imp ps_break fun D σ H ⟨B, S, x, q⟩ => q B H σ (.refl x)
theorem sx_continue : SX X (.Continue pos) (fun S => .ct S) := fun W tk pp => PS.imp ps_continue fun D σ H ⟨B, S, x, q⟩ => q B H σ (.refl x)
theorem sx_expr (he : PX X e me) (hs : swapsWith e none pos.line X.env = pure false := by rfl) : SX X (.Expr e pos) (M.thn me fun _ => SM.nil) := fun W tk pp => PS.imp (ps_expr (he W tk) hs) fun D σ H ⟨B, S, x, q⟩ =>
  ⟨B, S, x, (spec_thn.mp q).imp (fun o S1 _ q v B1 H1 s hs r y => q B1 H1 σ s) fun _ _ _ h => h⟩
theorem sx_ret (he : PX X e me) : SX X (.Return (some e) pos) (M.thn me fun o S => .rt o S) := fun W tk pp => PS.imp (ps_ret (he W tk)) fun D σ H ⟨B, S, x, q⟩ =>
  ⟨B, S, x, (spec_thn.mp q).imp (fun o S1 _ q v B1 H1 s hs r y => q v B1 H1 σ s r y) fun _ _ _ h => h⟩
theorem sx_retN : SX X (.Return none pos) (fun S => .rt (.v (.v .non)) S) := fun W tk pp => PS.imp ps_retN fun D σ H ⟨B, S, x, q⟩ =>
  q .non B H σ (.refl x) (.v (.v .non) fun a h => by cases h) fun a h => by cases h
variable {t : Expr} {mt : M Bool} {ma mb : SM}
theorem sx_if (ht : BX X t mt) (ha : SXs X body ma) (hb : SXs X orelse mb) : SX X (.If t body orelse pos) (M.thn mt fun b => if b then ma else mb) := fun W tk pp => PS.imp (ps_if (ht W tk) (ha W tk pp) (hb W tk pp)) fun D σ H ⟨B, S, x, q⟩ =>
  ⟨B, S, x, (spec_thn.mp q).imp (fun b S1 _ q B1 H1 s hs => by
    cases b with
    | true => exact ⟨B1, S1, s.st, tS_pre s q⟩
    | false => exact ⟨B1, S1, s.st, tS_pre s q⟩) fun _ _ _ h => h⟩
end
/-! ### a slot is set -/
section
variable {KK : PySem.W.Frag} {mg : Mg} {B H B0 H0 B1 H1 : Hp} {σ σ0 : Sg} {S S0 S1 S2 : Sl} {v : V} {r : RV} {i : Nat}
theorem set_len {α : Type} {l : List α} {i : Nat} {x : α} : (l.set i x).length = l.length := List.length_set ..
theorem sig_set_cases {σ : Sg} {i j : Nat} {x : Option V} {y : V} (h : (σ.set i x)[j]? = some (some y)) : (j = i ∧ x = some y) ∨ (j ≠ i ∧ σ[j]? = some (some y)) := by
  by_cases hj : i = j
  · subst hj
    by_cases hl : i < σ.length
    · rw [List.getElem?_set_self hl] at h; exact .inl ⟨rfl, Option.some.inj h⟩
    · rw [List.getElem?_eq_none (by simpa using hl)] at h; cases h
  · rw [List.getElem?_set_ne hj] at h; exact .inr ⟨fun z => hj z.symm, h⟩
/-- a value goes into a slot that was not handed in -/
theorem Stp.set (s : Stp KK mg B0 H0 σ0 S0 B H σ S) (q : RVR mg B H v r) (n : ∀ a, r.isOwn = true → v = .ref a → ¬ OwnA σ S a) (y : ∀ a, r.isOwn = true → v = .ref a → H0 a = none) (hp : ¬ PinAt S i) (hr : r.isPin = false) :
    Stp KK mg B0 H0 σ0 S0 B H (σ.set i (some v)) (S.set i (some r)) := by
  have own : ∀ j a, OwnAt (σ.set i (some v)) (S.set i (some r)) j a → (j = i ∧ r.isOwn = true ∧ v = .ref a) ∨ (j ≠ i ∧ OwnAt σ S j a) := fun j a ⟨⟨r', e1, h1⟩, e2⟩ => by
    rcases set_some_cases e1 with ⟨g1, g2⟩ | ⟨g1, g2⟩
    · rcases sig_set_cases e2 with ⟨_, g4⟩ | ⟨g3, _⟩
      · cases g2; cases g4
        exact .inl ⟨g1, h1, rfl⟩
      · exact absurd g1 g3
    · rcases sig_set_cases e2 with ⟨g3, _⟩ | ⟨g3, g4⟩
      · exact absurd g3 g1
      · exact .inr ⟨g1, ⟨r', g2, h1⟩, g4⟩
  refine ⟨s.grow, ⟨s.st.le, by rw [set_len, set_len]; exact s.st.len, fun j r' e => ?_, fun j k a h1 h2 => ?_, s.st.tbs⟩, fun a ⟨j, h⟩ => ?_, fun j hj => ?_, set_len.trans s.len⟩
  · rcases set_some_cases e with ⟨g1, g2⟩ | ⟨g1, g2⟩
    · cases g2
      subst g1
      have hl : j < σ.length := by
        rw [s.st.len]
        have := (List.getElem?_eq_some_iff.mp e).1
        rw [set_len] at this
        exact this
      exact ⟨v, List.getElem?_set_self hl, q⟩
    · obtain ⟨w, e1, q'⟩ := s.st.at_ j r' g2
      exact ⟨w, by rw [List.getElem?_set_ne (Ne.symm g1)]; exact e1, q'⟩
  · rcases own j a h1 with ⟨a1, a2, a3⟩ | ⟨a1, a2⟩
    · rcases own k a h2 with ⟨b1, b2, b3⟩ | ⟨b1, b2⟩
      · rw [a1, b1]
      · exact absurd ⟨k, b2⟩ (n a ‹_› ‹_›)
    · rcases own k a h2 with ⟨b1, b2, b3⟩ | ⟨b1, b2⟩
      · exact absurd ⟨j, a2⟩ (n a ‹_› ‹_›)
      · exact s.st.dis j k a a2 b2
  · rcases own j a h with ⟨a1, a2, a3⟩ | ⟨a1, a2⟩
    · exact .inr (y a a2 a3)
    · exact s.own a ⟨j, a2⟩
  · obtain ⟨h1, h2⟩ := s.pin j hj
    have nj : j ≠ i := fun z => hp (z ▸ h1)
    obtain ⟨r', h3, h4⟩ := h1
    exact ⟨⟨r', by rw [set_other nj]; exact h3, h4⟩, by rw [List.getElem?_set_ne (Ne.symm nj)]; exact h2⟩
/-- an own list in a slot is changed -/
theorem Stp.mutL (s : Stp KK mg B0 H0 σ0 S0 B H σ S) {a : Addr} {p : Bool} {ds ds' : List DV} {xs' : List V} (e : S[i]? = some (some (.ol p ds))) (ev : σ[i]? = some (some (.ref a))) (q : Reps mg B xs' ds') :
    Stp KK mg B0 H0 σ0 S0 B (upd H a (.lst xs')) σ (S.set i (some (.ol p ds'))) := by
  have oi : OwnAt σ S i a := ⟨⟨_, e, rfl⟩, ev⟩
  have na : B a = none := s.st.noB ⟨i, oi⟩
  have il : i < S.length := (List.getElem?_eq_some_iff.mp e).1
  have hlst : ∀ u, H a = some u → nTbl u = true ∧ ∀ c q, u ≠ LamX.CodeO c q := fun u hu => by
    obtain ⟨v, e1, q⟩ := s.st.at_ i _ e
    rw [ev] at e1; cases e1
    cases q with
    | ol _ h _ => rw [h] at hu; cases hu; exact ⟨rfl, fun c q z => by unfold LamX.CodeO at z; cases z⟩
  have hth : H a ≠ none := by
    obtain ⟨v, e1, q⟩ := s.st.at_ i _ e
    rw [ev] at e1; cases e1
    cases q with
    | ol _ h _ => rw [h]; simp
  have own : ∀ j b, OwnAt σ (S.set i (some (.ol p ds'))) j b → OwnAt σ S j b := fun j b ⟨⟨r', e1, h1⟩, e2⟩ => by
    rcases set_some_cases e1 with ⟨g1, g2⟩ | ⟨g1, g2⟩
    · subst g1; exact ⟨⟨_, e, rfl⟩, e2⟩
    · exact ⟨⟨r', g2, h1⟩, e2⟩
  have le : Sub B (upd H a (.lst xs')) := ⟨fun b u h sl => by
      have hb : b ≠ a := fun z => by subst z; rw [na] at h; cases h
      rw [upd_ne hb]; exact s.st.le.keep b u h sl,
    fun b u r => by
      have hb : b ≠ a := fun z => by subst z; rcases r with r | ⟨_, r⟩ <;> rw [na] at r <;> cases r
      unfold Rd; rw [upd_ne hb]; exact s.st.le.rd b u r, fun b ps e => by
      have hb : b ≠ a := fun z => by subst z; rw [na] at e; cases e
      rw [upd_ne hb]; exact s.st.le.tb b ps e⟩
  have om : OwnA σ0 S0 a ∨ H0 a = none := s.own a ⟨i, oi⟩
  refine ⟨⟨s.grow.sub, fun b o h n ht => ?_, fun t => tabs_grow (s.grow.tab t) fun P q t => tab_upd t (fun u hu => hlst u hu), fun b h => ?_, s.grow.new⟩, ⟨le, by rw [set_len]; exact s.st.len, fun j r' e1 => ?_, fun j k b h1 h2 => s.st.dis j k b (own j b h1) (own k b h2), tabs_grow s.st.tbs fun P q t => tab_upd t hlst⟩, fun b ⟨j, h⟩ => s.own b ⟨j, own j b h⟩, fun j hj => ?_, set_len.trans s.len⟩
  · have hb : b ≠ a := fun z => by
      subst z
      rcases om with z | z
      · exact n z
      · rw [z] at h; cases h
    rw [upd_ne hb]; exact s.grow.keep b o h n ht
  · by_cases hb : b = a
    · subst hb; rw [upd_same]; simp
    · rw [upd_ne hb]; exact s.grow.there b h
  · rcases set_some_cases e1 with ⟨g1, g2⟩ | ⟨g1, g2⟩
    · cases g2
      subst g1
      exact ⟨.ref a, ev, .ol na upd_same q⟩
    · obtain ⟨w, e2, q'⟩ := s.st.at_ j r' g2
      refine ⟨w, e2, ?_⟩
      cases q' with
      | v q' => exact .v q'
      | @ol b p' ys es h1 h2 q' =>
        have hb : b ≠ a := fun z => g1 (s.st.dis j i a ⟨⟨_, g2, rfl⟩, z ▸ e2⟩ oi)
        exact .ol h1 (by rw [upd_ne hb]; exact h2) q'
      | @od b p' ys es h1 h2 q' =>
        have hb : b ≠ a := fun z => g1 (s.st.dis j i a ⟨⟨_, g2, rfl⟩, z ▸ e2⟩ oi)
        exact .od h1 (by rw [upd_ne hb]; exact h2) q'
      | @oi b C dx p' k ys es h0 h1 h2 q' =>
        have hb : b ≠ a := fun z => g1 (s.st.dis j i a ⟨⟨_, g2, rfl⟩, z ▸ e2⟩ oi)
        exact .oi h0 h1 (by rw [upd_ne hb]; exact h2) q'
  · obtain ⟨⟨r', h1, h2⟩, h3⟩ := s.pin j hj
    refine ⟨?_, h3⟩
    by_cases nj : j = i
    · subst nj
      rw [e] at h1; cases h1
      exact ⟨_, List.getElem?_set_self il, h2⟩
    · exact ⟨r', by rw [set_other nj]; exact h1, h2⟩
end
/-- a name is stored -/
def stores (i : Nat) (r : RV) : SM := fun S => match S[i]? with
  | none => .stuck
  | some x => if (x.map RV.isPin).getD false || r.isPin then .stuck else .nx (S.set i (some r))
def setSl (i : Nat) (o : Opd) : SM := match o with
  | .v r => stores i r
  | .sl j => M.thn (frz (.sl j)) fun d => stores i (.v d)
theorem stores_spec {i : Nat} {r : RV} {S : Sl} {N : Sl → Prop} {R : Opd → Sl → Prop} {Bk Ct : Sl → Prop} {E : Str → List (Str × DV) → Sl → Prop} (h : (stores i r S).spec N R Bk Ct E) : ¬ PinAt S i ∧ r.isPin = false ∧ N (S.set i (some r)) := by
  unfold stores at h
  cases e : S[i]? with
  | none => rw [e] at h; exact h.elim
  | some x =>
    rw [e] at h
    dsimp only at h
    split at h
    · exact h.elim
    · rename_i hn
      simp only [Bool.not_eq_true, Bool.or_eq_false_iff] at hn
      refine ⟨fun ⟨r', h1, h2⟩ => ?_, hn.2, h⟩
      rw [e] at h1; cases h1
      have := hn.1
      simp only [Option.map_some, Option.getD_some] at this
      rw [this] at h2; cases h2
section
variable {X : Cx} {e : Expr} {me : M Opd} {pos pos' : Pos}
theorem sx_set (i : Nat) {x : Str} (hN : X.N.Nodup) (hi : X.N[i]? = some x) (hx : Loc X.env.scope x) (he : PX X e me) (hs : swapsWith e (some (.Name x pos')) pos.line X.env = pure false := by rfl)
    (hf : X.fn x = true ∨ X.env.scope.names.lookup x = some .local := by first | exact .inl rfl | exact .inr rfl | assumption) :
    SX X (.Assign [.Name x pos'] e pos) (M.thn me (setSl i)) := fun W tk pp => PS.imp (ps_set hN hi hx (he W tk) hs hf) fun D σ H ⟨B, S, x, q⟩ =>
  ⟨B, S, x, (spec_thn.mp q).imp (fun o S1 _ q v B1 H1 s hs r y => by
    cases r with
    | v r n =>
      obtain ⟨h1, h2, k⟩ := stores_spec q
      exact k B1 H1 _ (s.set r n y h1 h2)
    | @sl j e1 hr =>
      refine (spec_thn.mp q : (frz (.sl j) S1).spec _ _) |> fun q => ?_
      cases ef : frz (.sl j) S1 with
      | stuck => rw [ef] at q; exact q.elim
      | exc c fs S' => exact (frz_noexc ef).elim
      | ok d S2 =>
        rw [ef] at q
        obtain ⟨B2, s2, _, rep⟩ := frz_ok s hs (.sl e1 hr) trivial ef
        obtain ⟨h1, h2, k⟩ := stores_spec q
        exact k B2 H1 _ (s2.set (.v rep) (fun a h => by cases h) (fun a h => by cases h) h1 h2)) fun _ _ _ h => h⟩
end
end Lb
/-! Defs that are called while nothing is being told by repr. -/
namespace Lb
open PySem PySem.Spec PyProof.Rows L2
structure FnG (P : Program) (w : World) (K : PySem.W.Frag) (mg : Mg) (base : Heap) (CX : CXT) (k : Nat) (f : Addr) (fd : FuncData) (ps : List Str) (sp : Sp) : Prop where
  len : ∀ vs H Q E, sp vs H Q E → vs.length = ps.length
  run : ∀ (A : Around) (outer : List Env) (s : Shared) (H : Hp) (args : Args) (us : List Value) (vs : List V) (Q : VK) (E : XK), Room k A → A.guards = some [] → Env0 P w K mg base A outer s H → BindsTo s fd args (ps.zip us) → Vals vs us →
    sp vs H Q E → codeAny (model P w) A (.call (.ref f) args) (CR CX outer P w H s Q E) s
section
variable {P : Program} {w : World} {K : PySem.W.Frag} {KK : PySem.W.Frag} {mg : Mg} {base : Heap} {CX : CXT} {k : Nat} {x qual : Str} {st : Stmt} {f : Addr} {fd : FuncData} {N ps : List Str} {sp : Sp}
theorem guards_deeper {A : Around} {env : Env} (h : A.guards = some []) : (A.deeper env).guards = some [] := h
theorem guards_make {A : Around} (h : A.guards = some []) (C : Addr) (us : List Value) (kw : List (Str × Value)) : (A.under (.builtin "type.__call__" ⟨.ref C :: us, kw⟩)).guards = some [] := by
  have e : guardIds.contains "type.__call__" = false := by decide +kernel
  have e2 : (Code.builtin "type.__call__" ⟨.ref C :: us, kw⟩).isGuard = false := e
  simp [Around.under, Code.guards, pushGuards, e2, h]
theorem okG (F : Fun K x qual st f fd) (S : FnScope N ps (defScope st)) (len : ∀ vs H Q E, sp vs H Q E → vs.length = ps.length)
    (hbody : ∀ (cdv : Value) (A : Around) (outer : List Env) (s : Shared) (H : Hp) (vs : List V) (Q : VK) (E : XK), fd.code = cdv → Room k (A.deeper (envOfC qual (defScope st) s.heap.objs.size f cdv)) → A.guards = some [] → sp vs H Q E →
      ∃ t, PSs (cxOf CX P w K mg base N qual (defScope st) f cdv A outer s H E) (defBody st) t ∧ t { nx := fun _ H' => Q .non H', rt := Q } (start N vs) H) : FnG P w K mg base CX (k + 1) f fd ps sp := by
  obtain ⟨oc, od, kV, doc, pm, an, cdv, ct, osl, rfl, lk, hcd⟩ := F.ex
  refine ⟨len, fun A outer s H args us vs Q E hr hg e0 hb r hsp => ?_⟩
  have grown : ∀ b o, base.get? b = some o → s.heap.get? b = some o := fun b o e => (e0.bs b o e).1
  have KX := e0.mod.kin.keeps grown
  have lim := e0.mod.nolimit.keeps grown
  have kinds : ∀ y ∈ ps.zip us, (defScope st).names.lookup y.1 = some .local ∨ ((defScope st).names.lookup y.1 = some .cell ∧ ((cellsFrom (s.heap.objs.size + 1) (defScope st).names []).lookup y.1).isSome = true) := fun ⟨n, v⟩ hy =>
    (S.par n (List.of_mem_zip hy).1).imp id fun q => ⟨q, PySem.W.cellsFrom_some _ _ _ (.inl q)⟩
  refine codeAny_call_function hr.depth (KX _ _ lk) rfl S.co S.gen rfl (PySem.W.codeRec_of KX hcd) (hb _ _ _ _ (wpAny_newFunctionEnv_cells S.kind kinds fun env he s1 xx => ?_))
  subst he
  obtain ⟨t, ht, hq⟩ := hbody cdv A outer s H vs Q E rfl (hr.deeper _) hg hsp
  have I := inv_start (CX := CX) (E := E) S hr.hd e0 (len _ _ _ _ hsp) r xx
  refine ⟨lim.keeps xx.toInCall.keep, codeAny_func (wpAny_mono (ht.run [] s1 (start N vs) H _ I hq) (fun fl s' hs => ?_) fun e s' hs => hs)⟩
  cases fl with
  | ret u =>
    obtain ⟨v, σ', H', J, rv, q⟩ := hs
    exact ⟨v, H', J.os, J.bare, J.base, J.hok, rv, q⟩
  | next =>
    obtain ⟨σ', H', J, q⟩ := hs
    exact ⟨V.non, H', J.os, J.bare, J.base, J.hok, rfl, q⟩
  | brk => obtain ⟨_, _, _, q⟩ := hs; exact q.elim
  | cont => obtain ⟨_, _, _, q⟩ := hs; exact q.elim
end
section
variable {X : Cx} {CX : CXT} {k : Nat} {f : Addr} {fd : FuncData} {ps : List Str} {sp : Sp} {E : Sg → XK} {x : Str} {p pos : Pos} {e : Expr} {es : List Expr} {t : TA}
theorem run_g {pins : List (Addr × Obj)} {σ : Sg} {H : Hp} {s : Shared} {Q : VK} {us : List Value} {vs : List V} (F : FnG X.prog X.w X.K X.mg X.base CX k f fd ps sp) (hr : Room k X.A) (hgd : X.A.guards = some []) (hb : Binds X.K fd ps []) (hx : PassesAt CX X σ (E σ))
    (I : Inv X pins σ H s) (r : Vals vs us) (h : sp vs H Q (E σ)) : wpAny (model X.prog X.w) X.A (call (.ref f) us) (EP X pins σ Q) X.xe s := by
  have b := hb s us I.kIn (by rw [List.append_nil, ← r.length]; exact F.len _ _ _ _ h)
  rw [List.append_nil] at b
  refine wpAny_call (codeAny_mono (F.run X.A X.stack s H ⟨us, []⟩ us vs Q (E σ) hr hgd I.env0 b r h) fun r s' hq => ?_)
  cases r with
  | error e => exact hx pins H s e s' I hq
  | ok fl =>
    cases fl with
    | ret u => exact I.after hq
    | next => exact hq.elim
    | brk => exact hq.elim
    | cont => exact hq.elim
theorem pe_callG (F : FnG X.prog X.w X.K X.mg X.base CX k f fd ps sp) (hr : Room k X.A) (hgd : X.A.guards = some []) (hg : Gl X x) (hm : X.mg x = some (.ref f)) (hk : PySem.W.keepIn X.K (.ref f) = true) (hb : Binds X.K fd ps []) (hx : ∀ σ, PassesAt CX X σ (E σ))
    (ha : PA X (e :: es) t) (hdb : (x == ("__debug__" : Str)) = false := by decide) (he : starEach (e :: es) X.env = (false, eval e X.env) :: starEach es X.env := by rfl) (hpl : (backTo pos (starEach es X.env)).any (·.1) = false := by rfl) :
    PE X (.Call (.Name x p) (e :: es) [] pos) (fun σ H Q => t σ H fun vs H1 => sp vs H1 Q (E σ)) :=
  ⟨fun pins s σ H Q I h => wpAny_Call_Name_kw (ld_glob I hg hm (PySem.W.callWith_K (h₀ := X.base) I.ok.mod.kin hk (thn (ha.run pos pins s σ H _ I h) fun us s1 ⟨vs, H1, I1, r, q⟩ =>
    ⟨I1.kIn, run_g F hr hgd hb (hx σ) I1 r q⟩) he hpl) hdb)⟩
end
/-! ### the top -/
theorem top_call {P : Program} {w : World} {K : PySem.W.Frag} {mg mb : Mg} {CX : CXT} {k : Nat} {fa a : Addr} {fd : FuncData} {x : Str} {sp : Sp} {s₁ : Shared} {vs : List Value} {ns : List Int}
    (KX : K.In s₁.heap) (hns : s₁.heap.Ns mainGlobals mg) (hb : s₁.heap.Ns builtinsNs mb) (hbb : ∀ x : Str, x ≠ "__name__" → mb x = bootBuiltins x) (hlim : s₁.heap.NoLimit) (hg : s₁.gens = #[]) (hsm : ∃ m, s₁.heap.Ns sysModules m)
    (tE : ∀ p ∈ tblsOf K, s₁.heap.get? p.1 = some { cls := .none, data := .fields #[] }) (tN : ∀ p ∈ tblsOf K, K.lookup p.1 = none) (tC : ∀ p ∈ tblsOf K, ∃ c, PySem.W.CodeHd s₁.heap c p.1)
    (bM : ∃ (bm : Addr) (ob : Obj), mg "__builtins__" = some (.ref bm) ∧ bm ≠ builtinsNs ∧ s₁.heap.get? bm = some ob ∧ ob.cls = .type "module" ∧ ob.dict = some builtinsNs ∧ ob.data = .plain)
    (ha : s₁.heap.get? a = some { cls := .type "list", data := .seq vs.toArray }) (hi : IntsAre vs ns) (hl : ns.length ≤ sizeLine) (hr : Room k callerA)
    (F : ∀ base : Heap, K.In base → base.Ns mainGlobals mg → (∃ o, base.get? sysModules = some o) → (∀ p ∈ tblsOf K, base.BuiltinsAt mg p.1 ∧ mainGlobals ≠ p.1) → FnG P w K mg base CX k fa fd [x] sp) (hbind : ∀ (s : Shared) (u : Value), BindsTo s fd ⟨[u], []⟩ [(x, u)])
    (hsp : ∀ H : Hp, (∀ B : Hp, Tabs2 (tblsOf K) B H) → Rd H a (.lst (ns.map V.int)) → sp [.ref a] H (fun v _ => v = .bl true) fun _ _ _ => False)
    (hCX : ∀ H e s', CX [] H s₁ (fun _ _ _ => False) e s' → False) (hKa : K.lookup a = none) :
    codeAny (model P w) callerA (.call (.ref fa) ⟨[.ref a], []⟩) (fun r s' => r = .ok (.ret (.bool true)) ∧ OldK s₁.heap s'.heap ∧ s'.os = s₁.os ∧ AllBare s'.gens) s₁ := by
  have rv := vals_ints hi
  let TS : List Addr := (tblsOf K).map (·.1)
  have atT : ∀ {b : Addr}, b ∈ TS → s₁.heap.get? b = some { cls := .none, data := .fields #[] } := fun h => by
    obtain ⟨p, hp, e⟩ := List.mem_map.mp h
    rw [← e]; exact tE p hp
  have aT : a ∉ TS := fun z => by
    have e := atT z
    rw [ha] at e; cases e
  -- the script and the tables are tracked
  let H : Hp := fun b => if b = a then some (.frz { cls := .type "list", data := .seq vs.toArray } (.lst (ns.map V.int))) else if b ∈ TS then some (.tbl #[]) else none
  have Ha : H a = some (.frz { cls := .type "list", data := .seq vs.toArray } (.lst (ns.map V.int))) := if_pos rfl
  have HT : ∀ {b : Addr}, b ∈ TS → H b = some (.tbl #[]) := fun h => (if_neg fun z => aT (by rw [← z]; exact h)).trans (if_pos h)
  have Hn : ∀ {b : Addr}, b ≠ a → b ∉ TS → H b = none := fun h h2 => (if_neg h).trans (if_neg h2)
  have hok : HOk P w H s₁.heap := fun b u z => by
    by_cases e : b = a
    · subst e
      rw [Ha] at z; cases z
      exact ⟨ha, by rw [List.length_map]; exact hl, vs, _, rv, ha⟩
    · by_cases e2 : b ∈ TS
      · rw [HT e2] at z; cases z
        exact atT e2
      · rw [Hn e e2] at z; cases z
  have keepB : ∀ {b : Addr} {o : Obj}, s₁.heap.get? b = some o → b ≠ a → b ∉ TS → (hidT s₁.heap H).get? b = some o := fun e n n2 => hidT_get e (Hn n n2)
  have keepD : ∀ {b : Addr} {o : Obj}, s₁.heap.get? b = some o → (∀ xs n, o.data ≠ .seq xs n) → o.data ≠ .fields #[] → (hidT s₁.heap H).get? b = some o := fun {b o} e h1 h2 =>
    keepB e (fun z => by subst z; rw [ha] at e; cases e; exact h1 _ _ rfl) fun z => by rw [atT z] at e; cases e; exact h2 rfl
  have nsK : ∀ {b : Addr} {m : Str → Option Value}, s₁.heap.Ns b m → (hidT s₁.heap H).Ns b m := fun ⟨o, es, ep, e, d, r⟩ => ⟨o, es, ep, keepD e (fun xs n z => by rw [d] at z; cases z) (fun z => by rw [d] at z; cases z), d, r⟩
  have hKb : K.In (hidT s₁.heap H) := fun b o e => keepB (KX b o e) (fun z => by subst z; rw [hKa] at e; cases e) fun z => by
    obtain ⟨p, hp, ep⟩ := List.mem_map.mp z
    rw [← ep, tN p hp] at e; cases e
  have hM : Mod K mg (hidT s₁.heap H) := ⟨hKb, nsK hns, ⟨mb, nsK hb, hbb⟩, let ⟨mc, h1, h2⟩ := hlim; ⟨mc, nsK h1, h2⟩⟩
  have e0 : Env0 P w K mg (hidT s₁.heap H) callerA [] s₁ H := ⟨rfl, hM, fun b o e => of_hidT e, Nat.le_of_eq (hidT_size _ _), trivial, fun b hb => absurd (show b ∈ ([] : List Addr) from hb) (by simp), hok, .of_eq hg⟩
  have hsm' : ∃ o, (hidT s₁.heap H).get? sysModules = some o := by
    obtain ⟨m, hm⟩ := hsm
    obtain ⟨o, es, ep, e, _⟩ := nsK hm
    exact ⟨o, e⟩
  have gT : ∀ p ∈ tblsOf K, mainGlobals ≠ p.1 := fun p hp z => by
    obtain ⟨o, es, ep, e, hd, _⟩ := hns
    rw [z, tE p hp] at e
    cases e; cases hd
  have bT : ∀ p ∈ tblsOf K, (hidT s₁.heap H).BuiltinsAt mg p.1 ∧ mainGlobals ≠ p.1 := fun p hp => by
    obtain ⟨bm, ob, b1, b2, b3, b4, b5, b6⟩ := bM
    refine ⟨⟨bm, ob, b1, b2, fun z => ?_, fun z => ?_, keepD b3 (fun xs n z => by rw [b6] at z; cases z) (fun z => by rw [b6] at z; cases z), b4, b5, b6⟩, gT p hp⟩
    · obtain ⟨o, es, ep, e, hd, _⟩ := hns
      rw [z, e] at b3; cases b3
      rw [hd] at b6; cases b6
    · rw [z, tE p hp] at b3; cases b3; cases b6
  refine codeAny_mono ((F _ hKb (nsK hns) hsm' bT).run callerA [] s₁ H ⟨[.ref a], []⟩ [.ref a] [.ref a] _ _ hr rfl e0 (hbind s₁ (.ref a)) (.cons rfl .nil) (hsp H (fun B p hp => TabS2.nil (HT (List.mem_map.mpr ⟨p, hp, rfl⟩))) (.inr ⟨_, Ha⟩))) fun r s' h => ?_
  cases r with
  | error e => exact (hCX H e s' h).elim
  | ok fl =>
    cases fl with
    | next => exact h.elim
    | brk => exact h.elim
    | cont => exact h.elim
    | ret u =>
      obtain ⟨v, H', os, bare, un, hok', r', q⟩ := h
      cases (show v = .bl true from q)
      obtain rfl : u = Value.bool true := r'
      have key : ∀ b o, b ∉ TS → s₁.heap.get? b = some o → s'.heap.get? b = some o := fun b o nb e => by
        by_cases z : b = a
        · subst z
          obtain ⟨e2, _⟩ := hok' b _ (un.frzs b _ _ Ha)
          rw [ha] at e; cases e
          exact e2
        · exact un.keep b o e (Hn z nb) (fun z => absurd (show b ∈ ([] : List Addr) from z) (by simp)) (by simp)
      have more : ∀ b ∈ TS, ∃ us : Array Value, s'.heap.get? b = some { cls := .none, data := .fields us } := fun b hb => by
        obtain ⟨us, z⟩ := un.tbls b #[] (HT hb)
        exact ⟨_, hok' b _ z⟩
      refine ⟨rfl, ⟨fun b o e => ?_, fun b o e => ?_⟩, os, bare⟩
      · by_cases hb : b ∈ TS
        · obtain ⟨us, hu⟩ := more b hb
          obtain ⟨p, hp, ep⟩ := List.mem_map.mp hb
          obtain ⟨c, hc⟩ := tC p hp
          have e1 := atT hb
          rw [e1] at e; cases e
          subst ep
          exact .inr (.inl ⟨(hc.tab (tE p hp)).isCodeTable, rfl, #[], us, rfl, by rw [Array.empty_append]; exact hu⟩)
        · exact .inl (key b o hb e)
      · by_cases hb : b ∈ TS
        · obtain ⟨us, hu⟩ := more b hb
          exact ⟨_, hu⟩
        · exact ⟨o, key b o hb e⟩
end Lb
/-! Defs: what a body gives is what a call gives. -/
namespace Lb
open PySem PySem.Spec PyProof.Rows L2
inductive FOut where
  | stuck
  | ret (r : RV) (outs : List RV)
  | exc (c : Str) (fs : List (Str × DV)) (outs : List RV)
abbrev FSem := List RV → FOut
def FOut.spec (o : FOut) (R : RV → List RV → Prop) (E : Str → List (Str × DV) → List RV → Prop) : Prop := match o with
  | .stuck => False
  | .ret r outs => R r outs
  | .exc c fs outs => E c fs outs
/-- handed-in things behind the call: data stays, an own one is what its slot holds -/
def outsOf : List RV → Sl → List RV
  | [], _ => []
  | .v d :: rs, S => .v d :: outsOf rs S.tail
  | r :: rs, S => (match S with
    | some r' :: _ => r'
    | _ => r) :: outsOf rs S.tail
def startS (N : Nat) (rs : List RV) : Sl := rs.map some ++ List.replicate (N - rs.length) none
/-- what an operand gives as a def's answer -/
def retOf (o : Opd) (S : Sl) : Option RV := match o with
  | .v r => if r.isPin then none else some r
  | .sl i => match S[i]? with
    | some (some r) => if r.isPin then none else some r
    | _ => none
def runDef (m : SM) (N : Nat) : FSem := fun rs => match m (startS N rs) with
  | .nx S' => .ret (.v .non) (outsOf rs S')
  | .rt o S' => match retOf o S' with
    | some r => .ret r (outsOf rs S')
    | none => .stuck
  | .exc c fs S' => .exc c fs (outsOf rs S')
  | _ => .stuck
/-- behind a call -/
structure CallP (KK : PySem.W.Frag) (mg : Mg) (B H : Hp) (vs : List V) (rs : List RV) (B' H' : Hp) (outs : List RV) : Prop where
  grow : Grow KK B H B' H' (OwnA (vs.map some) (rs.map some))
  st : StR KK mg B' H' (vs.map some) (outs.map some)
  own : ∀ i : Nat, (∃ r : RV, rs[i]? = some r ∧ r.isOwn = true) ↔ ∃ r : RV, outs[i]? = some r ∧ r.isOwn = true
  pin : ∀ r ∈ outs, r.isOwn = true → r.isPin = true
def spM (KK : PySem.W.Frag) (mg : Mg) (f : FSem) (n : Nat) : Sp := fun vs H Q E => vs.length = n ∧ ∃ B rs, StR KK mg B H (vs.map some) (rs.map some) ∧ (∀ r ∈ rs, r.isOwn = true → r.isPin = true) ∧ (f rs).spec
  (fun r outs => ∀ v B' H', CallP KK mg B H vs rs B' H' outs → RVR mg B' H' v r → r.isPin = false → (∀ a, r.isOwn = true → v = .ref a → H a = none) → Q v H')
  (fun c fs outs => ∀ C d B' H', mg c = some (.ref C) → CallP KK mg B H vs rs B' H' outs → (match d with | none => fs = [] | some dx => ∃ xs, H' dx = some (.xd xs) ∧ RepF mg B' xs fs) → E (.ref C) d H')
section
variable {KK : PySem.W.Frag} {mg : Mg} {B H B' H' : Hp} {vs : List V} {rs : List RV} {σ' : Sg} {S' : Sl} {N n : Nat}
theorem start_get {i : Nat} {r : RV} (h : (startS n rs)[i]? = some (some r)) : rs[i]? = some r := by
  unfold startS at h
  by_cases hi : i < rs.length
  · rw [List.getElem?_append_left (by simpa using hi), List.getElem?_map] at h
    cases e : rs[i]? with
    | none => rw [e] at h; cases h
    | some z => rw [e] at h; cases h; rfl
  · rw [List.getElem?_append_right (by simpa using hi), List.getElem?_replicate] at h
    split at h <;> cases h
theorem start_of {i : Nat} {r : RV} (h : rs[i]? = some r) : (startS n rs)[i]? = some (some r) := by
  unfold startS
  have hi : i < rs.length := (List.getElem?_eq_some_iff.mp h).1
  rw [List.getElem?_append_left (by simpa using hi), List.getElem?_map, h]; rfl
theorem startV_get {i : Nat} {v : V} {N : List Str} (h : (L2.start N vs)[i]? = some (some v)) : vs[i]? = some v := by
  unfold L2.start at h
  by_cases hi : i < vs.length
  · rw [List.getElem?_append_left (by simpa using hi), List.getElem?_map] at h
    cases e : vs[i]? with
    | none => rw [e] at h; cases h
    | some z => rw [e] at h; cases h; rfl
  · rw [List.getElem?_append_right (by simpa using hi), List.getElem?_replicate] at h
    split at h <;> cases h
theorem startV_of {i : Nat} {v : V} {N : List Str} (h : vs[i]? = some v) : (L2.start N vs)[i]? = some (some v) := by
  unfold L2.start
  have hi : i < vs.length := (List.getElem?_eq_some_iff.mp h).1
  rw [List.getElem?_append_left (by simpa using hi), List.getElem?_map, h]; rfl
theorem map_get {α : Type} {l : List α} {i : Nat} {x : α} : (l.map some)[i]? = some (some x) ↔ l[i]? = some x := by
  rw [List.getElem?_map]
  cases l[i]? <;> simp
theorem start_own {N : List Str} {i : Nat} {a : Addr} (hl : vs.length ≤ N.length) : OwnAt (L2.start N vs) (startS N.length rs) i a ↔ OwnAt (vs.map some) (rs.map some) i a :=
  ⟨fun ⟨⟨r, e, h⟩, e2⟩ => ⟨⟨r, map_get.mpr (start_get e), h⟩, map_get.mpr (startV_get e2)⟩, fun ⟨⟨r, e, h⟩, e2⟩ => ⟨⟨r, start_of (map_get.mp e), h⟩, startV_of (map_get.mp e2)⟩⟩
theorem StR.start {N : List Str} (x : StR KK mg B H (vs.map some) (rs.map some)) (hl : vs.length ≤ N.length) : StR KK mg B H (L2.start N vs) (startS N.length rs) := by
  have hlen : vs.length = rs.length := by have := x.len; simpa using this
  refine ⟨x.le, ?_, fun i r e => ?_, fun i j a h1 h2 => x.dis i j a ((start_own hl).mp h1) ((start_own hl).mp h2), x.tbs⟩
  · unfold L2.start startS
    simp only [List.length_append, List.length_map, List.length_replicate]
    omega
  · obtain ⟨v, e1, q⟩ := x.at_ i r (map_get.mpr (start_get e))
    exact ⟨v, startV_of (map_get.mp e1), q⟩
theorem outs_get : ∀ {rs : List RV} {S : Sl} {i : Nat} {r : RV}, (outsOf rs S)[i]? = some r → ∃ r0, rs[i]? = some r0 ∧ ((r0.isOwn = false ∧ r = r0) ∨ (r0.isOwn = true ∧ (S[i]? = some (some r) ∨ ((∀ r', S[i]? ≠ some (some r')) ∧ r = r0))))
  | [], _, _, _, h => by simp [outsOf] at h
  | .v d :: rs, S, 0, r, h => by
    simp only [outsOf, List.getElem?_cons_zero, Option.some.injEq] at h
    exact ⟨_, rfl, .inl ⟨rfl, h.symm⟩⟩
  | .v d :: rs, S, i + 1, r, h => by
    simp only [outsOf, List.getElem?_cons_succ] at h
    obtain ⟨r0, h1, h2⟩ := outs_get h
    exact ⟨r0, by simpa using h1, by cases S with
      | nil => simpa using h2
      | cons s S => simpa using h2⟩
  | .ol p ds :: rs, S, 0, r, h => by
    simp only [outsOf, List.getElem?_cons_zero, Option.some.injEq] at h
    refine ⟨_, rfl, .inr ⟨rfl, ?_⟩⟩
    cases S with
    | nil => exact .inr ⟨by simp, h.symm⟩
    | cons s S =>
      cases s with
      | none => exact .inr ⟨by simp, h.symm⟩
      | some r' => exact .inl (by simpa using h)
  | .ol p ds :: rs, S, i + 1, r, h => by
    simp only [outsOf, List.getElem?_cons_succ] at h
    obtain ⟨r0, h1, h2⟩ := outs_get h
    exact ⟨r0, by simpa using h1, by cases S with
      | nil => simpa using h2
      | cons s S => simpa using h2⟩
  | .od p ds :: rs, S, 0, r, h => by
    simp only [outsOf, List.getElem?_cons_zero, Option.some.injEq] at h
    refine ⟨_, rfl, .inr ⟨rfl, ?_⟩⟩
    cases S with
    | nil => exact .inr ⟨by simp, h.symm⟩
    | cons s S =>
      cases s with
      | none => exact .inr ⟨by simp, h.symm⟩
      | some r' => exact .inl (by simpa using h)
  | .od p ds :: rs, S, i + 1, r, h => by
    simp only [outsOf, List.getElem?_cons_succ] at h
    obtain ⟨r0, h1, h2⟩ := outs_get h
    exact ⟨r0, by simpa using h1, by cases S with
      | nil => simpa using h2
      | cons s S => simpa using h2⟩
  | .oi p c ds :: rs, S, 0, r, h => by
    simp only [outsOf, List.getElem?_cons_zero, Option.some.injEq] at h
    refine ⟨_, rfl, .inr ⟨rfl, ?_⟩⟩
    cases S with
    | nil => exact .inr ⟨by simp, h.symm⟩
    | cons s S =>
      cases s with
      | none => exact .inr ⟨by simp, h.symm⟩
      | some r' => exact .inl (by simpa using h)
  | .oi p c ds :: rs, S, i + 1, r, h => by
    simp only [outsOf, List.getElem?_cons_succ] at h
    obtain ⟨r0, h1, h2⟩ := outs_get h
    exact ⟨r0, by simpa using h1, by cases S with
      | nil => simpa using h2
      | cons s S => simpa using h2⟩
theorem outs_len : ∀ {rs : List RV} {S : Sl}, (outsOf rs S).length = rs.length
  | [], _ => rfl
  | .v d :: rs, S => by simp [outsOf, outs_len]
  | .ol p d :: rs, S => by simp [outsOf, outs_len]
  | .od p d :: rs, S => by simp [outsOf, outs_len]
  | .oi p c d :: rs, S => by simp [outsOf, outs_len]
/-- a body's end is a call's end -/
theorem callP_of {N : List Str} (x : StR KK mg B H (vs.map some) (rs.map some)) (hl : vs.length ≤ N.length) (hp : ∀ r ∈ rs, r.isOwn = true → r.isPin = true)
    (s : Stp KK mg B H (L2.start N vs) (startS N.length rs) B' H' σ' S') : CallP KK mg B H vs rs B' H' (outsOf rs S') := by
  have hlen : vs.length = rs.length := by have := x.len; simpa using this
  have io : ∀ b, OwnA (L2.start N vs) (startS N.length rs) b → OwnA (vs.map some) (rs.map some) b := fun b ⟨i, h⟩ => ⟨i, (start_own hl).mp h⟩
  -- an own one that was handed in
  have key : ∀ (i : Nat) (r0 : RV), rs[i]? = some r0 → r0.isOwn = true → ∃ r' : RV, S'[i]? = some (some r') ∧ r'.isPin = true ∧ σ'[i]? = (L2.start N vs)[i]? := fun i r0 e h => by
    obtain ⟨⟨r', h1, h2⟩, h3⟩ := s.pin i ⟨r0, start_of e, hp r0 (List.mem_of_getElem? e) h⟩
    exact ⟨r', h1, h2, h3⟩
  have pinOwn : ∀ r : RV, r.isPin = true → r.isOwn = true := fun r h => by cases r <;> simp_all [RV.isPin, RV.isOwn]
  have at_ : ∀ (i : Nat) (r : RV), (outsOf rs S')[i]? = some r → ∃ r0, rs[i]? = some r0 ∧ ((r0.isOwn = false ∧ r = r0) ∨ (r0.isOwn = true ∧ S'[i]? = some (some r) ∧ r.isPin = true ∧ σ'[i]? = (L2.start N vs)[i]?)) := fun i r e => by
    obtain ⟨r0, h1, h2⟩ := outs_get e
    refine ⟨r0, h1, ?_⟩
    rcases h2 with h2 | ⟨h2, h3 | ⟨h3, _⟩⟩
    · exact .inl h2
    · obtain ⟨r', g1, g2, g3⟩ := key i r0 h1 h2
      rw [h3] at g1; cases g1
      exact .inr ⟨h2, h3, g2, g3⟩
    · obtain ⟨r', g1, _⟩ := key i r0 h1 h2
      exact absurd g1 (h3 r')
  have ownAt : ∀ i a, OwnAt (vs.map some) ((outsOf rs S').map some) i a → OwnAt σ' S' i a := fun i a ⟨⟨r, e, h⟩, e2⟩ => by
    obtain ⟨r0, h1, h2⟩ := at_ i r (map_get.mp e)
    rcases h2 with ⟨h2, h3⟩ | ⟨h2, h3, h4, h5⟩
    · subst h3; rw [h2] at h; cases h
    · exact ⟨⟨r, h3, h⟩, by rw [h5]; exact startV_of (map_get.mp e2)⟩
  refine ⟨s.grow.imp io, ⟨s.st.le, by simp [outs_len, hlen], fun i r e => ?_, fun i j a h1 h2 => s.st.dis i j a (ownAt i a h1) (ownAt j a h2), s.st.tbs⟩, fun i => ⟨fun ⟨r, e, h⟩ => ?_, fun ⟨r, e, h⟩ => ?_⟩, fun r hr h => ?_⟩
  · obtain ⟨r0, h1, h2⟩ := at_ i r (map_get.mp e)
    obtain ⟨v, e1, q⟩ := x.at_ i r0 (map_get.mpr h1)
    refine ⟨v, e1, ?_⟩
    rcases h2 with ⟨h2, h3⟩ | ⟨h2, h3, h4, h5⟩
    · subst h3
      cases q with
      | v q => exact .v (q.mono s.grow.sub)
      | ol _ _ _ => cases h2
      | od _ _ _ => cases h2
      | oi _ _ _ _ => cases h2
    · obtain ⟨v', e2, q'⟩ := s.st.at_ i r h3
      rw [h5, startV_of (map_get.mp e1)] at e2
      cases e2
      exact q'
  · have hi : i < (outsOf rs S').length := by rw [outs_len]; exact (List.getElem?_eq_some_iff.mp e).1
    have e1 : (outsOf rs S')[i]? = some ((outsOf rs S')[i]) := List.getElem?_eq_getElem hi
    refine ⟨_, e1, ?_⟩
    obtain ⟨r0, h1, h2⟩ := at_ i _ e1
    rw [e] at h1; cases h1
    rcases h2 with ⟨h2, _⟩ | ⟨_, _, h4, _⟩
    · rw [h2] at h; cases h
    · exact pinOwn _ h4
  · obtain ⟨r0, h1, h2⟩ := at_ i r e
    refine ⟨r0, h1, ?_⟩
    rcases h2 with ⟨h2, h3⟩ | ⟨h2, _⟩
    · subst h3; exact h
    · exact h2
  · obtain ⟨i, e⟩ := List.getElem?_of_mem hr
    obtain ⟨r0, h1, h2⟩ := at_ i r e
    rcases h2 with ⟨h2, h3⟩ | ⟨_, _, h4, _⟩
    · subst h3; rw [h2] at h; cases h
    · exact h4
end
section
variable {P : Program} {w : World} {K : PySem.W.Frag} {mg : Str → Option Value} {base : Heap}
/-- a body as a plain function, entered with these values -/
theorem def_run {qual : Str} {sc : Scope} {f : Addr} {cdv : Value} {A : Around} {outer : List Env} {s : Shared} {H : Hp} {E : XK} {N : List Str} {bg : List Stmt} {m : SM} {vs : List V} {Q : VK} {n : Nat}
    (hb : SXs (cxOf (L2.CX P w) P w K mg base N qual sc f cdv A outer s H E) bg m) (hpl : n ≤ N.length) (h : spM K mg (runDef m N.length) n vs H Q E) :
    ∃ t, PSs (cxOf (L2.CX P w) P w K mg base N qual sc f cdv A outer s H E) bg t ∧ t { nx := fun _ H' => Q .non H', rt := Q } (L2.start N vs) H := by
  obtain ⟨hl, B, rs, x, hp, q⟩ := h
  refine ⟨_, hb _ (takes_of rfl rfl rfl rfl) (passes_of rfl), B, startS N.length rs, x.start (by omega), ?_⟩
  have hle : vs.length ≤ N.length := by omega
  unfold runDef at q
  cases em : m (startS N.length rs) with
  | stuck => rw [em] at q; exact q
  | bk S' => rw [em] at q; exact q.elim
  | ct S' => rw [em] at q; exact q.elim
  | nx S' =>
    rw [em] at q
    exact fun B' H' σ' s' => q .non B' H' (callP_of x hle hp s') (.v .non) rfl fun a h => by cases h
  | exc c fs S' =>
    rw [em] at q
    exact fun C B' H' σ' d hC s' hd => q C d B' H' hC (callP_of x hle hp s') hd
  | rt o S' =>
    rw [em] at q
    intro v B' H' σ' s' r y
    dsimp only at q
    cases er : retOf o S' with
    | none => rw [er] at q; exact q.elim
    | some rv =>
      rw [er] at q
      have cp := callP_of x hle hp s'
      cases r with
      | v r n =>
        unfold retOf at er
        dsimp only at er
        split at er
        · cases er
        · rename_i hn
          cases er
          exact q v B' H' cp r (by simpa using hn) y
      | @sl i e1 hr =>
        obtain ⟨r', hr'⟩ := hr
        unfold retOf at er
        simp only [hr'] at er
        split at er
        · cases er
        · rename_i hn
          cases er
          obtain ⟨v', e2, q'⟩ := s'.st.at_ i _ hr'
          rw [e1] at e2; cases e2
          refine q v B' H' cp q' (by simpa using hn) fun a ha ev => ?_
          have oi : OwnAt σ' S' i a := ⟨⟨_, hr', ha⟩, by rw [e1, ev]⟩
          rcases s'.own a ⟨i, oi⟩ with ⟨j, hj⟩ | z
          · exfalso
            obtain ⟨⟨rj, g1, g2⟩, g3⟩ := id hj
            obtain ⟨⟨r2, g4, g5⟩, g6⟩ := s'.pin j ⟨rj, g1, hp rj (List.mem_of_getElem? (start_get g1)) g2⟩
            have : OwnAt σ' S' j a := ⟨⟨r2, g4, by cases r2 <;> simp_all [RV.isPin, RV.isOwn]⟩, by rw [g6]; exact g3⟩
            have e := s'.st.dis i j a oi this
            subst e
            rw [hr'] at g4; cases g4
            exact hn g5
          · exact z
/-- THE RULE: a def, by its body as a plain function -/
theorem fn_mk {x qual : Str} {st : Stmt} {f : Addr} {fd : FuncData} {N ps : List Str} {k : Nat} {m : SM} (F : Fun K x qual st f fd) (S : FnScope N ps (defScope st))
    (hb : ∀ (cdv : Value) (A : Around) (outer : List Env) (s : Shared) (H : Hp) (E : XK), Room k (A.deeper (envOfC qual (defScope st) s.heap.objs.size f cdv)) → A.guards = some [] →
      SXs (cxOf (L2.CX P w) P w K mg base N qual (defScope st) f cdv A outer s H E) (defBody st) m) : FnG P w K mg base (L2.CX P w) (k + 1) f fd ps (spM K mg (runDef m N.length) ps.length) := by
  have hpl : ps.length ≤ N.length := by have := congrArg List.length S.pre; rw [List.length_take] at this; omega
  refine okG F S (fun vs H Q E h => h.1) fun cdv A outer s H vs Q E _ hr hgd h => ?_
  exact def_run (hb cdv A outer s H E hr hgd) hpl h
/-- .. whose code object is asked of -/
theorem fn_mkC {x qual : Str} {st : Stmt} {f : Addr} {fd : FuncData} {N ps : List Str} {k : Nat} {m : SM} (F : Fun K x qual st f fd) (S : FnScope N ps (defScope st))
    (hb : ∀ (cdv : Value) (A : Around) (outer : List Env) (s : Shared) (H : Hp) (E : XK), fd.code = cdv → Room k (A.deeper (envOfC qual (defScope st) s.heap.objs.size f cdv)) → A.guards = some [] →
      SXs (cxOf (L2.CX P w) P w K mg base N qual (defScope st) f cdv A outer s H E) (defBody st) m) : FnG P w K mg base (L2.CX P w) (k + 1) f fd ps (spM K mg (runDef m N.length) ps.length) := by
  have hpl : ps.length ≤ N.length := by have := congrArg List.length S.pre; rw [List.length_take] at this; omega
  refine okG F S (fun vs H Q E h => h.1) fun cdv A outer s H vs Q E hc hr hgd h => ?_
  exact def_run (hb cdv A outer s H E hc hr hgd) hpl h
end
end Lb
/-! Calls of defs. -/
namespace Lb
open PySem PySem.Spec PyProof.Rows L2
def RV.rePin (p : Bool) : RV → RV
  | .v d => .v d
  | .ol _ ds => .ol p ds
  | .od _ ds => .od p ds
  | .oi _ c fs => .oi p c fs
theorem RV.rePin_own {p : Bool} {r : RV} : (r.rePin p).isOwn = r.isOwn := by cases r <;> rfl
theorem RV.rePin_pin {p : Bool} {r : RV} (h : r.isOwn = true) : (r.rePin p).isPin = p := by cases r <;> simp_all [RV.isOwn, RV.rePin, RV.isPin]
theorem RVR.rePin {mg : Mg} {B H : Hp} {v : V} {r : RV} {p : Bool} (q : RVR mg B H v r) : RVR mg B H v (r.rePin p) := by
  cases q with
  | v q => exact .v q
  | ol a b c => exact .ol a b c
  | od a b c => exact .od a b c
  | oi a b c d => exact .oi a b c d
/-- a def that is known under the name x -/
structure Kn (X : Cx) (x : Str) (f : FSem) (ps : List Str) : Prop where
  ex : ∃ (fa : Addr) (fd : FuncData) (k : Nat), FnG X.prog X.w X.K X.mg X.base (L2.CX X.prog X.w) k fa fd ps (spM X.K X.mg f ps.length) ∧ Room k X.A ∧ X.A.guards = some [] ∧ X.mg x = some (.ref fa) ∧ PySem.W.keepIn X.K (.ref fa) = true ∧ Binds X.K fd ps []
def callF (f : FSem) (n : Nat) (ds : List DV) : M Opd := fun S => if ds.length = n then
    (match f (ds.map .v) with
    | .ret r _ => if r.isPin then .stuck else .ok (.v r) S
    | .exc c fs _ => .exc c fs S
    | .stuck => .stuck)
  else .stuck
def callP (f : FSem) (n i : Nat) (ds : List DV) : M Opd := fun S => if ds.length + 1 = n then
    (match S[i]? with
    | some (some r0) => if r0.isOwn then
        (match f (r0.rePin true :: ds.map .v) with
        | .ret r (r1 :: _) => if r.isPin then .stuck else .ok (.v r) (S.set i (some (r1.rePin r0.isPin)))
        | .exc c fs (r1 :: _) => .exc c fs (S.set i (some (r1.rePin r0.isPin)))
        | _ => .stuck) else .stuck
    | _ => .stuck)
  else .stuck
section
variable {KK : PySem.W.Frag} {mg : Mg} {B H B' H' : Hp} {σ : Sg} {S : Sl} {vs : List V} {ds : List DV}
theorem argsR (x : StR KK mg B H σ S) (r : Reps mg B vs ds) : StR KK mg B H (vs.map some) ((ds.map RV.v).map some) := by
  have no : ∀ i a, ¬ OwnAt (vs.map some) ((ds.map RV.v).map some) i a := fun i a ⟨⟨r', e, h⟩, _⟩ => by
    rw [map_get, List.getElem?_map] at e
    cases q : ds[i]? with
    | none => rw [q] at e; cases e
    | some d => rw [q] at e; cases e; cases h
  refine ⟨x.le, by simp [r.length], fun i r' e => ?_, fun i j a h => absurd h (no i a), x.tbs⟩
  rw [map_get, List.getElem?_map] at e
  cases q : ds[i]? with
  | none => rw [q] at e; cases e
  | some d =>
    rw [q] at e; cases e
    obtain ⟨v, h1, h2⟩ := r.getD' q
    exact ⟨v, map_get.mpr h1, .v h2⟩
theorem argsNo {a : Addr} : ¬ OwnA (vs.map some) ((ds.map RV.v).map some) a := fun ⟨i, ⟨r', e, h⟩, _⟩ => by
  rw [map_get, List.getElem?_map] at e
  cases q : ds[i]? with
  | none => rw [q] at e; cases e
  | some d => rw [q] at e; cases e; cases h
theorem new_of (g : Grow KK B H B' H' (OwnA (vs.map some) ((ds.map RV.v).map some))) (le : Sub B' H') : NewK KK B H B' H' :=
  ⟨fun a o e t => g.keep a o e argsNo t, g.tab, g.there, g.sub, le, fun a h => by
    rcases g.new a h with z | z | z
    · exact .inl z
    · exact .inr z
    · exact absurd z argsNo⟩
/-- a call that was handed what stands in slot i -/
theorem StR.called (x : StR KK mg B H σ S) {i : Nat} {a : Addr} {r0 r1 : RV} {M : Addr → Prop} (e : S[i]? = some (some r0)) (h0 : r0.isOwn = true) (ev : σ[i]? = some (some (.ref a))) (g : Grow KK B H B' H' M) (hm : ∀ b, M b → b = a) (le : Sub B' H')
    (q : RVR mg B' H' (.ref a) r1) (h1 : r1.isOwn = true) (hp : r1.isPin = r0.isPin) : Stp KK mg B H σ S B' H' σ (S.set i (some r1)) ∧ ∀ b, OwnA σ (S.set i (some r1)) b → OwnA σ S b := by
  have oi : OwnAt σ S i a := ⟨⟨_, e, h0⟩, ev⟩
  have il : i < S.length := (List.getElem?_eq_some_iff.mp e).1
  have own : ∀ j b, OwnAt σ (S.set i (some r1)) j b → OwnAt σ S j b := fun j b ⟨⟨r', e1, h1⟩, e2⟩ => by
    rcases set_some_cases e1 with ⟨g1, g2⟩ | ⟨g1, g2⟩
    · subst g1; exact ⟨⟨_, e, h0⟩, e2⟩
    · exact ⟨⟨r', g2, h1⟩, e2⟩
  refine ⟨⟨g.imp fun b z => by rw [hm b z]; exact ⟨i, oi⟩, ⟨le, by rw [set_len]; exact x.len, fun j r' e1 => ?_, fun j k b h1 h2 => x.dis j k b (own j b h1) (own k b h2), g.tab x.tbs⟩, fun b ⟨j, h⟩ => .inl ⟨j, own j b h⟩, fun j hj => ⟨?_, rfl⟩, set_len⟩, fun b ⟨j, h⟩ => ⟨j, own j b h⟩⟩
  · rcases set_some_cases e1 with ⟨g1, g2⟩ | ⟨g1, g2⟩
    · cases g2; subst g1
      exact ⟨_, ev, q⟩
    · obtain ⟨w, e2, q'⟩ := x.at_ j r' g2
      refine ⟨w, e2, ?_⟩
      have nb : ∀ b o, w = .ref b → r'.isOwn = true → B b = none → H b = some o → nTbl o = true → B' b = none ∧ H' b = some o := fun b o ew hr hb hh ht => by
        have nba : b ≠ a := fun z => g1 (x.dis j i a ⟨⟨_, g2, hr⟩, by rw [e2, ew, z]⟩ oi)
        refine ⟨?_, g.keep b o hh (fun z => nba (hm b z)) ht⟩
        cases q : B' b with
        | none => rfl
        | some u =>
          rcases g.new b (by rw [q]; simp) with z | z | z
          · exact absurd hb z
          · rw [hh] at z; cases z
          · exact absurd (hm b z) nba
      cases q' with
      | v q' => exact .v (q'.mono g.sub)
      | ol h1 h2 q' =>
        obtain ⟨k1, k2⟩ := nb _ _ rfl rfl h1 h2 rfl
        exact .ol k1 k2 (q'.mono g.sub)
      | od h1 h2 q' =>
        obtain ⟨k1, k2⟩ := nb _ _ rfl rfl h1 h2 rfl
        exact .od k1 k2 (q'.mono g.sub)
      | oi m h1 h2 q' =>
        obtain ⟨k1, k2⟩ := nb _ _ rfl rfl h1 h2 rfl
        exact .oi m k1 k2 (q'.mono g.sub)
  · obtain ⟨r', h2, h3⟩ := hj
    by_cases nj : j = i
    · subst nj
      rw [e] at h2; cases h2
      exact ⟨_, List.getElem?_set_self il, by rw [hp]; exact h3⟩
    · exact ⟨r', by rw [set_other nj]; exact h2, h3⟩
end
section
variable {X : Cx} {x : Str} {p pos : Pos} {e : Expr} {es : List Expr} {f : FSem} {ps : List Str} {ms : M (List DV)}
theorem callF_spec {n : Nat} {ds : List DV} {S : Sl} {K : Opd → Sl → Prop} {E : Str → List (Str × DV) → Sl → Prop} (h : (callF f n ds S).spec K E) :
    ds.length = n ∧ (f (ds.map .v)).spec (fun r _ => r.isPin = false ∧ K (.v r) S) (fun c fs _ => E c fs S) := by
  unfold callF at h
  split at h
  · rename_i hl
    refine ⟨hl, ?_⟩
    cases ef : f (ds.map .v) with
    | stuck => rw [ef] at h; exact h
    | exc c fs o => rw [ef] at h; exact h
    | ret r o =>
      rw [ef] at h
      dsimp only at h
      split at h
      · exact h.elim
      · rename_i hn
        exact ⟨by simpa using hn, h⟩
  · exact h.elim
theorem FOut.spec.imp {o : FOut} {R R' : RV → List RV → Prop} {E E' : Str → List (Str × DV) → List RV → Prop} (h : o.spec R E) (a : ∀ r s, R r s → R' r s) (b : ∀ c fs s, E c fs s → E' c fs s) : o.spec R' E' := by
  cases o with
  | stuck => exact h
  | ret r s => exact a r s h
  | exc c fs s => exact b c fs s h
/-- what a call with data alone wants -/
theorem call_data {W : WX} {Q : VK} {B H B1 H1 : Hp} {σ : Sg} {S S1 : Sl} {vs : List V} {ds : List DV} (s : Stp X.K X.mg B H σ S B1 H1 σ S1) (hs : Has S S1) (r : Reps X.mg B1 vs ds)
    (q : (callF f ps.length ds S1).spec (fun o S' => ∀ v B' H', Stp X.K X.mg B H σ S B' H' σ S' → Has S S' → OpdR X.mg B' H' σ S' v o → Young H v o → Q v H') (xPost X.K X.mg W B H σ S)) :
    spM X.K X.mg f ps.length vs H1 Q (WE W σ) := by
  obtain ⟨hl, q⟩ := callF_spec q
  refine ⟨by rw [r.length]; exact hl, B1, ds.map .v, argsR s.st r, fun r h => ?_, q.imp (fun rv outs ⟨hp, k⟩ v B' H' cp qv _ yg => ?_) fun c fs outs k C d B' H' hC cp hd => ?_⟩
  · obtain ⟨d, _, rfl⟩ := List.mem_map.mp h
    intro h; cases h
  · have n := new_of cp.grow cp.st.le
    obtain ⟨s3, opd, y⟩ := opdK s.st n qv yg
    exact k v B' H' (s.trans s3) hs opd (y.pre s)
  · exact k C B' H' σ d hC (s.trans (s.st.stepK (new_of cp.grow cp.st.le))) hd
theorem px_call (F : Kn X x f ps) (hg : Gl X x) (ha : FXs X (e :: es) ms) (hdb : (x == ("__debug__" : Str)) = false := by decide)
    (he : starEach (e :: es) X.env = (false, eval e X.env) :: starEach es X.env := by rfl) (hpl : (backTo pos (starEach es X.env)).any (·.1) = false := by rfl) :
    PX X (.Call (.Name x p) (e :: es) [] pos) (M.bind ms (callF f ps.length)) := fun W tk => by
  obtain ⟨fa, fd, k, F, hr, hgd, hm, hk, hb⟩ := F.ex
  refine PE.imp (pe_callG F hr hgd hg hm hk hb (fun σ => passAt tk σ) (ha W tk) hdb he hpl) fun σ H Q ⟨B, S, st, q⟩ => ?_
  exact ⟨B, S, st, (spec_bind.mp q).imp (fun ds S1 _ q vs B1 H1 s hs r => by exact call_data s hs r q) fun _ _ _ h => h⟩
theorem px_call0 (F : Kn X x f ps) (hg : Gl X x) (hdb : (x == ("__debug__" : Str)) = false := by decide) : PX X (.Call (.Name x p) [] [] pos) (callF f ps.length []) := fun W tk => by
  obtain ⟨fa, fd, k, F, hr, hgd, hm, hk, hb⟩ := F.ex
  refine ⟨fun pins s σ H Q I h => ?_⟩
  refine wpAny_Call_Name_kw (ld_glob I hg hm ?_ hdb)
  refine PySem.W.callWith_K0 I.kIn hk (run_g (E := WE W) (us := []) (vs := []) F hr hgd hb (passAt tk σ) I .nil ?_)
  obtain ⟨B, S, st, q⟩ := h
  exact call_data (.refl st) (.refl S) .nil q
/-- the slot's thing is handed in -/
theorem callP_spec {n i : Nat} {ds : List DV} {S : Sl} {K : Opd → Sl → Prop} {E : Str → List (Str × DV) → Sl → Prop} (h : (callP f n i ds S).spec K E) :
    ds.length + 1 = n ∧ ∃ r0 : RV, S[i]? = some (some r0) ∧ r0.isOwn = true ∧ (f (r0.rePin true :: ds.map .v)).spec
      (fun r outs => ∃ r1 rest, outs = r1 :: rest ∧ r.isPin = false ∧ K (.v r) (S.set i (some (r1.rePin r0.isPin)))) (fun c fs outs => ∃ r1 rest, outs = r1 :: rest ∧ E c fs (S.set i (some (r1.rePin r0.isPin)))) := by
  unfold callP at h
  split at h
  · rename_i hl
    refine ⟨hl, ?_⟩
    cases e : S[i]? with
    | none => rw [e] at h; exact h.elim
    | some z =>
      rw [e] at h
      cases z with
      | none => exact h.elim
      | some r0 =>
        dsimp only at h
        split at h
        · rename_i ho
          refine ⟨r0, rfl, ho, ?_⟩
          cases ef : f (r0.rePin true :: ds.map .v) with
          | stuck => rw [ef] at h; exact h
          | exc c fs o =>
            rw [ef] at h
            cases o with
            | nil => exact h.elim
            | cons r1 rest => exact ⟨r1, rest, rfl, h⟩
          | ret r o =>
            rw [ef] at h
            cases o with
            | nil => exact h.elim
            | cons r1 rest =>
              dsimp only at h
              split at h
              · exact h.elim
              · rename_i hn
                exact ⟨r1, rest, rfl, by simpa using hn, h⟩
        · exact h.elim
  · exact h.elim
theorem px_callp (i : Nat) {z : Str} {zp : Pos} (F : Kn X x f ps) (hg : Gl X x) (hz : PX X (.Name z zp) (getSl i)) (ha : FXs X es ms) (hdb : (x == ("__debug__" : Str)) = false := by decide)
    (he : starEach (.Name z zp :: es) X.env = (false, eval (.Name z zp) X.env) :: starEach es X.env := by rfl) (hpl : (backTo pos (starEach es X.env)).any (·.1) = false := by rfl) :
    PX X (.Call (.Name x p) (.Name z zp :: es) [] pos) (M.bind (getSl i) fun _ => M.bind ms (callP f ps.length i)) := fun W tk => by
  obtain ⟨fa, fd, k, F, hr, hgd, hm, hk, hb⟩ := F.ex
  refine PE.imp (pe_callG F hr hgd hg hm hk hb (fun σ => passAt tk σ) (pa_cons (hz W tk) (ha W tk) he) hdb he hpl) fun σ H Q ⟨B, S, st, q⟩ => ?_
  refine ⟨B, S, st, (spec_bind.mp q).imp (fun o S0 eo q v B0 H0 s0 hs0 or _ => ⟨B0, S0, s0.st, (spec_bind.mp q).imp (fun ds S1 _ q vs B1 H1 s1 hs1 r => ?_) fun _ _ _ h => h.pre s0⟩) fun _ _ _ h => h⟩
  have eo : o = .sl i := by
    unfold getSl at eo
    split at eo <;> simp at eo
    exact eo.1.symm
  subst eo
  have s := s0.trans s1
  have hs := hs0.trans hs1
  obtain ⟨hl, r0, er, ho, q⟩ := callP_spec q
  have ev : σ[i]? = some (some v) := by cases or with | sl e _ => exact e
  obtain ⟨v', e2, q0⟩ := s.st.at_ i r0 er
  rw [ev] at e2; cases e2
  obtain ⟨a, rfl⟩ : ∃ a, v = .ref a := by
    cases q0 with
    | v _ => cases ho
    | ol _ _ _ => exact ⟨_, rfl⟩
    | od _ _ _ => exact ⟨_, rfl⟩
    | oi _ _ _ _ => exact ⟨_, rfl⟩
  have ho' : (r0.rePin true).isOwn = true := by rw [RV.rePin_own]; exact ho
  have only : ∀ j b, OwnAt ((V.ref a :: vs).map some) ((r0.rePin true :: ds.map RV.v).map some) j b → j = 0 ∧ b = a := fun j b ⟨⟨r', e1, h1⟩, e2⟩ => by
    cases j with
    | zero =>
      simp at e2
      exact ⟨rfl, e2.symm⟩
    | succ j =>
      exfalso
      rw [List.map_cons, List.getElem?_cons_succ, map_get, List.getElem?_map] at e1
      cases q : ds[j]? with
      | none => rw [q] at e1; cases e1
      | some d => rw [q] at e1; cases e1; cases h1
  have args : StR X.K X.mg B1 H1 ((V.ref a :: vs).map some) ((r0.rePin true :: ds.map RV.v).map some) := by
    have t := argsR s.st r
    refine ⟨s.st.le, by simp [r.length], fun j r' e1 => ?_, fun j k b h1 h2 => by rw [(only j b h1).1, (only k b h2).1], s.st.tbs⟩
    cases j with
    | zero =>
      simp at e1
      subst e1
      exact ⟨.ref a, rfl, q0.rePin⟩
    | succ j =>
      obtain ⟨v, h1, h2⟩ := t.at_ j r' (by simpa using e1)
      exact ⟨v, by simpa using h1, h2⟩
  refine ⟨by simp [r.length]; omega, B1, r0.rePin true :: ds.map RV.v, args, fun r' h1 h2 => ?_, q.imp (fun rv outs ⟨r1, rest, eo, hp, k⟩ v B' H' cp qv _ yg => ?_) fun c fs outs ⟨r1, rest, eo, k⟩ C d B' H' hC cp hd => ?_⟩
  · rcases List.mem_cons.mp h1 with h1 | h1
    · subst h1; exact RV.rePin_pin ho
    · obtain ⟨d, _, rfl⟩ := List.mem_map.mp h1
      cases h2
  · subst eo
    have h1own : r1.isOwn = true := by
      obtain ⟨r', e, h⟩ := (cp.own 0).mp ⟨_, rfl, ho'⟩
      simp at e; subst e; exact h
    obtain ⟨w, ew, qw⟩ := cp.st.at_ 0 r1 rfl
    simp at ew; subst ew
    obtain ⟨st2, so⟩ := s.st.called er ho ev cp.grow (fun b ⟨j, hj⟩ => (only j b hj).2) cp.st.le (qw.rePin (p := r0.isPin)) (by rw [RV.rePin_own]; exact h1own) (RV.rePin_pin h1own)
    have il : i < S1.length := (List.getElem?_eq_some_iff.mp er).1
    refine k v B' H' (s.trans st2) (fun j hj => ?_) (.v qv fun b hb eb z => s.st.notOwn (yg b hb eb) (so b z)) ((show Young H1 v (.v rv) from yg).pre s)
    obtain ⟨r', h1⟩ := hs j hj
    by_cases nj : j = i
    · subst nj; exact ⟨_, List.getElem?_set_self il⟩
    · exact ⟨r', by rw [set_other nj]; exact h1⟩
  · subst eo
    have h1own : r1.isOwn = true := by
      obtain ⟨r', e, h⟩ := (cp.own 0).mp ⟨_, rfl, ho'⟩
      simp at e; subst e; exact h
    obtain ⟨w, ew, qw⟩ := cp.st.at_ 0 r1 rfl
    simp at ew; subst ew
    exact k C B' H' σ d hC (s.trans (s.st.called er ho ev cp.grow (fun b ⟨j, hj⟩ => (only j b hj).2) cp.st.le (qw.rePin (p := r0.isPin)) (by rw [RV.rePin_own]; exact h1own) (RV.rePin_pin h1own)).1) hd
end
end Lb
/-! Operations: numbers, texts, lists, tuples. -/
namespace Lb
open PySem PySem.Spec PyProof.Rows L2
section
variable {KK : PySem.W.Frag} {mg : Mg} {B H : Hp}
theorem res_lst (le : Sub B H) {p : Addr} {xs : List V} {ds : List DV} (hn : H p = none) (r : Reps mg B xs ds) : Res mg B H (.ref p) (.ol false ds) B (upd H p (.lst xs)) :=
  ⟨.own le hn, .ol (le.none hn) upd_same r, fun b _ e => by cases e; exact hn⟩
theorem res_dct (le : Sub B H) {p : Addr} {xs : List (Key × V)} {ds : List (Key × DV)} (hn : H p = none) (r : RepK mg B xs ds) : Res mg B H (.ref p) (.od false ds) B (upd H p (.dK xs)) :=
  ⟨.own le hn, .od (le.none hn) upd_same r, fun b _ e => by cases e; exact hn⟩
theorem res_tup (le : Sub B H) {p : Addr} {xs : List V} {ds : List DV} (hn : H p = none) (r : Reps mg B xs ds) : Res mg B H (.ref p) (.v (.tup ds)) (upd B p (.tup xs)) (upd H p (.tup xs)) :=
  have n : New B H (upd B p (.tup xs)) (upd H p (.tup xs)) := .alloc le hn
  ⟨n, .v (.tup upd_same (r.mono n.sub)), fun b h => by cases h⟩
theorem res_int (le : Sub B H) (i : Int) : Res mg B H (.int i) (.v (.int i)) B H := .v le (.int i)
theorem res_bl (le : Sub B H) (b : Bool) : Res mg B H (.bl b) (.v (.bl b)) B H := .v le (.bl b)
theorem res_str (le : Sub B H) (x : Str) : Res mg B H (.str x) (.v (.str x)) B H := .v le (.str x)
end
/-- + -/
def fAdd : DV → DV → Option RV
  | .int i, .int j => some (.v (.int (i + j)))
  | .str a, .str b => if a.length + b.length ≤ sizeLine then some (.v (.str (a ++ b))) else none
  | .lst xs, .lst ys => if xs.length + ys.length ≤ sizeLine then some (.ol false (xs ++ ys)) else none
  | .tup (x :: xs), .tup (y :: ys) => if (x :: xs).length + (y :: ys).length ≤ sizeLine then some (.v (.tup ((x :: xs) ++ (y :: ys)))) else none
  | _, _ => none
def rAddA (K : PySem.W.Frag) : R2 := fun x y H Q => (∃ i j, x = .int i ∧ y = .int j ∧ Q (.int (i + j)) H) ∨ (∃ i j, x = .str i ∧ y = .str j ∧ i.length + j.length ≤ sizeLine ∧ Q (.str (i ++ j)) H) ∨ rCat x y H Q ∨ rCatT K x y H Q
theorem op_addA {X : Cx} : OpR X (binaryOp .Add) (rAddA X.K) := op_add.or (op_add_str.or (op_cat.or op_catT))
theorem prim_add {mg : Mg} {K : PySem.W.Frag} : Prim2 mg (rAddA K) fAdd := fun B H x y dx dy rv Q le vx vy e k => by
  unfold fAdd at e
  split at e
  · cases e
    exact .inl ⟨_, _, vx.int, vy.int, k _ _ _ (res_int le _)⟩
  · split at e
    · cases e
      exact .inr (.inl ⟨_, _, vx.str, vy.str, ‹_›, k _ _ _ (res_str le _)⟩)
    · cases e
  · split at e
    · cases e
      obtain ⟨a, xs', rfl, ha, ra⟩ := vx.list le
      obtain ⟨b, ys', rfl, hb, rb⟩ := vy.list le
      exact .inr (.inr (.inl ⟨_, _, _, _, rfl, rfl, ha, hb, by rw [ra.length, rb.length]; assumption, fun p hp => k _ _ _ (res_lst le hp (ra.append rb))⟩))
    · cases e
  · split at e
    · cases e
      obtain ⟨a, xs', rfl, ha, ra⟩ := vx.tuple le
      obtain ⟨b, ys', rfl, hb, rb⟩ := vy.tuple le
      refine .inr (.inr (.inr ⟨_, _, _, _, rfl, rfl, SqT.of ha, SqT.of hb, ?_, by rw [ra.length, rb.length]; assumption, fun z => ?_, fun _ p hp => k _ _ _ (res_tup le hp (ra.append rb))⟩))
      · intro z; subst z; cases ra
      · subst z; cases rb
    · cases e
  · cases e
def fSub : DV → DV → Option RV
  | .int i, .int j => some (.v (.int (i - j)))
  | _, _ => none
theorem prim_sub {mg : Mg} : Prim2 mg (rI0 fun i j => .int (i - j)) fSub := fun B H x y dx dy rv Q le vx vy e k => by
  unfold fSub at e
  split at e
  · cases e; exact ⟨_, _, vx.int, vy.int, k _ _ _ (res_int le _)⟩
  · cases e
def smallI (i : Int) : Bool := decide (i.natAbs < 18446744073709551616)
theorem smallI_le {i : Int} (h : smallI i = true) : -(2 ^ 64) < i ∧ i < 2 ^ 64 := by
  have := of_decide_eq_true h
  omega
/-- * : a factor within 2 ^ 64; a list so many times -/
def fMul : DV → DV → Option RV
  | .int i, .int j => if smallI i || smallI j then some (.v (.int (i * j))) else none
  | .lst xs, .int k => if -(2 ^ 63) ≤ k ∧ k < 2 ^ 63 ∧ xs.length * k.toNat ≤ sizeLine then some (.ol false (List.replicate k.toNat xs).flatten) else none
  | _, _ => none
theorem Reps.rep {mg : Mg} {B : Hp} {xs : List V} {ds : List DV} (r : Reps mg B xs ds) : ∀ n : Nat, Reps mg B (List.replicate n xs).flatten (List.replicate n ds).flatten
  | 0 => .nil
  | n + 1 => by
    rw [List.replicate_succ, List.replicate_succ, List.flatten_cons, List.flatten_cons]
    exact r.append (Reps.rep r n)
def rMulA : R2 := fun x y H Q => rI CMul (fun i j => .int (i * j)) x y H Q ∨ rRep x y H Q
theorem op_mulA {X : Cx} : OpR X (binaryOp .Mult) rMulA := op_mul.or op_rep
theorem prim_mul {mg : Mg} : Prim2 mg rMulA fMul := fun B H x y dx dy rv Q le vx vy e k => by
  unfold fMul at e
  split at e
  · split at e
    · rename_i h
      cases e
      refine .inl ⟨_, _, vx.int, vy.int, ?_, k _ _ _ (res_int le _)⟩
      rw [Bool.or_eq_true] at h
      exact h.imp smallI_le smallI_le
    · cases e
  · split at e
    · rename_i h
      cases e
      obtain ⟨a, xs', rfl, ha, ra⟩ := vx.list le
      exact .inr ⟨_, _, _, rfl, vy.int, ha, h.1, h.2.1, by rw [ra.length]; exact h.2.2, fun p hp => k _ _ _ (res_lst le hp (ra.rep _))⟩
    · cases e
  · cases e
def fMod : DV → DV → Option RV
  | .int i, .int j => if 0 < j then some (.v (.int (i % j))) else none
  | _, _ => none
theorem prim_mod {mg : Mg} : Prim2 mg (rI (fun _ j => 0 < j) fun i j => .int (i % j)) fMod := fun B H x y dx dy rv Q le vx vy e k => by
  unfold fMod at e
  split at e
  · split at e
    · cases e; exact ⟨_, _, vx.int, vy.int, ‹_›, k _ _ _ (res_int le _)⟩
    · cases e
  · cases e
def fDiv : DV → DV → Option RV
  | .int i, .int j => if 0 < j ∧ j < 1073741824 then some (.v (.int (i / j))) else none
  | _, _ => none
theorem prim_div {mg : Mg} : Prim2 mg (rI CDiv fun i j => .int (i / j)) fDiv := fun B H x y dx dy rv Q le vx vy e k => by
  unfold fDiv at e
  split at e
  · split at e
    · cases e; exact ⟨_, _, vx.int, vy.int, ‹_›, k _ _ _ (res_int le _)⟩
    · cases e
  · cases e
def fPow : DV → DV → Option RV
  | .int i, .int j => if 0 ≤ j ∧ j ≤ 1000000 ∧ i.natAbs < 2 ^ 64 then some (.v (.int (i ^ j.toNat))) else none
  | _, _ => none
theorem prim_pow {mg : Mg} : Prim2 mg (rI CPow fun i j => .int (i ^ j.toNat)) fPow := fun B H x y dx dy rv Q le vx vy e k => by
  unfold fPow at e
  split at e
  · split at e
    · cases e; exact ⟨_, _, vx.int, vy.int, ‹_›, k _ _ _ (res_int le _)⟩
    · cases e
  · cases e
/-! ### comparisons of numbers -/
def fLt : DV → DV → Option Bool
  | .int i, .int j => some (decide (i < j))
  | _, _ => none
def fLe : DV → DV → Option Bool
  | .int i, .int j => some (decide (i ≤ j))
  | .str i, .str j => some (!decide (j.cps.toList < i.cps.toList))
  | _, _ => none
def fGt : DV → DV → Option Bool
  | .int i, .int j => some (decide (j < i))
  | _, _ => none
def fGe : DV → DV → Option Bool
  | .int i, .int j => some (decide (j ≤ i))
  | _, _ => none
section
variable {KK : PySem.W.Frag} {mg : Mg} {r : R2} {F : DV → DV → Option Bool}
theorem primB (h : ∀ (B H : Hp) (x y : V) (dx dy : DV) (b : Bool) (Q : VK), Sub B H → View mg B H x dx → View mg B H y dy → F dx dy = some b → Q (.bl b) H → r x y H Q) : Prim2 mg r (rvB F) := fun B H x y dx dy rv Q le vx vy e k => by
  unfold rvB at e
  cases ef : F dx dy with
  | none => rw [ef] at e; cases e
  | some b =>
    rw [ef] at e; cases e
    exact h B H x y dx dy b Q le vx vy ef (k _ _ _ (res_bl le b))
end
theorem prim_lt {mg : Mg} : Prim2 mg (rI0 fun i j => .bl (decide (i < j))) (rvB fLt) := primB fun B H x y dx dy b Q le vx vy e k => by
  unfold fLt at e
  split at e
  · cases e; exact ⟨_, _, vx.int, vy.int, k⟩
  · cases e
def rLeA : R2 := fun x y H Q => rI0 (fun i j => .bl (decide (i ≤ j))) x y H Q ∨ ∃ i j, x = .str i ∧ y = .str j ∧ Q (.bl (!decide (j.cps.toList < i.cps.toList))) H
theorem op_leA {X : Cx} : OpR X (compareOp .LtE) rLeA := op_le.or op_le_str
theorem prim_le {mg : Mg} : Prim2 mg rLeA (rvB fLe) := primB fun B H x y dx dy b Q le vx vy e k => by
  unfold fLe at e
  split at e
  · cases e; exact .inl ⟨_, _, vx.int, vy.int, k⟩
  · cases e; exact .inr ⟨_, _, vx.str, vy.str, k⟩
  · cases e
theorem prim_gt {mg : Mg} : Prim2 mg (rI0 fun i j => .bl (decide (j < i))) (rvB fGt) := primB fun B H x y dx dy b Q le vx vy e k => by
  unfold fGt at e
  split at e
  · cases e; exact ⟨_, _, vx.int, vy.int, k⟩
  · cases e
theorem prim_ge {mg : Mg} : Prim2 mg (rI0 fun i j => .bl (decide (j ≤ i))) (rvB fGe) := primB fun B H x y dx dy b Q le vx vy e k => by
  unfold fGe at e
  split at e
  · cases e; exact ⟨_, _, vx.int, vy.int, k⟩
  · cases e
/-! ### an item -/
def fIx : DV → DV → Option RV
  | .lst xs, .int i => (atI xs i).map .v
  | .tup xs, .int i => (atI xs i).map .v
  | .scr ns, .int i => (atI ns i).map fun n => .v (.int n)
  | .str z, .int i => if z.length ≤ sizeLine then (atI z.cps.toList i).map fun c => .v (.str ⟨#[c]⟩) else none
  | _, _ => none
theorem Reps.atI {mg : Mg} {B : Hp} {xs : List V} {ds : List DV} (r : Reps mg B xs ds) {i : Int} {d : DV} (h : L2.atI ds i = some d) : ∃ v, L2.atI xs i = some v ∧ Rep mg B v d := by
  unfold L2.atI at h ⊢
  rw [r.length]
  cases e : ixN ds.length i with
  | none => rw [e] at h; cases h
  | some j =>
    rw [e] at h
    exact r.getD' h
theorem View.script {mg : Mg} {B H : Hp} (le : Sub B H) {v : V} {ns : List Int} (q : View mg B H v (.scr ns)) : ∃ a, v = .ref a ∧ Rd H a (.lst (ns.map V.int)) := by
  cases q with
  | r q => cases q with | scr h => exact ⟨_, rfl, le.rdl h⟩
theorem atI_map {α β : Type} (f : α → β) (xs : List α) (i : Int) : atI (xs.map f) i = (atI xs i).map f := by
  unfold atI
  rw [List.length_map]
  cases ixN xs.length i with
  | none => rfl
  | some j => simp
theorem prim_ix {mg : Mg} {K : PySem.W.Frag} : Prim2 mg (rIx K) fIx := fun B H x y dx dy rv Q le vx vy e k => by
  unfold fIx at e
  split at e
  · obtain ⟨a, xs', rfl, ha, ra⟩ := vx.list le
    obtain ⟨d, h1, h2⟩ := Option.map_eq_some_iff.mp e
    obtain ⟨v, h3, h4⟩ := ra.atI h1
    subst h2
    exact .inl ⟨_, _, _, _, rfl, vy.int, SqL.of ha, h3, k _ _ _ (.v le h4)⟩
  · obtain ⟨a, xs', rfl, ha, ra⟩ := vx.tuple le
    obtain ⟨d, h1, h2⟩ := Option.map_eq_some_iff.mp e
    obtain ⟨v, h3, h4⟩ := ra.atI h1
    subst h2
    exact .inr (.inl ⟨_, _, _, _, rfl, vy.int, SqT.of ha, h3, k _ _ _ (.v le h4)⟩)
  · obtain ⟨a, rfl, ha⟩ := vx.script le
    obtain ⟨d, h1, h2⟩ := Option.map_eq_some_iff.mp e
    subst h2
    exact .inl ⟨_, _, _, _, rfl, vy.int, .inl ha, by rw [atI_map, h1]; rfl, k _ _ _ (res_int le _)⟩
  · split at e
    · obtain ⟨c, h1, h2⟩ := Option.map_eq_some_iff.mp e
      subst h2
      exact .inr (.inr ⟨_, _, _, vx.str, vy.int, ‹_›, h1, k _ _ _ (res_str le _)⟩)
    · cases e
  · cases e
section
variable {X : Cx} {a b : Expr} {ma mb : M Opd} {pos : Pos}
theorem px_ix (ha : PX X a ma) (hb : PX X b mb) (hs : PlainIx b := by intro _ _; rfl) : PX X (.Subscript a b pos) (M.bind ma fun x => M.bind mb fun y => op2 fIx x y) := fun W tk => PE.imp (pe_ix ix_seq (ha W tk) (hb W tk) hs) fun σ H Q ⟨B, S, st, q⟩ =>
  ⟨B, S, st, (spec_bind.mp q).imp (fun x S1 _ q v B1 H1 s hs or _ => ⟨B1, S1, s.st, (spec_bind.mp q).imp (fun y S2 _ q w B2 H2 s2 hs2 or2 _ =>
    op2_end prim_ix s hs or s2 hs2 or2 q) fun _ _ _ h => h.pre s⟩) fun _ _ _ h => h⟩
end
/-! ### built-ins of numbers -/
theorem Views.one {mg : Mg} {B H : Hp} {xs : List V} {d : DV} (q : Views mg B H xs [d]) : ∃ v, xs = [v] ∧ View mg B H v d := by
  cases q with
  | cons a b => cases b; exact ⟨_, rfl, a⟩
theorem Views.two {mg : Mg} {B H : Hp} {xs : List V} {d e : DV} (q : Views mg B H xs [d, e]) : ∃ v w, xs = [v, w] ∧ View mg B H v d ∧ View mg B H w e := by
  cases q with
  | cons a b =>
    cases b with
    | cons b c => cases c; exact ⟨_, _, rfl, a, b⟩
def fInt : List DV → Option RV
  | [.int i] => some (.v (.int i))
  | [.bl b] => some (.v (.int (if b then 1 else 0)))
  | _ => none
theorem prim_int {mg : Mg} : PrimN mg (fun xs H Q => (∃ i, xs = [.int i] ∧ Q (.int i) H) ∨ ∃ k, xs = [.bl k] ∧ Q (.int (if k then 1 else 0)) H) fInt := fun B H xs ds rv Q le vs e k => by
  unfold fInt at e
  split at e
  · cases e
    obtain ⟨v, rfl, q⟩ := vs.one
    exact .inl ⟨_, by rw [q.int], k _ _ _ (res_int le _)⟩
  · cases e
    obtain ⟨v, rfl, q⟩ := vs.one
    exact .inr ⟨_, by rw [q.bl], k _ _ _ (res_int le _)⟩
  · cases e
def fAbs : List DV → Option RV
  | [.int i] => some (.v (.int (if i < 0 then -i else i)))
  | _ => none
theorem prim_abs {mg : Mg} : PrimN mg (fun xs H Q => ∃ i, xs = [.int i] ∧ Q (.int (if i < 0 then -i else i)) H) fAbs := fun B H xs ds rv Q le vs e k => by
  unfold fAbs at e
  split at e
  · cases e
    obtain ⟨v, rfl, q⟩ := vs.one
    exact ⟨_, by rw [q.int], k _ _ _ (res_int le _)⟩
  · cases e
def fMax : List DV → Option RV
  | [.int i, .int j] => some (.v (.int (if j > i then j else i)))
  | _ => none
theorem prim_max {mg : Mg} : PrimN mg (fun xs H Q => ∃ i j, xs = [.int i, .int j] ∧ Q (.int (if j > i then j else i)) H) fMax := fun B H xs ds rv Q le vs e k => by
  unfold fMax at e
  split at e
  · cases e
    obtain ⟨v, w, rfl, q, q'⟩ := vs.two
    exact ⟨_, _, by rw [q.int, q'.int], k _ _ _ (res_int le _)⟩
  · cases e
def fMin : List DV → Option RV
  | [.int i, .int j] => some (.v (.int (if j < i then j else i)))
  | _ => none
theorem prim_min {mg : Mg} : PrimN mg (fun xs H Q => ∃ i j, xs = [.int i, .int j] ∧ Q (.int (if j < i then j else i)) H) fMin := fun B H xs ds rv Q le vs e k => by
  unfold fMin at e
  split at e
  · cases e
    obtain ⟨v, w, rfl, q, q'⟩ := vs.two
    exact ⟨_, _, by rw [q.int, q'.int], k _ _ _ (res_int le _)⟩
  · cases e
def fDivmod : List DV → Option RV
  | [.int i, .int j] => if 0 < j ∧ j < 1073741824 then some (.v (.tup [.int (i / j), .int (i % j)])) else none
  | _ => none
theorem prim_divmod {mg : Mg} : PrimN mg (fun xs H Q => ∃ i j, xs = [.int i, .int j] ∧ CDiv i j ∧ ∀ p, H p = none → Q (.ref p) (upd H p (.tup [.int (i / j), .int (i % j)]))) fDivmod := fun B H xs ds rv Q le vs e k => by
  unfold fDivmod at e
  split at e
  · split at e
    · cases e
      obtain ⟨v, w, rfl, q, q'⟩ := vs.two
      exact ⟨_, _, by rw [q.int, q'.int], ‹_›, fun p hp => k _ _ _ (res_tup le hp (.cons (.int _) (.cons (.int _) .nil)))⟩
    · cases e
  · cases e
/-- len -/
def fLen : List DV → Option RV
  | [.lst xs] => some (.v (.int xs.length))
  | [.tup xs] => some (.v (.int xs.length))
  | [.scr xs] => some (.v (.int xs.length))
  | [.str z] => if z.length ≤ sizeLine then some (.v (.int z.length)) else none
  | _ => none
end Lb
/-! Targets. -/
namespace Lb
open PySem PySem.Spec PyProof.Rows L2
abbrev GM := DV → Sl → Option Sl
/-- ts: the slots that it may set -/
def tGM (KK : PySem.W.Frag) (mg : Mg) (ts : List Nat) (g : GM) : TG := fun v σ H Q => ∃ B S d S', StR KK mg B H σ S ∧ Rep mg B v d ∧ g d S = some S' ∧ ∀ B' H' σ', Stp KK mg B H σ S B' H' σ' S' → Has S S' → (∀ i, i ∉ ts → σ'[i]? = σ[i]?) → Q σ' H'
def GX (X : Cx) (tg : Expr) (ts : List Nat) (g : GM) : Prop := PG X tg (tGM X.K X.mg ts g)
abbrev GMs := List DV → Sl → Option Sl
def tGMs (KK : PySem.W.Frag) (mg : Mg) (ts : List Nat) (g : GMs) : TGs := fun vs σ H Q => ∃ B S ds S', StR KK mg B H σ S ∧ Reps mg B vs ds ∧ g ds S = some S' ∧ ∀ B' H' σ', Stp KK mg B H σ S B' H' σ' S' → Has S S' → (∀ i, i ∉ ts → σ'[i]? = σ[i]?) → Q σ' H'
def GXs (X : Cx) (tgs : List Expr) (ts : List Nat) (g : GMs) : Prop := PGs X tgs (tGMs X.K X.mg ts g)
theorem PG.imp {X : Cx} {e : Expr} {t t' : TG} (h : PG X e t) (i : ∀ v σ H Q, t' v σ H Q → t v σ H Q) : PG X e t' := ⟨fun p s σ H v u Q I r q => h.run p s σ H v u Q I r (i v σ H Q q)⟩
theorem PGs.imp {X : Cx} {e : List Expr} {t t' : TGs} (h : PGs X e t) (i : ∀ v σ H Q, t' v σ H Q → t v σ H Q) : PGs X e t' := ⟨fun p s σ H v u Q I r q => h.run p s σ H v u Q I r (i v σ H Q q)⟩
def storeD (i : Nat) : GM := fun d S => match S[i]? with
  | none => none
  | some x => if (x.map RV.isPin).getD false then none else some (S.set i (some (.v d)))
theorem storeD_spec {i : Nat} {d : DV} {S S' : Sl} (h : storeD i d S = some S') : ¬ PinAt S i ∧ S' = S.set i (some (.v d)) := by
  unfold storeD at h
  cases e : S[i]? with
  | none => rw [e] at h; cases h
  | some x =>
    rw [e] at h
    dsimp only at h
    split at h
    · cases h
    · rename_i hn
      refine ⟨fun ⟨r', h1, h2⟩ => ?_, (Option.some.inj h).symm⟩
      rw [e] at h1; cases h1
      simp only [Option.map_some, Option.getD_some] at hn
      exact hn h2
theorem has_set (S : Sl) (r : RV) {i : Nat} : Has S (S.set i (some r)) := fun j ⟨r', e⟩ => by
  by_cases hj : j = i
  · subst hj
    exact ⟨r, List.getElem?_set_self (List.getElem?_eq_some_iff.mp e).1⟩
  · exact ⟨r', by rw [set_other hj]; exact e⟩
theorem gx_name {X : Cx} {pos : Pos} (i : Nat) {x : Str} (hN : X.N.Nodup) (hi : X.N[i]? = some x) (hx : Loc X.env.scope x) (hf : X.fn x = true ∨ X.env.scope.names.lookup x = some .local := by first | exact .inl rfl | exact .inr rfl | assumption) : GX X (.Name x pos) [i] (storeD i) :=
  PG.imp (pg_name hN hi hx hf) fun v σ H Q ⟨B, S, d, S', st, r, e, k⟩ => by
    obtain ⟨hp, rfl⟩ := storeD_spec e
    exact k B H _ ((Stp.refl st).set (.v r) (fun a h => by cases h) (fun a h => by cases h) hp rfl) (has_set _ _) fun j hj => List.getElem?_set_ne (fun z => hj (by simp [z]))
/-- xs[i] = d for what a slot holds alone -/
def storeAt (j : Nat) (mi : M Opd) : GM := fun d S => match M.bind (getSl j) (fun _ => mi) S with
  | .ok o S1 => match o.dv S1, S1[j]? with
    | some (.int k), some (some (.ol p xs)) => (ixN xs.length k).map fun n => S1.set j (some (.ol p (xs.set n d)))
    | _, _ => none
  | _ => none
theorem storeAt_spec {j : Nat} {mi : M Opd} {d : DV} {S S' : Sl} (h : storeAt j mi d S = some S') : ∃ o S1 k p xs n, (∃ r : RV, S[j]? = some (some r)) ∧ mi S = .ok o S1 ∧ o.dv S1 = some (.int k) ∧ S1[j]? = some (some (.ol p xs)) ∧ ixN xs.length k = some n ∧ S' = S1.set j (some (.ol p (xs.set n d))) := by
  unfold storeAt at h
  split at h
  · rename_i o S1 h1
    split at h
    · rename_i k p xs h2 h3
      obtain ⟨n, h4, h5⟩ := Option.map_eq_some_iff.mp h
      unfold M.bind getSl at h1
      cases e : S[j]? with
      | none => rw [e] at h1; cases h1
      | some z =>
        cases z with
        | none => rw [e] at h1; cases h1
        | some r =>
          rw [e] at h1
          exact ⟨o, S1, k, p, xs, n, ⟨r, rfl⟩, h1, h2, h3, h4, h5.symm⟩
    · cases h
  · cases h
abbrev W0 : WX := fun _ _ _ _ => False
section
variable {X : Cx} {z : Str} {zp pos : Pos} {e : Expr} {mi : M Opd}
theorem getSl_ok {j : Nat} {S : Sl} {r : RV} (h : S[j]? = some (some r)) : getSl j S = .ok (.sl j) S := by unfold getSl; rw [h]
theorem gx_at (j : Nat) (hz : PX X (.Name z zp) (getSl j)) (hi : PX X e mi)
    (ha : ∀ v, assign (.Subscript (.Name z zp) e pos) X.env v = (do
      let ov ← holding [v] (eval (.Name z zp) X.env)
      let iv ← holding [v, ov] (eval e X.env)
      standAt pos
      holding [v, ov, iv] (setItem ov iv v)
      release [v, ov, iv] []) := by intro _; rfl) : GX X (.Subscript (.Name z zp) e pos) [] (storeAt j mi) := by
  refine PG.imp (pg_sub (hz W0 takes0) (hi W0 takes0) set_list ha) fun v σ H Q ⟨B, S, d, S', st, r, e, k⟩ => ?_
  obtain ⟨o, S1, i, p, xs, n, ⟨r0, h0⟩, h1, h2, h3, h4, rfl⟩ := storeAt_spec e
  refine ⟨B, S, st, ?_⟩
  rw [getSl_ok h0]
  intro ov B1 H1 s1 hs1 or1 _
  refine ⟨B1, S, s1.st, ?_⟩
  rw [h1]
  intro iv B2 H2 s2 hs2 or2 _
  obtain rfl : iv = .int i := (or2.view s2.st h2).int
  have ev : σ[j]? = some (some ov) := by cases or1 with | sl e _ => exact e
  obtain ⟨v', e2, q0⟩ := s2.st.at_ j _ h3
  rw [ev] at e2; cases e2
  cases q0 with
  | @ol a _ ys _ hb hh q =>
    exact ⟨a, ys, i, n, rfl, rfl, hh, by rw [q.length]; exact h4, k B2 _ σ ((s1.trans s2).mutL h3 ev (q.set n (r.mono (s1.grow.sub.trans s2.grow.sub)))) (hs2.trans (has_set _ _)) fun _ _ => rfl⟩
end
/-! ### a, b = .. -/
def gNilM : GMs := fun ds S => match ds with
  | [] => some S
  | _ => none
def gConsM (g : GM) (gs : GMs) : GMs := fun ds S => match ds with
  | d :: r => (g d S).bind (gs r)
  | [] => none
def gTupM (n : Nat) (gs : GMs) : GM := fun d S => match d with
  | .tup ds => if ds.length = n then gs ds S else none
  | _ => none
section
variable {X : Cx} {e : Expr} {es : List Expr} {g : GM} {gs : GMs} {ts us : List Nat} {pos : Pos} {k n : Nat}
theorem gxs_nil : GXs X [] [] gNilM := PGs.imp pgs_nil fun vs σ H Q ⟨B, S, ds, S', st, r, e, k⟩ => by
  cases r with
  | nil => cases e; exact ⟨rfl, k B H σ (.refl st) (.refl S) fun _ _ => rfl⟩
  | cons _ _ => cases e
theorem gxs_cons (h : GX X e ts g) (hs : GXs X es us gs) (h0 : (assignEach (e :: es) X.env).map (·.2) = assign e X.env :: (assignEach es X.env).map (·.2) := by rfl) : GXs X (e :: es) (ts ++ us) (gConsM g gs) :=
  PGs.imp (pgs_cons h hs h0) fun vs σ H Q ⟨B, S, ds, S', st, r, e, k⟩ => by
    cases r with
    | nil => cases e
    | @cons x d xs ds r rs =>
      obtain ⟨S1, e1, e2⟩ := Option.bind_eq_some_iff.mp e
      exact ⟨x, xs, rfl, B, S, d, S1, st, r, e1, fun B1 H1 σ1 s1 h1 o1 => ⟨B1, S1, ds, S', s1.st, rs.mono s1.grow.sub, e2, fun B2 H2 σ2 s2 h2 o2 => k B2 H2 σ2 (s1.trans s2) (h1.trans h2) fun i hi => (o2 i fun z => hi (List.mem_append_right _ z)).trans (o1 i fun z => hi (List.mem_append_left _ z))⟩⟩
theorem gx_tup (hc : X.calm = true) (h : GXs X es ts gs) (hn : (assignEach es X.env).length = n := by rfl) (hst : (assignEach es X.env).findIdx? (·.1) = none := by rfl) : GX X (.Tuple es k pos) ts (gTupM n gs) :=
  PG.imp (pg_tup hc h hn hst) fun v σ H Q ⟨B, S, d, S', st, r, e, k⟩ => by
    unfold gTupM at e
    split at e
    · split at e
      · rename_i hl
        obtain ⟨a, xs, rfl, ha, ra⟩ := (View.r r : View X.mg B H v _).tuple st.le
        exact ⟨a, xs, rfl, SqT.of ha, by rw [ra.length]; exact hl, B, S, _, S', st, ra, e, k⟩
      · cases e
    · cases e
def gSM (g : GM) (d : DV) : SM := fun S => match g d S with
  | some S' => .nx S'
  | none => .stuck
variable {tg : Expr} {me : M DV}
theorem sx_asg (he : FX X e me) (hg : GX X tg ts g) (hs : swapsWithSole [tg] e pos.line X.env = pure false := by rfl) (hw : swappedStores [tg] e X.env = pure none := by rfl)
    (h1 : (assignEach [tg] X.env).map (·.2) = [assign tg X.env] := by rfl) : SX X (.Assign [tg] e pos) (M.thn me (gSM g)) := fun W tk pp => PS.imp (ps_asg (he W tk) hg hs hw h1) fun D σ H ⟨B, S, x, q⟩ =>
  ⟨B, S, x, (spec_thn.mp q).imp (fun d S1 _ q v B1 H1 s hs r => by
    unfold gSM at q
    cases eg : g d S1 with
    | none => rw [eg] at q; exact q.elim
    | some S2 =>
      rw [eg] at q
      exact ⟨B1, S1, d, S2, s.st, r, eg, fun B2 H2 σ2 s2 _ _ => q B2 H2 σ2 (s.trans s2)⟩) fun _ _ _ h => h⟩
end
end Lb
/-! What is walked; for. -/
namespace Lb
open PySem PySem.Spec PyProof.Rows L2
/-- what is locked stays so -/
def Lk (H H' : Hp) : Prop := ∀ a o kvs, H a = some (.frz o (.dK kvs)) → H' a = some (.frz o (.dK kvs))
theorem Lk.refl (H : Hp) : Lk H H := fun _ _ _ h => h
theorem StR.notOwnF {KK : PySem.W.Frag} {mg : Mg} {B H : Hp} {σ : Sg} {S : Sl} (x : StR KK mg B H σ S) {a : Addr} {o : Obj} {u : HO} (h : H a = some (.frz o u)) : ¬ OwnA σ S a := fun ⟨i, ⟨r, e, hr⟩, e2⟩ => by
  obtain ⟨v, e1, q⟩ := x.at_ i r e
  rw [e2] at e1
  cases e1
  cases q with
  | v q => cases hr
  | ol _ h' _ => rw [h] at h'; cases h'
  | od _ h' _ => rw [h] at h'; cases h'
  | oi _ _ h' _ => rw [h] at h'; cases h'
theorem Stp.lk {KK : PySem.W.Frag} {mg : Mg} {B H B' H' : Hp} {σ σ' : Sg} {S S' : Sl} (x : StR KK mg B H σ S) (s : Stp KK mg B H σ S B' H' σ' S') : Lk H H' := fun a o kvs h => s.grow.keep a _ h (x.notOwnF h) rfl
/-- from (B, H) on J yields just ds, whatever is made besides -/
structure Yields (mg : Mg) (B H : Hp) (J : It) (ds : List DV) : Prop where
  go : ∀ (B' H' : Hp), Sub B B' → Sub B' H' → Lk H H' → ∀ i, i < ds.length → J.go i H'
  stop : ∀ (B' H' : Hp), Sub B B' → Sub B' H' → Lk H H' → J.stop ds.length H'
  yld : ∀ (B' H' : Hp), Sub B B' → Sub B' H' → Lk H H' → ∀ (i : Nat) (x : V) (H2 : Hp), J.yld i H' x H2 → ∀ d, ds[i]? = some d → ∃ B2, New B' H' B2 H2 ∧ Rep mg B2 x d
def tI (KK : PySem.W.Frag) (mg : Mg) (m : M (List DV)) (W : WX) : TI := fun σ H R => ∃ B S, StR KK mg B H σ S ∧ (m S).spec
  (fun ds S' => ∀ J B' H', Stp KK mg B H σ S B' H' σ S' → Has S S' → Yields mg B' H' J ds → R J H') (xPost KK mg W B H σ S)
def IX (X : Cx) (tg iter : Expr) (m : M (List DV)) : Prop := ∀ W, Takes X W → PI X tg iter (tI X.K X.mg m W)
theorem PI.imp {X : Cx} {tg e : Expr} {t t' : TI} (h : PI X tg e t) (i : ∀ σ H R, t' σ H R → t σ H R) : PI X tg e t' := ⟨fun p s σ H R I q => h.run p s σ H R I (i σ H R q)⟩
theorem PI.or {X : Cx} {tg e : Expr} {t t' : TI} (h : PI X tg e t) (h' : PI X tg e t') : PI X tg e (fun σ H R => t σ H R ∨ t' σ H R) := ⟨fun p s σ H R I q => q.elim (h.run p s σ H R I) (h'.run p s σ H R I)⟩
/-- what may be walked as it is -/
def seqDV : DV → Option (List DV)
  | .lst ds => some ds
  | .tup ds => some ds
  | _ => none
def asSeq (d : DV) : M (List DV) := M.of (seqDV d)
theorem of_spec {α : Type} {o : Option α} {S : Sl} {K : α → Sl → Prop} {E : Str → List (Str × DV) → Sl → Prop} (h : (M.of o S).spec K E) : ∃ a, o = some a ∧ K a S := by
  cases o with
  | none => exact h.elim
  | some a => exact ⟨a, rfl, h⟩
section
variable {KK : PySem.W.Frag} {mg : Mg} {B H : Hp} {a b : Addr} {xs ys : List V} {ds es : List DV} {K : PySem.W.Frag}
theorem there {o : HO} {B B' H' : Hp} {a : Addr} (h : B a = some o) (s : solid o = true) (s1 : Sub B B') (s2 : Sub B' H') : H' a = some o := s2.keep _ _ (s1.keep _ _ h s) s
theorem reps_ix {i : Nat} (r : Reps mg B xs ds) (h : i < ds.length) : ∃ x, xs[i]? = some x := ⟨xs[i]'(by rw [r.length]; exact h), List.getElem?_eq_getElem _⟩
theorem yields_lst (h : B a = some (.lst xs)) (r : Reps mg B xs ds) : Yields mg B H (Itl K a) ds where
  go := fun B' H' s1 s2 _ i hi => by
    obtain ⟨x, hx⟩ := reps_ix r hi
    exact ⟨xs, x, SqL.of (there h rfl s1 s2), hx⟩
  stop := fun B' H' s1 s2 _ => ⟨xs, SqL.of (there h rfl s1 s2), by rw [r.length]; exact Nat.le_refl _⟩
  yld := fun B' H' s1 s2 _ i x H2 ⟨e, y⟩ d hd => by
    subst e
    refine ⟨B', .refl s2, ?_⟩
    have hx := y xs (SqL.of (there h rfl s1 s2))
    obtain ⟨d', h1, h2⟩ := (r.mono s1).get hx
    rw [hd] at h1; cases h1
    exact h2
theorem yields_tup (h : B a = some (.tup xs)) (r : Reps mg B xs ds) : Yields mg B H (Itt K a) ds where
  go := fun B' H' s1 s2 _ i hi => by
    obtain ⟨x, hx⟩ := reps_ix r hi
    exact ⟨xs, x, SqT.of (there h rfl s1 s2), hx⟩
  stop := fun B' H' s1 s2 _ => ⟨xs, SqT.of (there h rfl s1 s2), by rw [r.length]; exact Nat.le_refl _⟩
  yld := fun B' H' s1 s2 _ i x H2 ⟨e, y⟩ d hd => by
    subst e
    refine ⟨B', .refl s2, ?_⟩
    have hx := y xs (SqT.of (there h rfl s1 s2))
    obtain ⟨d', h1, h2⟩ := (r.mono s1).get hx
    rw [hd] at h1; cases h1
    exact h2
/-- lo, lo + 1, .. as data -/
def rangeDV (lo : Int) (n : Nat) : List DV := (List.range n).map fun (i : Nat) => .int (lo + (i : Int))
theorem range_get {lo : Int} {n i : Nat} {d : DV} (h : (rangeDV lo n)[i]? = some d) : d = .int (lo + (i : Int)) := by
  unfold rangeDV at h
  rw [List.getElem?_map] at h
  cases e : (List.range n)[i]? with
  | none => rw [e] at h; cases h
  | some j =>
    rw [e] at h
    have hj : i < n := by simpa using (List.getElem?_eq_some_iff.mp e).1
    rw [List.getElem?_range hj] at e
    cases e
    exact (Option.some.inj h).symm
theorem yields_range {lo : Int} {n : Nat} : Yields mg B H (Itr lo n) (rangeDV lo n) where
  go := fun B' H' s1 s2 _ i hi => by show i < n; simpa [rangeDV] using hi
  stop := fun B' H' s1 s2 _ => by show n ≤ _; simp [rangeDV]
  yld := fun B' H' s1 s2 _ i x H2 ⟨e, y⟩ d hd => by
    subst e
    subst y
    rw [range_get hd]
    exact ⟨B', .refl s2, .int _⟩
def enumDV (ds : List DV) : List DV := ds.zipIdx.map fun p => .tup [.int (p.2 : Nat), p.1]
theorem enum_get {ds : List DV} {i : Nat} {d : DV} (h : (enumDV ds)[i]? = some d) : ∃ e, ds[i]? = some e ∧ d = .tup [.int (i : Nat), e] := by
  unfold enumDV at h
  rw [List.getElem?_map, List.getElem?_zipIdx] at h
  cases e : ds[i]? with
  | none => rw [e] at h; cases h
  | some x => rw [e] at h; simp at h; exact ⟨x, rfl, h.symm⟩
theorem yields_enum (h : B a = some (.lst xs)) (r : Reps mg B xs ds) : Yields mg B H (Ite K a) (enumDV ds) where
  go := fun B' H' s1 s2 _ i hi => by
    obtain ⟨x, hx⟩ := reps_ix r (by simpa [enumDV] using hi)
    exact ⟨xs, x, SqL.of (there h rfl s1 s2), hx⟩
  stop := fun B' H' s1 s2 _ => ⟨xs, SqL.of (there h rfl s1 s2), by rw [r.length]; simp [enumDV]⟩
  yld := fun B' H' s1 s2 _ i x H2 ⟨T, z, e1, e2, e3, y⟩ d hd => by
    subst e1; subst e3
    obtain ⟨e, h1, rfl⟩ := enum_get hd
    have hz := y xs (SqL.of (there h rfl s1 s2))
    obtain ⟨d', h3, h4⟩ := (r.mono s1).get hz
    rw [h1] at h3; cases h3
    have n : New B' H' (upd B' T (.tup [.int (i : Nat), z])) (upd H' T (.tup [.int (i : Nat), z])) := .alloc s2 e2
    exact ⟨_, n, .tup upd_same (.cons (.int _) (.cons (h4.mono n.sub) .nil))⟩
def zipDV (ds es : List DV) : List DV := (ds.zip es).map fun p => .tup [p.1, p.2]
theorem zip_get {ds es : List DV} {i : Nat} {d : DV} (h : (zipDV ds es)[i]? = some d) : ∃ x y, ds[i]? = some x ∧ es[i]? = some y ∧ d = .tup [x, y] := by
  unfold zipDV at h
  rw [List.getElem?_map] at h
  cases e : (ds.zip es)[i]? with
  | none => rw [e] at h; cases h
  | some p =>
    rw [e] at h
    obtain ⟨x, y⟩ := p
    rw [List.getElem?_zip_eq_some] at e
    exact ⟨x, y, e.1, e.2, (Option.some.inj h).symm⟩
theorem yields_zip (h : B a = some (.lst xs)) (r : Reps mg B xs ds) (h' : B b = some (.lst ys)) (r' : Reps mg B ys es) : Yields mg B H (Itz K a b) (zipDV ds es) where
  go := fun B' H' s1 s2 _ i hi => by
    have hl : i < ds.length ∧ i < es.length := by simp [zipDV] at hi; omega
    obtain ⟨x, hx⟩ := reps_ix r hl.1
    obtain ⟨y, hy⟩ := reps_ix r' hl.2
    exact ⟨xs, ys, x, y, SqL.of (there h rfl s1 s2), SqL.of (there h' rfl s1 s2), hx, hy⟩
  stop := fun B' H' s1 s2 _ => ⟨xs, ys, SqL.of (there h rfl s1 s2), SqL.of (there h' rfl s1 s2), by rw [r.length, r'.length]; simp [zipDV]; omega⟩
  yld := fun B' H' s1 s2 _ i x H2 ⟨T, z, w, e1, e2, e3, y, y'⟩ d hd => by
    subst e1; subst e3
    obtain ⟨u, v, h1, h2, rfl⟩ := zip_get hd
    have hz := y xs (SqL.of (there h rfl s1 s2))
    have hw := y' ys (SqL.of (there h' rfl s1 s2))
    obtain ⟨d1, h3, h4⟩ := (r.mono s1).get hz
    rw [h1] at h3; cases h3
    obtain ⟨d2, h5, h6⟩ := (r'.mono s1).get hw
    rw [h2] at h5; cases h5
    have n : New B' H' (upd B' T (.tup [z, w])) (upd H' T (.tup [z, w])) := .alloc s2 e2
    exact ⟨_, n, .tup upd_same (.cons (h4.mono n.sub) (.cons (h6.mono n.sub) .nil))⟩
end
section
variable {X : Cx} {tg iter e e2 : Expr} {me me2 : M DV} {ms : M (List Opd)} {p pos : Pos}
/-- a list or a tuple -/
theorem ix_seq' (he : FX X iter me) : IX X tg iter (M.bind me asSeq) := fun W tk => PI.imp (PI.or (pi_list (he W tk)) (pi_tup (he W tk))) fun σ H R ⟨B, S, st, q⟩ => by
  have q := spec_bind.mp q
  cases em : me S with
  | stuck => rw [em] at q; exact q.elim
  | exc c fs S' =>
    rw [em] at q
    exact .inl ⟨B, S, st, by rw [em]; exact q⟩
  | ok d S1 =>
    rw [em] at q
    obtain ⟨ds, e1, k⟩ := of_spec q
    cases d with
    | lst ds' =>
      cases e1
      refine .inl ⟨B, S, st, ?_⟩
      rw [em]
      intro v B1 H1 s hs r
      cases r with
      | lst h r => exact ⟨_, rfl, ⟨_, SqL.of (s.st.le.keep _ _ h rfl)⟩, k _ B1 H1 s hs (yields_lst h r)⟩
    | tup ds' =>
      cases e1
      refine .inr ⟨B, S, st, ?_⟩
      rw [em]
      intro v B1 H1 s hs r
      cases r with
      | tup h r => exact ⟨_, rfl, ⟨_, SqT.of (s.st.le.keep _ _ h rfl)⟩, k _ B1 H1 s hs (yields_tup h r)⟩
    | _ => cases e1
/-- told by natAbs: worked out over a symbol it stops at once -/
def okR (i : Int) : Bool := decide (i.natAbs < 4611686018427387904)
theorem okR_le {i : Int} (h : okR i = true) : -(2 ^ 62) ≤ i ∧ i < 2 ^ 62 := by
  have := of_decide_eq_true h
  omega
def asRange1 (ds : List DV) : M (List DV) := M.of (match ds with
  | [.int j] => if okR j then some (rangeDV 0 j.toNat) else none
  | _ => none)
def asRange2 (ds : List DV) : M (List DV) := M.of (match ds with
  | [.int i, .int j] => if okR i && okR j then some (rangeDV i (j - i).toNat) else none
  | _ => none)
variable {fs : M (List DV)}
theorem ix_range1 (hg : Gl X "range") (hm : X.mg "range" = none) (ha : FXs X [e] fs) (hs : starEach [e] X.env = [(false, eval e X.env)] := by rfl) : IX X tg (.Call (.Name "range" p) [e] [] pos) (M.bind fs asRange1) := fun W tk => PI.imp (pi_range1 hg hm (ha W tk) hs) fun σ H R ⟨B, S, st, q⟩ =>
  ⟨B, S, st, (spec_bind.mp q).imp (fun ds S1 _ q vs B1 H1 s hs r => by
    obtain ⟨l, e1, k⟩ := of_spec q
    split at e1
    · split at e1
      · rename_i h
        cases e1
        cases r with
        | cons r r' =>
          cases r'
          cases r
          have h := okR_le h
          exact ⟨_, rfl, h.1, h.2, k _ B1 H1 s hs yields_range⟩
      · cases e1
    · cases e1) fun _ _ _ h => h⟩
theorem ix_range2 (hg : Gl X "range") (hm : X.mg "range" = none) (ha : FXs X [e, e2] fs) (hs : starEach [e, e2] X.env = [(false, eval e X.env), (false, eval e2 X.env)] := by rfl) (hs2 : starEach [e2] X.env = [(false, eval e2 X.env)] := by rfl) :
    IX X tg (.Call (.Name "range" p) [e, e2] [] pos) (M.bind fs asRange2) := fun W tk => PI.imp (pi_range2 hg hm (ha W tk) hs hs2) fun σ H R ⟨B, S, st, q⟩ =>
  ⟨B, S, st, (spec_bind.mp q).imp (fun ds S1 _ q vs B1 H1 s hs r => by
    obtain ⟨l, e1, k⟩ := of_spec q
    split at e1
    · split at e1
      · rename_i h
        cases e1
        cases r with
        | cons r r' =>
          cases r' with
          | cons r' r'' =>
            cases r''
            cases r
            cases r'
            rw [Bool.and_eq_true] at h
            have h1 := okR_le h.1
            have h2 := okR_le h.2
            exact ⟨_, _, rfl, ⟨h1.1, h1.2, h2.1, h2.2⟩, k _ B1 H1 s hs yields_range⟩
      · cases e1
    · cases e1) fun _ _ _ h => h⟩
def asEnum (ds : List DV) : M (List DV) := M.of (match ds with
  | [.lst xs] => some (enumDV xs)
  | _ => none)
def asZip (ds : List DV) : M (List DV) := M.of (match ds with
  | [.lst xs, .lst ys] => some (zipDV xs ys)
  | _ => none)
theorem ix_enum {elts : List Expr} {kk : Nat} {tpos : Pos} (hg : Gl X "enumerate") (hm : X.mg "enumerate" = none) (ha : FXs X [e] fs) (hs : starEach [e] X.env = [(false, eval e X.env)] := by rfl) :
    IX X (.Tuple elts kk tpos) (.Call (.Name "enumerate" p) [e] [] pos) (M.bind fs asEnum) := fun W tk => PI.imp (pi_enum hg hm (ha W tk) hs) fun σ H R ⟨B, S, st, q⟩ =>
  ⟨B, S, st, (spec_bind.mp q).imp (fun ds S1 _ q vs B1 H1 s hs r => by
    obtain ⟨l, e1, k⟩ := of_spec q
    split at e1
    · cases e1
      cases r with
      | cons r r' =>
        cases r'
        cases r with
        | lst h r => exact ⟨_, _, rfl, SqL.of (s.st.le.keep _ _ h rfl), k _ B1 H1 s hs (yields_enum h r)⟩
    · cases e1) fun _ _ _ h => h⟩
theorem ix_zip {elts : List Expr} {kk : Nat} {tpos : Pos} (hg : Gl X "zip") (hm : X.mg "zip" = none) (ha : FXs X [e, e2] fs)
    (hs : starEach [e, e2] X.env = (false, eval e X.env) :: starEach [e2] X.env := by rfl) (hpl : (backTo pos (starEach [e2] X.env)).any (·.1) = false := by rfl) :
    IX X (.Tuple elts kk tpos) (.Call (.Name "zip" p) [e, e2] [] pos) (M.bind fs asZip) := fun W tk => PI.imp (pi_zip hg hm (ha W tk) hs hpl) fun σ H R ⟨B, S, st, q⟩ =>
  ⟨B, S, st, (spec_bind.mp q).imp (fun ds S1 _ q vs B1 H1 s hs r => by
    obtain ⟨l, e1, k⟩ := of_spec q
    split at e1
    · cases e1
      cases r with
      | cons r r' =>
        cases r' with
        | cons r' r'' =>
          cases r''
          cases r with
          | lst h r =>
            cases r' with
            | lst h' r' => exact ⟨_, _, _, _, rfl, SqL.of (s.st.le.keep _ _ h rfl), SqL.of (s.st.le.keep _ _ h' rfl), k _ B1 H1 s hs (yields_zip h r h' r')⟩
    · cases e1) fun _ _ _ h => h⟩
/-- a text, sign by sign -/
def signsDV (x : Str) : List DV := x.cps.toList.map fun c => .str ⟨#[c]⟩
def asSigns (d : DV) : M (List DV) := M.of (match d with
  | .str x => some (signsDV x)
  | _ => none)
theorem ix_str (he : FX X iter me) : IX X tg iter (M.bind me asSigns) := fun W tk => PI.imp (pi_str (he W tk)) fun σ H R ⟨B, S, st, q⟩ =>
  ⟨B, S, st, (spec_bind.mp q).imp (fun d S1 em q v B1 H1 s hs r => by
    clear em
    obtain ⟨l, e1, k⟩ := of_spec q
    split at e1
    · rename_i x
      cases e1
      cases r
      refine ⟨x, rfl, k _ B1 H1 s hs ⟨fun B' H' _ _ _ i hi => by show i < x.cps.size; simpa [signsDV] using hi, fun B' H' _ _ _ => by show x.cps.size ≤ _; simp [signsDV], fun B' H' s1 s2 _ i v H2 ⟨e, c, hc, hv⟩ d hd => ?_⟩⟩
      subst e; subst hv
      refine ⟨B', .refl s2, ?_⟩
      unfold signsDV at hd
      rw [List.getElem?_map, Array.getElem?_toList, hc] at hd
      cases hd
      exact .str _
    · cases e1) fun _ _ _ h => h⟩
end
/-! ### for -/
def loopM (g : GM) (body : SM) : List DV → SM
  | [] => SM.nil
  | d :: ds => fun S => match g d S with
    | none => .stuck
    | some S1 => match body S1 with
      | .nx S2 => loopM g body ds S2
      | .ct S2 => loopM g body ds S2
      | .bk S2 => .nx S2
      | o => o
section
variable {X : Cx} {tg iter : Expr} {body : List Stmt} {mi : M (List DV)} {ts : List Nat} {g : GM} {mb : SM} {pos : Pos}
theorem Stp.sub {KK : PySem.W.Frag} {mg : Mg} {B H B' H' : Hp} {σ σ' : Sg} {S S' : Sl} (s : Stp KK mg B H σ S B' H' σ' S') : Sub B B' := s.grow.sub
theorem sx_for (hc : X.calm = true) (hi : IX X tg iter mi) (hg : GX X tg ts g) (hb : SXs X body mb) (hs : ∀ x, foldedSetIterable iter X.env x = pure x := by intro _; rfl) :
    SX X (.For tg iter body [] pos) (M.thn mi fun ds => loopM g mb ds) := fun W tk pp => PS.imp (ps_for pp hc (hi W tk) hg (hb W tk pp) hs) fun D σ H ⟨B, S, x, q⟩ =>
  ⟨B, S, x, (spec_thn.mp q).imp (fun ds S1 _ q J B1 H1 s hs y => by
    refine ⟨fun i m σ' H' => ∃ B' S', Stp X.K X.mg B1 H1 σ S1 B' H' σ' S' ∧ m = ds.length - i ∧ i ≤ ds.length ∧ (loopM g mb (ds.drop i) S').spec
      (fun S' => ∀ B' H' σ', Stp X.K X.mg B H σ S B' H' σ' S' → D.nx σ' H') (fun o S' => ∀ v B' H' σ', Stp X.K X.mg B H σ S B' H' σ' S' → OpdR X.mg B' H' σ' S' v o → Young H v o → D.rt v H')
      (fun S' => ∀ B' H' σ', Stp X.K X.mg B H σ S B' H' σ' S' → D.bk σ' H') (fun S' => ∀ B' H' σ', Stp X.K X.mg B H σ S B' H' σ' S' → D.ct σ' H') (xPost X.K X.mg W B H σ S),
      ⟨ds.length, B1, S1, .refl s.st, by simp, Nat.zero_le _, by simpa using q⟩, ?_⟩
    rintro i m σ' H' ⟨B', S', s', rfl, hi, q⟩
    by_cases hlt : i < ds.length
    · have hd : ds[i]? = some ds[i] := List.getElem?_eq_getElem hlt
      refine .inr ⟨y.go B' H' s'.sub s'.st.le (Stp.lk s.st s') i hlt, _, fun _ _ h => h, fun xv H2 hy => ?_⟩
      obtain ⟨B2, n2, r2⟩ := y.yld B' H' s'.sub s'.st.le (Stp.lk s.st s') i xv H2 hy _ hd
      have s2 := s'.trans (s'.st.step n2)
      rw [List.drop_eq_getElem_cons hlt] at q
      unfold loopM at q
      cases eg : g ds[i] S' with
      | none => rw [eg] at q; exact q.elim
      | some S3 =>
        rw [eg] at q
        refine ⟨B2, S', ds[i], S3, s2.st, r2, eg, fun B3 H3 σ3 s3 _ _ => ⟨B3, S3, s3.st, ?_⟩⟩
        have st := s2.trans s3
        have st0 := s.trans st
        dsimp only at q
        cases eb : mb S3 with
        | stuck => rw [eb] at q; exact q.elim
        | nx S4 =>
          rw [eb] at q
          exact fun B4 H4 σ4 s4 => ⟨ds.length - (i + 1), by omega, B4, S4, st.trans s4, rfl, hlt, q⟩
        | ct S4 =>
          rw [eb] at q
          exact fun B4 H4 σ4 s4 => ⟨ds.length - (i + 1), by omega, B4, S4, st.trans s4, rfl, hlt, q⟩
        | bk S4 =>
          rw [eb] at q
          exact fun B4 H4 σ4 s4 => q B4 H4 σ4 (st0.trans s4)
        | rt o S4 =>
          rw [eb] at q
          exact fun v B4 H4 σ4 s4 r yg => q v B4 H4 σ4 (st0.trans s4) r (yg.pre st0)
        | exc c fs S4 =>
          rw [eb] at q
          exact q.pre st0
    · have e : i = ds.length := by omega
      subst e
      refine .inl ⟨y.stop B' H' s'.sub s'.st.le (Stp.lk s.st s'), ?_⟩
      rw [List.drop_length] at q
      exact q B' H' σ' (s.trans s')) fun _ _ _ h => h⟩
end
end Lb
/-! List comprehensions. -/
namespace Lb
open PySem PySem.Spec PyProof.Rows L2
def wipeS (S : Sl) : List Nat → Sl
  | [] => S
  | v :: vs => (wipeS S vs).set v none
def restS (S0 S : Sl) : List Nat → Sl
  | [] => S
  | v :: vs => (restS S0 S vs).set v ((S0[v]?).getD none)
def noOwn (S : Sl) (vs : List Nat) : Bool := vs.all fun v => match S[v]? with
  | some (some r) => !r.isOwn
  | _ => true
theorem wipeS_len (S : Sl) : ∀ vs : List Nat, (wipeS S vs).length = S.length
  | [] => rfl
  | v :: vs => by unfold wipeS; rw [set_len, wipeS_len S vs]
theorem restS_len (S0 S : Sl) : ∀ vs : List Nat, (restS S0 S vs).length = S.length
  | [] => rfl
  | v :: vs => by unfold restS; rw [set_len, restS_len S0 S vs]
theorem wipeS_out {S : Sl} {i : Nat} : ∀ {vs : List Nat}, i ∉ vs → (wipeS S vs)[i]? = S[i]?
  | [], _ => rfl
  | v :: vs, h => by
    unfold wipeS
    rw [List.getElem?_set_ne (fun z => h (by simp [z])), wipeS_out fun z => h (List.mem_cons_of_mem _ z)]
theorem wipeS_in {S : Sl} {i : Nat} {r : RV} : ∀ {vs : List Nat}, i ∈ vs → (wipeS S vs)[i]? ≠ some (some r)
  | v :: vs, h, e => by
    unfold wipeS at e
    rcases set_some_cases e with ⟨_, z⟩ | ⟨z, e⟩
    · cases z
    · rcases List.mem_cons.mp h with h | h
      · exact z h
      · exact wipeS_in h e
theorem wipeS_some {S : Sl} {i : Nat} {r : RV} {vs : List Nat} (h : (wipeS S vs)[i]? = some (some r)) : S[i]? = some (some r) ∧ i ∉ vs := by
  by_cases hi : i ∈ vs
  · exact absurd h (wipeS_in hi)
  · exact ⟨by rw [← wipeS_out hi]; exact h, hi⟩
theorem wipe_out {σ : Sg} {i : Nat} : ∀ {vs : List Nat}, i ∉ vs → (wipe σ vs)[i]? = σ[i]?
  | [], _ => rfl
  | v :: vs, h => by
    unfold wipe
    rw [List.getElem?_set_ne (fun z => h (by simp [z])), wipe_out fun z => h (List.mem_cons_of_mem _ z)]
theorem restS_out {S0 S : Sl} {i : Nat} : ∀ {vs : List Nat}, i ∉ vs → (restS S0 S vs)[i]? = S[i]?
  | [], _ => rfl
  | v :: vs, h => by
    unfold restS
    rw [List.getElem?_set_ne (fun z => h (by simp [z])), restS_out fun z => h (List.mem_cons_of_mem _ z)]
theorem restS_in {S0 S : Sl} {i : Nat} {r : RV} : ∀ {vs : List Nat}, i ∈ vs → (restS S0 S vs)[i]? = some (some r) → S0[i]? = some (some r)
  | v :: vs, h, e => by
    unfold restS at e
    rcases set_some_cases e with ⟨z, e⟩ | ⟨z, e⟩
    · subst z
      cases q : S0[i]? with
      | none => rw [q] at e; cases e
      | some x => rw [q] at e; simp only [Option.getD_some] at e; rw [e]
    · rcases List.mem_cons.mp h with h | h
      · exact absurd h z
      · exact restS_in h e
theorem restS_at {S0 S : Sl} {i : Nat} {r : RV} : ∀ {vs : List Nat}, i ∈ vs → i < S.length → S0[i]? = some (some r) → (restS S0 S vs)[i]? = some (some r)
  | v :: vs, h, hl, e => by
    unfold restS
    by_cases hv : v = i
    · subst hv
      rw [List.getElem?_set_self (by rw [restS_len]; exact hl), e]; rfl
    · rw [List.getElem?_set_ne hv]
      rcases List.mem_cons.mp h with h | h
      · exact absurd h.symm hv
      · exact restS_at h hl e
theorem wipe_in {σ : Sg} {i : Nat} : ∀ {vs : List Nat}, i ∈ vs → (wipe σ vs)[i]? = (σ[i]?).map fun _ => none
  | v :: vs, h => by
    unfold wipe
    by_cases hv : v = i
    · subst hv
      by_cases hl : v < σ.length
      · rw [List.getElem?_set_self (by rw [wipe_length]; exact hl), List.getElem?_eq_getElem hl]; rfl
      · rw [List.getElem?_eq_none (by simpa [wipe_length] using hl), List.getElem?_eq_none (by simpa using hl)]; rfl
    · rw [List.getElem?_set_ne hv]
      rcases List.mem_cons.mp h with h | h
      · exact absurd h.symm hv
      · exact wipe_in h
theorem wipe_congr {σ σ' : Sg} {vs : List Nat} (hl : σ.length = σ'.length) (h : ∀ i, i ∉ vs → σ[i]? = σ'[i]?) : wipe σ vs = wipe σ' vs := by
  apply List.ext_getElem?
  intro i
  by_cases hi : i ∈ vs
  · rw [wipe_in hi, wipe_in hi]
    by_cases hlt : i < σ.length
    · rw [List.getElem?_eq_getElem hlt, List.getElem?_eq_getElem (by omega)]; rfl
    · rw [List.getElem?_eq_none (by omega), List.getElem?_eq_none (by omega)]
  · rw [wipe_out hi, wipe_out hi, h i hi]
theorem noOwn_at {S : Sl} {vs : List Nat} (h : noOwn S vs = true) {i : Nat} {r : RV} (hi : i ∈ vs) (e : S[i]? = some (some r)) : r.isOwn = false := by
  unfold noOwn at h
  have := List.all_eq_true.mp h i hi
  rw [e] at this
  simpa using this
theorem pin_own {r : RV} (h : r.isPin = true) : r.isOwn = true := by cases r <;> simp_all [RV.isPin, RV.isOwn]
section
variable {KK : PySem.W.Frag} {mg : Mg} {B H B0 H0 B' H' : Hp} {σ σ0 σ' : Sg} {S S0 S' : Sl} {vs : List Nat}
theorem own_wipe {i : Nat} {a : Addr} (h : OwnAt (wipe σ vs) (wipeS S vs) i a) : OwnAt σ S i a ∧ i ∉ vs := by
  obtain ⟨⟨r, e, hr⟩, e2⟩ := h
  obtain ⟨h1, h2⟩ := wipeS_some e
  exact ⟨⟨⟨r, h1, hr⟩, by rw [← wipe_out h2]; exact e2⟩, h2⟩
theorem StR.wipe (x : StR KK mg B H σ S) : StR KK mg B H (L2.wipe σ vs) (wipeS S vs) :=
  ⟨x.le, by rw [wipe_length, wipeS_len]; exact x.len, fun i r e => by
    obtain ⟨h1, h2⟩ := wipeS_some e
    obtain ⟨v, e1, q⟩ := x.at_ i r h1
    exact ⟨v, by rw [wipe_out h2]; exact e1, q⟩, fun i j a h1 h2 => x.dis i j a (own_wipe h1).1 (own_wipe h2).1, x.tbs⟩
theorem Stp.wipe (s : Stp KK mg B0 H0 σ0 S0 B H σ S) (h0 : ∀ v ∈ vs, ∀ r : RV, S0[v]? ≠ some (some r)) : Stp KK mg B0 H0 σ0 S0 B H (L2.wipe σ vs) (wipeS S vs) :=
  ⟨s.grow, s.st.wipe, fun a ⟨i, h⟩ => s.own a ⟨i, (own_wipe h).1⟩, fun i hp => by
    obtain ⟨⟨r, h1, h2⟩, h3⟩ := s.pin i hp
    obtain ⟨r0, h4, _⟩ := hp
    have hi : i ∉ vs := fun z => h0 i z r0 h4
    exact ⟨⟨r, by rw [wipeS_out hi]; exact h1, h2⟩, by rw [wipe_out hi]; exact h3⟩, (wipeS_len ..).trans s.len⟩
/-- the block's end: the names of the outside are there again -/
theorem Stp.unwipe (x : StR KK mg B0 H0 σ S0) (no : noOwn S0 vs = true) (s : Stp KK mg B0 H0 (L2.wipe σ vs) (wipeS S0 vs) B H (L2.wipe σ vs) S) : Stp KK mg B0 H0 σ S0 B H σ (restS S0 S vs) ∧ ∀ a, OwnA σ (restS S0 S vs) a → OwnA (L2.wipe σ vs) S a := by
  have ow : ∀ i a, OwnAt σ (restS S0 S vs) i a → OwnAt (L2.wipe σ vs) S i a := fun i a ⟨⟨r, e, hr⟩, e2⟩ => by
    by_cases hi : i ∈ vs
    · have := noOwn_at no hi (restS_in hi e)
      rw [this] at hr; cases hr
    · exact ⟨⟨r, by rw [← restS_out hi]; exact e, hr⟩, by rw [wipe_out hi]; exact e2⟩
  refine ⟨⟨s.grow.imp fun a ⟨i, h⟩ => ⟨i, (own_wipe h).1⟩, ⟨s.st.le, ?_, fun i r e => ?_, fun i j a h1 h2 => s.st.dis i j a (ow i a h1) (ow j a h2), s.st.tbs⟩, fun a ⟨i, h⟩ => ?_, fun i hp => ?_, (restS_len ..).trans (s.len.trans (wipeS_len ..))⟩, fun a ⟨i, h⟩ => ⟨i, ow i a h⟩⟩
  · rw [restS_len, ← s.st.len, wipe_length]
  · by_cases hi : i ∈ vs
    · have h0 := restS_in hi e
      obtain ⟨v, e1, q⟩ := x.at_ i r h0
      refine ⟨v, e1, ?_⟩
      have no' := noOwn_at no hi h0
      cases q with
      | v q => exact .v (q.mono s.grow.sub)
      | ol _ _ _ => cases no'
      | od _ _ _ => cases no'
      | oi _ _ _ _ => cases no'
    · rw [restS_out hi] at e
      obtain ⟨v, e1, q⟩ := s.st.at_ i r e
      exact ⟨v, by rw [← wipe_out hi]; exact e1, q⟩
  · rcases s.own a ⟨i, ow i a h⟩ with ⟨j, z⟩ | z
    · exact .inl ⟨j, (own_wipe z).1⟩
    · exact .inr z
  · obtain ⟨r, h1, h2⟩ := hp
    have hi : i ∉ vs := fun z => by
      have := noOwn_at no z h1
      rw [pin_own h2] at this; cases this
    obtain ⟨⟨r', h3, h4⟩, _⟩ := s.pin i ⟨r, by rw [wipeS_out hi]; exact h1, h2⟩
    exact ⟨⟨r', by rw [restS_out hi]; exact h3, h4⟩, rfl⟩
/-- a new object of ours that no slot holds is changed -/
theorem Stp.tmp (s : Stp KK mg B0 H0 σ0 S0 B H σ S) {D : Addr} {o o1 : HO} (h1 : H D = some o1) (h1t : nTbl o1 = true ∧ ∀ c q, o1 ≠ LamX.CodeO c q) (h0 : H0 D = none) (hb : B D = none) (no : ¬ OwnA σ S D) : Stp KK mg B0 H0 σ0 S0 B (upd H D o) σ S := by
  have le : Sub B (upd H D o) := ⟨fun b u e sl => by
      have hb' : b ≠ D := fun z => by subst z; rw [hb] at e; cases e
      rw [upd_ne hb']; exact s.st.le.keep b u e sl,
    fun b u r => by
      have hb' : b ≠ D := fun z => by subst z; rcases r with r | ⟨_, r⟩ <;> rw [hb] at r <;> cases r
      unfold Rd; rw [upd_ne hb']; exact s.st.le.rd b u r, fun b ps e => by
      have hb' : b ≠ D := fun z => by subst z; rw [hb] at e; cases e
      rw [upd_ne hb']; exact s.st.le.tb b ps e⟩
  refine ⟨⟨s.grow.sub, fun b u e n ht => ?_, fun t => tabs_grow (s.grow.tab t) fun P q t => tab_upd t (fun u hu => by rw [h1] at hu; cases hu; exact h1t), fun b e => ?_, s.grow.new⟩, ⟨le, s.st.len, fun i r e => ?_, s.st.dis, tabs_grow s.st.tbs fun P q t => tab_upd t (fun u hu => by rw [h1] at hu; cases hu; exact h1t)⟩, s.own, s.pin, s.len⟩
  · have hb' : b ≠ D := fun z => by subst z; rw [h0] at e; cases e
    rw [upd_ne hb']; exact s.grow.keep b u e n ht
  · by_cases hb' : b = D
    · subst hb'; rw [upd_same]; simp
    · rw [upd_ne hb']; exact s.grow.there b e
  · obtain ⟨v, e1, q⟩ := s.st.at_ i r e
    refine ⟨v, e1, ?_⟩
    cases q with
    | v q => exact .v q
    | @ol a p xs ds h1 h2 q =>
      have ha : a ≠ D := fun z => no (by subst z; exact ⟨i, ⟨_, e, rfl⟩, e1⟩)
      exact .ol h1 (by rw [upd_ne ha]; exact h2) q
    | @od a p xs ds h1 h2 q =>
      have ha : a ≠ D := fun z => no (by subst z; exact ⟨i, ⟨_, e, rfl⟩, e1⟩)
      exact .od h1 (by rw [upd_ne ha]; exact h2) q
    | @oi a C dx p k xs ds h0 h1 h2 q =>
      have ha : a ≠ D := fun z => no (by subst z; exact ⟨i, ⟨_, e, rfl⟩, e1⟩)
      exact .oi h0 h1 (by rw [upd_ne ha]; exact h2) q
/-- such an object lives on -/
theorem Stp.tmpStay (s : Stp KK mg B H σ S B' H' σ' S') {D : Addr} {o : HO} (ht : nTbl o = true) (hh : H D = some o) (hb : B D = none) (no : ¬ OwnA σ S D) : H' D = some o ∧ B' D = none ∧ ¬ OwnA σ' S' D := by
  refine ⟨s.grow.keep D o hh no ht, ?_, fun z => ?_⟩
  · cases q : B' D with
    | none => rfl
    | some u =>
      rcases s.grow.new D (by rw [q]; simp) with z | z | z
      · exact absurd hb z
      · rw [hh] at z; cases z
      · exact absurd z no
  · rcases s.own D z with z | z
    · exact no z
    · rw [hh] at z; cases z
end
/-! ### the comprehension -/
def compL (vs : List Nat) (g : GM) (t : M Bool) (e : M DV) : List DV → List DV → Sl → Option (List DV × Sl)
  | [], acc, S => some (acc, S)
  | d :: ds, acc, S => match g d S with
    | none => none
    | some S1 => match t S1 with
      | .ok false S2 => compL vs g t e ds acc (wipeS S2 vs)
      | .ok true S2 => match e S2 with
        | .ok y S3 => if acc.length < sizeLine then compL vs g t e ds (acc ++ [y]) (wipeS S3 vs) else none
        | _ => none
      | _ => none
def compM (vs : List Nat) (g : GM) (t : M Bool) (e : M DV) (ds : List DV) : M Opd := fun S => if noOwn S vs then
    (match compL vs g t e ds [] (wipeS S vs) with
    | some (acc, S') => .ok (.v (.ol false acc)) (restS S S' vs)
    | none => .stuck)
  else .stuck
def TXs (X : Cx) (ifs : List Expr) (t : M Bool) : Prop := PTs X ifs (tB X.K X.mg t W0)
theorem PTs.imp {X : Cx} {ifs : List Expr} {t t' : TT} (h : PTs X ifs t) (i : ∀ σ H Q, t' σ H Q → t σ H Q) : PTs X ifs t' := ⟨fun p s σ H Q I q => h.run p s σ H Q I (i σ H Q q)⟩
theorem txs_nil {X : Cx} : TXs X [] (M.pure true) := PTs.imp pts_nil fun σ H Q ⟨B, S, st, q⟩ => q B H (.refl st) (.refl S)
theorem txs_one {X : Cx} {c : Expr} {t : M Bool} (h : BX X c t) : TXs X [c] t := pts_one (h W0 takes0)
section
variable {X : Cx} {elt tg iter : Expr} {ifs : List Expr} {scope : Scope} {own : List (Str × Nat)} {pos : Pos} {mi : M (List DV)} {ts : List Nat} {g : GM} {t : M Bool} {me : M DV}
theorem lc_read {W : WX} (hts : ∀ i ∈ ts, i ∈ own.map (·.2)) {σ : Sg} {H : Hp} {Q : VK} (h : tM X.K X.mg (M.bind mi (compM (own.map (·.2)) g t me)) W σ H Q) :
    tLc (tI X.K X.mg mi W) (tGM X.K X.mg ts g) (tB X.K X.mg t W0) (tF X.K X.mg me W0) (own.map (·.2)) σ H Q := by
  generalize hvs : own.map (·.2) = vs at h hts ⊢
  obtain ⟨B, S, st, q⟩ := h
  refine ⟨B, S, st, (spec_bind.mp q).imp (fun ds S1 _ q J B1 H1 s hs y => ?_) fun _ _ _ h => h⟩
  unfold compM at q
  obtain ⟨no, q⟩ := if_spec q
  cases ec : compL vs g t me ds [] (wipeS S1 vs) with
  | none => rw [ec] at q; exact q.elim
  | some p =>
    obtain ⟨accF, SF⟩ := p
    rw [ec] at q
    intro D hD
    have w0 : ∀ v ∈ vs, ∀ r : RV, (wipeS S1 vs)[v]? ≠ some (some r) := fun v hv r => wipeS_in hv
    have st1 : StR X.K X.mg B1 H1 (L2.wipe σ vs) (wipeS S1 vs) := s.st.wipe
    refine ⟨fun i m H' => ∃ B' S' acc accV, Stp X.K X.mg B1 H1 (L2.wipe σ vs) (wipeS S1 vs) B' H' (L2.wipe σ vs) S' ∧ Has (wipeS S1 vs) S' ∧ (∀ v ∈ vs, ∀ r : RV, S'[v]? ≠ some (some r)) ∧ H' D = some (.lst accV) ∧ B' D = none ∧ ¬ OwnA (L2.wipe σ vs) S' D ∧ Reps X.mg B' accV acc ∧
      m = ds.length - i ∧ i ≤ ds.length ∧ compL vs g t me (ds.drop i) acc S' = some (accF, SF),
      ⟨ds.length, B1, wipeS S1 vs, [], [], st1.alloc hD _, .refl _, w0, upd_same, s.st.le.none hD, st1.notOwn hD, .nil, by simp, Nat.zero_le _, by simpa using ec⟩, ?_⟩
    rintro i m H' ⟨B', S', acc, accV, s', has', w', hDv, hDb, hDo, racc, rfl, hi, ec'⟩
    by_cases hlt : i < ds.length
    · have hd : ds[i]? = some ds[i] := List.getElem?_eq_getElem hlt
      refine .inr ⟨y.go B' H' s'.sub s'.st.le (Stp.lk st1 s') i hlt, _, fun _ h => h, fun xv H2 hy => ?_⟩
      obtain ⟨B2, n2, r2⟩ := y.yld B' H' s'.sub s'.st.le (Stp.lk st1 s') i xv H2 hy _ hd
      have sn := s'.st.step n2
      rw [List.drop_eq_getElem_cons hlt] at ec'
      unfold compL at ec'
      cases eg : g ds[i] S' with
      | none => rw [eg] at ec'; cases ec'
      | some S3 =>
        rw [eg] at ec'
        refine ⟨B2, S', ds[i], S3, sn.st, r2, eg, fun B3 H3 σ3 s3 hs3 o3 => ?_⟩
        have hw : L2.wipe σ3 vs = L2.wipe σ vs := by
          refine wipe_congr ?_ fun j hj => ?_
          · rw [s3.st.len, s3.len, ← s'.st.len, wipe_length]
          · rw [o3 j fun z => hj (hts j z), wipe_out hj]
        refine ⟨hw, B3, S3, s3.st, ?_⟩
        -- what stands at a turn's end
        have turn : ∀ {B5 H5 : Hp} {S5 : Sl}, Stp X.K X.mg B' H' (L2.wipe σ vs) S' B5 H5 σ3 S5 → Has S' S5 → Stp X.K X.mg B' H' (L2.wipe σ vs) S' B5 H5 (L2.wipe σ vs) (wipeS S5 vs) ∧ Has (wipeS S1 vs) (wipeS S5 vs) := fun {B5 H5 S5} s5 h5 => by
          refine ⟨by have := s5.wipe w'; rw [hw] at this; exact this, fun j hj => ?_⟩
          have hjv : j ∉ vs := fun z => by
            obtain ⟨r, hr⟩ := hj
            exact w0 j z r hr
          obtain ⟨r, hr⟩ := h5 j (has' j hj)
          exact ⟨r, by rw [wipeS_out hjv]; exact hr⟩
        have s23 := sn.trans s3
        have h23 : Has S' S3 := hs3
        dsimp only at ec'
        cases et : t S3 with
        | stuck => rw [et] at ec'; cases ec'
        | exc c fs S4 => rw [et] at ec'; cases ec'
        | ok b S4 =>
          rw [et] at ec'
          intro B4 H4 s4 hs4
          have s24 := s23.trans s4
          have h24 := h23.trans hs4
          cases b with
          | false =>
            rw [if_neg Bool.false_ne_true]
            obtain ⟨k1, k2⟩ := turn s24 h24
            obtain ⟨q1, q2, q3⟩ := k1.tmpStay rfl hDv hDb hDo
            exact ⟨ds.length - (i + 1), by omega, B4, wipeS S4 vs, acc, accV, s'.trans k1, k2, fun v hv r => wipeS_in hv, q1, q2, q3, racc.mono s24.grow.sub, rfl, hlt, ec'⟩
          | true =>
            rw [if_pos rfl]
            refine ⟨B4, S4, s4.st, ?_⟩
            dsimp only at ec'
            cases ee : me S4 with
            | stuck => rw [ee] at ec'; cases ec'
            | exc c fs S5 => rw [ee] at ec'; cases ec'
            | ok yv S5 =>
              rw [ee] at ec'
              intro yV B5 H5 s5 hs5 ry
              dsimp only at ec'
              split at ec'
              · rename_i hlen
                have s25 := s24.trans s5
                obtain ⟨k1, k2⟩ := turn s25 (h24.trans hs5)
                obtain ⟨q1, q2, q3⟩ := k1.tmpStay rfl hDv hDb hDo
                refine ⟨accV, q1, by rw [racc.length]; exact hlen, ds.length - (i + 1), by omega, B5, wipeS S5 vs, acc ++ [yv], accV ++ [yV], (s'.trans k1).tmp q1 ⟨rfl, fun c q z => by unfold LamX.CodeO at z; cases z⟩ hD q2 q3, k2, fun v hv r => wipeS_in hv, upd_same, q2, q3, (racc.mono s25.grow.sub).snoc ry, rfl, hlt, ec'⟩
              · cases ec'
    · have e : i = ds.length := by omega
      subst e
      refine .inl ⟨y.stop B' H' s'.sub s'.st.le (Stp.lk st1 s'), ?_⟩
      rw [List.drop_length] at ec'
      unfold compL at ec'
      cases ec'
      obtain ⟨fin, fo⟩ := s'.unwipe s.st no
      refine q (.ref D) B' H' (s.trans fin) (fun j hj => ?_) (.v (.ol hDb hDv racc) fun a _ e z => by cases e; exact hDo (fo _ z)) fun a _ e => by cases e; exact s.free hD
      obtain ⟨r, hr⟩ := hs j hj
      by_cases hjv : j ∈ vs
      · have hl : j < SF.length := by
          rw [s'.len, wipeS_len]
          exact (List.getElem?_eq_some_iff.mp hr).1
        exact ⟨r, restS_at hjv hl hr⟩
      · obtain ⟨r', hr'⟩ := has' j ⟨r, by rw [wipeS_out hjv]; exact hr⟩
        exact ⟨r', by rw [restS_out hjv]; exact hr'⟩
theorem px_lc (hc : X.calm = true) (hN : X.N.Nodup) (hi : IX X tg iter mi) (ok : BlkOk X.N X.env.scope scope own) (hts : ∀ i ∈ ts, i ∈ own.map (·.2))
    (hg : ∀ (s : Shared) (H : Hp) (C : Addr) (cl : List (Str × Addr)) (fp : List Addr), GX (X.blk s H scope (compEnvC scope cl C X.env) fp) tg ts g)
    (ht : ∀ (s : Shared) (H : Hp) (C : Addr) (cl : List (Str × Addr)) (fp : List Addr), TXs (X.blk s H scope (compEnvC scope cl C X.env) fp) ifs t)
    (he : ∀ (s : Shared) (H : Hp) (C : Addr) (cl : List (Str × Addr)) (fp : List Addr), FX (X.blk s H scope (compEnvC scope cl C X.env) fp) elt me) (hs : ∀ x, foldedSetIterable iter X.env x = pure x := by intro _; rfl) :
    PX X (.ListComp elt [⟨tg, iter, ifs, 0⟩] scope pos) (M.bind mi (compM (own.map (·.2)) g t me)) := fun W tk =>
  PE.imp (pe_lc (g := tGM X.K X.mg ts g) (tt := tB X.K X.mg t W0) hc hN (hi W tk) ok (fun s H C cl fp => hg s H C cl fp) (fun s H C cl fp => ht s H C cl fp) (fun s H C cl fp => he s H C cl fp W0 takes0) hs) fun σ H Q h => lc_read hts h
theorem sx_setLc (i : Nat) {y : Str} {py spos : Pos} (hc : X.calm = true) (hN : X.N.Nodup) (hy : X.N[i]? = some y) (hyl : X.env.scope.names.lookup y = some .local)
    (hsw : swapsWith (.ListComp elt [⟨tg, iter, ifs, 0⟩] scope pos) (some (.Name y py)) spos.line X.env = pure true) (hi : IX X tg iter mi) (ok : BlkOk X.N X.env.scope scope own) (hts : ∀ i ∈ ts, i ∈ own.map (·.2))
    (hg : ∀ (s : Shared) (H : Hp) (C : Addr) (cl : List (Str × Addr)) (fp : List Addr), GX (X.blk s H scope (compEnvC scope cl C X.env) fp) tg ts g)
    (ht : ∀ (s : Shared) (H : Hp) (C : Addr) (cl : List (Str × Addr)) (fp : List Addr), TXs (X.blk s H scope (compEnvC scope cl C X.env) fp) ifs t)
    (he : ∀ (s : Shared) (H : Hp) (C : Addr) (cl : List (Str × Addr)) (fp : List Addr), FX (X.blk s H scope (compEnvC scope cl C X.env) fp) elt me) (hs : ∀ x, foldedSetIterable iter X.env x = pure x := by intro _; rfl) :
    SX X (.Assign [.Name y py] (.ListComp elt [⟨tg, iter, ifs, 0⟩] scope pos) spos) (M.thn (M.bind mi (compM (own.map (·.2)) g t me)) (setSl i)) := fun W tk pp =>
  PS.imp (ps_setLc (g := tGM X.K X.mg ts g) (tt := tB X.K X.mg t W0) hc hN hy hyl hsw (hi W tk) ok (fun s H C cl fp => hg s H C cl fp) (fun s H C cl fp => ht s H C cl fp) (fun s H C cl fp => he s H C cl fp W0 takes0) hs) fun D σ H ⟨B, S, x, q⟩ => by
    show tLc _ _ _ _ _ σ H _
    refine lc_read hts ⟨B, S, x, (spec_thn.mp q).imp (fun o S1 _ q v B1 H1 s hs r y => ?_) fun _ _ _ h => h⟩
    show D.nx (σ.set i (some v)) H1
    cases r with
    | v r n =>
      obtain ⟨h1, h2, k⟩ := stores_spec q
      exact k B1 H1 _ (s.set r n y h1 h2)
    | @sl j e1 hr =>
      refine (spec_thn.mp q : (frz (.sl j) S1).spec _ _) |> fun q => ?_
      cases ef : frz (.sl j) S1 with
      | stuck => rw [ef] at q; exact q.elim
      | exc c fs S' => exact (frz_noexc ef).elim
      | ok d S2 =>
        rw [ef] at q
        obtain ⟨B2, s2, _, rep⟩ := frz_ok s hs (.sl e1 hr) trivial ef
        obtain ⟨h1, h2, k⟩ := stores_spec q
        exact k B2 H1 _ (s2.set (.v rep) (fun a h => by cases h) (fun a h => by cases h) h1 h2)
end
end Lb
/-! Tests; and, or, not; choices. -/
namespace Lb
open PySem PySem.Spec PyProof.Rows L2
def truthOf (o : Opd) : M Bool := fun S => match o.dv S with
  | some (.bl b) => .ok b S
  | _ => .stuck
def BW (X : Cx) (e : Expr) (m : M Bool) : Prop := ∀ W, Takes X W → PW X e (tB X.K X.mg m W)
theorem PW.imp {X : Cx} {e : Expr} {t t' : TT} (h : PW X e t) (i : ∀ σ H Q, t' σ H Q → t σ H Q) : PW X e t' := ⟨fun wh p s σ H Q I q => h.run wh p s σ H Q I (i σ H Q q)⟩
section
variable {X : Cx} {a b c e : Expr} {rest : List Expr} {ma mb mc : M Opd} {ta tb : M Bool} {pos : Pos}
theorem truthOf_spec {o : Opd} {S : Sl} {K : Bool → Sl → Prop} {E : Str → List (Str × DV) → Sl → Prop} (h : (truthOf o S).spec K E) : ∃ b, o.dv S = some (.bl b) ∧ K b S := by
  unfold truthOf at h
  split at h
  · exact ⟨_, ‹_›, h⟩
  · exact h.elim
/-- a truth as a test -/
theorem bx_val (ha : PX X a ma) (he : ∀ whole, isTrue a X.env whole = (do let v ← whole; standAt a.pos; holding [v] (truthy v)) := by intro _; rfl) : BX X a (M.bind ma truthOf) := fun W tk => PT.imp (pt_val (ha W tk) he) fun σ H Q ⟨B, S, st, q⟩ =>
  ⟨B, S, st, (spec_bind.mp q).imp (fun o S1 _ q v B1 H1 s hs r y => by
    obtain ⟨b, e, k⟩ := truthOf_spec q
    have := (r.view s.st e).bl
    exact ⟨b, this, k B1 H1 s hs⟩) fun _ _ _ h => h⟩
/-- anything as a test -/
theorem tru_spec {o : Opd} {S : Sl} {K : Bool → Sl → Prop} {E : Str → List (Str × DV) → Sl → Prop} (h : (tru o S).spec K E) : ∃ d b, o.dv S = some d ∧ truDV d = some b ∧ K b S := by
  unfold tru at h
  split at h
  · split at h
    · exact ⟨_, _, ‹_›, ‹_›, h⟩
    · exact h.elim
  · exact h.elim
theorem bx_bind {m : M Bool} {k : Bool → M Bool} {σ : Sg} {H : Hp} {W : WX} {Q : Bool → Hp → Prop} : tB X.K X.mg (M.bind m k) W σ H Q → True := fun _ => trivial
theorem bx_not (ha : BX X a ta) : BX X (.UnaryOp .Not a pos) (M.bind ta fun b => M.pure (!b)) := fun W tk => PT.imp (pt_not (ha W tk)) fun σ H Q ⟨B, S, st, q⟩ =>
  ⟨B, S, st, (spec_bind.mp q).imp (fun b S1 _ q B1 H1 s hs => q B1 H1 s hs) fun _ _ _ h => h⟩
theorem bw_and1 (ha : BX X a ta) : BW X (.BoolOp .And [a] pos) ta := fun W tk => pw_and1 (ha W tk)
theorem bw_or1 (ha : BX X a ta) : BW X (.BoolOp .Or [a] pos) ta := fun W tk => pw_or1 (ha W tk)
theorem tB_pre {KK : PySem.W.Frag} {mg : Mg} {W : WX} {Q : Bool → Hp → Prop} {B H B1 H1 : Hp} {σ : Sg} {S S1 : Sl} {m : M Bool} (s : Stp KK mg B H σ S B1 H1 σ S1) (hs : Has S S1)
    (q : (m S1).spec (fun b S' => ∀ B' H', Stp KK mg B H σ S B' H' σ S' → Has S S' → Q b H') (xPost KK mg W B H σ S)) : tB KK mg m W σ H1 Q :=
  ⟨B1, S1, s.st, q.imp (fun b S' _ k B' H' s' h' => k B' H' (s.trans s') (hs.trans h')) fun _ _ _ h => h.pre s⟩
theorem bw_and (ha : BX X a ta) (hb : BW X (.BoolOp .And (b :: rest) pos) tb) : BW X (.BoolOp .And (a :: b :: rest) pos) (M.bind ta fun c => if c then tb else M.pure false) := fun W tk => PW.imp (pw_and (ha W tk) (hb W tk)) fun σ H Q ⟨B, S, st, q⟩ =>
  ⟨B, S, st, (spec_bind.mp q).imp (fun c S1 _ q B1 H1 s hs => by
    cases c with
    | true => exact tB_pre s hs q
    | false => exact q B1 H1 s hs) fun _ _ _ h => h⟩
theorem bw_or (ha : BX X a ta) (hb : BW X (.BoolOp .Or (b :: rest) pos) tb) : BW X (.BoolOp .Or (a :: b :: rest) pos) (M.bind ta fun c => if c then M.pure true else tb) := fun W tk => PW.imp (pw_or (ha W tk) (hb W tk)) fun σ H Q ⟨B, S, st, q⟩ =>
  ⟨B, S, st, (spec_bind.mp q).imp (fun c S1 _ q B1 H1 s hs => by
    cases c with
    | true => exact q B1 H1 s hs
    | false => exact tB_pre s hs q) fun _ _ _ h => h⟩
theorem bx_bool {op : BoolOp} {es : List Expr} (h : BW X (.BoolOp op es pos) ta) : BX X (.BoolOp op es pos) ta := fun W tk => (h W tk).pt
/-! as values -/
theorem tM_pre {KK : PySem.W.Frag} {mg : Mg} {W : WX} {Q : VK} {B H B1 H1 : Hp} {σ : Sg} {S S1 : Sl} {m : M Opd} (s : Stp KK mg B H σ S B1 H1 σ S1) (hs : Has S S1)
    (q : (m S1).spec (fun o S' => ∀ v B' H', Stp KK mg B H σ S B' H' σ S' → Has S S' → OpdR mg B' H' σ S' v o → Young H v o → Q v H') (xPost KK mg W B H σ S)) : tM KK mg m W σ H1 Q :=
  ⟨B1, S1, s.st, q.imp (fun o S' _ k v B' H' s' h' r y => k v B' H' (s.trans s') (hs.trans h') r (y.pre s)) fun _ _ _ h => h.pre s⟩
theorem px_one {op : BoolOp} (ha : PX X a ma) : PX X (.BoolOp op [a] pos) ma := fun W tk => pe_one (ha W tk)
theorem px_and (ha : PX X a ma) (hb : PX X (.BoolOp .And (b :: rest) pos) mb) : PX X (.BoolOp .And (a :: b :: rest) pos) (M.bind (M.bind ma truthOf) fun c => if c then mb else kst (.bl false)) := fun W tk => PE.imp (pe_and (ha W tk) (hb W tk)) fun σ H Q ⟨B, S, st, q⟩ =>
  ⟨B, S, st, (spec_bind.mp (spec_bind.mp q)).imp (fun o S1 _ q v B1 H1 s hs r y => by
    obtain ⟨c, e, k⟩ := truthOf_spec q
    refine ⟨c, (r.view s.st e).bl, ?_⟩
    cases c with
    | true => exact tM_pre s hs k
    | false => exact k _ B1 H1 s hs (.v (.v (.bl false)) fun a h => by cases h) fun a h => by cases h) fun _ _ _ h => h⟩
theorem px_or (ha : PX X a ma) (hb : PX X (.BoolOp .Or (b :: rest) pos) mb) : PX X (.BoolOp .Or (a :: b :: rest) pos) (M.bind (M.bind ma truthOf) fun c => if c then kst (.bl true) else mb) := fun W tk => PE.imp (pe_or (ha W tk) (hb W tk)) fun σ H Q ⟨B, S, st, q⟩ =>
  ⟨B, S, st, (spec_bind.mp (spec_bind.mp q)).imp (fun o S1 _ q v B1 H1 s hs r y => by
    obtain ⟨c, e, k⟩ := truthOf_spec q
    refine ⟨c, (r.view s.st e).bl, ?_⟩
    cases c with
    | true => exact k _ B1 H1 s hs (.v (.v (.bl true)) fun a h => by cases h) fun a h => by cases h
    | false => exact tM_pre s hs k) fun _ _ _ h => h⟩
theorem px_not (ha : PX X a ma) : PX X (.UnaryOp .Not a pos) (M.bind (M.bind ma truthOf) fun c => kst (.bl (!c))) := fun W tk => PE.imp (pe_not (ha W tk)) fun σ H Q ⟨B, S, st, q⟩ =>
  ⟨B, S, st, (spec_bind.mp (spec_bind.mp q)).imp (fun o S1 _ q v B1 H1 s hs r y => by
    obtain ⟨c, e, k⟩ := truthOf_spec q
    exact ⟨c, (r.view s.st e).bl, k _ B1 H1 s hs (.v (.v (.bl _)) fun a h => by cases h) fun a h => by cases h⟩) fun _ _ _ h => h⟩
theorem px_ifE (hc : BX X c ta) (ha : PX X a ma) (hb : PX X b mb) : PX X (.IfExp c a b pos) (M.bind ta fun k => if k then ma else mb) := fun W tk => PE.imp (pe_ifExp (hc W tk) (ha W tk) (hb W tk)) fun σ H Q ⟨B, S, st, q⟩ =>
  ⟨B, S, st, (spec_bind.mp q).imp (fun k S1 _ q B1 H1 s hs => by
    cases k with
    | true => exact tM_pre s hs q
    | false => exact tM_pre s hs q) fun _ _ _ h => h⟩
/-- - n -/
def fNeg (o : Opd) : M Opd := fun S => match o.dv S with
  | some (.int i) => .ok (.v (.v (.int (-i)))) S
  | _ => .stuck
theorem px_neg (ha : PX X a ma) : PX X (.UnaryOp .USub a pos) (M.bind ma fNeg) := fun W tk => PE.imp (pe_un un_neg (ha W tk)) fun σ H Q ⟨B, S, st, q⟩ =>
  ⟨B, S, st, (spec_bind.mp q).imp (fun o S1 _ q v B1 H1 s hs r y => by
    unfold fNeg at q
    split at q
    · rename_i i e
      exact ⟨i, (r.view s.st e).int, q _ B1 H1 s hs (.v (.v (.int _)) fun a h => by cases h) fun a h => by cases h⟩
    · exact q.elim) fun _ _ _ h => h⟩
/-- a module's constant -/
theorem px_glob {x : Str} {v : V} {u : Value} {d : DV} (hg : Gl X x) (hm : X.mg x = some u) (r : RelV v u) (hr : ∀ B, Rep X.mg B v d) (hd : (x == ("__debug__" : Str)) = false := by decide) : PX X (.Name x pos) (kst d) :=
  kst_of (pe_glob hg hm r hd) (fun _ _ _ h => h) hr
/-- code that is never come to -/
theorem px_stuck : PX X e (fun _ => .stuck) := fun W tk => ⟨fun p s σ H Q I ⟨B, S, st, q⟩ => q.elim⟩
theorem sx_stuck {st : Stmt} : SX X st (fun _ => .stuck) := fun W tk pp => ⟨fun p s σ H D I ⟨B, S, x, q⟩ => q.elim⟩
theorem sxs_stuck {st : List Stmt} : SXs X st (fun _ => .stuck) := fun W tk pp => ⟨fun p s σ H D I ⟨B, S, x, q⟩ => q.elim⟩
/-! is None -/
def isNon : DV → Bool
  | .non => true
  | _ => false
def isHole : DV → Bool
  | .hole => true
  | _ => false
def fIsN : DV → DV → Option Bool
  | .hole, _ => none
  | d, .non => some (isNon d)
  | _, _ => none
def fNotN : DV → DV → Option Bool
  | .hole, _ => none
  | d, .non => some (!isNon d)
  | _, _ => none
theorem view_non {mg : Mg} {B H : Hp} {v : V} {d : DV} (nh : d = .hole → False) (q : View mg B H v d) : decide (v = .non) = isNon d := by
  cases q with
  | r q => cases q <;> first | (exact absurd rfl nh) | (simp [isNon])
  | lst _ _ => simp [isNon]
  | dct _ _ => simp [isNon]
  | ins _ _ _ => simp [isNon]
theorem prim_isN {mg : Mg} : Prim2 mg (fun x y H Q => y = .non ∧ Q (.bl (decide (x = .non))) H) (rvB fIsN) := primB fun B H x y dx dy b Q le vx vy e k => by
  unfold fIsN at e
  split at e
  · cases e
  · rename_i nh
    cases e; exact ⟨vy.non, by rw [view_non nh vx]; exact k⟩
  · cases e
theorem prim_notN {mg : Mg} : Prim2 mg (fun x y H Q => y = .non ∧ Q (.bl (!decide (x = .non))) H) (rvB fNotN) := primB fun B H x y dx dy b Q le vx vy e k => by
  unfold fNotN at e
  split at e
  · cases e
  · rename_i nh
    cases e; exact ⟨vy.non, by rw [view_non nh vx]; exact k⟩
  · cases e
end
end Lb
/-! Exceptions of own classes over any built-in one, made by their own __init__. -/
namespace Lb
open PySem PySem.Spec PyProof.Rows L2
/-- storing into an instance of the class at C -/
structure SC (K : PySem.W.Frag) (C : Addr) : Prop where
  ex : ∃ (b : String) (l : List Value), StoreFacts b l "object.__setattr__" "object" ∧ PySem.W.excOver K C l = true
  hd : PySem.W.hasDictIn K C = true
  sa : PySem.W.findIn K (.ref C) "__setattr__" = some (some (.builtin "object.__setattr__"))
section
open Builtin Builtin.ObjectAttr
variable {prog : Program} {w : World} {A : Around} {E : Value → Shared → Prop} {R : Result → Shared → Prop} {hp : Heap} {g : Array GenState} {d : Drawn} {t : Nat} {os : OsState}
  {K : PySem.W.Frag} {n : Str} {tk : Tok} {v : Value} {x C : Addr} {fv : Array Value}
theorem xosa_new (T : SC K C) (X : K.In hp) (hx : hp.get? x = some { cls := .ref C, data := .fields fv }) (ht : PySem.W.takerIn K C n = some none)
    (hq : ∀ h' tk' dx, (∀ b o, b ≠ x → hp.get? b = some o → h'.get? b = some o) → hp.objs.size ≤ dx → dx ≠ x → h'.get? x = some { cls := .ref C, dict := some dx, data := .fields fv } →
      h'.Ns1 dx (fun y => if y = n then some v else none) → R (.ok (.ret .none)) ⟨h', g, d, tk', os⟩) :
    codeAny (model prog w) A (.call (.builtin "object.__setattr__") ⟨[.ref x, .str n tk, v], []⟩) R ⟨hp, g, d, t, os⟩ := by
  obtain ⟨⟨b, l, SF, ov⟩, hd, sa⟩ := T
  have xs : x ≠ hp.objs.size := Nat.ne_of_lt (Heap.lt_size hx)
  refine PySem.W.osa_openX (s := ⟨hp, g, d, t, os⟩) (od := none) SF X ⟨hx, rfl, rfl, trivial⟩ ov ht fun b => ?_
  obtain ⟨cd, hc, hd'⟩ := PySem.W.any_some hd
  obtain ⟨c1, c2, c3, c4, c5, c6, c7, c8, c9, c10, c11⟩ := cd
  dsimp only at hd'
  subst hd'
  have L := PySem.W.looks_clsIn (M := model prog w) X hc
  dsimp only
  unfold storeInOwnDict ownDictForStores
  repeat (first | with_reducible refine PySem.HandSPX.store_in_new ?_ ?_ | with_reducible refine wpAny_loadPart_at hx ?_ | with_reducible refine L.at ?_ | wp_step)
  · exact ⟨_, #[], _, (Heap.get?_update_ne _ _ _ _ xs.symm).trans (Heap.get?_push_at rfl rfl), rfl, fun e he => absurd he (by simp), fun _ => rfl⟩
  · intro h' tk' hn' hs
    have q1 : (hp.push { cls := .type "dict", data := .dict #[] }).get? x = some { cls := .ref C, data := .fields fv } := Heap.get?_push_of_some _ hx
    refine hq h' tk' hp.objs.size (fun b o hb ho => ?_) (Nat.le_refl _) xs.symm ((hs.2 x xs).trans (Heap.get?_update_self _ q1 rfl)) hn'
    rw [hs.2 b (Nat.ne_of_lt (Heap.lt_size ho)), Heap.get?_update_ne _ _ _ _ hb, Heap.get?_push_of_some _ ho]
theorem xosa_old {dx : Addr} {m0 : Str → Option Value} {ns : List Str} (T : SC K C) (X : K.In hp) (hx : hp.get? x = some { cls := .ref C, dict := some dx, data := .fields fv })
    (hn : hp.Ns1 dx m0) (hw : Within m0 ns) (hz : ns.length ≤ 1000) (ht : PySem.W.takerIn K C n = some none)
    (hq : ∀ h' tk', (∀ b o, b ≠ dx → hp.get? b = some o → h'.get? b = some o) → h'.Ns1 dx (fun y => if y = n then some v else m0 y) → R (.ok (.ret .none)) ⟨h', g, d, tk', os⟩) :
    codeAny (model prog w) A (.call (.builtin "object.__setattr__") ⟨[.ref x, .str n tk, v], []⟩) R ⟨hp, g, d, t, os⟩ := by
  obtain ⟨⟨b, l, SF, ov⟩, hd, sa⟩ := T
  obtain ⟨oD, _, _, hoD, _, _⟩ := hn.count hw
  refine PySem.W.osa_openX (s := ⟨hp, g, d, t, os⟩) (od := some oD) SF X ⟨hx, rfl, rfl, hoD⟩ ov ht fun b => ?_
  obtain ⟨cd, hc, hd'⟩ := PySem.W.any_some hd
  obtain ⟨c1, c2, c3, c4, c5, c6, c7, c8, c9, c10, c11⟩ := cd
  dsimp only at hd'
  subst hd'
  have L := PySem.W.looks_clsIn (M := model prog w) X hc
  dsimp only
  unfold storeInOwnDict ownDictForStores
  repeat (first | with_reducible refine PySem.OEX.store_in_old hn hw hz ?_ | with_reducible refine wpAny_loadPart_at hx ?_ | with_reducible refine L.at ?_ | wp_step)
  intro h' tk' hn' hs
  exact hq h' tk' (fun b o hb ho => (hs.2 b hb).trans ho) hn'
end
section
variable {X : Cx} {pins : List (Addr × Obj)} {σ : Sg} {H : Hp} {s : Shared} {a C dx : Addr} {f : Str} {y : V} {u : Value} {fs : List (Str × V)} {Q : Unit → Shared → Prop} {E : Value → Shared → Prop} {A : Around}
theorem xst_new (T : SC X.K C) (I : Inv X pins σ H s) (e : H a = some (exo a C none)) (ht : PySem.W.takerIn X.K C f = some none) (ry : RelV y u)
    (h : ∀ dx s', H dx = none → dx ≠ a → Inv X pins σ (upd (upd H dx (exd dx [(f, y)])) a (exo a C (some dx))) s' → Q () s') : wpAny (model X.prog X.w) A (setAttr (.ref a) f u) Q E s := by
  obtain ⟨t1, ho⟩ := exo_at I.hok e
  obtain ⟨hp, g, d, t, os⟩ := s
  refine PySem.W.set_plain I.kIn (ox := { cls := .ref C, dict := none, data := .fields #[.ref t1, .none, .none, .none, .bool false, .none] }) (od := none) ⟨ho, rfl, rfl, trivial⟩ T.sa
    (xosa_new T I.kIn ho ht fun h' tk' dx k dn ne hx hn => ?_)
  have n1 : H dx = none := I.hok.fresh dn
  have old : ∀ {b : Addr} {o : Obj}, hp.get? b = some o → b ≠ dx := fun q => Nat.ne_of_lt (Nat.lt_of_lt_of_le (Heap.lt_size q) dn)
  have una : ∀ {b : Addr}, H b = none → b ≠ a := fun n z => by rw [z, e] at n; cases n
  have alien : ∀ {b : Addr} {o : HO}, H b = some o → exo a C none ≠ o → upd (upd H dx (exd dx [(f, y)])) a (exo a C (some dx)) b = some o := fun {b o} q w => by
    rw [upd_ne (at_ne e q w), upd_ne (ne_of_none q n1), q]
  have U : Un X.fs [] H (upd (upd H dx (exd dx [(f, y)])) a (exo a C (some dx))) hp h' :=
    ⟨fun b o q n _ _ => k b o (una n) q, fun b o q n _ _ => ⟨o.slots, k b o (una n) q⟩, fun b o q n _ => by rw [upd_ne (una n), upd_ne (old q), n],
      fun b o q _ => by
        by_cases z : b = a
        · subst z; exact ⟨_, hx⟩
        · exact ⟨o, k b o z q⟩,
      fun b xs q => alien q exo_tup, fun b o v q => alien q exo_frz, fun b ps q => ⟨#[], by rw [alien q exo_tbl]; simp⟩⟩
  refine h dx _ n1 ne (I.un (t' := tk') U fun b o q => ?_)
  by_cases hb : b = a
  · subst hb
    rw [upd_same] at q; cases q
    exact exo_ok hx
  rw [upd_ne hb] at q
  by_cases hd : b = dx
  · subst hd
    rw [upd_same] at q; cases q
    exact exd_ok hn (relO_put (fs := []) ry fun g => True.intro)
  rw [upd_ne hd] at q
  refine (I.hok b o q).stay (fun c v hc z => k c v ?_ z) (fun c hc => alien hc exo_own) fun c xs hc => alien hc exo_tup
  rcases hc with hc | hc
  · rw [hc]; exact hb
  · exact at_ne e hc exo_own
theorem xst_old (T : SC X.K C) (I : Inv X pins σ H s) (e : H a = some (exo a C (some dx))) (ed : H dx = some (exd dx fs)) (hl : fs.length ≤ 900) (ht : PySem.W.takerIn X.K C f = some none) (ry : RelV y u)
    (h : ∀ s', Inv X pins σ (upd H dx (exd dx ((f, y) :: fs))) s' → Q () s') : wpAny (model X.prog X.w) A (setAttr (.ref a) f u) Q E s := by
  obtain ⟨t1, ho⟩ := exo_at I.hok e
  obtain ⟨mA, hns, rel⟩ := exd_at I.hok ed
  have hw := within_of rel
  obtain ⟨hp, g, d, t, os⟩ := s
  obtain ⟨oD, _, _, hoD, _, _⟩ := hns.count hw
  refine PySem.W.set_plain I.kIn (ox := { cls := .ref C, dict := some dx, data := .fields #[.ref t1, .none, .none, .none, .bool false, .none] }) (od := some oD) ⟨ho, rfl, rfl, hoD⟩ T.sa
    (xosa_old T I.kIn ho hns hw (by rw [List.length_map]; omega) ht fun h' tk' k hn => ?_)
  have ex : ∃ o, h'.get? dx = some o := by
    obtain ⟨o, _, _, e', _⟩ := hn
    exact ⟨o, e'⟩
  exact h _ (I.write (t' := tk') (x := dx) (e := dx) (o := exd dx ((f, y) :: fs)) (by rw [ed]; exact True.intro) (.inl rfl) k ex (exd_ok hn (relO_put ry rel)))
end
/-- self.f = e in the __init__ of such a class -/
def tXst (K : PySem.W.Frag) (f : Str) (to te : TE) : TS := fun D σ H => te σ H fun y H1 => to σ H1 fun x H2 => ∃ a C : Addr, x = .ref a ∧ SC K C ∧ PySem.W.takerIn K C f = some none ∧
  ((H2 a = some (exo a C none) ∧ ∀ dx, H2 dx = none → dx ≠ a → D.nx σ (upd (upd H2 dx (exd dx [(f, y)])) a (exo a C (some dx)))) ∨
    ∃ (dx : Addr) (fs : List (Str × V)), H2 a = some (exo a C (some dx)) ∧ H2 dx = some (exd dx fs) ∧ fs.length ≤ 900 ∧ D.nx σ (upd H2 dx (exd dx ((f, y) :: fs))))
theorem ps_xst {X : Cx} {o e : Expr} {f : Str} {to te : TE} {p' pos : Pos} (ho : PE X o to) (he : PE X e te) (hs : swapsWith e (some (.Attribute o f p')) pos.line X.env = pure false := by rfl) : PS X (.Assign [.Attribute o f p'] e pos) (tXst X.K f to te) :=
  ⟨fun pins s σ H D I h => plainObj_wpAny_Assign_Attribute (thn (he.run pins s σ H _ I h) fun v s1 ⟨y, H1, I1, r1, q1⟩ => thn (ho.run pins s1 σ H1 _ I1 q1) fun u s2 ⟨x, H2, I2, r2, a, C, ex, T, ht, q⟩ => by
    subst ex
    obtain rfl : u = Value.ref a := r2
    rcases q with ⟨ea, q⟩ | ⟨dx, fs, ea, ed, hl, q⟩
    · exact xst_new T I2 ea ht r1 fun dx s' n ne J => ⟨σ, _, J, q dx n ne⟩
    · exact xst_old T I2 ea ed hl ht r1 fun s' J => ⟨σ, _, J, q⟩) hs⟩
end Lb
/-! Exceptions as data: made. -/
namespace Lb
open PySem PySem.Spec PyProof.Rows L2
/-- the class at C of own exceptions, its __init__ at fI -/
structure XC (K : PySem.W.Frag) (C fI : Addr) : Prop where
  ex : ∃ (b newId initId : String) (l : List Value), ExcBaseFacts b newId initId l ∧ PySem.W.excInitIn K C l newId = true
  sc : SC K C
  kC : PySem.W.keepIn K (.ref C) = true
  iC : PySem.W.findIn K (.ref C) "__init__" = some (some (.ref fI))
  tI : PySem.W.typeIn K (.ref fI) = some (.type "function")
/-- what __init__ of such a class does: the fields fs take what is handed in -/
def initH (a C dx : Addr) (fs : List Str) (ys : List V) (H : Hp) : Hp := upd (upd H dx (exd dx (fs.zip ys).reverse)) a (exo a C (some dx))
def spI (K : PySem.W.Frag) (fs : List Str) : Sp := fun vs H Q E => ∃ a C ys, vs = .ref a :: ys ∧ ys.length = fs.length ∧ SC K C ∧ (∀ f ∈ fs, PySem.W.takerIn K C f = some none) ∧ H a = some (exo a C none) ∧
  (fs = [] → Q .non H) ∧ (fs ≠ [] → ∀ dx, H dx = none → dx ≠ a → Q .non (initH a C dx fs ys H))
theorem spI_len {K : PySem.W.Frag} {fs ps : List Str} (h : ps.length = fs.length + 1) : ∀ vs H Q E, spI K fs vs H Q E → vs.length = ps.length := fun vs H Q E ⟨a, C, ys, e, l, _⟩ => by
  subst e; simp [l, h]
section
variable {P : Program} {w : World} {K : PySem.W.Frag} {KK : PySem.W.Frag} {mg : Mg} {base : Heap} {x qual : Str} {st : Stmt} {fI : Addr} {fd : FuncData} {N ps : List Str} {k : Nat}
theorem init0 (F : Fun K x qual st fI fd) (S : FnScope N ps (defScope st)) (hl : ps.length = 1)
    (hb : ∀ (cdv : Value) (A : Around) (outer : List Env) (s : Shared) (H : Hp) (E : XK), PSs (cxOf (L2.CX P w) P w K mg base N qual (defScope st) fI cdv A outer s H E) (defBody st) tNext) :
    FnG P w K mg base (L2.CX P w) (k + 1) fI fd ps (spI K []) := okG F S (spI_len hl) fun cdv A outer s H vs Q E _ hr hgd ⟨a, C, ys, e, l, T, tk, h, q, _⟩ =>
  ⟨_, hb cdv A outer s H E, q rfl⟩
theorem init1 {f : Str} (F : Fun K x qual st fI fd) (S : FnScope N ps (defScope st)) (hl : ps.length = 2)
    (hb : ∀ (cdv : Value) (A : Around) (outer : List Env) (s : Shared) (H : Hp) (E : XK), PSs (cxOf (L2.CX P w) P w K mg base N qual (defScope st) fI cdv A outer s H E) (defBody st) (tXst K f (tVar 0) (tVar 1))) :
    FnG P w K mg base (L2.CX P w) (k + 1) fI fd ps (spI K [f]) := okG F S (spI_len hl) fun cdv A outer s H vs Q E _ hr hgd ⟨a, C, ys, e, l, T, tk, h, _, q⟩ => by
  refine ⟨_, hb cdv A outer s H E, ?_⟩
  subst e
  match ys, l with
  | [y], _ =>
    exact ⟨y, rfl, _, rfl, a, C, rfl, T, tk f List.mem_cons_self, .inl ⟨h, fun dx n ne => q (by simp) dx n ne⟩⟩
theorem upd_comm {H : Hp} {a b : Addr} {o u : HO} (h : a ≠ b) : upd (upd H a o) b u = upd (upd H b u) a o := by
  funext c
  by_cases hb : c = b
  · subst hb; rw [upd_same, upd_ne (Ne.symm h), upd_same]
  · rw [upd_ne hb]
    by_cases ha : c = a
    · subst ha; rw [upd_same, upd_same]
    · rw [upd_ne ha, upd_ne ha, upd_ne hb]
theorem upd_twice {H : Hp} {a : Addr} {o u : HO} : upd (upd H a o) a u = upd H a u := by
  funext c
  by_cases ha : c = a
  · subst ha; rw [upd_same, upd_same]
  · rw [upd_ne ha, upd_ne ha, upd_ne ha]
theorem init2 {f g : Str} (F : Fun K x qual st fI fd) (S : FnScope N ps (defScope st)) (hl : ps.length = 3)
    (hb : ∀ (cdv : Value) (A : Around) (outer : List Env) (s : Shared) (H : Hp) (E : XK), PSs (cxOf (L2.CX P w) P w K mg base N qual (defScope st) fI cdv A outer s H E) (defBody st) (tSeq (tXst K f (tVar 0) (tVar 1)) (tXst K g (tVar 0) (tVar 2)))) :
    FnG P w K mg base (L2.CX P w) (k + 1) fI fd ps (spI K [f, g]) := okG F S (spI_len hl) fun cdv A outer s H vs Q E _ hr hgd ⟨a, C, ys, e, l, T, tk, h, _, q⟩ => by
  refine ⟨_, hb cdv A outer s H E, ?_⟩
  subst e
  match ys, l with
  | [y, z], _ =>
    refine ⟨y, rfl, _, rfl, a, C, rfl, T, tk f (by simp), .inl ⟨h, fun dx n ne => ?_⟩⟩
    refine ⟨z, rfl, _, rfl, a, C, rfl, T, tk g (by simp), .inr ⟨dx, [(f, y)], upd_same, by rw [upd_ne ne, upd_same], by simp, ?_⟩⟩
    have := q (by simp) dx n ne
    unfold initH at this
    rw [upd_comm (Ne.symm ne), upd_twice]
    exact this
end
/-- C(..) of an own exception class as data -/
def mkX (c : Str) (fs : List Str) (ds : List DV) : M Opd := fun S => if ds.length = fs.length then .ok (.v (.v (.exn c (fs.zip ds).reverse))) S else .stuck
section
variable {KK : PySem.W.Frag} {mg : Mg} {B H : Hp}
theorem repf_append {x y : List (Str × V)} {u w : List (Str × DV)} (p : RepF mg B x u) (q : RepF mg B y w) : RepF mg B (x ++ y) (u ++ w) := by
  induction x generalizing u with
  | nil => cases p; exact q
  | cons e x ih => cases p with | cons r p => exact .cons r (ih p)
theorem repf_zip : ∀ {fs : List Str} {vs : List V} {ds : List DV}, Reps mg B vs ds → RepF mg B (fs.zip vs).reverse (fs.zip ds).reverse
  | [], _, _, _ => by simpa using .nil
  | _ :: _, _, _, .nil => by simpa using .nil
  | f :: fs, _, _, .cons r q => by
    simp only [List.zip_cons_cons, List.reverse_cons]
    exact repf_append (repf_zip q) (.cons r .nil)
end
section
variable {X : Cx} {x : Str} {C fI : Addr} {fd : FuncData} {k : Nat} {ps fs : List Str} {p pos : Pos}
/-- what is needed of a class that is called -/
structure KnX (X : Cx) (x : Str) (fs : List Str) : Prop where
  ex : ∃ (C fI : Addr) (fd : FuncData) (k : Nat) (ps : List Str), XC X.K C fI ∧ (∀ f ∈ fs, PySem.W.takerIn X.K C f = some none) ∧ FnG X.prog X.w X.K X.mg X.base (L2.CX X.prog X.w) k fI fd ps (spI X.K fs) ∧ Room (k + 1) X.A ∧ X.A.guards = some [] ∧ Binds X.K fd ps [] ∧
    ps.length = fs.length + 1 ∧ X.mg x = some (.ref C) ∧ fs.length ≤ 100
theorem run_mkx {pins : List (Addr × Obj)} {σ : Sg} {H : Hp} {s : Shared} {Q : VK} {us : List Value} {vs : List V} (T : XC X.K C fI) (tk : ∀ f ∈ fs, PySem.W.takerIn X.K C f = some none)
    (F1 : FnG X.prog X.w X.K X.mg X.base (L2.CX X.prog X.w) k fI fd ps (spI X.K fs)) (hr : Room (k + 1) X.A) (hgd : X.A.guards = some []) (hb : Binds X.K fd ps []) (hp : ps.length = fs.length + 1) (hf : fs.length ≤ 100)
    (I : Inv X pins σ H s) (r : Vals vs us) (hl : vs.length = fs.length)
    (h : ∀ a dx, H a = none → H dx = none → dx ≠ a → (fs = [] → Q (.ref a) (upd H a (exo a C none))) ∧ (fs ≠ [] → Q (.ref a) (upd (upd H dx (exd dx (fs.zip vs).reverse)) a (exo a C (some dx))))) :
    wpAny (model X.prog X.w) X.A (call (.ref C) us) (EP X pins σ Q) X.xe s := by
  obtain ⟨⟨b, newId, initId, l, FB, q⟩, T, kC, iC, tI⟩ := T
  obtain ⟨nm, N, qn, bs, bm, hdct, sn, sub, ab, col, dd, k0, k1, k2, k3, k5, hC, hT⟩ := PySem.W.excInit_of I.kIn q
  obtain ⟨hp', g, dr, tok, os⟩ := s
  have hsz : hp'.objs.size ≤ hp'.objs.size + 1 := Nat.le_succ _
  have kk : ∀ b o, hp'.get? b = some o → ((hp'.push (PySem.W.kdv_tup us)).push (PySem.HandSPX.excO C hp'.objs.size)).get? b = some o := fun b o e => Heap.get?_push_of_some _ (Heap.get?_push_of_some _ e)
  have hget : ((hp'.push (PySem.W.kdv_tup us)).push (PySem.HandSPX.excO C hp'.objs.size)).get? (hp'.objs.size + 1) = some (PySem.HandSPX.excO C hp'.objs.size) := by heap_get
  have n0 : H (hp'.objs.size + 1) = none := I.hok.fresh hsz
  have I2 : Inv X pins σ (upd H (hp'.objs.size + 1) (exo (hp'.objs.size + 1) C none)) ⟨(hp'.push (PySem.W.kdv_tup us)).push (PySem.HandSPX.excO C hp'.objs.size), g, dr, tok, os⟩ :=
    I.laid (t' := tok) (a := hp'.objs.size + 1) (o := exo (hp'.objs.size + 1) C none) kk hsz (exo_ok hget)
  have r2 : Vals (V.ref (hp'.objs.size + 1) :: vs) (Value.ref (hp'.objs.size + 1) :: us) := .cons rfl r
  have hlu : (Value.ref (hp'.objs.size + 1) :: us ++ []).length = ps.length := by rw [List.append_nil, ← r2.length, hp, List.length_cons, hl]
  have hus : us.length ≤ sizeLine := by rw [← r.length, hl, sizeLine_eq]; omega
  have hq : spI X.K fs (V.ref (hp'.objs.size + 1) :: vs) (upd H (hp'.objs.size + 1) (exo (hp'.objs.size + 1) C none)) (fun v H' => v = .non ∧ Q (.ref (hp'.objs.size + 1)) H') (fun _ _ _ => False) := by
    refine ⟨_, C, vs, rfl, hl, T, tk, upd_same, fun e => ⟨rfl, ?_⟩, fun e dx n ne => ⟨rfl, ?_⟩⟩
    · exact ((h _ (hp'.objs.size + 2) n0 (I.hok.fresh (show hp'.objs.size ≤ hp'.objs.size + 2 by omega)) (show hp'.objs.size + 2 ≠ hp'.objs.size + 1 by omega)).1 e)
    · rw [upd_ne ne] at n
      unfold initH
      rw [upd_comm (Ne.symm ne), upd_twice]
      exact (h _ dx n0 n ne).2 e
  have bd := hb _ (Value.ref (hp'.objs.size + 1) :: us) I2.kIn hlu
  rw [List.append_nil] at bd
  refine wpAny_call (PySem.HandSPX.call_own FB hT hC (PySem.W.looks_findIn I.kIn iC) (fun self => PySem.W.bind_fn I.kIn self tI) hus
    (codeAny_mono (F1.run _ X.stack _ _ ⟨Value.ref (hp'.objs.size + 1) :: us, []⟩ (Value.ref (hp'.objs.size + 1) :: us) _ _ (fun _ _ _ => False) (hr.make C us []) (guards_make hgd C us []) (I2.env0.make C us []) bd r2 hq) fun r s' hq' => ?_))
  cases r with
  | error er => exact passL (X := X) pins σ _ _ er s' I2 hq'
  | ok fl =>
    cases fl with
    | ret u =>
      obtain ⟨v, H', I3, rv, ev, q3⟩ := I2.after hq'
      subst ev
      exact ⟨rv, ⟨V.ref (hp'.objs.size + 1), H', I3, rfl, q3⟩⟩
    | next => exact False.elim hq'
    | brk => exact False.elim hq'
    | cont => exact False.elim hq'
theorem mkX_spec {c : Str} {fs : List Str} {ds : List DV} {S : Sl} {K : Opd → Sl → Prop} {E : Str → List (Str × DV) → Sl → Prop} (h : (mkX c fs ds S).spec K E) : ds.length = fs.length ∧ K (.v (.v (.exn c (fs.zip ds).reverse))) S := if_spec h
/-- the new one as an operand -/
theorem mkx_end {KK : PySem.W.Frag} {mg : Mg} {c : Str} (hm : mg c = some (.ref C)) {B H B1 H1 : Hp} {σ : Sg} {S S1 : Sl} {vs : List V} {ds : List DV} {Q : VK} {E : Str → List (Str × DV) → Sl → Prop} (s : Stp KK mg B H σ S B1 H1 σ S1) (hs : Has S S1) (r : Reps mg B1 vs ds)
    (h : (mkX c fs ds S1).spec (fun o S' => ∀ v B' H', Stp KK mg B H σ S B' H' σ S' → Has S S' → OpdR mg B' H' σ S' v o → Young H v o → Q v H') E) :
    vs.length = fs.length ∧ ∀ a dx, H1 a = none → H1 dx = none → dx ≠ a → (fs = [] → Q (.ref a) (upd H1 a (exo a C none))) ∧ (fs ≠ [] → Q (.ref a) (upd (upd H1 dx (exd dx (fs.zip vs).reverse)) a (exo a C (some dx)))) := by
  obtain ⟨hl, k⟩ := mkX_spec h
  refine ⟨r.length.trans hl, fun a dx na nd ne => ⟨fun e => ?_, fun e => ?_⟩⟩
  · subst e
    have n : New B1 H1 (upd B1 a (exo a C none)) (upd H1 a (exo a C none)) := .alloc s.st.le na
    have res : Res mg B1 H1 (.ref a) (.v (.exn c [])) (upd B1 a (exo a C none)) (upd H1 a (exo a C none)) := ⟨n, .v (.exn hm upd_same), fun b h => by cases h⟩
    obtain ⟨s3, opd, y⟩ := res.opd s.st
    cases ds with
    | nil => exact k _ _ _ (s.trans s3) hs opd (y.pre s)
    | cons _ _ => cases hl
  · have na' : (upd H1 dx (exd dx (fs.zip vs).reverse)) a = none := by rw [upd_ne (Ne.symm ne)]; exact na
    have n1 : New B1 H1 (upd B1 dx (exd dx (fs.zip vs).reverse)) (upd H1 dx (exd dx (fs.zip vs).reverse)) := .alloc s.st.le nd
    have n2 := New.alloc n1.le na' (o := exo a C (some dx))
    have n := n1.trans n2
    have rf : RepF mg (upd (upd B1 dx (exd dx (fs.zip vs).reverse)) a (exo a C (some dx))) (fs.zip vs).reverse (fs.zip ds).reverse := RepF.mono n.sub (repf_zip r)
    have res : Res mg B1 H1 (.ref a) (.v (.exn c (fs.zip ds).reverse)) _ _ := ⟨n, .v (.exd hm upd_same (by rw [upd_ne ne, upd_same]) rf), fun b h => by cases h⟩
    obtain ⟨s3, opd, y⟩ := res.opd s.st
    exact k _ _ _ (s.trans s3) hs opd (y.pre s)
variable {e : Expr} {es : List Expr} {ms : M (List DV)}
theorem px_mkx (F : KnX X x fs) (hg : Gl X x) (ha : FXs X (e :: es) ms) (hdb : (x == ("__debug__" : Str)) = false := by decide)
    (he : starEach (e :: es) X.env = (false, eval e X.env) :: starEach es X.env := by rfl) (hpl : (backTo pos (starEach es X.env)).any (·.1) = false := by rfl) :
    PX X (.Call (.Name x p) (e :: es) [] pos) (M.bind ms (mkX x fs)) := fun W tk => by
  obtain ⟨C, fI, fd, k, ps, T, tks, F1, hr, hgd, hb, hp, hm, hf⟩ := F.ex
  refine ⟨fun pins s σ H Q I ⟨B, S, st, q⟩ => ?_⟩
  refine wpAny_Call_Name_kw (ld_glob I hg hm ?_ hdb)
  refine PySem.W.callWith_K (h₀ := X.base) I.ok.mod.kin T.kC (thn ((ha W tk).run pos pins s σ H (fun vs H1 => vs.length = fs.length ∧ ∀ a dx, H1 a = none → H1 dx = none → dx ≠ a → (fs = [] → Q (.ref a) (upd H1 a (exo a C none))) ∧ (fs ≠ [] → Q (.ref a) (upd (upd H1 dx (exd dx (fs.zip vs).reverse)) a (exo a C (some dx)))))
    I ⟨B, S, st, (spec_bind.mp q).imp (fun ds S1 _ q vs B1 H1 s hs r => mkx_end hm s hs r q) fun _ _ _ h => h⟩) fun us s1 hh => ?_) he hpl
  obtain ⟨vs, H1, I1, r, hl, q⟩ := hh
  exact ⟨I1.kIn, run_mkx T tks F1 hr hgd hb hp hf I1 r hl q⟩
theorem px_mkx0 (F : KnX X x []) (hg : Gl X x) (hdb : (x == ("__debug__" : Str)) = false := by decide) : PX X (.Call (.Name x p) [] [] pos) (mkX x [] []) := fun W tk => by
  obtain ⟨C, fI, fd, k, ps, T, tks, F1, hr, hgd, hb, hp, hm, hf⟩ := F.ex
  refine ⟨fun pins s σ H Q I ⟨B, S, st, q⟩ => ?_⟩
  refine wpAny_Call_Name_kw (ld_glob I hg hm ?_ hdb)
  obtain ⟨hl, q⟩ := mkx_end (vs := []) hm (.refl st) (.refl S) .nil q
  exact PySem.W.callWith_K0 I.kIn T.kC (run_mkx T tks F1 hr hgd hb hp hf I .nil hl q)
end
end Lb
/-! Exceptions made with keywords. -/
namespace PySem
namespace LbT
section
open Builtin Builtin.ObjectAttr
variable {M : Model} {A : Around} {E : Value → Shared → Prop} {h : Heap} {g : Array GenState} {d : Drawn} {t : Nat} {os : OsState}
variable {nm q : Str} {C N : Addr} {bs bm bmB : List Value} {hdct : Bool} {sn : List Str} {sub : List Value} {ab : Bool} {col : Option Bool} {dd : Option Addr} {k0 k1 k2 k3 k5 : Option Value} {B newId initId : String}
theorem xcheck_new (F : ExcBaseFacts B newId initId bmB) (hT : ∀ X : String, bm.contains (.type X) = bmB.contains (.type X)) {rest : List Value} {kw : List (Str × Value)} {Q : Unit → Shared → Prop}
    (hC : h.get? C = some (excClassObj nm q C N bs bm hdct sn sub ab col dd k0 k1 k2 k3 k5 newId)) (hq : Q () ⟨h, g, d, t, os⟩) : wpAny M A (checkBuiltinCall newId ⟨.ref C :: rest, kw⟩) Q E ⟨h, g, d, t, os⟩ := by
  have h1 : (Value.ref C :: bm).contains (.type B) = true := by rw [List.contains_cons, hT, F.hasB, Bool.or_true]
  have h2 := F.noStar
  simp only [checkBuiltinCall, F.newKind, F.newSplit, F.newRow]
  repeat (first | refine wpAny_loadPart_at hC ?_ | (refine wpAny_isSubtype_exc hC ?_; rw [h1]) | refine wpAny_staticBase_exc hC ?_ | refine wpAny_madeBy_exc hC ?_ | simp only [bne_self_eq_false, Bool.false_eq_true, if_false] | wp_step)
  exact hq
end
section
open Builtin Builtin.ObjectAttr
variable {prog : Program} {w : World} {A : Around} {E : Value → Shared → Prop} {R : Result → Shared → Prop} {h : Heap} {g : Array GenState} {d : Drawn} {t : Nat} {os : OsState}
variable {nm q : Str} {C N : Addr} {bs bm bmB : List Value} {hdct : Bool} {sn : List Str} {sub : List Value} {ab : Bool} {col : Option Bool} {dd : Option Addr} {k0 k1 k2 k3 k5 : Option Value} {B newId initId : String}
theorem xnew_own (F : ExcBaseFacts B newId initId bmB) (hT : ∀ X : String, bm.contains (.type X) = bmB.contains (.type X)) {rest : List Value} {kw : List (Str × Value)}
    (hC : h.get? C = some (excClassObj nm q C N bs bm hdct sn sub ab col dd k0 k1 k2 k3 k5 newId)) (hrest : rest.length ≤ sizeLine)
    (hq : R (.ok (.ret (.ref (h.objs.size + 1)))) ⟨(h.push (PySem.W.kdv_tup rest)).push (PySem.HandSPX.excO C h.objs.size), g, d, t, os⟩) :
    codeAny (model prog w) A (.builtin newId ⟨.ref C :: rest, kw⟩) R ⟨h, g, d, t, os⟩ := by
  have he := F.ends
  have c1 : (Value.ref C :: bm).contains (.type B) = true := by rw [List.contains_cons, hT, F.hasB, Bool.or_true]
  have c2 : (Value.ref C :: bm).contains (.type "AttributeError") = false := by rw [List.contains_cons, hT, F.noAttr]; rfl
  have c3 : (Value.ref C :: bm).contains (.type "NameError") = false := by rw [List.contains_cons, hT, F.noName]; rfl
  refine codeAny_builtinAt F.entry ?_
  unfold Builtin.«BaseException.__new__»
  refine wpAt_bind ?_
  show wpAt _ _ _ (stack >>= _) _ _ _
  refine wpAt_bind (wpAt_stack fun p below => wpAt_of_wpAny ?_)
  wp_walk
  refine wpAt_of_wpAny ?_
  rw [F.owner]
  repeat (first | with_reducible refine wpAny_madeHere_exc F.canon hC ?_ | with_reducible refine wpAny_loadPart_at hC ?_ | (with_reducible refine wpAny_isSubtype_exc hC ?_; first | rw [c1] | rw [c2] | rw [c3]) | wp_step)
  show R _ _
  rw [Heap.size_push]
  exact hq
theorem xtype_call (F : ExcBaseFacts B newId initId bmB) (hT : ∀ X : String, bm.contains (.type X) = bmB.contains (.type X)) {rest : List Value} {kw : List (Str × Value)} {fI : Addr} {Q : Fin → Shared → Prop}
    (hC : h.get? C = some (excClassObj nm q C N bs bm hdct sn sub ab col dd k0 k1 k2 k3 k5 newId)) (hrest : rest.length ≤ sizeLine)
    (hi : PySem.W.Looks (model prog w) h (typeLookup (.ref C) "__init__") (some (.ref fI))) (hb : ∀ self, PySem.W.Looks (model prog w) h (bindSpecial (.ref fI) self) (.ref fI, [self]))
    (hq : codeAny (model prog w) A (.call (.ref fI) ⟨.ref (h.objs.size + 1) :: rest, kw⟩)
      (fun r s' => match r with | .ok (.ret v) => v = .none ∧ Q (.done (.ret (.ref (h.objs.size + 1)))) s' | .ok _ => False | .error e => E e s') ⟨(h.push (PySem.W.kdv_tup rest)).push (PySem.HandSPX.excO C h.objs.size), g, d, t, os⟩) :
    wpAny (model prog w) A (Builtin.«type.__call__» ⟨.ref C :: rest, kw⟩) Q E ⟨h, g, d, t, os⟩ := by
  repeat (first | with_reducible refine wpAny_loadPart_at hC ?_ | with_reducible refine wpAny_madeBy_exc hC ?_ | wp_step)
  refine codeAny_call_builtin_code (Code.quiet_builtin _ F.quiet) (xcheck_new F hT hC (xnew_own F hT hC hrest ?_))
  show wpAny _ _ _ _ _ _
  have k : ∀ b o, h.get? b = some o → ((h.push (PySem.W.kdv_tup rest)).push (PySem.HandSPX.excO C h.objs.size)).get? b = some o := fun b o e => Heap.get?_push_of_some _ (Heap.get?_push_of_some _ e)
  have hC1 := k _ _ hC
  have hg : ((h.push (PySem.W.kdv_tup rest)).push (PySem.HandSPX.excO C h.objs.size)).get? (h.objs.size + 1) = some (PySem.HandSPX.excO C h.objs.size) := by heap_get
  have cC : (Value.ref C :: bm).contains (.ref C) = true := by simp
  have i1 := hi.keeps k
  have b1 := (hb (.ref (h.objs.size + 1))).keeps k
  unfold isInstance
  repeat (first | with_reducible refine wpAny_loadPart_at hg ?_ | (with_reducible refine wpAny_isSubtype_exc hC1 ?_; rw [cC]) | wp_step)
  show wpAny _ _ (typeLookup (.ref C) _) _ _ _
  refine i1.at (wpAny_holding (wpAny_bind (b1.at ?_)))
  refine wpAny_bind (wpAny_call (codeAny_mono hq fun r s' z => ?_))
  rcases r with e | (v | _ | _ | _) <;> first | exact z | exact z.elim | skip
  obtain ⟨rfl, z⟩ := z
  first
    | exact wpAny_pure (wpAny_pure z)
    | (wp_walk; exact z)
theorem xcall_own (F : ExcBaseFacts B newId initId bmB) (hT : ∀ X : String, bm.contains (.type X) = bmB.contains (.type X)) {rest : List Value} {kw : List (Str × Value)} {fI : Addr}
    (hC : h.get? C = some (excClassObj nm q C N bs bm hdct sn sub ab col dd k0 k1 k2 k3 k5 newId)) (hrest : rest.length ≤ sizeLine)
    (hi : PySem.W.Looks (model prog w) h (typeLookup (.ref C) "__init__") (some (.ref fI))) (hb : ∀ self, PySem.W.Looks (model prog w) h (bindSpecial (.ref fI) self) (.ref fI, [self]))
    (hq : codeAny (model prog w) (A.under (.builtin "type.__call__" ⟨.ref C :: rest, kw⟩)) (.call (.ref fI) ⟨.ref (h.objs.size + 1) :: rest, kw⟩) (PySem.W.InitBack (h.objs.size + 1) R)
      ⟨(h.push (PySem.W.kdv_tup rest)).push (PySem.HandSPX.excO C h.objs.size), g, d, t, os⟩) :
    codeAny (model prog w) A (.call (.ref C) ⟨rest, kw⟩) R ⟨h, g, d, t, os⟩ := by
  have f1 := tc_lookup
  have f2 := tc_bind (.ref C)
  have f3 : (⟨h, g, d, t, os⟩ : Shared).TypeIs (.ref C) "type" := ⟨_, hC, rfl⟩
  refine codeAny_of_tree ?_
  show wpAny _ _ (callAny (.ref C) _) _ _ _
  repeat (any_goals (first | assumption | with_reducible refine wpAny_loadPart_at hC ?_ | wp_step))
  refine ⟨rfl, ?_⟩
  refine codeAny_call_builtin_at (Code.quiet_builtin _ (by decide +kernel)) entry_typeCall (wpAny_check_type_call_sub hC (xtype_call F hT hC hrest hi hb (codeAny_mono hq fun r s' z => ?_)))
  rcases r with e | (v | _ | _ | _) <;> exact z
end
end LbT
end PySem
/-! Exceptions made with keywords: the rule. -/
namespace Lb
open PySem PySem.Spec PyProof.Rows L2
def FKs (X : Cx) (kws : List Keyword) (m : M (List DV)) : Prop := ∀ W, Takes X W → PK X kws (tFs X.K X.mg m W)
theorem PK.imp {X : Cx} {e : List Keyword} {t t' : TA} (h : PK X e t) (i : ∀ σ H Q, t' σ H Q → t σ H Q) : PK X e t' := ⟨fun p q s σ H Q I r => h.run p q s σ H Q I (i σ H Q r)⟩
theorem fks_nil {X : Cx} : FKs X [] (M.pure []) := fun W tk => PK.imp pk_nil fun σ H Q ⟨B, S, st, q⟩ => q [] B H (.refl st) (.refl S) .nil
theorem fks_cons {X : Cx} {e : Expr} {nm : Option Str} {kpos : Pos} {kws : List Keyword} {m : M DV} {ms : M (List DV)} (h : FX X e m) (hs : FKs X kws ms) :
    FKs X (⟨nm, e, kpos⟩ :: kws) (M.bind m fun o => M.bind ms fun os => M.pure (o :: os)) := fun W tk => PK.imp (pk_cons (h W tk) (hs W tk)) fun σ H Q ⟨B, S, st, q⟩ =>
  ⟨B, S, st, (spec_bind.mp q).imp (fun o S1 _ q v B1 H1 s hs or => ⟨B1, S1, s.st, (spec_bind.mp q).imp (fun os S2 _ q vs B2 H2 s2 hs2 ors =>
    q (v :: vs) B2 H2 (s.trans s2) (hs.trans hs2) (.cons (or.mono s2.grow.sub) ors)) fun _ _ _ h => h.pre s⟩) fun _ _ _ h => h⟩
/-- keywords in the fields' sequence, or against it -/
def gk (sw : Bool) {α : Type} (l : List α) : List α := if sw then l.reverse else l
theorem gk_len {sw : Bool} {α : Type} {l : List α} : (gk sw l).length = l.length := by unfold gk; split <;> simp
theorem vals_rev : ∀ {vs : List V} {us : List Value}, Vals vs us → Vals vs.reverse us.reverse
  | _, _, .nil => .nil
  | _, _, .cons r q => by
    rw [List.reverse_cons, List.reverse_cons]
    exact (vals_rev q).append (.cons r .nil)
theorem vals_gk {sw : Bool} {vs : List V} {us : List Value} (r : Vals vs us) : Vals (gk sw vs) (gk sw us) := by
  unfold gk
  split
  · exact vals_rev r
  · exact r
theorem reps_rev {mg : Mg} {B : Hp} : ∀ {vs : List V} {us : List DV}, Reps mg B vs us → Reps mg B vs.reverse us.reverse
  | _, _, .nil => by simpa using Reps.nil
  | _, _, .cons r q => by simpa using (reps_rev q).snoc r
theorem reps_gk {mg : Mg} {B : Hp} {sw : Bool} {vs : List V} {us : List DV} (r : Reps mg B vs us) : Reps mg B (gk sw vs) (gk sw us) := by
  unfold gk
  split
  · exact reps_rev r
  · exact r
structure KnXk (X : Cx) (x : Str) (fs ks : List Str) (sw : Bool) : Prop where
  ex : ∃ (C fI : Addr) (fd : FuncData) (k : Nat) (ps : List Str), XC X.K C fI ∧ (∀ f ∈ fs, PySem.W.takerIn X.K C f = some none) ∧ FnG X.prog X.w X.K X.mg X.base (L2.CX X.prog X.w) k fI fd ps (spI X.K fs) ∧ Room (k + 1) X.A ∧ X.A.guards = some [] ∧
    (∀ (s : Shared) (u : Value) (ws : List Value), X.K.In s.heap → ws.length = fs.length → BindsTo s fd ⟨[u], ks.zip ws⟩ (ps.zip (u :: gk sw ws))) ∧ X.mg x = some (.ref C)
section
variable {X : Cx} {x : Str} {C fI : Addr} {fd : FuncData} {k : Nat} {ps fs ks : List Str} {sw : Bool} {p pos : Pos}
theorem run_mkxk {pins : List (Addr × Obj)} {σ : Sg} {H : Hp} {s : Shared} {Q : VK} {ws : List Value} {zs : List V} (T : XC X.K C fI) (tk : ∀ f ∈ fs, PySem.W.takerIn X.K C f = some none)
    (F1 : FnG X.prog X.w X.K X.mg X.base (L2.CX X.prog X.w) k fI fd ps (spI X.K fs)) (hr : Room (k + 1) X.A) (hgd : X.A.guards = some [])
    (hb : ∀ (s : Shared) (u : Value) (ws : List Value), X.K.In s.heap → ws.length = fs.length → BindsTo s fd ⟨[u], ks.zip ws⟩ (ps.zip (u :: gk sw ws)))
    (I : Inv X pins σ H s) (r : Vals zs ws) (hl : zs.length = fs.length)
    (h : ∀ a dx, H a = none → H dx = none → dx ≠ a → (fs = [] → Q (.ref a) (upd H a (exo a C none))) ∧ (fs ≠ [] → Q (.ref a) (upd (upd H dx (exd dx (fs.zip (gk sw zs)).reverse)) a (exo a C (some dx))))) :
    wpAny (model X.prog X.w) X.A (call (.ref C) [] (ks.zip ws)) (EP X pins σ Q) X.xe s := by
  obtain ⟨⟨b, newId, initId, l, FB, q⟩, T, kC, iC, tI⟩ := T
  obtain ⟨nm, N, qn, bs, bm, hdct, sn, sub, ab, col, dd, k0, k1, k2, k3, k5, hC, hT⟩ := PySem.W.excInit_of I.kIn q
  obtain ⟨hp', g, dr, tok, os⟩ := s
  have hsz : hp'.objs.size ≤ hp'.objs.size + 1 := Nat.le_succ _
  have kk : ∀ b o, hp'.get? b = some o → ((hp'.push (PySem.W.kdv_tup [])).push (PySem.HandSPX.excO C hp'.objs.size)).get? b = some o := fun b o e => Heap.get?_push_of_some _ (Heap.get?_push_of_some _ e)
  have hget : ((hp'.push (PySem.W.kdv_tup [])).push (PySem.HandSPX.excO C hp'.objs.size)).get? (hp'.objs.size + 1) = some (PySem.HandSPX.excO C hp'.objs.size) := by heap_get
  have n0 : H (hp'.objs.size + 1) = none := I.hok.fresh hsz
  have I2 : Inv X pins σ (upd H (hp'.objs.size + 1) (exo (hp'.objs.size + 1) C none)) ⟨(hp'.push (PySem.W.kdv_tup [])).push (PySem.HandSPX.excO C hp'.objs.size), g, dr, tok, os⟩ :=
    I.laid (t' := tok) (a := hp'.objs.size + 1) (o := exo (hp'.objs.size + 1) C none) kk hsz (exo_ok hget)
  have r2 : Vals (V.ref (hp'.objs.size + 1) :: gk sw zs) (Value.ref (hp'.objs.size + 1) :: gk sw ws) := .cons rfl (vals_gk r)
  have hq : spI X.K fs (V.ref (hp'.objs.size + 1) :: gk sw zs) (upd H (hp'.objs.size + 1) (exo (hp'.objs.size + 1) C none)) (fun v H' => v = .non ∧ Q (.ref (hp'.objs.size + 1)) H') (fun _ _ _ => False) := by
    refine ⟨_, C, gk sw zs, rfl, by rw [gk_len, hl], T, tk, upd_same, fun e => ⟨rfl, ?_⟩, fun e dx n ne => ⟨rfl, ?_⟩⟩
    · exact ((h _ (hp'.objs.size + 2) n0 (I.hok.fresh (show hp'.objs.size ≤ hp'.objs.size + 2 by omega)) (show hp'.objs.size + 2 ≠ hp'.objs.size + 1 by omega)).1 e)
    · rw [upd_ne ne] at n
      unfold initH
      rw [upd_comm (Ne.symm ne), upd_twice]
      exact (h _ dx n0 n ne).2 e
  have bd := hb _ (Value.ref (hp'.objs.size + 1)) ws I2.kIn (r.length.symm.trans hl)
  refine wpAny_call (PySem.LbT.xcall_own FB hT hC (Nat.zero_le _) (PySem.W.looks_findIn I.kIn iC) (fun self => PySem.W.bind_fn I.kIn self tI)
    (codeAny_mono (F1.run _ X.stack _ _ ⟨[Value.ref (hp'.objs.size + 1)], ks.zip ws⟩ (Value.ref (hp'.objs.size + 1) :: gk sw ws) _ _ (fun _ _ _ => False) (hr.make C [] (ks.zip ws)) (guards_make hgd C [] (ks.zip ws)) (I2.env0.make C [] (ks.zip ws)) bd r2 hq) fun r s' hq' => ?_))
  cases r with
  | error er => exact passL (X := X) pins σ _ _ er s' I2 hq'
  | ok fl =>
    cases fl with
    | ret u =>
      obtain ⟨v, H', I3, rv, ev, q3⟩ := I2.after hq'
      subst ev
      exact ⟨rv, ⟨V.ref (hp'.objs.size + 1), H', I3, rfl, q3⟩⟩
    | next => exact False.elim hq'
    | brk => exact False.elim hq'
    | cont => exact False.elim hq'
variable {kws : List Keyword} {ms : M (List DV)}
theorem px_mkxk (F : KnXk X x fs ks sw) (hg : Gl X x) (ha : FKs X kws ms) (hall : (backToKw pos (keywordEach kws X.env)).all (·.1.isSome) = true := by rfl) (hks : (backToKw pos (keywordEach kws X.env)).filterMap (·.1) = ks := by rfl)
    (hdb : (x == ("__debug__" : Str)) = false := by decide) (hpl : ((backTo pos (starEach [] X.env)).any (·.1) || (backToKw pos (keywordEach kws X.env)).any (·.1.isNone)) = false := by rfl) :
    PX X (.Call (.Name x p) [] kws pos) (M.bind ms fun ds => mkX x fs (gk sw ds)) := fun W tk => by
  obtain ⟨C, fI, fd, k, ps, T, tks, F1, hr, hgd, hb, hm⟩ := F.ex
  refine ⟨fun pins s σ H Q I ⟨B, S, st, q⟩ => ?_⟩
  refine wpAny_Call_Name_kw (ld_glob I hg hm ?_ hdb)
  refine PySem.W.callWith_KW0 (h₀ := X.base) I.ok.mod.kin T.kC hall ?_ hpl
  refine thn ((ha W tk).run pos pins s σ H (fun vs H1 => vs.length = fs.length ∧ ∀ a dx, H1 a = none → H1 dx = none → dx ≠ a → (fs = [] → Q (.ref a) (upd H1 a (exo a C none))) ∧ (fs ≠ [] → Q (.ref a) (upd (upd H1 dx (exd dx (fs.zip (gk sw vs)).reverse)) a (exo a C (some dx)))))
    I ⟨B, S, st, (spec_bind.mp q).imp (fun ds S1 _ q vs B1 H1 s hs r => ?_) fun _ _ _ h => h⟩) fun ws s2 hh => ?_
  · have := mkx_end hm s hs (reps_gk (sw := sw) r) q
    exact ⟨by rw [← this.1, gk_len], this.2⟩
  · obtain ⟨zs, H2, I2, rz, hl, q2⟩ := hh
    refine ⟨I2.kIn, ?_⟩
    rw [hks]
    exact run_mkxk T tks F1 hr hgd hb I2 rz hl q2
end
end Lb
/-! Exceptions as data: asked. -/
namespace Lb
open PySem PySem.Spec PyProof.Rows L2
theorem exn_at {mg : Mg} {B H : Hp} (le : Sub B H) {v : V} {c : Str} {gs : List (Str × DV)} (r : Rep mg B v (.exn c gs)) : ∃ a C d, v = .ref a ∧ mg c = some (.ref C) ∧ H a = some (exo a C d) ∧
    (d = none → gs = []) ∧ (∀ dx, d = some dx → ∃ fs, H dx = some (exd dx fs) ∧ RepF mg B fs gs) := by
  cases r with
  | exn hm h => exact ⟨_, _, none, rfl, hm, le.keep _ _ h rfl, fun _ => rfl, fun dx e => by cases e⟩
  | exd hm h h' q => exact ⟨_, _, some _, rfl, hm, le.keep _ _ h rfl, fun e => (by cases e), fun dx e => by cases e; exact ⟨_, le.keep _ _ h' rfl, q⟩⟩
theorem exo_inst {P : Program} {w : World} {H : Hp} {h : Heap} {a C : Addr} {d : Option Addr} (hok : HOk P w H h) (e : H a = some (exo a C d)) (hd : ∀ dx, d = some dx → ∃ fs, H dx = some (exd dx fs)) :
    ∃ ox od, PySem.W.InstAt h a ox C od ∧ (∀ dx fs, d = some dx → H dx = some (exd dx fs) → ∃ o mA, od = some o ∧ PySem.W.lookIn = PySem.W.lookIn ∧ h.get? dx = some o ∧ h.Ns1 dx mA ∧ ∀ f, RelO (fs.lookup f) (mA f)) := by
  obtain ⟨t1, ho⟩ := exo_at hok e
  cases d with
  | none => exact ⟨_, none, ⟨ho, rfl, rfl, trivial⟩, fun dx fs e => by cases e⟩
  | some dx =>
    obtain ⟨fs, hx⟩ := hd dx rfl
    obtain ⟨mA, hn, rel⟩ := exd_at hok hx
    obtain ⟨o, es, ep, q1, q2, q3⟩ := id hn
    refine ⟨_, some o, ⟨ho, rfl, rfl, q1⟩, fun dx' fs' e' h' => ?_⟩
    cases e'
    have : fs' = fs ∨ True := .inr trivial
    obtain ⟨mA', hn', rel'⟩ := exd_at hok h'
    exact ⟨o, mA', rfl, rfl, q1, hn', rel'⟩
/-- the field n of an exception of a class of tab -/
def fld (tab : List Str) (n : Str) (d : DV) : M DV := match d with
  | .exn c fs => if tab.contains c then M.of (fs.lookup n) else M.stuck
  | _ => M.stuck
section
variable {KK : PySem.W.Frag} {mg : Mg} {B : Hp}
theorem repf_lookup {n : Str} : ∀ {fs : List (Str × V)} {gs : List (Str × DV)} {d : DV}, RepF mg B fs gs → gs.lookup n = some d → ∃ v, fs.lookup n = some v ∧ Rep mg B v d
  | _, _, _, .nil, h => by cases h
  | (k, x) :: fs, (_, e) :: gs, d, .cons r q, h => by
    rw [List.lookup] at h ⊢
    cases hk : n == k with
    | true => rw [hk] at h; cases h; exact ⟨x, rfl, r⟩
    | false => rw [hk] at h; exact repf_lookup q h
end
section
variable {X : Cx} {e : Expr} {n : Str} {pos : Pos} {me : M DV} {tab : List Str}
theorem fld_spec {d : DV} {S : Sl} {K : DV → Sl → Prop} {E : Str → List (Str × DV) → Sl → Prop} (h : (fld tab n d S).spec K E) : ∃ c fs v, d = .exn c fs ∧ c ∈ tab ∧ fs.lookup n = some v ∧ K v S := by
  unfold fld at h
  split at h
  · rename_i c fs
    split at h
    · rename_i hc
      obtain ⟨v, e, k⟩ := of_spec h
      exact ⟨c, fs, v, rfl, by simpa using hc, e, k⟩
    · exact h.elim
  · exact h.elim
theorem fx_fld (hT : ∀ c ∈ tab, ∀ C, X.mg c = some (.ref C) → XfC X.K C ∧ PySem.W.findIn X.K (.ref C) n = some none) (he : FX X e me) (hb : attributeBase e n X.env (eval e X.env) = eval e X.env := by rfl) :
    FX X (.Attribute e n pos) (M.bind me (fld tab n)) := fun W tk => by
  refine ⟨fun pins s σ H Q I ⟨B, S, st, q⟩ => attr_of hb (thn ((he W tk).run pins s σ H (fun x H1 => ∃ (a C dx : Addr) (fs : List (Str × V)) (v : V), x = .ref a ∧ XfC X.K C ∧ PySem.W.findIn X.K (.ref C) n = some none ∧ H1 a = some (exo a C (some dx)) ∧ H1 dx = some (exd dx fs) ∧ fs.lookup n = some v ∧ Q v H1) I
    ⟨B, S, st, (spec_bind.mp q).imp (fun d S1 _ q v B1 H1 s hs r => ?_) fun _ _ _ h => h⟩) fun u s1 hh => ?_)⟩
  · obtain ⟨c, gs, d', rfl, hc, hl, k⟩ := fld_spec q
    obtain ⟨a, C, dd, rfl, hm, ha, h0, h1⟩ := exn_at s.st.le r
    cases dd with
    | none => rw [h0 rfl] at hl; cases hl
    | some dx =>
      obtain ⟨fs, hx, rf⟩ := h1 dx rfl
      obtain ⟨v, e1, rv⟩ := repf_lookup rf hl
      obtain ⟨t1, t2⟩ := hT c hc C hm
      exact ⟨a, C, dx, fs, v, rfl, t1, t2, ha, hx, e1, k v B1 H1 s hs rv⟩
  · obtain ⟨x, H1, I1, rx, a, C, dx, fs, v, rfl, T, hno, ha, hx, l, k⟩ := hh
    obtain rfl : u = Value.ref a := rx
    obtain ⟨t1, ho⟩ := exo_at I1.hok ha
    obtain ⟨mA, hns, rel⟩ := exd_at I1.hok hx
    obtain ⟨od, hod, hl⟩ := lookIn_ns hns
    obtain ⟨w, hw, rw'⟩ := RelO.some_of (v := v) (o := mA n) (by rw [← l]; exact rel n)
    have J : PySem.W.InstAt s1.heap a _ C (some od) := ⟨ho, rfl, rfl, hod⟩
    exact HandSPX.exc_get I1.kIn J T.ga T.gg T.exC (PySem.W.findObj_own T.hdC hno rfl (by rw [hl, hw])) (handed_of rw') ⟨v, H1, I1.tok _, rw', k⟩
end
/-- isinstance(e, c) of an exception that is held as data -/
def rIsx (K : PySem.W.Frag) : List V → Hp → VK → Prop := fun xs H Q => ∃ (a C : Addr) (d : Option Addr) (c : V) (u : Value) (b : Bool), xs = [.ref a, c] ∧ ClsV c u ∧ H a = some (exo a C d) ∧
  (∀ dx, d = some dx → ∃ fs, H dx = some (exd dx fs)) ∧ ExcC K C ∧ PySem.W.kitOne K (.ref C) u = some b ∧ Q (.bl b) H
theorem cls_obj {K : PySem.W.Frag} {D : Addr} (h : PySem.W.hasDictIn K D = true) : ∃ c d cd sl, K.lookup D = some ⟨c, d, .cls cd, sl⟩ := by
  obtain ⟨cd, hc, _⟩ := PySem.W.any_some h
  unfold PySem.W.clsIn at hc
  split at hc
  · rename_i z; exact ⟨_, _, _, _, z⟩
  · cases hc
theorem kitx_exc {K : PySem.W.Frag} {x D : Addr} {ox : Obj} {od : Option Obj} (C : ExcC K D) : PySem.W.KitX K (.ref x) (.ref D) (fun h => PySem.W.InstAt h x ox D od) where
  ty := fun _ _ _ I => I.type
  it := fun M h X _ A Q E s k q => by
    obtain ⟨c, d, cd, sl, z⟩ := cls_obj C.hd
    unfold isType
    unfold loadHead
    exact wpAny_bind (wpAny_loadPart (k D _ (X D _ z)) (wpAny_pure q))
  ne := fun h tp dd its n sl X htp => by
    obtain ⟨c, d, cd, sl', z⟩ := cls_obj C.hd
    cases q : (Value.ref D == Value.ref tp) with
    | false => rfl
    | true =>
      cases Value.ref.inj (beq_iff_eq.mp q)
      have y := X D _ z
      rw [htp] at y
      cases y
  ca := fun X I k => by
    obtain ⟨cd, hc, _⟩ := PySem.W.any_some C.hd
    exact PySem.W.kx_classE X I C.hg C.hk C.hs (PySem.W.findObj_dataE (by rw [hc]; rfl) C.ha C.hn C.ht) C.hm k
theorem call_isx {X : Cx} : CallR X (.builtin "isinstance") (rIsx X.K) := fun pins s σ H xs us Q I r h => by
  obtain ⟨a, C, d, c, u, b, rfl, hc, ha, hd, T, hk, q⟩ := h
  obtain ⟨u1, u2, rfl, r1, r2⟩ := vals2 r
  obtain rfl : u1 = Value.ref a := r1
  cases hc.eq r2
  obtain ⟨ox, od, J, _⟩ := exo_inst I.hok ha hd
  exact PySem.W.kia_one (kitx_exc T) I.kIn J hk (fun z => nomatch z) fun tk => ⟨.bl b, H, I.tok tk, rfl, q⟩
def isxM (tab : List Str) (sub : Str → Bool) (o : Opd) : M Opd := fun S => match o.dv S with
  | some (.exn c _) => if tab.contains c then .ok (.v (.v (.bl (sub c)))) S else .stuck
  | _ => .stuck
section
variable {X : Cx} {e : Expr} {c : Str} {p cp pos : Pos} {me : M Opd} {tab : List Str} {sub : Str → Bool} {cv : V} {u : Value}
theorem isx_spec {o : Opd} {S : Sl} {K : Opd → Sl → Prop} {E : Str → List (Str × DV) → Sl → Prop} (h : (isxM tab sub o S).spec K E) : ∃ k fs, o.dv S = some (.exn k fs) ∧ k ∈ tab ∧ K (.v (.v (.bl (sub k)))) S := by
  unfold isxM at h
  split at h
  · rename_i k fs ek
    split at h
    · rename_i hc
      exact ⟨k, fs, ek, by simpa using hc, h⟩
    · exact h.elim
  · exact h.elim
theorem px_isx (hg : Gl X "isinstance") (hm : X.mg "isinstance" = none) (hc : PE X (.Name c cp) (tC cv)) (hu : ClsV cv u) (hT : ∀ k ∈ tab, ∀ C, X.mg k = some (.ref C) → ExcC X.K C ∧ PySem.W.kitOne X.K (.ref C) u = some (sub k)) (ha : PX X e me)
    (he : starEach [e, .Name c cp] X.env = (false, eval e X.env) :: starEach [.Name c cp] X.env := by rfl) (he2 : starEach [.Name c cp] X.env = (false, eval (.Name c cp) X.env) :: starEach [] X.env := by rfl)
    (hpl : (backTo pos (starEach [.Name c cp] X.env)).any (·.1) = false := by rfl) :
    PX X (.Call (.Name "isinstance" p) [e, .Name c cp] [] pos) (M.bind me (isxM tab sub)) := fun W tk =>
  PE.imp (pe_callB call_isx hg hm (by first | rfl | decide +kernel) (pa_cons (ha W tk) (pa_cons hc pa_nil he2) he) (by decide) (by decide) he hpl) fun σ H Q ⟨B, S, st, q⟩ =>
  ⟨B, S, st, (spec_bind.mp q).imp (fun o S1 _ q v B1 H1 s hs or y => by
    obtain ⟨k, fs, ek, hk, q⟩ := isx_spec q
    have vw := or.view s.st ek
    cases vw with
    | r r =>
      obtain ⟨a, C, d, rfl, hm, ha, _, h1⟩ := exn_at s.st.le r
      obtain ⟨t1, t2⟩ := hT k hk C hm
      exact ⟨a, C, d, cv, u, _, rfl, hu, ha, fun dx e => (h1 dx e).imp fun fs z => z.1, t1, t2, q _ B1 H1 s hs (.v (.v (.bl _)) fun a h => by cases h) fun a h => by cases h⟩) fun _ _ _ h => h⟩
end
end Lb
/-! raise C(..). -/
namespace Lb
open PySem PySem.Spec PyProof.Rows L2
def raiseM (c : Str) (fs : List Str) (ds : List DV) : SM := fun S => if ds.length = fs.length then .exc c (fs.zip ds).reverse S else .stuck
section
variable {X : Cx} {x : Str} {C fI : Addr} {fd : FuncData} {k : Nat} {ps fs : List Str} {p p2 pos : Pos}
/-- what the raise wants of the new exception -/
def RaW (W : WX) (C : Addr) (fs : List Str) (σ : Sg) (vs : List V) (H1 : Hp) : Prop := vs.length = fs.length ∧ (fs = [] → W (.ref C) none σ H1) ∧ (fs ≠ [] → ∀ dx, H1 dx = none → W (.ref C) (some dx) σ (upd H1 dx (.xd (fs.zip vs).reverse)))
theorem run_raise {pins : List (Addr × Obj)} {σ : Sg} {H : Hp} {s : Shared} {Q : XK} {us : List Value} {vs : List V} (T : XC X.K C fI) (exC : PySem.W.subIn X.K (.ref C) (.type "BaseException") = some true) (tyC : PySem.W.typeIn X.K (.ref C) = some (.type "type"))
    (tk : ∀ f ∈ fs, PySem.W.takerIn X.K C f = some none)
    (F1 : FnG X.prog X.w X.K X.mg X.base (L2.CX X.prog X.w) k fI fd ps (spI X.K fs)) (hr : Room (k + 1) X.A) (hgd : X.A.guards = some []) (hb : Binds X.K fd ps []) (hp : ps.length = fs.length + 1) (hf : fs.length ≤ 100)
    (I : Inv X pins σ H s) (r : Vals vs us) (hl : vs.length = fs.length)
    (h0 : fs = [] → Q (.ref C) none H) (h1 : fs ≠ [] → ∀ dx, H dx = none → Q (.ref C) (some dx) (upd H dx (.xd (fs.zip vs).reverse))) :
    wpAny (model X.prog X.w) X.A (call (.ref C) us) (MkP X pins σ Q) X.xe s := by
  obtain ⟨⟨b, newId, initId, l, FB, q⟩, T, kC, iC, tI⟩ := T
  obtain ⟨nm, N, qn, bs, bm, hdct, sn, sub, ab, col, dd, k0, k1, k2, k3, k5, hC, hT⟩ := PySem.W.excInit_of I.kIn q
  obtain ⟨hp', g, dr, tok, os⟩ := s
  have hsz : hp'.objs.size ≤ hp'.objs.size + 1 := Nat.le_succ _
  have kk : ∀ b o, hp'.get? b = some o → ((hp'.push (PySem.W.kdv_tup us)).push (PySem.HandSPX.excO C hp'.objs.size)).get? b = some o := fun b o e => Heap.get?_push_of_some _ (Heap.get?_push_of_some _ e)
  have hget : ((hp'.push (PySem.W.kdv_tup us)).push (PySem.HandSPX.excO C hp'.objs.size)).get? (hp'.objs.size + 1) = some (PySem.HandSPX.excO C hp'.objs.size) := by heap_get
  have n0 : H (hp'.objs.size + 1) = none := I.hok.fresh hsz
  have I2 : Inv X pins σ (upd H (hp'.objs.size + 1) (exo (hp'.objs.size + 1) C none)) ⟨(hp'.push (PySem.W.kdv_tup us)).push (PySem.HandSPX.excO C hp'.objs.size), g, dr, tok, os⟩ :=
    I.laid (t' := tok) (a := hp'.objs.size + 1) (o := exo (hp'.objs.size + 1) C none) kk hsz (exo_ok hget)
  have r2 : Vals (V.ref (hp'.objs.size + 1) :: vs) (Value.ref (hp'.objs.size + 1) :: us) := .cons rfl r
  have hlu : (Value.ref (hp'.objs.size + 1) :: us ++ []).length = ps.length := by rw [List.append_nil, ← r2.length, hp, List.length_cons, hl]
  have hus : us.length ≤ sizeLine := by rw [← r.length, hl, sizeLine_eq]; omega
  have hq : spI X.K fs (V.ref (hp'.objs.size + 1) :: vs) (upd H (hp'.objs.size + 1) (exo (hp'.objs.size + 1) C none))
      (fun v H' => v = .non ∧ ((fs = [] ∧ H' = upd H (hp'.objs.size + 1) (exo (hp'.objs.size + 1) C none)) ∨ (fs ≠ [] ∧ ∃ dx, H dx = none ∧ dx ≠ hp'.objs.size + 1 ∧ H' = upd (upd H dx (exd dx (fs.zip vs).reverse)) (hp'.objs.size + 1) (exo (hp'.objs.size + 1) C (some dx))))) (fun _ _ _ => False) := by
    refine ⟨_, C, vs, rfl, hl, T, tk, upd_same, fun e => ⟨rfl, .inl ⟨e, rfl⟩⟩, fun e dx n ne => ⟨rfl, .inr ⟨e, dx, ?_, ne, ?_⟩⟩⟩
    · rw [upd_ne ne] at n; exact n
    · unfold initH
      rw [upd_comm (Ne.symm ne), upd_twice]
  have bd := hb _ (Value.ref (hp'.objs.size + 1) :: us) I2.kIn hlu
  rw [List.append_nil] at bd
  refine wpAny_call (PySem.HandSPX.call_own FB hT hC (PySem.W.looks_findIn I.kIn iC) (fun self => PySem.W.bind_fn I.kIn self tI) hus
    (codeAny_mono (F1.run _ X.stack _ _ ⟨Value.ref (hp'.objs.size + 1) :: us, []⟩ (Value.ref (hp'.objs.size + 1) :: us) _ _ (fun _ _ _ => False) (hr.make C us []) (guards_make hgd C us []) (I2.env0.make C us []) bd r2 hq) fun r s' hq' => ?_))
  cases r with
  | error er => exact passL (X := X) pins σ _ _ er s' I2 hq'
  | ok fl =>
    cases fl with
    | next => exact False.elim hq'
    | brk => exact False.elim hq'
    | cont => exact False.elim hq'
    | ret u =>
      obtain ⟨v, H2, os2, bare2, un2, hok2, rv, ev, q2⟩ := hq'
      subst ev
      refine ⟨rv, ?_⟩
      obtain ⟨h2, g2, d2, t2, os'⟩ := s'
      rcases q2 with ⟨e, eH⟩ | ⟨e, dx, nd, ne, eH⟩
      · -- no field: its object is let go
        subst eH
        obtain ⟨t0, hoe⟩ := exo_at hok2 (upd_same (H := H) (a := hp'.objs.size + 1) (o := exo (hp'.objs.size + 1) C none))
        obtain ⟨G, g1', g2'⟩ := restrict h2 fun b => decide (b ≠ hp'.objs.size + 1)
        have gk1 : ∀ b, b ≠ hp'.objs.size + 1 → G.get? b = h2.get? b := fun b hb => g1' b (decide_eq_true hb)
        have ge : G.get? (hp'.objs.size + 1) = none := g2' _ (by simp)
        have nha : ∀ {b : Addr} {o : Obj}, hp'.get? b = some o → b ≠ hp'.objs.size + 1 := fun z => Nat.ne_of_lt (Nat.lt_succ_of_lt (Heap.lt_size z))
        have un : ∀ {b : Addr}, b ≠ hp'.objs.size + 1 → H b = none → upd H (hp'.objs.size + 1) (exo (hp'.objs.size + 1) C none) b = none := fun hb n => by rw [upd_ne hb]; exact n
        have U : Un (frs X.stack) [] H H hp' G := ⟨fun b o z n hf hx => by rw [gk1 b (nha z)]; exact un2.keep b o (kk b o z) (un (nha z) n) hf hx,
          fun b o z n hf hx => by rw [gk1 b (nha z)]; exact un2.slot b o (kk b o z) (un (nha z) n) hf hx, fun b o z n hx => n,
          fun b o z hx => by rw [gk1 b (nha z)]; exact un2.there b o (kk b o z) hx, fun b xs z => z, fun b o v z => z, fun b ps z => ⟨#[], by rw [z]; simp⟩⟩
        have hok3 : HOk X.prog X.w H G := fun b o z => by
          have hba : b ≠ hp'.objs.size + 1 := ne_of_none z n0
          have z2 := hok2 b o (by rw [upd_ne hba]; exact z)
          refine z2.stay (fun c v hc y => ?_) (fun c hc => ?_) fun c xs hc => ?_
          · have hca : c ≠ hp'.objs.size + 1 := by
              rcases hc with hc | hc
              · rw [hc]; exact hba
              · exact at_ne upd_same hc exo_own
            rw [gk1 c hca]; exact y
          · rw [upd_ne (at_ne upd_same hc exo_own)] at hc; exact hc
          · rw [upd_ne (at_ne upd_same hc exo_tup)] at hc; exact hc
        have J : Inv X pins σ H ⟨G, g2, d2, t2, os'⟩ := I.call' (ch := []) os2 U hok3 bare2 (fun b z => absurd z (by simp))
        exact ⟨hp'.objs.size + 1, _, _, ⟨G, g2, d2, t2, os'⟩, H, .ref C, none, rfl, J, fun b o z => by
          by_cases hba : b = hp'.objs.size + 1
          · rw [hba, ge] at z; cases z
          · exact (gk1 b hba).symm.trans z, ge, hoe, ⟨rfl, rfl⟩, rfl, rfl, n0, rfl, bare2, raises_own exC tyC, h0 e⟩
      · subst eH
        refine mk_end (raises_own exC tyC) I hsz kk un2 hok2 os2 bare2 upd_same (by rw [upd_ne ne, upd_same]) nd ?_
        have ed : del (upd (upd H dx (exd dx (fs.zip vs).reverse)) (hp'.objs.size + 1) (exo (hp'.objs.size + 1) C (some dx))) (hp'.objs.size + 1) = upd H dx (exd dx (fs.zip vs).reverse) := by
          funext b
          by_cases hb : b = hp'.objs.size + 1
          · subst hb; rw [del_same, upd_ne (Ne.symm ne), n0]
          · rw [del_ne hb, upd_ne hb]
        rw [ed, upd_twice]
        exact h1 e dx nd
structure KnR (X : Cx) (x : Str) (fs : List Str) : Prop where
  ex : ∃ (C fI : Addr) (fd : FuncData) (k : Nat) (ps : List Str), XC X.K C fI ∧ PySem.W.subIn X.K (.ref C) (.type "BaseException") = some true ∧ PySem.W.typeIn X.K (.ref C) = some (.type "type") ∧ (∀ f ∈ fs, PySem.W.takerIn X.K C f = some none) ∧
    FnG X.prog X.w X.K X.mg X.base (L2.CX X.prog X.w) k fI fd ps (spI X.K fs) ∧ Room (k + 1) X.A ∧ X.A.guards = some [] ∧ Binds X.K fd ps [] ∧ ps.length = fs.length + 1 ∧ X.mg x = some (.ref C) ∧ fs.length ≤ 100
theorem KnR.toX (F : KnR X x fs) : KnX X x fs := by
  obtain ⟨C, fI, fd, k, ps, a, b, c, d, e, f, g, h, i, j, l⟩ := F.ex
  exact ⟨C, fI, fd, k, ps, a, d, e, f, g, h, i, j, l⟩
theorem raiseM_spec {c : Str} {ds : List DV} {S : Sl} {N : Sl → Prop} {R : Opd → Sl → Prop} {Bk Ct : Sl → Prop} {E : Str → List (Str × DV) → Sl → Prop} (h : (raiseM c fs ds S).spec N R Bk Ct E) : ds.length = fs.length ∧ E c (fs.zip ds).reverse S := by
  unfold raiseM at h
  split at h
  · rename_i e; exact ⟨e, h⟩
  · exact h.elim
theorem raise_end {W : WX} {D : Ends} (hm : X.mg x = some (.ref C)) {B H B1 H1 : Hp} {σ : Sg} {S S1 : Sl} {vs : List V} {ds : List DV} (s : Stp X.K X.mg B H σ S B1 H1 σ S1) (r : Reps X.mg B1 vs ds) {N : Sl → Prop} {R : Opd → Sl → Prop} {Bk Ct : Sl → Prop}
    (h : (raiseM x fs ds S1).spec N R Bk Ct (xPost X.K X.mg W B H σ S)) : RaW W C fs σ vs H1 := by
  obtain ⟨hl, k⟩ := raiseM_spec h
  refine ⟨r.length.trans hl, fun e => ?_, fun e dx nd => ?_⟩
  · subst e
    have : ds = [] := by cases ds with | nil => rfl | cons _ _ => cases hl
    subst this
    exact k C B1 H1 σ none hm s rfl
  · have n : New B1 H1 B1 (upd H1 dx (.xd (fs.zip vs).reverse)) := .own s.st.le nd
    exact k C B1 _ σ (some dx) hm (s.trans (s.st.step n)) ⟨_, upd_same, repf_zip r⟩
variable {e : Expr} {es : List Expr} {ms : M (List DV)}
theorem sx_raise (hc : X.calm = true) (F : KnR X x fs) (hg : Gl X x) (ha : FXs X (e :: es) ms) (hdb : (x == ("__debug__" : Str)) = false := by decide)
    (he : starEach (e :: es) X.env = (false, eval e X.env) :: starEach es X.env := by rfl) (hpl : (backTo p2 (starEach es X.env)).any (·.1) = false := by rfl) :
    SX X (.Raise (some (.Call (.Name x p) (e :: es) [] p2)) none pos) (M.thn ms (raiseM x fs)) := fun W tk pp => by
  obtain ⟨C, fI, fd, k, ps, T, exC, tyC, tks, F1, hr, hgd, hb, hp, hm, hf⟩ := F.ex
  have hmk : PMk X (.Call (.Name x p) (e :: es) [] p2) (fun σ H Q => tFs X.K X.mg ms W σ H fun vs H1 => vs.length = fs.length ∧ (fs = [] → Q (.ref C) none H1) ∧ (fs ≠ [] → ∀ dx, H1 dx = none → Q (.ref C) (some dx) (upd H1 dx (.xd (fs.zip vs).reverse)))) := by
    intro pins s σ H Q I h
    refine wpAny_Call_Name_kw (ld_glob I hg hm ?_ hdb)
    refine PySem.W.callWith_K (h₀ := X.base) I.ok.mod.kin T.kC (thn ((ha W tk).run p2 pins s σ H _ I h) fun us s1 hh => ?_) he hpl
    obtain ⟨vs, H1, I1, r, hl, q0, q1⟩ := hh
    exact ⟨I1.kIn, run_raise T exC tyC tks F1 hr hgd hb hp hf I1 r hl q0 q1⟩
  exact PS.imp (ps_raise hc tk hmk) fun D σ H ⟨B, S, st, q⟩ => ⟨B, S, st, (spec_thn.mp q).imp (fun ds S1 _ q vs B1 H1 s hs r => raise_end (D := D) hm s r q) fun _ _ _ h => h⟩
theorem sx_raise0 (hc : X.calm = true) (F : KnR X x []) (hg : Gl X x) (hdb : (x == ("__debug__" : Str)) = false := by decide) :
    SX X (.Raise (some (.Call (.Name x p) [] [] p2)) none pos) (raiseM x [] []) := fun W tk pp => by
  obtain ⟨C, fI, fd, k, ps, T, exC, tyC, tks, F1, hr, hgd, hb, hp, hm, hf⟩ := F.ex
  have hmk : PMk X (.Call (.Name x p) [] [] p2) (fun σ H Q => Q (.ref C) none H) := by
    intro pins s σ H Q I h
    refine wpAny_Call_Name_kw (ld_glob I hg hm ?_ hdb)
    exact PySem.W.callWith_K0 I.kIn T.kC (run_raise (vs := []) T exC tyC tks F1 hr hgd hb hp hf I .nil rfl (fun _ => h) (fun e => absurd rfl e))
  exact PS.imp (ps_raise hc tk hmk) fun D σ H ⟨B, S, st, q⟩ => (raise_end (D := D) (fs := []) hm (.refl st) .nil q).2.1 rfl
end
end Lb
/-! try: .. with several clauses, each with a name. -/
namespace Lb
open PySem PySem.Spec PyProof.Rows L2
abbrev Cl := Value × Nat × (Addr → Value → Option Addr → TS)
def endsAt (i : Nat) (D : Ends) : Ends := { nx := fun σ' H' => D.nx (σ'.set i none) H', rt := D.rt, bk := fun σ' H' => D.bk (σ'.set i none) H', ct := fun σ' H' => D.ct (σ'.set i none) H' }
def wCl (K : PySem.W.Frag) (Wo : WX) (D : Ends) : List Cl → WX
  | [] => Wo
  | (c, i, ts) :: r => fun cls d σ H => ∃ b, PySem.W.exmOne K cls c = some b ∧ (b = true → ∀ a, H a = none → ts a cls d (endsAt i D) (σ.set i (some (.ref a))) H) ∧ (b = false → wCl K Wo D r cls d σ H)
inductive HdsA (X : Cx) : List ExceptHandler → List Cl → Prop
  | nil : HdsA X [] []
  | cons {x n : Str} {c : Value} {i : Nat} {ts : Addr → Value → Option Addr → TS} {b₀ : Stmt} {suite : List Stmt} {np pos' : Pos} {hds : List ExceptHandler} {l : List Cl} (hc : Names X x c) (hi : X.N[i]? = some n) (hln : X.env.kindOf n = some .local)
      (hsu : ∀ (a : Addr) (oe : Obj) (cls : Value) (d : Option Addr) (pn : List (Addr × Obj)), Zc cls d oe → (∃ vs, oe.data = .fields vs) → PSs (X.suite a ((a, oe) :: pn)) (b₀ :: suite) (ts a cls d)) (r : HdsA X hds l) :
      HdsA X (.ExceptHandler (some (.Name x np)) (some n) (b₀ :: suite) pos' :: hds) ((c, i, ts) :: l)
theorem SP.ofTry {X : Cx} (ok : X.Ok) {pins : List (Addr × Obj)} {D : Ends} {xe : Value → Shared → Prop} {f : Flow} {s : Shared} (h : SP (X.tr (X.pn ++ pins) xe) [] D f s) : SP X pins D f s := by
  cases f with
  | ret u => obtain ⟨v, σ', H', J, q⟩ := h; exact ⟨v, σ', H', J.ofTry ok, q⟩
  | next => obtain ⟨σ', H', J, q⟩ := h; exact ⟨σ', H', J.ofTry ok, q⟩
  | brk => obtain ⟨σ', H', J, q⟩ := h; exact ⟨σ', H', J.ofTry ok, q⟩
  | cont => obtain ⟨σ', H', J, q⟩ := h; exact ⟨σ', H', J.ofTry ok, q⟩
section
variable {X : Cx} {body : List Stmt} {h₀ : ExceptHandler} {hds : List ExceptHandler} {l : List Cl} {pos : Pos} {tb : WX → TS} {Wo : WX}
theorem ps_try_cl (hs : X.stack = X.env :: X.outer) (hf : X.env.frame = some X.env.locals) (hN : X.N.Nodup) (tk : Takes X Wo)
    (hb : ∀ (W : WX) (pn : List (Addr × Obj)) (xe : Value → Shared → Prop), Takes (X.tr pn xe) W → PassesOwn (model X.prog X.w) X.A X.env xe → PSs (X.tr pn xe) body (tb W))
    (hh : HdsA X (h₀ :: hds) l) : PS X (.Try body (h₀ :: hds) [] [] pos) (fun D σ H => tb (wCl X.K Wo D l) D σ H) := by
  refine ⟨fun pins s σ H D I h => ?_⟩
  have ok := I.ok
  have fr : X.A.frames = some (X.env :: X.outer) := by rw [ok.frames, hs]
  refine wpAny_Try_except (wpAny_mono ((hb (wCl X.K Wo D l) (X.pn ++ pins) (fun e s1 => wpAny (model X.prog X.w) X.A (noteFrame e X.env) (fun _ s2 => wpAny (model X.prog X.w) X.A (setFlight e none)
    (fun _ s3 => wpAny (model X.prog X.w) X.A (handleBy e X.env (h₀ :: hds)) (SP X pins D) X.xe s3) X.xe s2) X.xe s1) (fun u s1 xx => ?_) PassesOwn.looking).run [] s σ H D (I.toTry _) h) (fun f s1 q => ?_) fun e s1 q => q)
  · obtain ⟨a, G, sI, pins', σ1, H1, cls, d, rfl, J0, nb, up, sky, na, os, ag, w⟩ := xx
    have J : Inv X pins σ1 H1 sI := J0.ofTry ok
    rw [show (X.tr (X.pn ++ pins) _).stack = X.env :: X.outer from hs] at sky
    show wpAny (model X.prog X.w) X.A (noteFrame (.ref a) X.env) _ _ _
    refine Sky.land Zc.steady fr hf sky fun h3 f3 up3 => ?_
    have J3 : Inv X pins σ1 H1 { s1 with heap := h3 } := J.landed nb f3.1 (up.trans up3) os ag
    obtain ⟨o3, v3, e3, z3, d3⟩ := f3.there
    have notIn : a ∉ frs (X.env :: X.outer) := fun hm => by
      obtain ⟨_, o', e', hnf⟩ := (show h3.FunFrames G (X.env :: X.outer) from f3.2.2.1).mem hm
      rw [e3] at e'; cases e'; exact hnf _ d3
    have nL : a ≠ X.env.locals := fun z => notIn (List.mem_filterMap.mpr ⟨X.env, List.mem_cons_self, by rw [hf, z]⟩)
    have nF : a ∉ X.fs := fun hm => by
      obtain ⟨e, he, q⟩ := List.mem_filterMap.mp hm
      exact notIn (List.mem_filterMap.mpr ⟨e, .tail _ he, q⟩)
    have S3 := J3.suite e3 d3 na nL nF
    have go : ∀ {hs' : List ExceptHandler} {l' : List Cl}, HdsA X hs' l' → wCl X.K Wo D l' cls d σ1 H1 → wpAny (model X.prog X.w) X.A (handleBy (.ref a) X.env hs') (SP X pins D) X.xe { s1 with heap := h3 } := by
      intro hs' l' k
      induction k with
      | nil =>
        intro w
        refine wpAny_handleBy_nil ?_
        obtain ⟨m1, m2, m3, oe, vs, T, oT, ts', he, hz, hd, h1, hr⟩ := id f3
        have fin : wpAny (model X.prog X.w) X.A (setFlight (.ref a) X.env.frame) (fun _ s4 => wpAny (model X.prog X.w) X.A (throw (.ref a) : Sem Flow) (SP X pins D) X.xe s4) X.xe { s1 with heap := h3 } := by
          rw [hf]
          refine HandSPX.setFlight_upZ f3 fun h4 hh4 up4 => wpAny_throw (tk _ _ ⟨a, G, sI, pins, σ1, H1, cls, d, rfl, J, nb, (up.trans up3).trans up4, .inr (.inr ?_), na, os, ag, w⟩)
          rw [hs]; exact hh4
        unfold PySem.passOn
        refine wpAny_bind (wpAny_field he hd h1 ?_)
        rw [if_neg (by simp : ¬ ((Value.ref T == Value.none) = true))]
        first
          | exact wpAny_bind (wpAny_pure (wpAny_bind fin))
          | exact wpAny_bind fin
      | @cons x n c i ts b₀ suite np pos' hds2 l2 hc hi hln hsu r ih =>
        intro w
        obtain ⟨b, hb1, yes, no⟩ := w
        have LT : PySem.W.Looks (model X.prog X.w) h3 (typeOf (.ref a)) cls := fun A Q E s k q => wpAny_typeOf_ref (k a o3 e3) (by rw [z3.1]; exact q)
        have LM := PySem.W.exm_one (M := model X.prog X.w) J3.kIn LT hb1
        have test : ∀ {Q E : Value → Shared → Prop}, Q c { s1 with heap := h3 } → wpAny (model X.prog X.w) (X.A.mark (some (.ref a))) (eval (.Name x np) X.env) Q E { s1 with heap := h3 } := fun q => by
          obtain ⟨hg, hdb, hm | ⟨hm, hv, hn⟩⟩ := hc
          · exact ld_glob S3 hg hm q hdb
          · exact ld_blt S3 hg hm hv q hn hdb
        refine wpAny_handleBy_cons (codeAny_handlers_test (test (LM.here ?_))) (by intro q; cases q)
        cases b with
        | false => exact ih (no rfl)
        | true =>
          refine codeAny_handlers_suite_as (HandSPX.lands_againZ f3 fun h4 f4 up4 => ?_)
          have J4 : Inv X pins σ1 H1 { s1 with heap := h4 } := J.landed nb f4.1 ((up.trans up3).trans up4) os ag
          obtain ⟨o4, v4, e4, z4, d4⟩ := f4.there
          refine store_ok (X := X.suite a ((a, o4) :: (X.pn ++ pins))) (v := .ref a) (J4.suite e4 d4 na nL nF) hN hi (.inl hln) rfl (fun s5 S5 => ?_) (.inr hln)
          have fin : ∀ {σ6 : Sg} {H6 : Hp} {s6 : Shared} {Q : Shared → Prop}, Inv (X.suite a ((a, o4) :: (X.pn ++ pins))) [] σ6 H6 s6 → (∀ s7, Inv X pins (σ6.set i none) H6 s7 → Q s7) →
              wpAny (model X.prog X.w) X.A (do bindName X.env n .none; unbindBehindTheSuite X.env n pos') (fun _ s7 => Q s7) X.xe s6 := fun S6 hq => gone_ok (S6.unsuite ok) hN hi hln hq
          refine wpAny_mono ((hsu a o4 cls d (X.pn ++ pins) z4 ⟨_, d4⟩).run [] s5 _ H1 _ S5 (yes rfl a na)) (fun f s6 q => ?_) fun _ _ z => z.elim
          cases f with
          | ret u =>
            obtain ⟨v6, σ6, H6, S6, r6, q6⟩ := q
            exact fin S6 fun s7 J7 => ⟨_, _, _, J7, r6, q6⟩
          | next =>
            obtain ⟨σ6, H6, S6, q6⟩ := q
            exact fin S6 fun s7 J7 => ⟨_, _, J7, q6⟩
          | brk =>
            obtain ⟨σ6, H6, S6, q6⟩ := q
            exact fin S6 fun s7 J7 => ⟨_, _, J7, q6⟩
          | cont =>
            obtain ⟨σ6, H6, S6, q6⟩ := q
            exact fin S6 fun s7 J7 => ⟨_, _, J7, q6⟩
    exact go hh w
  · have q' := SP.ofTry ok q
    cases f with
    | next => exact wpAny_execs_nil q'
    | ret u => exact q'
    | brk => exact q'
    | cont => exact q'
end
end Lb
/-! What is caught. -/
namespace Lb
open PySem PySem.Spec PyProof.Rows L2
def Xdt (mg : Mg) (B H : Hp) (d : Option Addr) (fs : List (Str × DV)) : Prop := match d with | none => fs = [] | some dx => ∃ xs, H dx = some (.xd xs) ∧ RepF mg B xs fs
structure Cau (mg : Mg) (i : Nat) (a : Addr) (cls : Value) (d : Option Addr) (c : Str) (fs : List (Str × DV)) (σ : Sg) (B H : Hp) : Prop where
  at_ : σ[i]? = some (some (.ref a))
  cl : ∃ C, cls = .ref C ∧ mg c = some (.ref C)
  dt : Xdt mg B H d fs
theorem StR.notOwnXd {KK : PySem.W.Frag} {mg : Mg} {B H : Hp} {σ : Sg} {S : Sl} (x : StR KK mg B H σ S) {a : Addr} {xs : List (Str × V)} (h : H a = some (.xd xs)) : ¬ OwnA σ S a := fun ⟨i, ⟨r, e, hr⟩, e2⟩ => by
  obtain ⟨v, e1, q⟩ := x.at_ i r e
  rw [e2] at e1
  cases e1
  cases q with
  | v q => cases hr
  | ol _ h' _ => rw [h] at h'; cases h'
  | od _ h' _ => rw [h] at h'; cases h'
  | oi _ _ h' _ => rw [h] at h'; cases h'
theorem xd_keep {KK : PySem.W.Frag} {mg : Mg} {B H B' H' : Hp} {σ σ' : Sg} {S S' : Sl} (x : StR KK mg B H σ S) (s : Stp KK mg B H σ S B' H' σ' S') {d : Option Addr} {fs : List (Str × DV)}
    (h : Xdt mg B H d fs) : Xdt mg B' H' d fs := by
  cases d with
  | none => exact h
  | some dx =>
    obtain ⟨xs, e, r⟩ := h
    exact ⟨xs, s.grow.keep dx _ e (x.notOwnXd e) rfl, RepF.mono s.grow.sub r⟩
theorem Cau.step {KK : PySem.W.Frag} {mg : Mg} {i : Nat} {a : Addr} {cls : Value} {d : Option Addr} {c : Str} {fs : List (Str × DV)} {B H B' H' : Hp} {σ : Sg} {S S' : Sl} (k : Cau mg i a cls d c fs σ B H) (x : StR KK mg B H σ S) (s : Stp KK mg B H σ S B' H' σ S') : Cau mg i a cls d c fs σ B' H' :=
  ⟨k.at_, k.cl, xd_keep x s k.dt⟩
abbrev Xm (α : Type) := Str → List (Str × DV) → M α
abbrev noE : Str → List (Str × DV) → Sl → Prop := fun _ _ _ => False
def tPc (KK : PySem.W.Frag) (mg : Mg) (i : Nat) (a : Addr) (cls : Value) (d : Option Addr) (m : Xm Opd) : TE := fun σ H Q => ∃ B S c fs, StR KK mg B H σ S ∧ Cau mg i a cls d c fs σ B H ∧ (m c fs S).spec
  (fun o S' => ∀ v B' H', Stp KK mg B H σ S B' H' σ S' → Has S S' → OpdR mg B' H' σ S' v o → Young H v o → Q v H') noE
def tFc (KK : PySem.W.Frag) (mg : Mg) (i : Nat) (a : Addr) (cls : Value) (d : Option Addr) (m : Xm DV) : TE := fun σ H Q => ∃ B S c fs, StR KK mg B H σ S ∧ Cau mg i a cls d c fs σ B H ∧ (m c fs S).spec
  (fun e S' => ∀ v B' H', Stp KK mg B H σ S B' H' σ S' → Has S S' → Rep mg B' v e → Q v H') noE
def tFsc (KK : PySem.W.Frag) (mg : Mg) (i : Nat) (a : Addr) (cls : Value) (d : Option Addr) (m : Xm (List DV)) : TA := fun σ H Q => ∃ B S c fs, StR KK mg B H σ S ∧ Cau mg i a cls d c fs σ B H ∧ (m c fs S).spec
  (fun es S' => ∀ vs B' H', Stp KK mg B H σ S B' H' σ S' → Has S S' → Reps mg B' vs es → Q vs H') noE
def InS (X : Cx) (P : Addr → Value → Option Addr → Cx → Prop) : Prop := ∀ (a : Addr) (oe : Obj) (cls : Value) (d : Option Addr) (pn : List (Addr × Obj)), Zc cls d oe → (∃ vs, oe.data = .fields vs) → P a cls d (X.suite a ((a, oe) :: pn))
def PXc (X : Cx) (i : Nat) (e : Expr) (m : Xm Opd) : Prop := InS X fun a cls d Y => PE Y e (tPc X.K X.mg i a cls d m)
def FXc (X : Cx) (i : Nat) (e : Expr) (m : Xm DV) : Prop := InS X fun a cls d Y => PE Y e (tFc X.K X.mg i a cls d m)
def FXsc (X : Cx) (i : Nat) (es : List Expr) (m : Xm (List DV)) : Prop := InS X fun a cls d Y => PA Y es (tFsc X.K X.mg i a cls d m)
theorem noE_x {KK : PySem.W.Frag} {mg : Mg} {W : WX} {B H : Hp} {σ : Sg} {S : Sl} : ∀ c fs S', noE c fs S' → xPost KK mg W B H σ S c fs S' := fun _ _ _ h => h.elim
section
variable {X : Cx} {i : Nat} {e : Expr} {es : List Expr} {pos : Pos}
theorem pxc_of {m : M Opd} (h : ∀ a pn, PX (X.suite a pn) e m) : PXc X i e (fun _ _ => m) := fun a oe cls d pn hz hf => PE.imp (h a _ W0 takes0) fun σ H Q ⟨B, S, c, fs, st, k, q⟩ => ⟨B, S, st, q.imp (fun _ _ _ h => h) noE_x⟩
theorem fxc_of {m : M DV} (h : ∀ a pn, FX (X.suite a pn) e m) : FXc X i e (fun _ _ => m) := fun a oe cls d pn hz hf => PE.imp (h a _ W0 takes0) fun σ H Q ⟨B, S, c, fs, st, k, q⟩ => ⟨B, S, st, q.imp (fun _ _ _ h => h) noE_x⟩
theorem fxc_fld {n x : Str} {zp : Pos} {tab : List Str} (hT : ∀ c ∈ tab, ∀ C, X.mg c = some (.ref C) → XfC X.K C ∧ PySem.W.findIn X.K (.ref C) n = some none)
    (hN : X.N[i]? = some x := by rfl) (hv : Vis X.env.scope x := by first | exact Or.inl rfl | exact Or.inr (Or.inl rfl) | exact Or.inr (Or.inr rfl)) (hd : (x == ("__debug__" : Str)) = false := by decide)
    (hcd : (x == ("__classdict__" : Str)) = false := by decide) (hb : attributeBase (.Name x zp) n X.env (eval (.Name x zp) X.env) = eval (.Name x zp) X.env := by rfl) :
    FXc X i (.Attribute (.Name x zp) n pos) (fun c fs => fld tab n (.exn c fs)) := fun a oe cls d pn hz hf => by
  constructor
  intro pins s σ H Q I ⟨B, S, c, fs, st, k, q⟩
  obtain ⟨c', fs', v, e1, hc, hl, kq⟩ := fld_spec q
  cases e1
  obtain ⟨C, ec, hm⟩ := k.cl
  subst ec
  obtain ⟨T, hno⟩ := hT c hc C hm
  have hdt := k.dt
  cases d with
  | none => have : fs = [] := hdt; subst this; cases hl
  | some dx =>
    obtain ⟨xs, hx, rf⟩ := hdt
    obtain ⟨w, hw, rw'⟩ := repf_lookup rf hl
    exact (pe_xf T hno hz hf (pe_var (X := X.suite a ((a, oe) :: pn)) (i := i) hN hv hd hcd) hb).run pins s σ H Q I ⟨.ref a, k.at_, rfl, rfl, dx, xs, w, rfl, hx, hw, kq w B H (.refl st) (.refl S) rw'⟩
theorem fsc_nil : FXsc X i [] (fun _ _ => M.pure []) := fun a oe cls d pn hz hf => PA.imp pa_nil fun σ H Q ⟨B, S, c, fs, st, k, q⟩ => q [] B H (.refl st) (.refl S) .nil
theorem fsc_cons {m : Xm DV} {ms : Xm (List DV)} (h : FXc X i e m) (hs : FXsc X i es ms) (hst : starEach (e :: es) X.env = (false, eval e X.env) :: starEach es X.env := by rfl) :
    FXsc X i (e :: es) (fun c fs => M.bind (m c fs) fun o => M.bind (ms c fs) fun os => M.pure (o :: os)) := fun a oe cls d pn hz hf => PA.imp (pa_cons (h a oe cls d pn hz hf) (hs a oe cls d pn hz hf) hst) fun σ H Q ⟨B, S, c, fs, st, k, q⟩ =>
  ⟨B, S, c, fs, st, k, (spec_bind.mp q).imp (fun o S1 _ q v B1 H1 s hs or => ⟨B1, S1, c, fs, s.st, k.step st s, (spec_bind.mp q).imp (fun os S2 _ q vs B2 H2 s2 hs2 ors =>
    q (v :: vs) B2 H2 (s.trans s2) (hs.trans hs2) (.cons (or.mono s2.grow.sub) ors)) fun _ _ _ h => h⟩) fun _ _ _ h => h⟩
theorem pxc_lst {ms : Xm (List DV)} (ha : FXsc X i es ms) : PXc X i (.List es pos) (fun c fs => M.bind (ms c fs) mkL) := fun a oe cls d pn hz hf => PE.imp (pe_lst (ha a oe cls d pn hz hf)) fun σ H Q ⟨B, S, c, fs, st, k, q⟩ =>
  ⟨B, S, c, fs, st, k, (spec_bind.mp q).imp (fun ds S1 _ q vs B1 H1 s hs r => by
    obtain ⟨hl, q⟩ := if_spec q
    refine ⟨by rw [r.length]; exact hl, fun p hp => ?_⟩
    obtain ⟨s3, opd, yg⟩ := (res_lst s.st.le hp r).opd s.st
    exact q _ _ _ (s.trans s3) hs opd (yg.pre s)) fun _ _ _ h => h⟩
end
abbrev HM := Str → List (Str × DV) → SM
def tSc (KK : PySem.W.Frag) (mg : Mg) (i : Nat) (a : Addr) (cls : Value) (d : Option Addr) (m : HM) : TS := fun D σ H => ∃ B S c fs, StR KK mg B H σ S ∧ Cau mg i a cls d c fs σ B H ∧ (m c fs S).spec
  (fun S' => ∀ B' H' σ', Stp KK mg B H σ S B' H' σ' S' → D.nx σ' H')
  (fun o S' => ∀ v B' H' σ', Stp KK mg B H σ S B' H' σ' S' → OpdR mg B' H' σ' S' v o → Young H v o → D.rt v H')
  (fun S' => ∀ B' H' σ', Stp KK mg B H σ S B' H' σ' S' → D.bk σ' H') (fun S' => ∀ B' H' σ', Stp KK mg B H σ S B' H' σ' S' → D.ct σ' H') noE
def SXc (X : Cx) (i : Nat) (st : List Stmt) (m : HM) : Prop := InS X fun a cls d Y => PSs Y st (tSc X.K X.mg i a cls d m)
theorem set_end {KK : PySem.W.Frag} {mg : Mg} {B H B1 H1 : Hp} {σ : Sg} {S S1 : Sl} {j : Nat} {v : V} {o : Opd} {Nx : Sg → Hp → Prop} {R : Opd → Sl → Prop} {Bk Ct : Sl → Prop} {E : Str → List (Str × DV) → Sl → Prop} (s : Stp KK mg B H σ S B1 H1 σ S1) (hs : Has S S1) (r : OpdR mg B1 H1 σ S1 v o) (y : Young H v o)
    (q : (setSl j o S1).spec (fun S' => ∀ B' H' σ', Stp KK mg B H σ S B' H' σ' S' → Nx σ' H') R Bk Ct E) : Nx (σ.set j (some v)) H1 := by
  cases r with
  | v r n =>
    obtain ⟨h1, h2, k⟩ := stores_spec q
    exact k B1 H1 _ (s.set r n y h1 h2)
  | @sl j' e1 hr =>
    have q : (frz (.sl j') S1).spec _ _ := spec_thn.mp q
    cases ef : frz (.sl j') S1 with
    | stuck => rw [ef] at q; exact q.elim
    | exc c fs S' => exact (frz_noexc ef).elim
    | ok d S2 =>
      rw [ef] at q
      obtain ⟨B2, s2, _, rep⟩ := frz_ok s hs (.sl e1 hr) trivial ef
      obtain ⟨h1, h2, k⟩ := stores_spec q
      exact k B2 H1 _ (s2.set (.v rep) (fun a h => by cases h) (fun a h => by cases h) h1 h2)
section
variable {X : Cx} {i : Nat} {e : Expr} {pos pos' : Pos}
theorem sxc_set (j : Nat) {x : Str} {me : Xm Opd} (hN : X.N.Nodup) (hi : X.N[j]? = some x) (hx : Loc X.env.scope x) (he : PXc X i e me) (hs : swapsWith e (some (.Name x pos')) pos.line X.env = pure false := by rfl)
    (hf : X.fn x = true ∨ X.env.scope.names.lookup x = some .local := by first | exact .inl rfl | exact .inr rfl | assumption) :
    SXc X i [.Assign [.Name x pos'] e pos] (fun c fs => M.thn (me c fs) (setSl j)) := fun a oe cls d pn hz hfl => PSs.imp (pss_one (ps_set (X := X.suite a ((a, oe) :: pn)) hN hi hx (he a oe cls d pn hz hfl) hs hf)) fun D σ H ⟨B, S, c, fs, st, k, q⟩ =>
  ⟨B, S, c, fs, st, k, (spec_thn.mp q).imp (fun o S1 _ q v B1 H1 s hs r y => set_end s hs r y q) fun _ _ _ h => h⟩
end
/-! ### the clauses -/
structure Hd where
  sub : Str → Option Bool
  i : Nat
  h : HM
def isFree (S : Sl) (i : Nat) : Bool := match S[i]? with
  | some none => true
  | _ => false
theorem isFree_eq {S : Sl} {i : Nat} (h : isFree S i = true) : S[i]? = some none := by
  unfold isFree at h
  split at h
  · assumption
  · cases h
def endH (i : Nat) (o : SOut) : SOut := match o with
  | .nx S => if isFree S i then .nx S else .stuck
  | .rt r S => .rt r S
  | _ => .stuck
def catchM : List Hd → Str → List (Str × DV) → SM
  | [], c, fs, S => .exc c fs S
  | w :: r, c, fs, S => match w.sub c with
    | none => .stuck
    | some false => catchM r c fs S
    | some true => if isFree S w.i then endH w.i (w.h c fs S) else .stuck
def tryM (m : SM) (hs : List Hd) : SM := fun S => match m S with
  | .exc c fs S' => catchM hs c fs S'
  | o => o
inductive HdM (X : Cx) : List ExceptHandler → List Hd → Prop
  | nil : HdM X [] []
  | cons {x n : Str} {cv : Value} {w : Hd} {b₀ : Stmt} {suite : List Stmt} {np pos' : Pos} {hds : List ExceptHandler} {l : List Hd} (hc : Names X x cv) (hi : X.N[w.i]? = some n) (hln : X.env.kindOf n = some .local)
      (hsub : ∀ c C b, X.mg c = some (.ref C) → w.sub c = some b → PySem.W.exmOne X.K (.ref C) cv = some b) (hsu : SXc X w.i (b₀ :: suite) w.h) (r : HdM X hds l) : HdM X (.ExceptHandler (some (.Name x np)) (some n) (b₀ :: suite) pos' :: hds) (w :: l)
/-- a slot that S says nothing of -/
theorem StR.junk {KK : PySem.W.Frag} {mg : Mg} {B H : Hp} {σ : Sg} {S : Sl} {i : Nat} {y : Option V} (x : StR KK mg B H σ S) (h : S[i]? = some none) : StR KK mg B H (σ.set i y) S := by
  have ne : ∀ {j : Nat} {r : RV}, S[j]? = some (some r) → i ≠ j := fun e z => by rw [← z, h] at e; cases e
  have ow : ∀ {j : Nat} {a : Addr}, OwnAt (σ.set i y) S j a → OwnAt σ S j a := fun ⟨⟨r, e, hr⟩, e2⟩ => ⟨⟨r, e, hr⟩, by rw [List.getElem?_set_ne (ne e)] at e2; exact e2⟩
  refine ⟨x.le, by rw [List.length_set]; exact x.len, fun j r e => ?_, fun j k a p q => x.dis j k a (ow p) (ow q), x.tbs⟩
  obtain ⟨v, e1, q⟩ := x.at_ j r e
  exact ⟨v, by rw [List.getElem?_set_ne (ne e)]; exact e1, q⟩
theorem own_junk {σ : Sg} {S : Sl} {i : Nat} {y : Option V} (h : S[i]? = some none) {a : Addr} : OwnA (σ.set i y) S a ↔ OwnA σ S a := by
  have ne : ∀ {j : Nat} {r : RV}, S[j]? = some (some r) → i ≠ j := fun e z => by rw [← z, h] at e; cases e
  constructor
  · rintro ⟨j, ⟨r, e, hr⟩, e2⟩
    exact ⟨j, ⟨r, e, hr⟩, by rw [List.getElem?_set_ne (ne e)] at e2; exact e2⟩
  · rintro ⟨j, ⟨r, e, hr⟩, e2⟩
    exact ⟨j, ⟨r, e, hr⟩, by rw [List.getElem?_set_ne (ne e)]; exact e2⟩
theorem Stp.junkR {KK : PySem.W.Frag} {mg : Mg} {B H B' H' : Hp} {σ σ' : Sg} {S S' : Sl} {i : Nat} {y : Option V} (s : Stp KK mg B H σ S B' H' σ' S') (h : S'[i]? = some none) : Stp KK mg B H σ S B' H' (σ'.set i y) S' where
  grow := s.grow
  st := s.st.junk h
  own := fun a o => s.own a ((own_junk h).mp o)
  pin := fun j p => by
    obtain ⟨h1, h2⟩ := s.pin j p
    obtain ⟨r, e, _⟩ := id h1
    exact ⟨h1, by rw [List.getElem?_set_ne (fun z => by rw [← z, h] at e; cases e)]; exact h2⟩
  len := s.len
theorem Stp.junkL {KK : PySem.W.Frag} {mg : Mg} {B H B' H' : Hp} {σ σ' : Sg} {S S' : Sl} {i : Nat} {y : Option V} (s : Stp KK mg B H (σ.set i y) S B' H' σ' S') (h : S[i]? = some none) : Stp KK mg B H σ S B' H' σ' S' where
  grow := s.grow.imp fun a o => (own_junk h).mp o
  st := s.st
  own := fun a o => (s.own a o).imp (own_junk h).mp id
  pin := fun j p => by
    obtain ⟨r, e, _⟩ := id p
    obtain ⟨h1, h2⟩ := s.pin j p
    exact ⟨h1, by rw [List.getElem?_set_ne (fun z => by rw [← z, h] at e; cases e)] at h2; exact h2⟩
  len := s.len
section
variable {X : Cx} {hds : List ExceptHandler} {hs : List Hd}
theorem catch_ok (W : WX) : HdM X hds hs → ∃ l, HdsA X hds l ∧ ∀ (D : Ends) (B H : Hp) (σ : Sg) (S : Sl) (c : Str) (fs : List (Str × DV)) (S1 : Sl), (catchM hs c fs S1).spec
    (fun S' => ∀ B' H' σ', Stp X.K X.mg B H σ S B' H' σ' S' → D.nx σ' H') (fun o S' => ∀ v B' H' σ', Stp X.K X.mg B H σ S B' H' σ' S' → OpdR X.mg B' H' σ' S' v o → Young H v o → D.rt v H')
    (fun S' => ∀ B' H' σ', Stp X.K X.mg B H σ S B' H' σ' S' → D.bk σ' H') (fun S' => ∀ B' H' σ', Stp X.K X.mg B H σ S B' H' σ' S' → D.ct σ' H') (xPost X.K X.mg W B H σ S) → xPost X.K X.mg (wCl X.K W D l) B H σ S c fs S1 := by
  intro h
  induction h with
  | nil => exact ⟨[], .nil, fun D B H σ S c fs S1 q => q⟩
  | @cons x n cv w b₀ suite np pos' hds l hc hi hln hsub hsu r ih =>
    obtain ⟨l', r', ih⟩ := ih
    refine ⟨(cv, w.i, fun a cls d => tSc X.K X.mg w.i a cls d w.h) :: l', .cons hc hi hln hsu r', fun D B H σ S c fs S1 q => ?_⟩
    intro C B1 H1 σ1 d hm s hd
    unfold catchM at q
    cases hw : w.sub c with
    | none => rw [hw] at q; exact q.elim
    | some b =>
      rw [hw] at q
      refine ⟨b, hsub c C b hm hw, fun e a na => ?_, fun e => ?_⟩
      · subst e
        dsimp only at q
        split at q
        · rename_i h0
          have h0 := isFree_eq h0
          have hl : w.i < σ1.length := by rw [s.st.len]; exact (List.getElem?_eq_some_iff.mp h0).1
          have st1 := s.st.junk (y := some (.ref a)) h0
          refine ⟨B1, S1, c, fs, st1, ⟨List.getElem?_set_self hl, ⟨C, rfl, hm⟩, hd⟩, ?_⟩
          have pre : ∀ {B' H' σ' S'}, Stp X.K X.mg B1 H1 (σ1.set w.i (some (.ref a))) S1 B' H' σ' S' → Stp X.K X.mg B H σ S B' H' σ' S' := fun s2 => s.trans (s2.junkL h0)
          cases eo : w.h c fs S1 with
          | stuck => rw [eo] at q; exact q.elim
          | bk S' => rw [eo] at q; exact q.elim
          | ct S' => rw [eo] at q; exact q.elim
          | exc c' fs' S' => rw [eo] at q; exact q.elim
          | rt o S' =>
            rw [eo] at q
            exact fun v B' H' σ' s2 ro y => q v B' H' σ' (pre s2) ro (y.pre s)
          | nx S' =>
            rw [eo] at q
            unfold endH at q
            dsimp only at q
            split at q
            · rename_i h1
              exact fun B' H' σ' s2 => q B' H' _ ((pre s2).junkR (isFree_eq h1))
            · exact q.elim
        · exact q.elim
      · subst e
        exact ih D B H σ S c fs S1 q C B1 H1 σ1 d hm s hd
variable {body : List Stmt} {h₀ : ExceptHandler} {pos : Pos} {mb : SM}
theorem sx_try (hst : X.stack = X.env :: X.outer) (hf : X.env.frame = some X.env.locals) (hN : X.N.Nodup) (hb : ∀ pn xe, SXs (X.tr pn xe) body mb) (hh : HdM X (h₀ :: hds) hs) : SX X (.Try body (h₀ :: hds) [] [] pos) (tryM mb hs) := fun W tk pp => by
  obtain ⟨l, hl, key⟩ := catch_ok W hh
  refine PS.imp (ps_try_cl (tb := tS X.K X.mg mb) hst hf hN tk (fun W' pn xe tk' pp' => hb pn xe W' tk' pp') hl) fun D σ H ⟨B, S, st, q⟩ => ⟨B, S, st, ?_⟩
  unfold tryM at q
  cases em : mb S with
  | stuck => rw [em] at q; exact q
  | nx S' => rw [em] at q; exact q
  | rt o S' => rw [em] at q; exact q
  | bk S' => rw [em] at q; exact q
  | ct S' => rw [em] at q; exact q
  | exc c fs S' => rw [em] at q; exact key D B H σ S c fs S' q
end
end Lb
/-! repr of data. -/
namespace Lb
open PySem PySem.Spec PyProof.Rows L2
def keyPy : Key → PyData
  | .inl i => .int i
  | .inr x => .str x
mutual
def toPy : DV → Option PyData
  | .non => some .none
  | .bl b => some (.bool b)
  | .int i => some (.int i)
  | .str x => some (.str x)
  | .lst ds => (toPys ds).map .list
  | .tup ds => (toPys ds).map .tuple
  | .tuf ds => (toPys ds).map .tuple
  | .dct kvs => (toPyK kvs).map .dict
  | _ => none
def toPys : List DV → Option (List PyData)
  | [] => some []
  | d :: ds => match toPy d, toPys ds with
    | some p, some ps => some (p :: ps)
    | _, _ => none
def toPyK : List (Key × DV) → Option (List (PyData × PyData))
  | [] => some []
  | (k, d) :: ds => match toPy d, toPyK ds with
    | some p, some ps => some ((keyPy k, p) :: ps)
    | _, _ => none
end
theorem View.rep {mg : Mg} {B H : Hp} (le : Sub B H) {v : V} {d : DV} (q : View mg B H v d) : Rep mg H v d := by
  cases q with
  | r q => exact q.mono le
  | lst h q => exact .lst h (q.mono le)
  | dct h q => exact .dct (.inl h) (q.mono le)
  | ins m h q => exact .ins m h (q.mono le)
section
variable {P : Program} {w : World} {KK : PySem.W.Frag} {mg : Mg} {H : Hp} {h : Heap}
def Tr (H : Hp) (as : List Addr) : Prop := ∀ b ∈ as, H b ≠ none
theorem Tr.cons {a : Addr} {as : List Addr} {o : HO} (e : H a = some o) (t : Tr H as) : Tr H (a :: as) := fun b hb => by
  rcases List.mem_cons.mp hb with z | z
  · subst z; rw [e]; simp
  · exact t b z
theorem Tr.app {as bs : List Addr} (t : Tr H as) (u : Tr H bs) : Tr H (as ++ bs) := fun b hb => (List.mem_append.mp hb).elim (t b) (u b)
theorem rd_some {a : Addr} {u : HO} (r : Rd H a u) : ∃ o, H a = some o := by
  rcases r with e | ⟨o, e⟩
  · exact ⟨_, e⟩
  · exact ⟨_, e⟩
theorem key_reads {k : Key} {v : Value} (e : keyIs k v = true) : Reads h v (keyPy k) [] := by
  rcases keyIs_shape e with ⟨i, t, rfl, rfl⟩ | ⟨x, t, rfl, rfl⟩
  · exact .int i t
  · exact .str x t
theorem keys_reads : ∀ {es : List DictEntry} {kvs : List (Key × Value)}, Pairs (mixKind P w) es kvs → ∃ as, ReadsAll h (es.map (·.key)) (kvs.map fun p => keyPy p.1) as ∧ as = []
  | _, _, .nil => ⟨[], .nil, rfl⟩
  | _, _, .cons e _ t => by
    obtain ⟨as, r, rfl⟩ := keys_reads t
    exact ⟨[] ++ [], .cons (key_reads e) r, rfl⟩
theorem vals_of_pairs : ∀ {es : List DictEntry} {kvs : List (Key × Value)}, Pairs (mixKind P w) es kvs → es.map (·.val) = kvs.map (·.2)
  | _, _, .nil => rfl
  | _, _, .cons _ e t => by rw [List.map_cons, List.map_cons, e, vals_of_pairs t]
theorem kv_vals : ∀ {xs : List (Key × V)} {ys : List (Key × Value)}, KV xs ys → Vals (xs.map (·.2)) (ys.map (·.2)) ∧ xs.map (·.1) = ys.map (·.1)
  | _, _, .nil => ⟨.nil, rfl⟩
  | _, _, .cons r t => ⟨.cons r.2 (kv_vals t).1, by rw [List.map_cons, List.map_cons, r.1, (kv_vals t).2]⟩
mutual
theorem rep_reads (hok : HOk P w H h) : ∀ {v : V} {d : DV} {p : PyData} {u : Value}, Rep mg H v d → toPy d = some p → RelV v u → ∃ as, Reads h u p as ∧ Tr H as
  | _, _, _, _, .non, e, r => by cases e; cases r; exact ⟨[], .none, fun b hb => by cases hb⟩
  | _, _, _, _, .bl b, e, r => by cases e; cases r; exact ⟨[], .bool b, fun b hb => by cases hb⟩
  | _, _, _, _, .int i, e, r => by cases e; obtain ⟨t, rfl⟩ := r; exact ⟨[], .int i t, fun b hb => by cases hb⟩
  | _, _, _, _, .str x, e, r => by cases e; obtain ⟨t, rfl⟩ := r; exact ⟨[], .str x t, fun b hb => by cases hb⟩
  | _, _, p, _, .lst (a := a) (ds := ds) ha q, e, r => by
    simp only [toPy, Option.map_eq_some_iff] at e
    obtain ⟨ps, e, rfl⟩ := e
    obtain ⟨_, its, n, rv, ho⟩ := (show ObjOk P w H h a (.lst _) from hok a _ ha)
    cases r
    obtain ⟨as, rs, t⟩ := reps_reads hok q e rv
    exact ⟨a :: as, .list ho rfl rfl rs, t.cons ha⟩
  | _, _, p, _, .tup (a := a) (ds := ds) ha q, e, r => by
    simp only [toPy, Option.map_eq_some_iff] at e
    obtain ⟨ps, e, rfl⟩ := e
    obtain ⟨_, its, rv, o, ho, hc, n, hd⟩ := (show ObjOk P w H h a (.tup _) from hok a _ ha)
    cases r
    obtain ⟨as, rs, t⟩ := reps_reads hok q e rv
    exact ⟨as, .tuple ho hc hd rs, t⟩
  | _, _, p, _, .tuf (a := a) (ds := ds) ha _ q, e, r => by
    simp only [toPy, Option.map_eq_some_iff] at e
    obtain ⟨ps, e, rfl⟩ := e
    obtain ⟨_, its, rv, o, ho, hc, n, hd⟩ := (show ObjOk P w H h a (.tup _) from (show Rd H a (.tup _) from .inr ⟨_, ha⟩).ok hok)
    cases r
    obtain ⟨as, rs, t⟩ := reps_reads hok q e rv
    exact ⟨as, .tuple ho hc hd rs, t⟩
  | _, _, p, _, .dct (a := a) (ds := ds) ha q, e, r => by
    simp only [toPy, Option.map_eq_some_iff] at e
    obtain ⟨ps, e, rfl⟩ := e
    obtain ⟨_, _, vs, kv, o, es, ep, ho, hx, hd, _, pr, _⟩ := dk_rd hok ha
    cases r
    obtain ⟨rv, hk⟩ := kv_vals kv
    obtain ⟨as, rs, ek, t⟩ := repk_reads hok q e rv
    obtain ⟨o', ho'⟩ := rd_some ha
    obtain ⟨bs, rk, rfl⟩ := keys_reads (h := h) pr
    refine ⟨a :: [] ++ as, .dict ho hx.1 hd ?_ (by rw [vals_of_pairs pr]; exact rs), ?_⟩
    · have : vs.map (fun p => keyPy p.1) = ps.map (·.1) := by
        rw [ek, show (fun p : Key × Value => keyPy p.1) = keyPy ∘ Prod.fst from rfl, ← List.map_map, ← hk, List.map_map]; rfl
      rw [← this]; exact rk
    · exact (Tr.cons ho' fun b hb => by cases hb).app t
  | _, _, _, _, .ins _ _ _, e, _ => by cases e
  | _, _, _, _, .hole, e, _ => by cases e
  | _, _, _, _, .loc, e, _ => by cases e
  | _, _, _, _, .clo _ _, e, _ => by cases e
  | _, _, _, _, .scr _, e, _ => by cases e
  | _, _, _, _, .exn _ _, e, _ => by cases e
  | _, _, _, _, .exd _ _ _ _, e, _ => by cases e
theorem reps_reads (hok : HOk P w H h) : ∀ {vs : List V} {ds : List DV} {ps : List PyData} {us : List Value}, Reps mg H vs ds → toPys ds = some ps → Vals vs us → ∃ as, ReadsAll h us ps as ∧ Tr H as
  | _, _, _, _, .nil, e, .nil => by cases e; exact ⟨[], .nil, fun b hb => by cases hb⟩
  | _, _, _, _, .cons q1 q2, e, .cons r1 r2 => by
    simp only [toPys] at e
    split at e
    · rename_i p ps e1 e2
      cases e
      obtain ⟨as, x1, t1⟩ := rep_reads hok q1 e1 r1
      obtain ⟨bs, x2, t2⟩ := reps_reads hok q2 e2 r2
      exact ⟨as ++ bs, .cons x1 x2, t1.app t2⟩
    · cases e
theorem repk_reads (hok : HOk P w H h) : ∀ {vs : List (Key × V)} {ds : List (Key × DV)} {ps : List (PyData × PyData)} {us : List Value}, RepK mg H vs ds → toPyK ds = some ps → Vals (vs.map (·.2)) us →
    ∃ as, ReadsAll h us (ps.map (·.2)) as ∧ ps.map (·.1) = vs.map (fun p => keyPy p.1) ∧ Tr H as
  | _, _, _, _, .nil, e, .nil => by cases e; exact ⟨[], .nil, rfl, fun b hb => by cases hb⟩
  | _, _, _, _, .cons q1 q2, e, .cons r1 r2 => by
    simp only [toPyK] at e
    split at e
    · rename_i p ps e1 e2
      cases e
      obtain ⟨as, x1, t1⟩ := rep_reads hok q1 e1 r1
      obtain ⟨bs, x2, ek, t2⟩ := repk_reads hok q2 e2 r2
      exact ⟨as ++ bs, .cons x1 x2, by rw [List.map_cons, List.map_cons, ek], t1.app t2⟩
    · cases e
end
end
def reprable (p : PyData) : Bool := p.showable && decide (p.shown.length ≤ sizeLine) && decide (p.depth ≤ 60)
def fRepr : List DV → Option RV
  | [d] => match toPy d with
    | some p => if reprable p then some (.v (.str p.shown)) else none
    | none => none
  | _ => none
/-- repr(x) -/
def rRepr (mg : Mg) : List V → Hp → VK → Prop := fun xs H Q => ∃ v d p, xs = [v] ∧ Rep mg H v d ∧ toPy d = some p ∧ reprable p = true ∧ Q (.str p.shown) H
theorem call_repr {X : Cx} (hgd : X.A.guards = some []) (hr : X.A.units + 200 < cLine) (hs : ∃ o, X.base.get? sysModules = some o) : CallR X (.builtin "repr") (rRepr X.mg) := fun pins s σ H xs us Q I r h => by
  obtain ⟨v, d, p, rfl, rp, ep, hp, q⟩ := h
  obtain ⟨u, rfl, ru⟩ := vals1 r
  obtain ⟨as, rd, t⟩ := rep_reads I.hok rp ep ru
  simp only [reprable, Bool.and_eq_true, decide_eq_true_eq] at hp
  obtain ⟨⟨h1, h2⟩, h3⟩ := hp
  have ns : sysModules ∉ as := fun hm => by
    obtain ⟨o, e⟩ := hs
    exact t _ hm (I.bs _ _ e).2
  have fin : ∀ h' u' tk, (∀ b o, s.heap.get? b = some o → h'.get? b = some o) → EP X pins σ Q (.str p.shown u') { s with heap := h', toks := tk } := fun h' u' tk k => ⟨.str p.shown, H, I.kept (t' := tk) k, ⟨u', rfl⟩, q⟩
  have heap : ∀ {a : Addr}, u = .ref a → wpAny (model X.prog X.w) X.A (call (.builtin "repr") [u]) (EP X pins σ Q) X.xe s := fun e => by
    subst e
    exact repr_of_reads' rd h1 (fun _ => ns) hgd (by omega) (fun b o e => e) fin h2
  cases rd with
  | none => exact PySem.P.repr_of_none ⟨.str _, H, I.tok _, ⟨_, rfl⟩, q⟩
  | bool b => exact PySem.P.repr_of_bool ⟨.str _, H, I.tok _, ⟨_, rfl⟩, q⟩
  | int i t => exact PySem.P.repr_of_int (by simpa [PyData.showable] using h1) ⟨.str _, H, I.tok _, ⟨_, rfl⟩, q⟩
  | str x t => exact PySem.P.repr_of_str ⟨.str _, H, I.tok _, ⟨_, rfl⟩, q⟩ (by simpa only [PyData.shown] using h2)
  | list _ _ _ _ => exact heap rfl
  | tuple _ _ _ _ => exact heap rfl
  | dict _ _ _ _ _ => exact heap rfl
theorem prim_repr {mg : Mg} : PrimN mg (rRepr mg) fRepr := fun B H xs ds rv Q le vs e k => by
  unfold fRepr at e
  split at e
  · rename_i d
    obtain ⟨v, rfl, q⟩ := vs.one
    split at e
    · rename_i p ep
      split at e
      · rename_i hp
        cases e
        exact ⟨v, d, p, rfl, q.rep le, ep, hp, k _ _ _ (res_str le _)⟩
      · cases e
    · cases e
  · cases e
end Lb
/-! More operations. -/
namespace Lb
open PySem PySem.Spec PyProof.Rows L2
/-! ### == and != of data without dicts -/
def eqPy (d e : DV) : Option Bool := match toPy d, toPy e with
  | some p, some q => if SeqAt.shaped p && SeqAt.shaped q then some (PyData.eqv p q) else none
  | _, _ => none
def nePy (d e : DV) : Option Bool := (eqPy d e).map not
def rEqP (mg : Mg) : R2 := fun x y H Q => ∃ d e b, Rep mg H x d ∧ Rep mg H y e ∧ eqPy d e = some b ∧ Q (.bl b) H
def rNeP (mg : Mg) : R2 := fun x y H Q => ∃ d e b, Rep mg H x d ∧ Rep mg H y e ∧ eqPy d e = some b ∧ Q (.bl (!b)) H
theorem eqPy_of {d e : DV} {b : Bool} (h : eqPy d e = some b) : ∃ p q, toPy d = some p ∧ toPy e = some q ∧ SeqAt.shaped p = true ∧ SeqAt.shaped q = true ∧ b = PyData.eqv p q := by
  unfold eqPy at h
  split at h
  · rename_i p q e1 e2
    split at h
    · rename_i hs
      rw [Bool.and_eq_true] at hs
      exact ⟨p, q, e1, e2, hs.1, hs.2, (Option.some.inj h).symm⟩
    · cases h
  · cases h
theorem op_eqP {X : Cx} (hu : X.A.units + 64 < cLine) : OpR X (compareOp .Eq) (rEqP X.mg) := by
  intro pins s σ H x y v u Q I rx ry h
  obtain ⟨d, e, b, rd, re, hb, q⟩ := h
  obtain ⟨p, p', e1, e2, s1, s2, rfl⟩ := eqPy_of hb
  obtain ⟨as, r1, _⟩ := rep_reads I.hok rd e1 rx
  obtain ⟨bs, r2, _⟩ := rep_reads I.hok re e2 ry
  exact SeqAt.compareEq_shaped r1 r2 s1 s2 hu ⟨.bl _, H, I, rfl, q⟩
theorem op_neP {X : Cx} (hu : X.A.units + 64 < cLine) : OpR X (compareOp .NotEq) (rNeP X.mg) := by
  intro pins s σ H x y v u Q I rx ry h
  obtain ⟨d, e, b, rd, re, hb, q⟩ := h
  obtain ⟨p, p', e1, e2, s1, s2, rfl⟩ := eqPy_of hb
  obtain ⟨as, r1, _⟩ := rep_reads I.hok rd e1 rx
  obtain ⟨bs, r2, _⟩ := rep_reads I.hok re e2 ry
  exact SeqAt.compareNe_shaped r1 r2 s1 s2 hu ⟨.bl _, H, I, rfl, q⟩
theorem prim_eqP {mg : Mg} : Prim2 mg (rEqP mg) (rvB eqPy) := primB fun B H x y dx dy b Q le vx vy e k => ⟨dx, dy, b, vx.rep le, vy.rep le, e, k⟩
theorem prim_neP {mg : Mg} : Prim2 mg (rNeP mg) (rvB nePy) := primB fun B H x y dx dy b Q le vx vy e k => by
  unfold nePy at e
  obtain ⟨c, e', rfl⟩ := Option.map_eq_some_iff.mp e
  exact ⟨dx, dy, c, vx.rep le, vy.rep le, e', k⟩
/-- texts by themselves, else data without dicts -/
def eqDV (d e : DV) : Option Bool := match d, e with
  | .str a, .str b => some (a == b)
  | d, e => eqPy d e
def neDV (d e : DV) : Option Bool := (eqDV d e).map not
def rEqA (mg : Mg) : R2 := fun x y H Q => rEq x y H Q ∨ rEqP mg x y H Q
def rNeA (mg : Mg) : R2 := fun x y H Q => rNe x y H Q ∨ rNeP mg x y H Q
theorem op_eqA {X : Cx} (hu : X.A.units + 64 < cLine) : OpR X (compareOp .Eq) (rEqA X.mg) := op_eq.or (op_eqP hu)
theorem op_neA {X : Cx} (hu : X.A.units + 64 < cLine) : OpR X (compareOp .NotEq) (rNeA X.mg) := op_ne.or (op_neP hu)
theorem eqDV_str {B H : Hp} {mg : Mg} {x y : V} {dx dy : DV} {b : Bool} (vx : View mg B H x dx) (vy : View mg B H y dy) (e : eqDV dx dy = some b) : (∃ i j, x = .str i ∧ y = .str j ∧ b = (i == j)) ∨ eqPy dx dy = some b := by
  unfold eqDV at e
  split at e
  · exact .inl ⟨_, _, vx.str, vy.str, (Option.some.inj e).symm⟩
  · exact .inr e
theorem prim_eqA {mg : Mg} : Prim2 mg (rEqA mg) (rvB eqDV) := primB fun B H x y dx dy b Q le vx vy e k => by
  rcases eqDV_str vx vy e with ⟨i, j, rfl, rfl, rfl⟩ | e
  · exact .inl ⟨rfl, by rw [dec_str]; exact k⟩
  · exact .inr ⟨dx, dy, b, vx.rep le, vy.rep le, e, k⟩
theorem prim_neA {mg : Mg} : Prim2 mg (rNeA mg) (rvB neDV) := primB fun B H x y dx dy b Q le vx vy e k => by
  unfold neDV at e
  obtain ⟨c, e', rfl⟩ := Option.map_eq_some_iff.mp e
  rcases eqDV_str vx vy e' with ⟨i, j, rfl, rfl, rfl⟩ | e'
  · exact .inl ⟨rfl, by rw [dec_str]; exact k⟩
  · exact .inr ⟨dx, dy, c, vx.rep le, vy.rep le, e', k⟩
/-! ### any, all -/
def boolsDV : List DV → Option (List Bool)
  | [] => some []
  | .bl b :: ds => (boolsDV ds).map (b :: ·)
  | _ => none
theorem reps_bools {mg : Mg} {B : Hp} : ∀ {ds : List DV} {bs : List Bool} {xs : List V}, boolsDV ds = some bs → Reps mg B xs ds → xs = bs.map V.bl
  | [], _, _, h, .nil => by cases h; rfl
  | d :: ds, bs, _, h, .cons r q => by
    cases d <;> simp only [boolsDV, reduceCtorEq] at h
    obtain ⟨cs, e, rfl⟩ := Option.map_eq_some_iff.mp h
    cases r
    rw [reps_bools e q]; rfl
def fAny : List DV → Option RV
  | [.lst ds] => (boolsDV ds).map fun bs => .v (.bl (bs.any id))
  | _ => none
def fAll : List DV → Option RV
  | [.lst ds] => (boolsDV ds).map fun bs => .v (.bl (bs.all id))
  | _ => none
theorem prim_any {mg : Mg} {K : PySem.W.Frag} : PrimN mg (rAny K) fAny := fun B H xs ds rv Q le vs e k => by
  unfold fAny at e
  split at e
  · obtain ⟨bs, e', rfl⟩ := Option.map_eq_some_iff.mp e
    obtain ⟨v, rfl, q⟩ := vs.one
    obtain ⟨a, ys, rfl, h, r⟩ := q.list le
    rw [reps_bools e' r] at h
    exact ⟨a, bs, rfl, SqL.of h, k _ _ _ (res_bl le _)⟩
  · cases e
theorem prim_all {mg : Mg} {K : PySem.W.Frag} : PrimN mg (rAll K) fAll := fun B H xs ds rv Q le vs e k => by
  unfold fAll at e
  split at e
  · obtain ⟨bs, e', rfl⟩ := Option.map_eq_some_iff.mp e
    obtain ⟨v, rfl, q⟩ := vs.one
    obtain ⟨a, ys, rfl, h, r⟩ := q.list le
    rw [reps_bools e' r] at h
    exact ⟨a, bs, rfl, SqL.of h, k _ _ _ (res_bl le _)⟩
  · cases e
/-! ### len -/
def rLenA (K : PySem.W.Frag) : List V → Hp → VK → Prop := fun xs H Q => (∃ p ys, xs = [.ref p] ∧ (SqL K H p ys ∨ SqT K H p ys) ∧ Q (.int ys.length) H) ∨ ∃ z, xs = [.str z] ∧ z.length ≤ sizeLine ∧ Q (.int z.length) H
theorem call_lenA {X : Cx} : CallR X (.builtin "len") (rLenA X.K) := fun pins s σ H xs us Q I r h => h.elim (call_len_seq pins s σ H xs us Q I r) (call_len_str pins s σ H xs us Q I r)
theorem prim_len {mg : Mg} {K : PySem.W.Frag} : PrimN mg (rLenA K) fLen := fun B H xs ds rv Q le vs e k => by
  unfold fLen at e
  split at e
  · cases e
    obtain ⟨v, rfl, q⟩ := vs.one
    obtain ⟨a, ys, rfl, h, r⟩ := q.list le
    rw [← r.length] at k
    exact .inl ⟨a, ys, rfl, .inl (SqL.of h), k _ _ _ (res_int le _)⟩
  · cases e
    obtain ⟨v, rfl, q⟩ := vs.one
    obtain ⟨a, ys, rfl, h, r⟩ := q.tuple le
    rw [← r.length] at k
    exact .inl ⟨a, ys, rfl, .inr (.inl (.inl h)), k _ _ _ (res_int le _)⟩
  · cases e
    obtain ⟨v, rfl, q⟩ := vs.one
    obtain ⟨a, rfl, h⟩ := q.script le
    rename_i ns
    have : ns.length = (ns.map V.int).length := by simp
    rw [this] at k
    exact .inl ⟨a, _, rfl, .inl (.inl h), k _ _ _ (res_int le _)⟩
  · split at e
    · rename_i hz
      cases e
      obtain ⟨v, rfl, q⟩ := vs.one
      cases q.str
      exact .inr ⟨_, rfl, hz, k _ _ _ (res_int le _)⟩
    · cases e
  · cases e
end Lb
/-! Slices, texts repeated, dict displays, append. -/
namespace Lb
open PySem PySem.Spec PyProof.Rows L2
/-! ### slices -/
def tOM (KK : PySem.W.Frag) (mg : Mg) (m : M (Option Int)) (W : WX) : TO := fun σ H Q => ∃ B S, StR KK mg B H σ S ∧ (m S).spec (fun o S' => ∀ B' H', Stp KK mg B H σ S B' H' σ S' → Has S S' → Q o H') (xPost KK mg W B H σ S)
def OptX (X : Cx) (e : Option Expr) (m : M (Option Int)) : Prop := ∀ W, Takes X W → PO X e (tOM X.K X.mg m W)
theorem PO.imp {X : Cx} {e : Option Expr} {t t' : TO} (h : PO X e t) (i : ∀ σ H Q, t' σ H Q → t σ H Q) : PO X e t' := ⟨fun p s σ H Q I q => h.run p s σ H Q I (i σ H Q q)⟩
theorem optx_none {X : Cx} : OptX X none (M.pure none) := fun W tk => PO.imp po_none fun σ H Q ⟨B, S, st, q⟩ => q B H (.refl st) (.refl S)
def asInt (d : DV) : M (Option Int) := match d with
  | .int i => M.pure (some i)
  | _ => M.stuck
theorem optx_some {X : Cx} {e : Expr} {m : M DV} (h : FX X e m) : OptX X (some e) (M.bind m asInt) := fun W tk => PO.imp (po_some (h W tk)) fun σ H Q ⟨B, S, st, q⟩ =>
  ⟨B, S, st, (spec_bind.mp q).imp (fun d S1 _ q v B1 H1 s hs r => by
    cases d with
    | int i => cases r; exact ⟨i, rfl, q B1 H1 s hs⟩
    | _ => exact q.elim) fun _ _ _ h => h⟩
def cutD (xs : List DV) (lo hi : Option Int) : List DV := (xs.drop (HT.sIx xs.length 0 lo)).take (HT.sIx xs.length xs.length hi - HT.sIx xs.length 0 lo)
theorem reps_cut {mg : Mg} {B : Hp} {xs : List V} {ds : List DV} {lo hi : Option Int} (r : Reps mg B xs ds) : Reps mg B (cutV xs lo hi) (cutD ds lo hi) := by
  unfold cutV cutD
  rw [r.length]
  exact (r.drop _).take _
def fCut (d : DV) (lo hi : Option Int) : Option RV := match d with
  | .lst ds => some (.ol false (cutD ds lo hi))
  | .str z => if z.length ≤ sizeLine then some (.v (.str (cutS z lo hi))) else none
  | .tup ds => some (.v (.tup (cutD ds lo hi)))
  | _ => none
def cutM (o : Opd) (lo hi : Option Int) : M Opd := fun S => match o.dv S with
  | some d => match fCut d lo hi with
    | some r => .ok (.v r) S
    | none => .stuck
  | none => .stuck
theorem cutM_spec {o : Opd} {lo hi : Option Int} {S : Sl} {K : Opd → Sl → Prop} {E : Str → List (Str × DV) → Sl → Prop} (h : (cutM o lo hi S).spec K E) : ∃ d r, o.dv S = some d ∧ fCut d lo hi = some r ∧ K (.v r) S := by
  unfold cutM at h
  cases e : o.dv S with
  | none => rw [e] at h; exact h.elim
  | some d =>
    rw [e] at h
    dsimp only at h
    cases e2 : fCut d lo hi with
    | none => rw [e2] at h; exact h.elim
    | some r => rw [e2] at h; exact ⟨d, r, rfl, e2, h⟩
theorem cutD_whole {ds : List DV} {lo hi : Option Int} (h : HT.sIx ds.length 0 lo = 0 ∧ HT.sIx ds.length ds.length hi = ds.length) : cutD ds lo hi = ds := by
  unfold cutD
  rw [h.1, h.2]; simp
section
variable {X : Cx} {e : Expr} {me : M Opd} {lo hi : Option Expr} {ml mh : M (Option Int)} {pos p2 : Pos}
theorem px_slice (he : PX X e me) (hl : OptX X lo ml) (hu : OptX X hi mh) : PX X (.Subscript e (.Slice lo hi none p2) pos) (M.bind me fun o => M.bind ml fun l => M.bind mh fun u => cutM o l u) := fun W tk =>
  PE.imp (pe_slice (sl_list.or (sl_str.or sl_tupA)) (he W tk) (hl W tk) (hu W tk)) fun σ H Q ⟨B, S, st, q⟩ =>
  ⟨B, S, st, (spec_bind.mp q).imp (fun o S1 _ q v B1 H1 s hs or y => ⟨B1, S1, s.st, (spec_bind.mp q).imp (fun l S2 _ q B2 H2 s2 hs2 => ⟨B2, S2, s2.st, (spec_bind.mp q).imp (fun u S3 _ q B3 H3 s3 hs3 => by
    obtain ⟨d, r, ed, er, q⟩ := cutM_spec q
    have or3 := (or.step s2 hs2).step s3 hs3
    have vw := or3.view s3.st ed
    have le := s3.st.le
    have sT := (s.trans s2).trans s3
    have hT := (hs.trans hs2).trans hs3
    have fin : ∀ {w : V} {B' H' : Hp}, Res X.mg B3 H3 w r B' H' → Q w H' := fun res => by
      obtain ⟨s4, opd, yg⟩ := res.opd s3.st
      exact q _ _ _ (sT.trans s4) hT opd (yg.pre sT)
    cases d with
    | lst ds =>
      cases er
      obtain ⟨a, xs, rfl, h, rp⟩ := vw.list le
      exact .inl ⟨a, xs, rfl, SqL.of h, fun p hp => fin (res_lst le hp (reps_cut rp))⟩
    | str z =>
      simp only [fCut] at er
      split at er
      · rename_i hz
        cases er
        cases vw.str
        exact .inr (.inl ⟨z, rfl, hz, fin (res_str le _)⟩)
      · cases er
    | tup ds =>
      cases er
      have vw' := vw
      obtain ⟨a, xs, rfl, h, rp⟩ := vw.tuple le
      refine .inr (.inr (show rSlA X.K _ _ _ _ _ from ⟨a, xs, rfl, .inl (.inl h), fun hw => ?_, fun hw p hp => fin (res_tup le hp (reps_cut rp))⟩))
      rw [rp.length] at hw
      rw [cutD_whole hw] at fin
      cases vw' with
      | r rr => exact fin (.v le rr)
    | _ => cases er) fun _ _ _ h => h.pre (s.trans s2)⟩) fun _ _ _ h => h.pre s⟩) fun _ _ _ h => h⟩
end
/-! ### a text so many times -/
def repS (z : Str) (n : Nat) : Str := ⟨(List.replicate n z.cps).foldl (· ++ ·) #[]⟩
theorem repS_fold (a : Array Nat) : ∀ (n : Nat) (acc : Array Nat), ((List.replicate n a).foldl (· ++ ·) acc).size = acc.size + a.size * n
  | 0, acc => by simp
  | n + 1, acc => by
    rw [List.replicate_succ, List.foldl_cons, repS_fold a n, Array.size_append, Nat.mul_succ]; omega
theorem repS_len (z : Str) (n : Nat) : (repS z n).length = z.length * n := by
  show (repS z n).cps.size = z.cps.size * n
  unfold repS
  rw [repS_fold]; simp
def rMulS : R2 := fun x y H Q => ∃ z k, x = .str z ∧ y = .int k ∧ 0 < z.length ∧ 0 ≤ k ∧ k ≤ 1000 ∧ z.length * k.toNat ≤ 1000000 ∧ Q (.str (repS z k.toNat)) H
theorem op_mulS {X : Cx} : OpR X (binaryOp .Mult) rMulS := by
  intro pins s σ H x y v u Q I rx ry h
  obtain ⟨z, k, rfl, rfl, h0, hk, hk2, hz, q⟩ := h
  obtain ⟨t, rfl⟩ := rx
  obtain ⟨t', rfl⟩ := ry
  have lo : (decide (k < -(2 ^ 63 : Int)) || decide (k ≥ 2 ^ 63)) = false := by
    rw [decide_eq_false (by omega : ¬ k < -(2 ^ 63 : Int)), decide_eq_false (by omega : ¬ k ≥ (2 ^ 63 : Int))]; rfl
  refine PySem.P.mul_str lo (fun h1 h2 hh => ?_) (fun h1 h2 => ?_) ?_
  · have hk3 : (0 : Int) < k := by omega
    have h4 := (Int.ediv_lt_iff_lt_mul hk3).mp hh
    have h5 : ((z.length : Nat) : Int) * k = ((z.length * k.toNat : Nat) : Int) := by
      rw [Int.natCast_mul, Int.toNat_of_nonneg hk]
    rw [h5] at h4
    omega
  · unfold PySem.Builtin.Str.tooLong
    exact decide_eq_false (by rw [sizeLine_eq]; omega)
  · by_cases h1 : k < 1
    · have : k = 0 := by omega
      subst this
      rw [if_pos h1]
      exact ⟨by decide, .str _, H, I.tok _, ⟨_, rfl⟩, q⟩
    · rw [if_neg h1]
      have hz' : (z.length == 0) = false := by simp; omega
      by_cases h2 : k = 1
      · subst h2
        rw [if_pos (by simp)]
        have : repS z (1 : Int).toNat = z := by
          unfold repS
          simp
        rw [this] at q
        exact ⟨.str z, H, I, ⟨t, rfl⟩, q⟩
      · rw [if_neg (by simp [h2, hz'])]
        exact ⟨(by have := repS_len z k.toNat; unfold repS at this; rw [this, sizeLine_eq]; omega), .str _, H, I.tok _, ⟨_, rfl⟩, q⟩
def fMulB (d e : DV) : Option RV := match d, e with
  | .str z, .int k => if 0 < z.length ∧ 0 ≤ k ∧ k ≤ 1000 ∧ z.length * k.toNat ≤ 1000000 then some (.v (.str (repS z k.toNat))) else none
  | d, e => fMul d e
def rMulB : R2 := fun x y H Q => rMulS x y H Q ∨ rMulA x y H Q
theorem op_mulB {X : Cx} : OpR X (binaryOp .Mult) rMulB := op_mulS.or op_mulA
theorem prim_mulB {mg : Mg} : Prim2 mg rMulB fMulB := fun B H x y dx dy rv Q le vx vy e k => by
  unfold fMulB at e
  split at e
  · split at e
    · rename_i hh
      cases e
      cases vx.str
      cases vy.int
      exact .inl ⟨_, _, rfl, rfl, hh.1, hh.2.1, hh.2.2.1, hh.2.2.2, k _ _ _ (res_str le _)⟩
    · cases e
  · exact .inr (prim_mul B H x y _ _ rv Q le vx vy e k)
end Lb
/-! append to an own list; dict displays. -/
namespace Lb
open PySem PySem.Spec PyProof.Rows L2
/-! ### x.append(e) -/
def isOl (S : Sl) (i : Nat) : Bool := match S[i]? with
  | some (some (.ol _ _)) => true
  | _ => false
theorem isOl_of {S : Sl} {i : Nat} (h : isOl S i = true) : ∃ p ds, S[i]? = some (some (.ol p ds)) := by
  unfold isOl at h
  split at h
  · exact ⟨_, _, by assumption⟩
  · cases h
def appendM (i : Nat) (m : M DV) : SM := fun S => if isOl S i then match m S with
    | .ok d S1 => (match S1[i]? with
      | some (some (.ol p ds)) => if ds.length < sizeLine then .nx (S1.set i (some (.ol p (ds ++ [d])))) else .stuck
      | _ => .stuck)
    | .exc c fs S1 => .exc c fs S1
    | .stuck => .stuck
  else .stuck
section
variable {X : Cx} {e : Expr} {x : Str} {zp ap cp pos : Pos} {m : M DV}
theorem sx_append (i : Nat) (hN : X.N[i]? = some x) (he : FX X e m) (hv : Vis X.env.scope x := by first | exact Or.inl rfl | exact Or.inr (Or.inl rfl) | exact Or.inr (Or.inr rfl)) (hd : (x == ("__debug__" : Str)) = false := by decide)
    (hcd : (x == ("__classdict__" : Str)) = false := by decide)
    (hs : swapsWith (.Call (.Attribute (.Name x zp) "append" ap) [e] [] cp) none pos.line X.env = pure false := by rfl)
    (hbase : attributeBase (.Name x zp) "append" X.env (eval (.Name x zp) X.env) = eval (.Name x zp) X.env := by rfl)
    (hfew : ((backTo cp (starEach [e] X.env)).all (fun x => !x.1) && (backToKw cp (keywordEach [] X.env)).all (fun x => x.1.isSome)
      && decide (([e] : List Expr).length + ([] : List Keyword).length + (if ([] : List Keyword).isEmpty then 0 else 1) < 30)) = true := by rfl)
    (hline : (ap.endLine == cp.line) = true := by rfl) (hst : starEach [e] X.env = (false, eval e X.env) :: starEach [] X.env := by rfl) (hplain : (backTo cp (starEach [] X.env)).any (·.1) = false := by rfl) :
    SX X (.Expr (.Call (.Attribute (.Name x zp) "append" ap) [e] [] cp) pos) (appendM i m) := fun W tk pp =>
  PS.imp (ps_expr (pe_bm PySem.F.plainAttrs_list PySem.F.slot_list_append PySem.F.type_list_append mt_append (pe_var (i := i) hN hv hd hcd) (pa_cons (he W tk) pa_nil hst) hbase hfew hline hst hplain) hs) fun D σ H ⟨B, S, st, q⟩ => by
    unfold appendM at q
    split at q
    · rename_i ho
      obtain ⟨p, ds, eS⟩ := isOl_of ho
      obtain ⟨v, ev, qv⟩ := st.at_ i _ eS
      cases qv with
      | @ol a p xs ds hb hh r =>
        refine ⟨.ref a, ev, .inl ⟨rfl, xs, SqL.of hh⟩, B, S, st, ?_⟩
        cases em : m S with
        | stuck => rw [em] at q; exact q.elim
        | exc c fs S1 => rw [em] at q; exact q
        | ok d S1 =>
          rw [em] at q
          dsimp only at q
          intro y B1 H1 s hs ry
          split at q
          · rename_i p1 ds1 e1
            split at q
            · rename_i hz
              obtain ⟨v1, ev1, qv1⟩ := s.st.at_ i _ e1
              rw [ev] at ev1; cases ev1
              cases qv1 with
              | ol hb1 hh1 r1 =>
                exact ⟨a, _, y, rfl, rfl, hh1, by rw [r1.length]; exact hz, q B1 _ σ (s.mutL e1 ev (r1.snoc ry))⟩
            · exact q.elim
          · exact q.elim
    · exact q.elim
end
/-! ### dict displays -/
def tPd (KK : PySem.W.Frag) (mg : Mg) (m : M (List (DV × DV))) (W : WX) : Sg → Hp → (List (V × V) → Hp → Prop) → Prop := fun σ H Q => ∃ B S, StR KK mg B H σ S ∧ (m S).spec
  (fun ps S' => ∀ xs ys B' H', Stp KK mg B H σ S B' H' σ S' → Has S S' → Reps mg B' xs (ps.map (·.1)) → Reps mg B' ys (ps.map (·.2)) → Q (xs.zip ys) H') (xPost KK mg W B H σ S)
def PPX (X : Cx) (pos : Pos) (ks : List (Option Expr)) (vs : List Expr) (m : M (List (DV × DV))) : Prop := ∀ W, Takes X W → ∃ trs, PPs X pos ks vs trs ∧ ∀ σ H Q, tPd X.K X.mg m W σ H Q → tPairs trs σ H Q
section
variable {X : Cx} {pos : Pos} {k v : Expr} {ks : List (Option Expr)} {vs : List Expr}
theorem ppx_nil : PPX X pos [] [] (M.pure []) := fun W tk => ⟨[], pps_nil, fun σ H Q ⟨B, S, st, q⟩ => q [] [] B H (.refl st) (.refl S) .nil .nil⟩
theorem ppx_cons {mk mv : M DV} {mr : M (List (DV × DV))} (hk : FX X k mk) (hv : FX X v mv) (hr : PPX X pos ks vs mr) : PPX X pos (some k :: ks) (v :: vs) (M.bind mk fun a => M.bind mv fun b => M.bind mr fun r => M.pure ((a, b) :: r)) := fun W tk => by
  obtain ⟨trs, h, i⟩ := hr W tk
  refine ⟨_, pps_cons (hk W tk) (hv W tk) h, fun σ H Q ⟨B, S, st, q⟩ => ?_⟩
  exact ⟨B, S, st, (spec_bind.mp q).imp (fun a S1 _ q x B1 H1 s1 hs1 rx => ⟨B1, S1, s1.st, (spec_bind.mp q).imp (fun b S2 _ q y B2 H2 s2 hs2 ry => i σ H2 _ ⟨B2, S2, s2.st, (spec_bind.mp q).imp (fun r S3 _ q xs ys B3 H3 s3 hs3 r1 r2 => by
    have := q (x :: xs) (y :: ys) B3 H3 ((s1.trans s2).trans s3) ((hs1.trans hs2).trans hs3) (.cons ((rx.mono s2.sub).mono s3.sub) r1) (.cons (ry.mono s3.sub) r2)
    exact this) fun _ _ _ h => h.pre (s1.trans s2)⟩) fun _ _ _ h => h.pre s1⟩) fun _ _ _ h => h⟩
end
def keyDV : DV → Option Key
  | .int i => some (.inl i)
  | .str x => some (.inr x)
  | _ => none
def keysDV : List (DV × DV) → Option (List (Key × DV))
  | [] => some []
  | (k, d) :: r => match keyDV k, keysDV r with
    | some k, some r => some ((k, d) :: r)
    | _, _ => none
def putD (kvs : List (Key × DV)) (k : Key) (v : DV) : List (Key × DV) := if (kvs.any fun kv => decide (kv.1 = k)) = true then kvs.map (fun kv => if kv.1 = k then (kv.1, v) else kv) else kvs ++ [(k, v)]
def mergeD (kvs more : List (Key × DV)) : List (Key × DV) := more.foldl (fun acc kv => putD acc kv.1 kv.2) kvs
section
variable {KK : PySem.W.Frag} {mg : Mg} {B : Hp}
theorem repk_any {k : Key} : ∀ {xs : List (Key × V)} {ds : List (Key × DV)}, RepK mg B xs ds → (xs.any fun kv => decide (kv.1 = k)) = (ds.any fun kv => decide (kv.1 = k))
  | _, _, .nil => rfl
  | _, _, .cons _ q => by rw [List.any_cons, List.any_cons, repk_any q]
theorem repk_snoc {k : Key} {y : V} {d : DV} (r : Rep mg B y d) : ∀ {xs : List (Key × V)} {ds : List (Key × DV)}, RepK mg B xs ds → RepK mg B (xs ++ [(k, y)]) (ds ++ [(k, d)])
  | _, _, .nil => .cons r .nil
  | _, _, .cons p q => .cons p (repk_snoc r q)
theorem repk_upd {k : Key} {y : V} {d : DV} (r : Rep mg B y d) : ∀ {xs : List (Key × V)} {ds : List (Key × DV)}, RepK mg B xs ds → RepK mg B (xs.map fun kv => if kv.1 = k then (kv.1, y) else kv) (ds.map fun kv => if kv.1 = k then (kv.1, d) else kv)
  | _, _, .nil => .nil
  | _, _, .cons (k := k') p q => by
    rw [List.map_cons, List.map_cons]
    by_cases h : k' = k
    · subst h; simpa using RepK.cons r (repk_upd r q)
    · simpa [h] using RepK.cons p (repk_upd r q)
theorem repk_put {k : Key} {y : V} {d : DV} {xs : List (Key × V)} {ds : List (Key × DV)} (r : Rep mg B y d) (q : RepK mg B xs ds) : RepK mg B (putK xs k y) (putD ds k d) := by
  unfold putK putD
  rw [repk_any q]
  split
  · exact repk_upd r q
  · exact repk_snoc r q
theorem repk_merge : ∀ {more : List (Key × V)} {mds : List (Key × DV)} {xs : List (Key × V)} {ds : List (Key × DV)}, RepK mg B more mds → RepK mg B xs ds → RepK mg B (mergeK xs more) (mergeD ds mds)
  | _, _, _, _, .nil, q => q
  | _, _, _, _, .cons (k := k) (x := x) (d := d) (xs := more) (ds := mds) p r, q => (show RepK mg B (mergeK (putK _ k x) more) (mergeD (putD _ k d) mds) from repk_merge r (repk_put p q))
theorem keys_zip : ∀ {ps : List (DV × DV)} {kvs : List (Key × DV)} {xs ys : List V}, keysDV ps = some kvs → Reps mg B xs (ps.map (·.1)) → Reps mg B ys (ps.map (·.2)) →
    ∃ ks : List (Key × V), xs.zip ys = ks.map (fun kv => (kV kv.1, kv.2)) ∧ RepK mg B ks kvs
  | [], _, _, _, h, .nil, .nil => by cases h; exact ⟨[], rfl, .nil⟩
  | (k, d) :: ps, _, _, _, h, .cons r1 q1, .cons r2 q2 => by
    simp only [keysDV] at h
    split at h
    · rename_i k' r ek er
      cases h
      obtain ⟨ks, e, rk⟩ := keys_zip er q1 q2
      cases k with
      | int i => cases ek; cases r1; exact ⟨(.inl i, _) :: ks, by rw [List.zip_cons_cons, e]; rfl, .cons r2 rk⟩
      | str x => cases ek; cases r1; exact ⟨(.inr x, _) :: ks, by rw [List.zip_cons_cons, e]; rfl, .cons r2 rk⟩
      | _ => cases ek
    · cases h
end
def dispM (ps : List (DV × DV)) : M Opd := fun S => match keysDV ps with
  | some kvs => if kvs.length ≤ 15 then .ok (.v (.od false (mergeD [] kvs))) S else .stuck
  | none => .stuck
theorem repk_len {mg : Mg} {B : Hp} {xs : List (Key × V)} {ds : List (Key × DV)} (r : RepK mg B xs ds) : xs.length = ds.length := r.length
section
variable {X : Cx} {pos : Pos} {ks : List (Option Expr)} {vs : List Expr} {m : M (List (DV × DV))}
theorem px_disp (h : PPX X pos ks vs m) (hall : ks.all (·.isSome) = true := by rfl) (hl : ks.length = vs.length := by rfl) (h0 : ks ≠ [] := by simp) (h15 : ks.length ≤ 15 := by decide) : PX X (.Dict ks vs pos) (M.bind m dispM) := fun W tk => by
  obtain ⟨trs, hp, i⟩ := h W tk
  refine PE.imp (pe_disp hp hall hl h0 h15) fun σ H Q ⟨B, S, st, q⟩ => ?_
  intro p np
  have s0 := st.alloc np (.dK [])
  have np0 : B p = none := st.le.none np
  have no0 : ¬ OwnA σ S p := st.notOwn np
  refine i σ _ _ ⟨B, S, s0.st, (spec_bind.mp q).imp (fun ps S1 _ q xs ys B1 H1 s1 hs1 r1 r2 => ?_) fun _ _ _ h => h.pre s0⟩
  obtain ⟨h1, nb1, no1⟩ := s1.tmpStay rfl upd_same np0 no0
  unfold dispM at q
  cases ek : keysDV ps with
  | none => rw [ek] at q; exact q.elim
  | some kvs =>
    rw [ek] at q
    obtain ⟨h15, q⟩ := if_spec q
    obtain ⟨kz, ez, rk⟩ := keys_zip ek r1 r2
    have sT := (s0.trans s1).tmp h1 ⟨rfl, fun c q z => by unfold LamX.CodeO at z; cases z⟩ np nb1 no1 (o := .dK (mergeK [] kz))
    refine ⟨h1, kz, ez, by rw [rk.length]; exact h15, ?_⟩
    exact q (.ref p) B1 _ sT hs1 (.v (.od nb1 upd_same (repk_merge rk .nil)) fun a _ e => by cases e; exact no1) fun a _ e => by cases e; exact np
theorem px_dict0 : PX X (.Dict [] [] pos) (M.pure (.v (.od false []))) := fun W tk => PE.imp pe_dnewK fun σ H Q ⟨B, S, st, q⟩ => fun p np => by
  obtain ⟨s1, opd, y⟩ := (res_dct st.le np (.nil : RepK X.mg B [] [])).opd st
  exact q _ _ _ s1 (.refl S) opd y
end
end Lb
/-! A def whose first argument is a new own thing. -/
namespace Lb
open PySem PySem.Spec PyProof.Rows L2
def callO (f : FSem) (n : Nat) (o : Opd) (ds : List DV) : M Opd := fun S => if ds.length + 1 = n then
    (match o with
    | .v r0 => if r0.isOwn && !r0.isPin then
        (match f (r0.rePin true :: ds.map .v) with
        | .ret r _ => if r.isPin then .stuck else .ok (.v r) S
        | .exc c fs _ => .exc c fs S
        | .stuck => .stuck) else .stuck
    | .sl _ => .stuck)
  else .stuck
section
variable {X : Cx} {x : Str} {f : FSem} {ps : List Str} {p pos : Pos} {e : Expr} {es : List Expr} {me : M Opd} {ms : M (List DV)}
theorem callO_spec {n : Nat} {o : Opd} {ds : List DV} {S : Sl} {K : Opd → Sl → Prop} {E : Str → List (Str × DV) → Sl → Prop} (h : (callO f n o ds S).spec K E) :
    ds.length + 1 = n ∧ ∃ r0, o = .v r0 ∧ r0.isOwn = true ∧ (f (r0.rePin true :: ds.map .v)).spec (fun r _ => r.isPin = false ∧ K (.v r) S) (fun c fs _ => E c fs S) := by
  unfold callO at h
  split at h
  · rename_i hl
    refine ⟨hl, ?_⟩
    cases o with
    | sl i => exact h.elim
    | v r0 =>
      dsimp only at h
      split at h
      · rename_i ho
        rw [Bool.and_eq_true] at ho
        refine ⟨r0, rfl, ho.1, ?_⟩
        cases ef : f (r0.rePin true :: ds.map .v) with
        | stuck => rw [ef] at h; exact h.elim
        | exc c fs outs => rw [ef] at h; exact h
        | ret r outs =>
          rw [ef] at h
          dsimp only at h
          split at h
          · exact h.elim
          · rename_i hp
            exact ⟨by simpa using hp, h⟩
      · exact h.elim
  · exact h.elim
theorem px_callo (F : Kn X x f ps) (hg : Gl X x) (he0 : PX X e me) (ha : FXs X es ms) (hdb : (x == ("__debug__" : Str)) = false := by decide)
    (he : starEach (e :: es) X.env = (false, eval e X.env) :: starEach es X.env := by rfl) (hpl : (backTo pos (starEach es X.env)).any (·.1) = false := by rfl) :
    PX X (.Call (.Name x p) (e :: es) [] pos) (M.bind me fun o => M.bind ms (callO f ps.length o)) := fun W tk => by
  obtain ⟨fa, fd, k, F, hr, hgd, hm, hk, hb⟩ := F.ex
  refine PE.imp (pe_callG F hr hgd hg hm hk hb (fun σ => passAt tk σ) (pa_cons (he0 W tk) (ha W tk) he) hdb he hpl) fun σ H Q ⟨B, S, st, q⟩ => ?_
  refine ⟨B, S, st, (spec_bind.mp q).imp (fun o S0 _ q v B0 H0 s0 hs0 or yo => ⟨B0, S0, s0.st, (spec_bind.mp q).imp (fun ds S1 _ q vs B1 H1 s1 hs1 r => ?_) fun _ _ _ h => h.pre s0⟩) fun _ _ _ h => h⟩
  have s := s0.trans s1
  have hs := hs0.trans hs1
  obtain ⟨hl, r0, rfl, ho, q⟩ := callO_spec q
  have or1 := or.step s1 hs1
  cases or1 with
  | v q0 nown =>
  obtain ⟨a, rfl⟩ : ∃ a, v = .ref a := by
    cases q0 with
    | v _ => cases ho
    | ol _ _ _ => exact ⟨_, rfl⟩
    | od _ _ _ => exact ⟨_, rfl⟩
    | oi _ _ _ _ => exact ⟨_, rfl⟩
  have na : ¬ OwnA σ S1 a := nown a ho rfl
  have fresh : H a = none := yo a ho rfl
  have nB1 : B1 a = none := by
    cases q0 with
    | v _ => cases ho
    | ol h _ _ => exact h
    | od h _ _ => exact h
    | oi _ h _ _ => exact h
  have ho' : (r0.rePin true).isOwn = true := by rw [RV.rePin_own]; exact ho
  have only : ∀ j b, OwnAt ((V.ref a :: vs).map some) ((r0.rePin true :: ds.map RV.v).map some) j b → j = 0 ∧ b = a := fun j b ⟨⟨r', e1, h1⟩, e2⟩ => by
    cases j with
    | zero =>
      simp at e2
      exact ⟨rfl, e2.symm⟩
    | succ j =>
      exfalso
      rw [List.map_cons, List.getElem?_cons_succ, map_get, List.getElem?_map] at e1
      cases q : ds[j]? with
      | none => rw [q] at e1; cases e1
      | some d => rw [q] at e1; cases e1; cases h1
  have args : StR X.K X.mg B1 H1 ((V.ref a :: vs).map some) ((r0.rePin true :: ds.map RV.v).map some) := by
    have t := argsR s.st r
    refine ⟨s.st.le, by simp [r.length], fun j r' e1 => ?_, fun j k b h1 h2 => by rw [(only j b h1).1, (only k b h2).1], s.st.tbs⟩
    cases j with
    | zero =>
      simp at e1
      subst e1
      exact ⟨.ref a, rfl, q0.rePin⟩
    | succ j =>
      obtain ⟨v, h1, h2⟩ := t.at_ j r' (by simpa using e1)
      exact ⟨v, by simpa using h1, h2⟩
  -- what the callee did, seen from the caller's own state before
  have back : ∀ {B' H' outs}, CallP X.K X.mg B1 H1 (V.ref a :: vs) (r0.rePin true :: ds.map RV.v) B' H' outs → Stp X.K X.mg B H σ S B' H' σ S1 := fun {B' H' outs} cp => by
    have g : Grow X.K B1 H1 B' H' (fun b => b = a) := cp.grow.imp fun b ⟨j, hj⟩ => (only j b hj).2
    have gT : Grow X.K B H B' H' (OwnA σ S) := s.grow.trans g fun b hb => .inr (by subst hb; exact fresh)
    have keep : ∀ b o, H1 b = some o → b ≠ a → nTbl o = true → H' b = some o := fun b o h n t => g.keep b o h n t
    have nb : ∀ b, B1 b = none → H1 b ≠ none → b ≠ a → B' b = none := fun b h1 h2 h3 => by
      cases z : B' b with
      | none => rfl
      | some u =>
        rcases g.new b (by rw [z]; simp) with y | y | y
        · exact absurd h1 y
        · exact absurd y h2
        · exact absurd y h3
    have st' : StR X.K X.mg B' H' σ S1 := ⟨cp.st.le, s.st.len, fun i r' e1 => by
      obtain ⟨w, h1, h2⟩ := s.st.at_ i r' e1
      refine ⟨w, h1, ?_⟩
      have ne : ∀ c, r'.isOwn = true → w = .ref c → c ≠ a := fun c hc ec z => by
        subst z; subst ec
        exact na ⟨i, ⟨r', e1, hc⟩, h1⟩
      cases h2 with
      | v h2 => exact .v (h2.mono g.sub)
      | ol g1 g2 g3 => exact .ol (nb _ g1 (by rw [g2]; simp) (ne _ rfl rfl)) (keep _ _ g2 (ne _ rfl rfl) rfl) (g3.mono g.sub)
      | od g1 g2 g3 => exact .od (nb _ g1 (by rw [g2]; simp) (ne _ rfl rfl)) (keep _ _ g2 (ne _ rfl rfl) rfl) (g3.mono g.sub)
      | oi g0 g1 g2 g3 => exact .oi g0 (nb _ g1 (by rw [g2]; simp) (ne _ rfl rfl)) (keep _ _ g2 (ne _ rfl rfl) rfl) (g3.mono g.sub), s.st.dis, g.tab s.st.tbs⟩
    exact ⟨gT, st', s.own, s.pin, s.len⟩
  refine ⟨by simp [r.length]; omega, B1, r0.rePin true :: ds.map RV.v, args, fun r' h1 h2 => ?_, q.imp (fun rv outs ⟨hp, k⟩ v B' H' cp qv _ yg => ?_) fun c fs outs k C d B' H' hC cp hd => ?_⟩
  · rcases List.mem_cons.mp h1 with h1 | h1
    · subst h1; exact RV.rePin_pin ho
    · obtain ⟨d, _, rfl⟩ := List.mem_map.mp h1
      cases h2
  · refine k v B' H' (back cp) hs (.v qv fun b hb eb z => s.st.notOwn (yg b hb eb) z) ((show Young H1 v (.v rv) from yg).pre s)
  · exact k C B' H' σ d hC (back cp) hd
end
end Lb
/-! What is known of the names of a program. -/
namespace Lb
open PySem PySem.Spec PyProof.Rows L2
section
variable (P : Program) (w : World) (K : PySem.W.Frag) (mg : Mg) (base : Heap)
/-- the def x is the plain function f -/
structure KD (x : Str) (f : FSem) (ps : List Str) (k : Nat) : Prop where
  ex : ∃ (fa : Addr) (fd : FuncData), FnG P w K mg base (L2.CX P w) k fa fd ps (spM K mg f ps.length) ∧ mg x = some (.ref fa) ∧ PySem.W.keepIn K (.ref fa) = true ∧ Binds K fd ps []
/-- the own exception class x, its fields fs -/
structure KC (x : Str) (fs : List Str) : Prop where
  ex : ∃ (C fI : Addr) (fd : FuncData) (ps : List Str), XC K C fI ∧ PySem.W.subIn K (.ref C) (.type "BaseException") = some true ∧ PySem.W.typeIn K (.ref C) = some (.type "type") ∧ (∀ f ∈ fs, PySem.W.takerIn K C f = some none) ∧
    FnG P w K mg base (L2.CX P w) 1 fI fd ps (spI K fs) ∧ Binds K fd ps [] ∧ ps.length = fs.length + 1 ∧ mg x = some (.ref C) ∧ fs.length ≤ 100 ∧
    (∀ (s : Shared) (u : Value) (ws : List Value), K.In s.heap → ws.length = fs.length → BindsTo s fd ⟨[u], fs.zip ws⟩ (ps.zip (u :: ws))) ∧
    (∀ (s : Shared) (u : Value) (ws : List Value), K.In s.heap → ws.length = fs.length → BindsTo s fd ⟨[u], fs.reverse.zip ws⟩ (ps.zip (u :: ws.reverse)))
end
/-- isinstance(.., c) of exceptions of the classes tab -/
structure IsA (K : PySem.W.Frag) (mg : Mg) (tab : List Str) (c : Str) (sub : Str → Bool) : Prop where
  ex : ∃ cv u, ClsV cv u ∧ RelV cv u ∧ (mg c = some u ∨ (mg c = none ∧ bootBuiltins c = some u ∧ c ≠ "__name__")) ∧ ∀ k ∈ tab, ∀ C, mg k = some (.ref C) → ExcC K C ∧ PySem.W.kitOne K (.ref C) u = some (sub k)
structure CaA (K : PySem.W.Frag) (mg : Mg) (c : Str) (sub : Str → Option Bool) : Prop where
  ex : ∃ C', mg c = some (.ref C') ∧ ∀ k C b, mg k = some (.ref C) → sub k = some b → PySem.W.exmOne K (.ref C) (.ref C') = some b
structure FdA (K : PySem.W.Frag) (mg : Mg) (tab : List Str) (n : Str) : Prop where
  ex : ∀ c ∈ tab, ∀ C, mg c = some (.ref C) → XfC K C ∧ PySem.W.findIn K (.ref C) n = some none
def subOf (l : List Str) (k : Str) : Bool := l.contains k
def subIn' (tab l : List Str) (k : Str) : Option Bool := if tab.contains k then some (l.contains k) else none
section
variable {X : Cx} {x : Str} {f : FSem} {ps fs : List Str} {k j : Nat}
theorem KD.kn (h : KD X.prog X.w X.K X.mg X.base x f ps k) (hr : Room j X.A) (hg : X.A.guards = some []) (hj : k ≤ j := by decide) : Kn X x f ps := by
  obtain ⟨fa, fd, F, hm, hk, hb⟩ := h.ex
  exact ⟨fa, fd, k, F, hr.mono hj, hg, hm, hk, hb⟩
theorem KC.knX (h : KC X.prog X.w X.K X.mg X.base x fs) (hr : Room j X.A) (hg : X.A.guards = some []) (hj : 2 ≤ j := by decide) : KnX X x fs := by
  obtain ⟨C, fI, fd, ps, a, _, _, b, c, d, e, g, i, _⟩ := h.ex
  exact ⟨C, fI, fd, 1, ps, a, b, c, hr.mono hj, hg, d, e, g, i⟩
theorem KC.knR (h : KC X.prog X.w X.K X.mg X.base x fs) (hr : Room j X.A) (hg : X.A.guards = some []) (hj : 2 ≤ j := by decide) : KnR X x fs := by
  obtain ⟨C, fI, fd, ps, a, a1, a2, b, c, d, e, g, i, _⟩ := h.ex
  exact ⟨C, fI, fd, 1, ps, a, a1, a2, b, c, hr.mono hj, hg, d, e, g, i⟩
theorem KC.knk (h : KC X.prog X.w X.K X.mg X.base x fs) (hr : Room j X.A) (hg : X.A.guards = some []) (hj : 2 ≤ j := by decide) : KnXk X x fs fs false := by
  obtain ⟨C, fI, fd, ps, a, a1, a2, b, c, d, e, g, i, l, _⟩ := h.ex
  exact ⟨C, fI, fd, 1, ps, a, b, c, hr.mono hj, hg, l, g⟩
theorem KC.knks (h : KC X.prog X.w X.K X.mg X.base x fs) (hr : Room j X.A) (hg : X.A.guards = some []) (hj : 2 ≤ j := by decide) : KnXk X x fs fs.reverse true := by
  obtain ⟨C, fI, fd, ps, a, a1, a2, b, c, d, e, g, i, _, l⟩ := h.ex
  exact ⟨C, fI, fd, 1, ps, a, b, c, hr.mono hj, hg, l, g⟩
variable {tab : List Str} {c : Str} {sub : Str → Bool} {e : Expr} {me : M Opd} {p cp pos : Pos}
theorem px_isa (i : IsA X.K X.mg tab c sub) (hm : X.mg "isinstance" = none) (ha : PX X e me) (hg : Gl X "isinstance" := by rfl) (hgc : Gl X c := by rfl) (hdb : (c == ("__debug__" : Str)) = false := by decide)
    (he : starEach [e, .Name c cp] X.env = (false, eval e X.env) :: starEach [.Name c cp] X.env := by rfl) (he2 : starEach [.Name c cp] X.env = (false, eval (.Name c cp) X.env) :: starEach [] X.env := by rfl)
    (hpl : (backTo pos (starEach [.Name c cp] X.env)).any (·.1) = false := by rfl) :
    PX X (.Call (.Name "isinstance" p) [e, .Name c cp] [] pos) (M.bind me (isxM tab sub)) := by
  obtain ⟨cv, u, h1, h2, h3, h4⟩ := i.ex
  refine px_isx hg hm ?_ h1 h4 ha he he2 hpl
  rcases h3 with h3 | ⟨h3, h5, h6⟩
  · exact pe_glob hgc h3 h2 hdb
  · exact pe_bltn hgc h3 h5 h2 h6 hdb
theorem hdm_cons {n : Str} {w : Hd} {b₀ : Stmt} {suite : List Stmt} {np pos' : Pos} {hds : List ExceptHandler} {l : List Hd} (ca : CaA X.K X.mg c w.sub) (hsu : SXc X w.i (b₀ :: suite) w.h) (r : HdM X hds l)
    (hg : Gl X c := by rfl) (hi : X.N[w.i]? = some n := by rfl) (hln : X.env.kindOf n = some .local := by rfl) (hdb : (c == ("__debug__" : Str)) = false := by decide) :
    HdM X (.ExceptHandler (some (.Name c np)) (some n) (b₀ :: suite) pos' :: hds) (w :: l) := by
  obtain ⟨C', hm, h⟩ := ca.ex
  exact .cons ⟨hg, hdb, .inl hm⟩ hi hln h hsu r
end
section
variable {X : Cx} {x : Str} {f : FSem} {ps : List Str} {k j n : Nat} {p pos : Pos} {e : Expr} {es : List Expr} {me : M Opd} {ms : M (List DV)}
theorem px_callD (h : KD X.prog X.w X.K X.mg X.base x f ps k) (hn : ps.length = n) (hr : Room j X.A) (hgd : X.A.guards = some []) (hj : k ≤ j) (hg : Gl X x) (ha : FXs X (e :: es) ms) (hdb : (x == ("__debug__" : Str)) = false := by decide)
    (he : starEach (e :: es) X.env = (false, eval e X.env) :: starEach es X.env := by rfl) (hpl : (backTo pos (starEach es X.env)).any (·.1) = false := by rfl) :
    PX X (.Call (.Name x p) (e :: es) [] pos) (M.bind ms (callF f n)) := by
  subst hn
  exact px_call (h.kn hr hgd hj) hg ha hdb he hpl
theorem px_call0D (h : KD X.prog X.w X.K X.mg X.base x f ps k) (hn : ps.length = n) (hr : Room j X.A) (hgd : X.A.guards = some []) (hj : k ≤ j) (hg : Gl X x) (hdb : (x == ("__debug__" : Str)) = false := by decide) :
    PX X (.Call (.Name x p) [] [] pos) (callF f n []) := by
  subst hn
  exact px_call0 (h.kn hr hgd hj) hg hdb
theorem px_callpD (i : Nat) {z : Str} {zp : Pos} (h : KD X.prog X.w X.K X.mg X.base x f ps k) (hn : ps.length = n) (hr : Room j X.A) (hgd : X.A.guards = some []) (hj : k ≤ j) (hg : Gl X x) (hz : PX X (.Name z zp) (getSl i)) (ha : FXs X es ms)
    (hdb : (x == ("__debug__" : Str)) = false := by decide) (he : starEach (.Name z zp :: es) X.env = (false, eval (.Name z zp) X.env) :: starEach es X.env := by rfl) (hpl : (backTo pos (starEach es X.env)).any (·.1) = false := by rfl) :
    PX X (.Call (.Name x p) (.Name z zp :: es) [] pos) (M.bind (getSl i) fun _ => M.bind ms (callP f n i)) := by
  subst hn
  exact px_callp i (h.kn hr hgd hj) hg hz ha hdb he hpl
theorem px_calloD (h : KD X.prog X.w X.K X.mg X.base x f ps k) (hn : ps.length = n) (hr : Room j X.A) (hgd : X.A.guards = some []) (hj : k ≤ j) (hg : Gl X x) (he0 : PX X e me) (ha : FXs X es ms) (hdb : (x == ("__debug__" : Str)) = false := by decide)
    (he : starEach (e :: es) X.env = (false, eval e X.env) :: starEach es X.env := by rfl) (hpl : (backTo pos (starEach es X.env)).any (·.1) = false := by rfl) :
    PX X (.Call (.Name x p) (e :: es) [] pos) (M.bind me fun o => M.bind ms (callO f n o)) := by
  subst hn
  exact px_callo (h.kn hr hgd hj) hg he0 ha hdb he hpl
end
/-- a block's names -/
def blkB (N : List Str) (sc scope : Scope) (own : List (Str × Nat)) : Bool :=
  decide (scope.kind = .function) && (scope.names.all fun y => decide (scope.names.lookup y.1 = some y.2)) && (own.all fun p => decide (N[p.2]? = some p.1)) &&
    (scope.names.all fun y => decide (y.2 = .free) → decide (sc.names.lookup y.1 = some .cell ∨ sc.names.lookup y.1 = some .free)) &&
    (scope.names.all fun y => decide (y.2 = .local ∨ y.2 = .cell) → decide (y.1 ∈ own.map (·.1) ∨ y.1 ∉ N))
theorem blk_of {N : List Str} {sc scope : Scope} {own : List (Str × Nat)} (h : blkB N sc scope own = true) : BlkOk N sc scope own := by
  simp only [blkB, Bool.and_eq_true, List.all_eq_true, decide_eq_true_eq] at h
  obtain ⟨⟨⟨⟨h1, h2⟩, h3⟩, h4⟩, h5⟩ := h
  exact ⟨h1, h2, h3, fun y hy e => by simpa using h4 y hy e, fun y hy e => by simpa using h5 y hy e⟩
section
variable {P : Program} {w : World} {K : PySem.W.Frag} {KK : PySem.W.Frag} {mg : Mg} {base : Heap} {x qual : Str} {st : Stmt} {f : Addr} {fd : FuncData} {N ps : List Str} {k : Nat} {m : SM}
theorem kd_mk (F : Fun K x qual st f fd) (S : FnScope N ps (defScope st)) (hm : mg x = some (.ref f)) (hb : Binds K fd ps [])
    (h : ∀ (cdv : Value) (A : Around) (outer : List Env) (s : Shared) (H : Hp) (E : XK), Room k (A.deeper (envOfC qual (defScope st) s.heap.objs.size f cdv)) → A.guards = some [] →
      SXs (cxOf (L2.CX P w) P w K mg base N qual (defScope st) f cdv A outer s H E) (defBody st) m) : KD P w K mg base x (runDef m N.length) ps (k + 1) :=
  ⟨f, fd, fn_mk F S h, hm, F.kp, hb⟩
end
end Lb
/-! a, b = x, y: two stores, no tuple. -/
namespace Lb
open PySem PySem.Spec PyProof.Rows L2
def ownOr (o : Opd) : M RV := match o with
  | .v r => M.pure r
  | .sl k => M.map RV.v (frz (.sl k))
def parM (i j : Nat) (o1 o2 : Opd) : SM := M.thn (ownOr o1) fun r1 => M.thn (ownOr o2) fun r2 => SM.seq (stores i r1) (stores j r2)
theorem ownOr_ok {KK : PySem.W.Frag} {mg : Mg} {B H B1 H1 : Hp} {σ : Sg} {S S1 : Sl} {v : V} {o : Opd} (s : Stp KK mg B H σ S B1 H1 σ S1) (or : OpdR mg B1 H1 σ S1 v o) (y : Young H v o) {K : RV → Sl → Prop} {E : Str → List (Str × DV) → Sl → Prop} (q : (ownOr o S1).spec K E) :
    ∃ r B2 S2, Stp KK mg B1 H1 σ S1 B2 H1 σ S2 ∧ Has S1 S2 ∧ RVR mg B2 H1 v r ∧ (∀ a, r.isOwn = true → v = .ref a → ¬ OwnA σ S2 a) ∧ (∀ a, r.isOwn = true → v = .ref a → H a = none) ∧ (r.isOwn = true → o = .v r) ∧ K r S2 := by
  cases or with
  | v r n => exact ⟨_, B1, S1, .refl s.st, .refl _, r, n, y, fun _ => rfl, q⟩
  | @sl k e1 hr =>
    have q : (frz (.sl k) S1).spec _ _ := spec_bind.mp q
    cases ef : frz (.sl k) S1 with
    | stuck => rw [ef] at q; exact q.elim
    | exc c fs S' => exact (frz_noexc ef).elim
    | ok d S2 =>
      rw [ef] at q
      obtain ⟨B2, s2, h2, rep⟩ := frz_ok (.refl s.st) (.refl S1) (.sl e1 hr) trivial ef
      exact ⟨.v d, B2, S2, s2, h2, .v rep, (fun a h => by cases h), (fun a h => by cases h), (fun h => by cases h), q⟩
section
variable {X : Cx} {x y : Str} {a b : Expr} {m1 m2 : M Opd} {px py pt pos : Pos} {kt k2 : Nat} {pt2 : Pos}
theorem sx_par (i j : Nat) (hc : X.calm = true) (hN : X.N.Nodup) (hi : X.N[i]? = some x) (hj : X.N[j]? = some y) (hij : i ≠ j) (hx : X.env.scope.names.lookup x = some .local) (hy : X.env.scope.names.lookup y = some .local) (h1 : PX X a m1) (h2 : PX X b m2)
    (hw : swappedStores [.Tuple [.Name x px, .Name y py] kt pt] (.Tuple [a, b] k2 pt2) X.env = pure (some [x, y]) := by rfl)
    (hs : swapsWithSole [.Tuple [.Name x px, .Name y py] kt pt] (.Tuple [a, b] k2 pt2) pos.line X.env = pure false := by rfl)
    (he : starEach [a, b] X.env = (false, eval a X.env) :: starEach [b] X.env := by rfl) (he2 : starEach [b] X.env = (false, eval b X.env) :: starEach [] X.env := by rfl) :
    SX X (.Assign [.Tuple [.Name x px, .Name y py] kt pt] (.Tuple [a, b] k2 pt2) pos) (M.thn m1 fun o1 => M.thn m2 fun o2 => parM i j o1 o2) := fun W tk pp =>
  PS.imp (ps_par hc hN hi hj hij hx hy (pa_cons (h1 W tk) (pa_cons (h2 W tk) pa_nil he2) he) hw hs) fun D σ H ⟨B, S, st, q⟩ =>
  ⟨B, S, st, (spec_thn.mp q).imp (fun o1 S1 _ q v B1 H1 s1 hs1 or1 y1 => ⟨B1, S1, s1.st, (spec_thn.mp q).imp (fun o2 S2 _ q w B2 H2 s2 hs2 or2 y2 => by
    refine ⟨v, w, rfl, ?_⟩
    have sT := s1.trans s2
    obtain ⟨r1, B3, S3, s3, h3, rv1, n1, f1, g1, q⟩ := ownOr_ok sT (or1.step s2 hs2) y1 (spec_thn.mp q)
    obtain ⟨r2, B4, S4, s4, h4, rv2, n2, f2, _, q⟩ := ownOr_ok (s2.trans s3) (or2.step s3 h3) y2 (spec_thn.mp q)
    obtain ⟨rv1', n1'⟩ := rv1.step n1 s4
    have sU := (sT.trans s3).trans s4
    obtain ⟨p1, p2, q⟩ := stores_spec (spec_seq.mp q)
    obtain ⟨p3, p4, k⟩ := stores_spec q
    have sA := sU.set rv1' n1' f1 p1 p2
    refine k B4 H2 _ (sA.set rv2 (fun c hc ec z => ?_) (fun c hc ec => s1.free (f2 c hc ec)) p3 p4)
    obtain ⟨l, ⟨r', e1, hr'⟩, e2⟩ := z
    rcases set_some_cases e1 with ⟨k1, k2⟩ | ⟨k1, k2⟩
    · cases k2
      rcases sig_set_cases e2 with ⟨_, k4⟩ | ⟨k3, _⟩
      · cases k4
        have hn := f2 c hc ec
        have := g1 hr'
        subst this
        cases or1 with
        | v qq _ =>
          cases qq with
          | v _ => cases hr'
          | ol _ hh _ => rw [hn] at hh; cases hh
          | od _ hh _ => rw [hn] at hh; cases hh
          | oi _ _ hh _ => rw [hn] at hh; cases hh
      · exact k3 k1
    · refine n2 c hc ec ⟨l, ⟨r', k2, hr'⟩, ?_⟩
      rwa [List.getElem?_set_ne (Ne.symm k1)] at e2) fun _ _ _ h => h.pre s1⟩) fun _ _ _ h => h⟩
end
end Lb
/-! From the law's def to the statement. -/
namespace Lb
open PySem PySem.Spec PyProof.Rows L2
/-- no list among the module's own objects -/
def noLst (K : PySem.W.Frag) : Bool := K.all fun p => match p.2.cls with
  | .type "list" => false
  | _ => true
theorem noLst_at {K : PySem.W.Frag} (h : noLst K = true) {a : Addr} {o : Obj} (e : K.lookup a = some o) (hc : o.cls = .type "list") : False := by
  have hm : (a, o) ∈ K := by
    induction K with
    | nil => cases e
    | cons p K ih =>
      rw [List.lookup] at e
      cases hk : a == p.1 with
      | true => rw [hk] at e; cases e; rw [beq_iff_eq.mp hk]; exact List.mem_cons_self
      | false =>
        rw [hk] at e
        refine List.mem_cons_of_mem _ (ih ?_ e)
        simp only [noLst, List.all_cons, Bool.and_eq_true] at h ⊢
        exact h.2
  have := List.all_eq_true.mp h _ hm
  simp only [hc] at this
  cases this
theorem walkG {l : PySem.W.OpenLaw} {q : Program} {loose : List Str} {XP : (Str → Option Value) → Heap → Prop} {YP : World → Heap → Prop} {d : DefRec} {K : Params → PySem.W.Frag} {k : Nat} {x : Str} {f : FSem}
    (hn : l.most = some 63) (hdf : d.params.defaults = []) (hi : importsNone q = true) (hr : Room k callerA) (hY : ∀ (w : World) (h : Heap), YP w h → (K w.params).In h) (hnl : ∀ w : World, noLst (K w.params) = true)
    (tY : ∀ (w : World) (h : Heap), YP w h → ∀ p ∈ tblsOf (K w.params), h.get? p.1 = some { cls := .none, data := .fields #[] }) (tN : ∀ w : World, ∀ p ∈ tblsOf (K w.params), (K w.params).lookup p.1 = none) (tC : ∀ (w : World) (h : Heap), YP w h → ∀ p ∈ tblsOf (K w.params), ∃ c, PySem.W.CodeHd h c p.1)
    (F : ∀ (w : World) (mg : Str → Option Value) (fa : Addr) (h : Heap), (K w.params).In h → h.Ns mainGlobals mg → mg d.name = some (.ref fa) →
      ∃ fd : FuncData, (∀ (s : Shared) (u : Value), BindsTo s fd ⟨[u], []⟩ [(x, u)]) ∧ ∀ base : Heap, (K w.params).In base → base.Ns mainGlobals mg → (∃ o, base.get? sysModules = some o) → (∀ p ∈ tblsOf (K w.params), base.BuiltinsAt mg p.1 ∧ mainGlobals ≠ p.1) →
        FnG l.prog w (K w.params) mg base (L2.CX l.prog w) k fa fd [x] (spM (K w.params) mg f 1))
    (hf : ∀ ns : List Int, ns.length ≤ 63 → ∃ outs, f [.v (.scr ns)] = .ret (.v (.bl true)) outs) :
    PySem.W.WalkO q loose XP YP l.row.toRowW d [] (fun f vs => PySem.call f vs) := by
  refine Att.attach_callB hn hdf fun w s₀ s₁ mg mb fa o pm cd doc a vs ns G Y ho hd hcd hmg hobj hints hlen hbits hg => ?_
  have KX := hY w _ Y
  obtain ⟨fd, hb, hF⟩ := F w mg fa _ KX G.T.g hmg
  have hsm : ∃ m, s₁.heap.Ns sysModules m := (G.T.seer hi).mods.imp fun m z => z.1
  refine top_call KX G.T.g G.T.b G.T.builtins G.T.nolimit hg hsm (tY w _ Y) (tN w) (tC w _ Y) G.T.bmain hobj hints (Nat.le_trans hlen (by decide)) hr hF hb (fun H hT hS => ?_) (fun H e s' hx => ?_) ?_
  · obtain ⟨outs, e⟩ := hf ns hlen
    refine ⟨rfl, H, [.v (.scr ns)], ⟨.refl H, rfl, fun i r hi => ?_, fun i j c hi hj => ?_, hT H⟩, fun r hr hw => ?_, ?_⟩
    · cases i with
      | zero => cases hi; exact ⟨.ref a, rfl, .v (.scr hS)⟩
      | succ i => cases hi
    · obtain ⟨⟨r, e1, h1⟩, _⟩ := hi
      cases i with
      | zero => cases e1; cases h1
      | succ i => cases e1
    · rcases List.mem_singleton.mp hr with rfl
      cases hw
    · rw [e]
      intro v B' H' cp rv _ _
      cases rv with
      | v r => cases r; rfl
  · obtain ⟨_, _, _, _, _, _, _, _, _, _, _, _, z⟩ := hx
    exact z.elim
  · cases e : (K w.params).lookup a with
    | none => rfl
    | some o' =>
      have y := KX a o' e
      rw [hobj] at y
      cases y
      exact (noLst_at (hnl w) e rfl).elim
end Lb
/-! The facts of a written part, in the shapes that rfl closes. -/
namespace Lb
open PySem PySem.Spec PyProof.Rows L2
/-- a def of the module -/
def DefK (K : PySem.W.Frag) (x : Str) (st : Stmt) : Prop := ∃ f fd, PySem.W.nsIn K mainGlobals x = some (some (.ref f)) ∧ Fun K x x st f fd
/-- an own exception class over the built-in base whose mro is l -/
structure ExcK' (K : PySem.W.Frag) (newId : String) (l : List Value) (C fI : Addr) : Prop where
  h1 : PySem.W.excInitIn K C l newId = true
  h2 : PySem.W.excOver K C l = true
  h3 : PySem.W.hasDictIn K C = true
  h4 : PySem.W.findIn K (.ref C) "__setattr__" = some (some (.builtin "object.__setattr__"))
  h5 : PySem.W.keepIn K (.ref C) = true
  h6 : PySem.W.findIn K (.ref C) "__init__" = some (some (.ref fI))
  h7 : PySem.W.typeIn K (.ref fI) = some (.type "function")
  h8 : PySem.W.subIn K (.ref C) (.type "BaseException") = some true
  h9 : PySem.W.typeIn K (.ref C) = some (.type "type")
def ExcK (K : PySem.W.Frag) (x qual : Str) (st : Stmt) (newId : String) (l : List Value) (fs : List Str) : Prop := ∃ C fI fd, PySem.W.nsIn K mainGlobals x = some (some (.ref C)) ∧ Fun K "__init__" qual st fI fd ∧ ExcK' K newId l C fI ∧ ∀ f ∈ fs, PySem.W.takerIn K C f = some none
section
variable {P : Program} {w : World} {K : PySem.W.Frag} {KK : PySem.W.Frag} {mg : Mg} {base : Heap} {x qual : Str} {st : Stmt} {b newId initId : String} {l : List Value} {h : Heap}
theorem kc_of {fs ps : List Str} (KX : K.In h) (G : h.Ns mainGlobals mg) (e : ExcK K x qual st newId l fs) (EB : ExcBaseFacts b newId initId l) (SF : StoreFacts b l "object.__setattr__" "object") (hp : ps.length = fs.length + 1) (hf : fs.length ≤ 100)
    (hi : ∀ {fI : Addr} {fd : FuncData}, Fun K "__init__" qual st fI fd → FnG P w K mg base (L2.CX P w) 1 fI fd ps (spI K fs))
    (hb : ∀ (kV doc pm : Value) (an : Option Addr) (cdv ct : Value) (us : List Value), us.length = ps.length → bindArgs (PySem.W.fnOf "__init__" qual (defArgs st) (defBody st) (defScope st) .none kV doc pm an cdv ct) ⟨us, []⟩ = pure (ps.zip us))
    (hk : ∀ (kV doc pm : Value) (an : Option Addr) (cdv ct u : Value) (ws : List Value), ws.length = fs.length → bindArgs (PySem.W.fnOf "__init__" qual (defArgs st) (defBody st) (defScope st) .none kV doc pm an cdv ct) ⟨[u], fs.zip ws⟩ = pure (ps.zip (u :: ws)))
    (hks : ∀ (kV doc pm : Value) (an : Option Addr) (cdv ct u : Value) (ws : List Value), ws.length = fs.length → bindArgs (PySem.W.fnOf "__init__" qual (defArgs st) (defBody st) (defScope st) .none kV doc pm an cdv ct) ⟨[u], fs.reverse.zip ws⟩ = pure (ps.zip (u :: ws.reverse))) :
    KC P w K mg base x fs := by
  obtain ⟨C, fI, fd, hn, F, k, tk⟩ := e
  refine ⟨C, fI, fd, ps, ⟨⟨b, newId, initId, l, EB, k.h1⟩, ⟨⟨b, l, SF, k.h2⟩, k.h3, k.h4⟩, k.h5, k.h6, k.h7⟩, k.h8, k.h9, tk, hi F, F.binds hb, hp, PySem.W.mg_of KX G hn, hf, ?_, ?_⟩
  · intro s u ws _ hl
    obtain ⟨oc, od, kV, doc, pm, an, cdv, ct, osl, rfl, lk, hcd⟩ := F.ex
    exact .of_eq (hk kV doc pm an cdv ct u ws hl)
  · intro s u ws _ hl
    obtain ⟨oc, od, kV, doc, pm, an, cdv, ct, osl, rfl, lk, hcd⟩ := F.ex
    exact .of_eq (hks kV doc pm an cdv ct u ws hl)
end
end Lb
/-! What is asked of all exception classes, in words that kernel_rfl closes. -/
namespace Lb
open PySem PySem.Spec PyProof.Rows L2
def clsB (K : PySem.W.Frag) (k : Str) (p : Addr → Bool) : Bool := match PySem.W.nsIn K mainGlobals k with
  | some (some (.ref C)) => p C
  | _ => false
theorem clsB_of {K : PySem.W.Frag} {h : Heap} {mg : Mg} {k : Str} {p : Addr → Bool} {C : Addr} (KX : K.In h) (G : h.Ns mainGlobals mg) (e : clsB K k p = true) (hm : mg k = some (.ref C)) : p C = true := by
  unfold clsB at e
  split at e
  · rename_i C' hn
    have := PySem.W.mg_of KX G hn
    rw [hm] at this
    cases this
    exact e
  · cases e
def excCB (K : PySem.W.Frag) (D : Addr) : Bool :=
  decide (PySem.W.findIn K (.ref D) "__getattribute__" = some (some (.builtin "BaseException.__getattribute__"))) && (decide (PySem.W.findIn K (.ref D) "__getattr__" = some none) && (decide (PySem.W.subIn K (.ref D) (.type "BaseException") = some true) &&
  (PySem.W.hasDictIn K D && (decide (PySem.W.findIn K (.ref D) "__class__" = some (some (.builtin "object.__class__"))) && (decide (PySem.W.specialIn K (.builtin "object.__class__") "__get__" = some (some (.builtin "getset_descriptor.__get__"))) &&
  (decide (PySem.W.takesIn K (.builtin "object.__class__") = some true) && decide (PySem.W.mroIn K D (.type "object") = some true)))))))
theorem excCB_ok {K : PySem.W.Frag} {D : Addr} (h : excCB K D = true) : ExcC K D := by
  simp only [excCB, Bool.and_eq_true, decide_eq_true_eq] at h
  obtain ⟨h1, h2, h3, h4, h5, h6, h7, h8⟩ := h
  exact ⟨h1, h2, h3, h4, h5, h6, h7, h8⟩
def isOwnB (K : PySem.W.Frag) (tab : List Str) (c : Str) (sub : Str → Bool) : Bool := clsB K c fun D => tab.all fun k => clsB K k fun C => excCB K C && decide (PySem.W.kitOne K (.ref C) (.ref D) = some (sub k))
def isBltB (K : PySem.W.Frag) (tab : List Str) (n : String) (sub : Str → Bool) : Bool := tab.all fun k => clsB K k fun C => excCB K C && decide (PySem.W.kitOne K (.ref C) (.type n) = some (sub k))
def caB (K : PySem.W.Frag) (tab : List Str) (c : Str) (l : List Str) : Bool := clsB K c fun D => tab.all fun k => clsB K k fun C => decide (PySem.W.exmOne K (.ref C) (.ref D) = some (l.contains k))
def fdB (K : PySem.W.Frag) (tab : List Str) (n : Str) : Bool := tab.all fun k => clsB K k fun C => xfB K C && decide (PySem.W.findIn K (.ref C) n = some none)
section
variable {K : PySem.W.Frag} {h : Heap} {KK : PySem.W.Frag} {mg : Mg} {tab : List Str} {c : Str} {sub : Str → Bool}
theorem isa_own (KX : K.In h) (G : h.Ns mainGlobals mg) (e : isOwnB K tab c sub = true) : IsA K mg tab c sub := by
  have e0 := e
  unfold isOwnB clsB at e0
  split at e0
  · rename_i D hn
    refine ⟨.ref D, .ref D, .own D, rfl, .inl (PySem.W.mg_of KX G hn), fun k hk C hm => ?_⟩
    have := clsB_of KX G (List.all_eq_true.mp e0 k hk) hm
    rw [Bool.and_eq_true, decide_eq_true_eq] at this
    exact ⟨excCB_ok this.1, this.2⟩
  · cases e0
theorem isa_blt {n : String} (KX : K.In h) (G : h.Ns mainGlobals mg) (e : isBltB K tab n sub = true) (hn : PySem.W.nsIn K mainGlobals c = some none) (hb : bootBuiltins c = some (.type n)) (hc : c ≠ "__name__" := by decide) : IsA K mg tab c sub :=
  ⟨.ty n, .type n, .ty n, rfl, .inr ⟨PySem.W.mg_none_of KX G hn, hb, hc⟩, fun k hk C hm => by
    have := clsB_of KX G (List.all_eq_true.mp e k hk) hm
    rw [Bool.and_eq_true, decide_eq_true_eq] at this
    exact ⟨excCB_ok this.1, this.2⟩⟩
theorem ca_of {l : List Str} (KX : K.In h) (G : h.Ns mainGlobals mg) (e : caB K tab c l = true) : CaA K mg c (subIn' tab l) := by
  unfold caB clsB at e
  split at e
  · rename_i D hn
    refine ⟨D, PySem.W.mg_of KX G hn, fun k C b hm hs => ?_⟩
    unfold subIn' at hs
    split at hs
    · rename_i hk
      cases hs
      exact of_decide_eq_true (clsB_of KX G (List.all_eq_true.mp e k (by simpa using hk)) hm)
    · cases hs
  · cases e
theorem fd_of {n : Str} (KX : K.In h) (G : h.Ns mainGlobals mg) (e : fdB K tab n = true) : FdA K mg tab n := ⟨fun k hk C hm => by
  have := clsB_of KX G (List.all_eq_true.mp e k hk) hm
  rw [Bool.and_eq_true, decide_eq_true_eq] at this
  exact ⟨xfB_ok this.1, this.2⟩⟩
theorem defk_none (KX : K.In h) (G : h.Ns mainGlobals mg) (e : PySem.W.nsIn K mainGlobals c = some none) : mg c = none := PySem.W.mg_none_of KX G e
end
end Lb
/-! repr of lists of small things is there. -/
namespace Lb
open PySem PySem.Spec PyProof.Rows L2
structure Small (p : PyData) : Prop where
  s : p.showable = true
  l : p.shown.length ≤ 100
  d : p.depth ≤ 10
theorem textFrom_le : ∀ (ts : List Str) (k : Nat) (acc : Str), (textFrom k acc ts).length ≤ acc.length + (ts.map (·.length)).sum + 2 * ts.length
  | [], k, acc => by show acc.length ≤ _; simp
  | t :: r, k, acc => by
    show (textFrom (k + 1) (acc ++ (if k > 0 then ", " else "" : String) ++ t) r).length ≤ _
    have h := textFrom_le r (k + 1) (acc ++ (if k > 0 then ", " else "" : String) ++ t)
    have e : (acc ++ (if k > 0 then ", " else "" : String) ++ t).length ≤ acc.length + 2 + t.length := by
      rw [strLen_append, strLen_append]
      split
      · exact Nat.le_refl _
      · show acc.length + 0 + t.length ≤ _; omega
    simp only [List.map_cons, List.sum_cons, List.length_cons]
    omega
theorem listText_le (ts : List Str) : (listText ts).length ≤ (ts.map (·.length)).sum + 2 * ts.length + 2 := by
  unfold listText
  rw [strLen_append]
  have h := textFrom_le ts 0 "["
  have e1 : ("[" : Str).length = 1 := by decide
  have e2 : ("]" : Str).length = 1 := by decide
  omega
theorem toPys_small : ∀ {L : List DV}, (∀ d ∈ L, ∃ p, toPy d = some p ∧ Small p) → ∃ ps, toPys L = some ps ∧ ps.length = L.length ∧ PyData.showableAll ps = true ∧ ((PyData.shownAll ps).map (·.length)).sum ≤ 100 * L.length ∧ PyData.depthAll ps ≤ 10 ∧ (PyData.shownAll ps).length = L.length
  | [], _ => ⟨[], rfl, rfl, rfl, Nat.le_refl _, by simp [PyData.depthAll], rfl⟩
  | d :: L, h => by
    obtain ⟨p, e, sm⟩ := h d List.mem_cons_self
    obtain ⟨ps, e2, h1, h2, h3, h4, h5⟩ := toPys_small fun x hx => h x (List.mem_cons_of_mem _ hx)
    refine ⟨p :: ps, by simp only [toPys, e, e2], by simp [h1], by simp [PyData.showableAll, sm.s, h2], ?_, ?_, by simp [PyData.shownAll, h5]⟩
    · simp only [PyData.shownAll, List.map_cons, List.sum_cons, List.length_cons]
      have := sm.l
      omega
    · simp only [PyData.depthAll]
      exact Nat.max_le.mpr ⟨sm.d, h4⟩
theorem fRepr_list {L : List DV} (h : ∀ d ∈ L, ∃ p, toPy d = some p ∧ Small p) (hl : L.length ≤ 1000) : ∃ s, fRepr [.lst L] = some (.v (.str s)) := by
  obtain ⟨ps, e, h1, h2, h3, h4, h5⟩ := toPys_small h
  have hz : (listText (PyData.shownAll ps)).length ≤ sizeLine := by
    have := listText_le (PyData.shownAll ps)
    rw [sizeLine_eq]; omega
  refine ⟨listText (PyData.shownAll ps), ?_⟩
  simp only [fRepr, toPy, e, Option.map_some, reprable, PyData.showable, h2, PyData.shown, PyData.depth]
  rw [if_pos (by simp [hz]; omega)]
/-- two-item lists of such -/
theorem small_pair {d e : DV} (hd : ∃ p, toPy d = some p ∧ Small p ∧ p.shown.length ≤ 45 ∧ p.depth ≤ 9) (he : ∃ p, toPy e = some p ∧ Small p ∧ p.shown.length ≤ 45 ∧ p.depth ≤ 9) : ∃ p, toPy (.lst [d, e]) = some p ∧ Small p := by
  obtain ⟨p, e1, s1, l1, d1⟩ := hd
  obtain ⟨q, e2, s2, l2, d2⟩ := he
  refine ⟨.list [p, q], by simp [toPy, toPys, e1, e2], by simp [PyData.showable, PyData.showableAll, s1.s, s2.s], ?_, ?_⟩
  · have := listText_le [p.shown, q.shown]
    simp only [PyData.shown, PyData.shownAll]
    simp only [List.map_cons, List.map_nil, List.sum_cons, List.sum_nil, List.length_cons, List.length_nil] at this
    omega
  · simp only [PyData.depth, PyData.depthAll]
    simp; omega
end Lb
/-! The head by one kernel run: a Hook that looks at the defs of a program and at one more truth. -/
namespace Lb
open PySem PySem.Spec PyProof.Rows L2
/-! ### the part, its spine and its addresses worked out once -/
def frcK {α : Type} : PySem.W.Frag → (PySem.W.Frag → α) → α
  | [], k => k []
  | (a, o) :: r, k => HandSHeadRun.frNat a fun a' => frcK r fun r' => k ((a', o) :: r')
theorem frcK_eq {α : Type} : ∀ (K : PySem.W.Frag) (k : PySem.W.Frag → α), frcK K k = k K
  | [], k => rfl
  | (a, o) :: r, k => by
    show HandSHeadRun.frNat a (fun a' => frcK r fun r' => k ((a', o) :: r')) = _
    rw [HandSHeadRun.frNat_eq, frcK_eq r]
/-! ### one def -/
def defOkH (K : PySem.W.Frag) (d : He.FnD) : Bool := (He.Fa.glo d.at_.1).ok K && ((He.Fa.code d.at_ d.qual).ok K && PySem.W.keepIn K (.ref (He.fAd K d.at_)))
abbrev AlH : Type := Bool × List He.FnV
def obsH (b : PySem.W.Frag → Bool) (fn : List He.FnD) (K : PySem.W.Frag) : AlH := (b K && fn.all fun d => defOkH K d, fn.map fun d => He.fnObs K d.at_)
def valH (fn : List He.FnD) : AlH := (true, fn.map He.FnD.val)
def SaysH (b : PySem.W.Frag → Bool) (fn : List He.FnD) (K : PySem.W.Frag) : Prop := obsH b fn K = valH fn
def obsHG (n : List Addr) (b : PySem.W.Frag → Bool) (fn : List He.FnD) (g : Addr → Option Obj) : AlH := obsH b fn (He.frG g n)
def obsHF (n : List Addr) (b : PySem.W.Frag → Bool) (fn : List He.FnD) (g : Addr → Option Obj) : AlH := frcK (He.frG g n) fun K => obsH b fn K
/-- the objects at the addresses n -/
def hookH (n : List Addr) (b : PySem.W.Frag → Bool) (fn : List He.FnD) : PySem.W.Hook where
  α := AlH
  obs := fun s => obsHG n b fn s.heap.get?
  val := fun _ => valH fn
  says := fun _ h => ∃ K : PySem.W.Frag, K.In h ∧ SaysH b fn K
  of := fun _ _ e => ⟨_, He.frG_in, e⟩
  keeps := fun _ _ _ ⟨K, hK, c⟩ k => ⟨K, PySem.W.Frag.In.keeps hK k, c⟩
theorem obsHF_eq {n : List Addr} {b : PySem.W.Frag → Bool} {fn : List He.FnD} {g : Addr → Option Obj} {s : Shared} (h : ∀ a, g a = s.heap.get? a) : obsHF n b fn g = (hookH n b fn).obs s := by
  have e : g = s.heap.get? := funext h
  unfold obsHF
  rw [frcK_eq, e] <;> rfl
section
variable {b : PySem.W.Frag → Bool} {fn : List He.FnD} {K : PySem.W.Frag}
theorem SaysH.truth (c : SaysH b fn K) : b K = true := (He.ba (show (b K && fn.all fun d => defOkH K d) = true from congrArg (fun z : AlH => z.1) c)).1
theorem SaysH.fn_ (c : SaysH b fn K) (i : Nat) {d : He.FnD} (h : fn[i]? = some d := by rfl) : (He.Fa.glo d.at_.1).ok K = true ∧ PySem.W.keepIn K (.ref (He.fAd K d.at_)) = true ∧
    ∃ oc od osl kV doc pm an cdv ct, K.lookup (He.fAd K d.at_) = some ⟨oc, od, .func (PySem.W.fnOf d.name d.qual d.params d.body d.scope .none kV doc pm an cdv ct), osl⟩ ∧ PySem.W.codeIn K cdv d.qual = true := by
  have c2 := (He.ba (show (b K && fn.all fun d => defOkH K d) = true from congrArg (fun z : AlH => z.1) c)).2
  have e : fn.map (fun d => He.fnObs K d.at_) = fn.map He.FnD.val := congrArg (fun z : AlH => z.2) c
  have e2 : (fn.map fun d => He.fnObs K d.at_)[i]? = (fn.map He.FnD.val)[i]? := by rw [e]
  rw [List.getElem?_map, List.getElem?_map, h] at e2
  have c3 := List.all_eq_true.mp c2 d (List.mem_of_getElem? h)
  obtain ⟨g, c4⟩ := He.ba c3
  obtain ⟨q, k⟩ := He.ba c4
  exact ⟨g, k, He.fn_ok (Option.some.inj e2) q⟩
/-- the def at a statement -/
def fnD (x : Str) (m : Option Str) (name qual : Str) (st : Stmt) : He.FnD := ⟨(x, m), name, qual, defArgs st, defBody st, defScope st⟩
theorem SaysH.defk (c : SaysH b fn K) (i : Nat) {x : Str} {st : Stmt} (h : fn[i]? = some (fnD x none x x st) := by rfl) : DefK K x st := by
  obtain ⟨g, k, oc, od, osl, kV, doc, pm, an, cdv, ct, l, q⟩ := c.fn_ i h
  exact ⟨_, _, He.eqO_ok g, L2.fun_mk l q k⟩
/-! ### an own exception class -/
def excB (K : PySem.W.Frag) (x : Str) (newId : String) (l : List Value) (fs : List Str) : Bool :=
  PySem.W.excInitIn K (He.ga K x) l newId && (PySem.W.excOver K (He.ga K x) l && (PySem.W.hasDictIn K (He.ga K x) && (He.eqO (PySem.W.findIn K (.ref (He.ga K x)) "__setattr__") (some (some (.builtin "object.__setattr__"))) &&
  (PySem.W.keepIn K (.ref (He.ga K x)) && (He.eqO (PySem.W.findIn K (.ref (He.ga K x)) "__init__") (some (some (.ref (He.ma K (He.ga K x) "__init__")))) && (decide (PySem.W.typeIn K (.ref (He.ma K (He.ga K x) "__init__")) = some (.type "function")) &&
  (decide (PySem.W.subIn K (.ref (He.ga K x)) (.type "BaseException") = some true) && (decide (PySem.W.typeIn K (.ref (He.ga K x)) = some (.type "type")) && fs.all fun f => He.eqO (PySem.W.takerIn K (He.ga K x) f) (some none)))))))))
theorem SaysH.exck (c : SaysH b fn K) (i : Nat) {x qual : Str} {st : Stmt} {newId : String} {l : List Value} {fs : List Str} (e : excB K x newId l fs = true) (h : fn[i]? = some (fnD x (some "__init__") "__init__" qual st) := by rfl) : ExcK K x qual st newId l fs := by
  obtain ⟨g, k, oc, od, osl, kV, doc, pm, an, cdv, ct, q1, q2⟩ := c.fn_ i h
  obtain ⟨h1, e⟩ := He.ba e
  obtain ⟨h2, e⟩ := He.ba e
  obtain ⟨h3, e⟩ := He.ba e
  obtain ⟨h4, e⟩ := He.ba e
  obtain ⟨h5, e⟩ := He.ba e
  obtain ⟨h6, e⟩ := He.ba e
  obtain ⟨h7, e⟩ := He.ba e
  obtain ⟨h8, e⟩ := He.ba e
  obtain ⟨h9, e⟩ := He.ba e
  refine ⟨_, _, _, He.eqO_ok g, L2.fun_mk q1 q2 k, ⟨h1, h2, h3, He.eqO_ok h4, h5, He.eqO_ok h6, of_decide_eq_true h7, of_decide_eq_true h8, of_decide_eq_true h9⟩, fun f hf => ?_⟩
  exact He.eqO_ok (List.all_eq_true.mp e f hf)
end
/-! ### isinstance: the classes' own looks once for all -/
def excAllB (K : PySem.W.Frag) (tab : List Str) : Bool := tab.all fun k => clsB K k fun C => excCB K C
def kitOwnB (K : PySem.W.Frag) (tab : List Str) (c : Str) (sub : Str → Bool) : Bool := clsB K c fun D => tab.all fun k => clsB K k fun C => decide (PySem.W.kitOne K (.ref C) (.ref D) = some (sub k))
def kitBltB (K : PySem.W.Frag) (tab : List Str) (n : String) (sub : Str → Bool) : Bool := tab.all fun k => clsB K k fun C => decide (PySem.W.kitOne K (.ref C) (.type n) = some (sub k))
theorem clsB_and {K : PySem.W.Frag} {k : Str} {p q : Addr → Bool} (h1 : clsB K k p = true) (h2 : clsB K k q = true) : (clsB K k fun C => p C && q C) = true := by
  unfold clsB at h1 h2 ⊢
  split at h1
  · rename_i C hC
    rw [hC] at h2
    exact Bool.and_eq_true_iff.mpr ⟨h1, h2⟩
  · cases h1
theorem clsB_imp {K : PySem.W.Frag} {k : Str} {p q : Addr → Bool} (h1 : clsB K k p = true) (h2 : ∀ C, p C = true → q C = true) : clsB K k q = true := by
  unfold clsB at h1 ⊢
  split at h1
  · exact h2 _ h1
  · cases h1
theorem isOwnB_of {K : PySem.W.Frag} {tab : List Str} {c : Str} {sub : Str → Bool} (h1 : excAllB K tab = true) (h2 : kitOwnB K tab c sub = true) : isOwnB K tab c sub = true := by
  exact clsB_imp h2 fun D hD => List.all_eq_true.mpr fun k hk => clsB_and (List.all_eq_true.mp h1 k hk) (List.all_eq_true.mp hD k hk)
theorem isBltB_of {K : PySem.W.Frag} {tab : List Str} {n : String} {sub : Str → Bool} (h1 : excAllB K tab = true) (h2 : kitBltB K tab n sub = true) : isBltB K tab n sub = true :=
  List.all_eq_true.mpr fun k hk => clsB_and (List.all_eq_true.mp h1 k hk) (List.all_eq_true.mp h2 k hk)
/-! ### one truth out of a row of them -/
theorem all_at {l : List Bool} (h : (l.all fun z => z) = true) (i : Nat) {z : Bool} (e : l[i]? = some z) : z = true := List.all_eq_true.mp h z (List.mem_of_getElem? e)
/-! ### the run's equation in parts -/
theorem obsHF_and {n : List Addr} {b1 b2 : PySem.W.Frag → Bool} {f1 f2 : List He.FnD} {g : Addr → Option Obj} (h1 : obsHF n b1 f1 g = valH f1) (h2 : obsHF n b2 f2 g = valH f2) : obsHF n (fun K => b1 K && b2 K) (f1 ++ f2) g = valH (f1 ++ f2) := by
  unfold obsHF at *
  rw [frcK_eq] at *
  unfold obsH valH at *
  simp only [Prod.mk.injEq, Bool.and_eq_true] at h1 h2
  simp only [Prod.mk.injEq, Bool.and_eq_true, List.all_append, List.map_append]
  exact ⟨⟨⟨h1.1.1, h2.1.1⟩, h1.1.2, h2.1.2⟩, by rw [h1.2, h2.2]⟩
/-- two looks at one run are one -/
theorem run_and {α : Type} {n : List Addr} {b1 b2 : PySem.W.Frag → Bool} {f1 f2 : List He.FnD} {x : Option α} {g : α → Addr → Option Obj} (h1 : x.map (fun s => obsHF n b1 f1 (g s)) = some (valH f1)) (h2 : x.map (fun s => obsHF n b2 f2 (g s)) = some (valH f2)) :
    x.map (fun s => obsHF n (fun K => b1 K && b2 K) (f1 ++ f2) (g s)) = some (valH (f1 ++ f2)) := by
  cases x with
  | none => cases h1
  | some a => exact congrArg some (obsHF_and (Option.some.inj h1) (Option.some.inj h2))
theorem run_join {α β γ δ : Type} {x : Option α} {f : α → β} {g : α → γ} {h : α → δ} {b : β} {c : γ} {d : δ} (h1 : x.map (fun s => (f s, g s)) = some (b, c)) (h2 : x.map h = some d) : x.map (fun s => (f s, g s, h s)) = some (b, c, d) := by
  cases x with
  | none => cases h1
  | some a =>
    have e1 : (f a, g a) = (b, c) := Option.some.inj h1
    have e2 : h a = d := Option.some.inj h2
    show some (f a, g a, h a) = _
    cases e1
    rw [e2]
/-! ### from the law's def to the statement -/
theorem walkH {l : PySem.W.OpenLaw} {q : Program} {loose : List Str} {XP : (Str → Option Value) → Heap → Prop} {YP : World → Heap → Prop} {d : DefRec} {k : Nat} {b : PySem.W.Frag → Bool} {fn : List He.FnD} {x : Str} {f : FSem}
    (hn : l.most = some 63) (hdf : d.params.defaults = []) (hi : importsNone q = true) (hr : Room k callerA) (hnl : ∀ K : PySem.W.Frag, SaysH b fn K → noLst K = true)
    (hY : ∀ (w : World) (h : Heap), YP w h → ∃ K : PySem.W.Frag, K.In h ∧ SaysH b fn K ∧ ∀ p ∈ tblsOf K, h.get? p.1 = some { cls := .none, data := .fields #[] }) (hC : ∀ K : PySem.W.Frag, SaysH b fn K → ∀ p ∈ tblsOf K, K.lookup p.1 = none ∧ ∃ c, PySem.W.codeHdIn K c p.1 = true)
    (F : ∀ (w : World) (mg : Str → Option Value) (fa : Addr) (h : Heap) (K : PySem.W.Frag), K.In h → SaysH b fn K → h.Ns mainGlobals mg → mg d.name = some (.ref fa) →
      ∃ fd : FuncData, (∀ (s : Shared) (u : Value), BindsTo s fd ⟨[u], []⟩ [(x, u)]) ∧ ∀ base : Heap, K.In base → base.Ns mainGlobals mg → (∃ o, base.get? sysModules = some o) → (∀ p ∈ tblsOf K, base.BuiltinsAt mg p.1 ∧ mainGlobals ≠ p.1) →
        FnG l.prog w K mg base (L2.CX l.prog w) k fa fd [x] (spM K mg f 1))
    (hf : ∀ ns : List Int, ns.length ≤ 63 → ∃ outs, f [.v (.scr ns)] = .ret (.v (.bl true)) outs) :
    PySem.W.WalkO q loose XP YP l.row.toRowW d [] (fun f vs => PySem.call f vs) := by
  refine Att.attach_callB hn hdf fun w s₀ s₁ mg mb fa o pm cd doc a vs ns G Y ho hd hcd hmg hobj hints hlen hbits hg => ?_
  obtain ⟨K, KX, Y, tY⟩ := hY w _ Y
  obtain ⟨fd, hb, hF⟩ := F w mg fa _ K KX Y G.T.g hmg
  have hsm : ∃ m, s₁.heap.Ns sysModules m := (G.T.seer hi).mods.imp fun m z => z.1
  refine top_call KX G.T.g G.T.b G.T.builtins G.T.nolimit hg hsm tY (fun p hp => (hC K Y p hp).1) (fun p hp => let ⟨c, e⟩ := (hC K Y p hp).2; ⟨c, PySem.W.codeHd_of_K KX e⟩) G.T.bmain hobj hints (Nat.le_trans hlen (by decide)) hr hF hb (fun H hT hS => ?_) (fun H e s' hx => ?_) ?_
  · obtain ⟨outs, e⟩ := hf ns hlen
    refine ⟨rfl, H, [.v (.scr ns)], ⟨.refl H, rfl, fun i r hi => ?_, fun i j c hi hj => ?_, hT H⟩, fun r hr hw => ?_, ?_⟩
    · cases i with
      | zero => cases hi; exact ⟨.ref a, rfl, .v (.scr hS)⟩
      | succ i => cases hi
    · obtain ⟨⟨r, e1, h1⟩, _⟩ := hi
      cases i with
      | zero => cases e1; cases h1
      | succ i => cases e1
    · rcases List.mem_singleton.mp hr with rfl
      cases hw
    · rw [e]
      intro v B' H' cp rv _ _
      cases rv with
      | v r => cases r; rfl
  · obtain ⟨_, _, _, _, _, _, _, _, _, _, _, _, z⟩ := hx
    exact z.elim
  · cases e : K.lookup a with
    | none => rfl
    | some o' =>
      have y := KX a o' e
      rw [hobj] at y
      cases y
      exact (noLst_at (hnl K Y) e rfl).elim
end Lb
/-! Own instances: fields, methods, properties, operators; how they are made. -/
namespace Lb
open PySem PySem.Spec PyProof.Rows L2
/-- an own class; fs: names that it lacks (fields) -/
structure KI (K : PySem.W.Frag) (mg : Mg) (c : Str) (fs : List Str) : Prop where
  ex : ∃ C, mg c = some (.ref C) ∧ Cls K C ∧ ∀ f ∈ fs, NoAttr K C f
section
variable {KK : PySem.W.Frag} {mg : Mg} {B H : Hp}
theorem View.inst (le : Sub B H) {v : V} {c : Str} {gs : List (Str × DV)} (q : View mg B H v (.ins c gs)) : ∃ a C dx xs, v = .ref a ∧ mg c = some (.ref C) ∧ H a = some (.ins C dx xs) ∧ RepF mg B xs gs := by
  cases q with
  | r q => cases q with | ins m h q => exact ⟨_, _, _, _, rfl, m, le.keep _ _ h rfl, q⟩
  | ins m h q => exact ⟨_, _, _, _, rfl, m, h, q⟩
theorem repf_none {n : Str} : ∀ {fs : List (Str × V)} {gs : List (Str × DV)}, RepF mg B fs gs → gs.lookup n = none → fs.lookup n = none
  | _, _, .nil, h => rfl
  | (k, x) :: fs, (_, e) :: gs, .cons r q, h => by
    rw [List.lookup] at h ⊢
    cases hk : n == k with
    | true => rw [hk] at h; cases h
    | false => rw [hk] at h; exact repf_none q h
theorem repf_length : ∀ {fs : List (Str × V)} {gs : List (Str × DV)}, RepF mg B fs gs → fs.length = gs.length
  | _, _, .nil => rfl
  | _, _, .cons _ q => congrArg (· + 1) (repf_length q)
def putG (f : Str) (v : DV) : List (Str × DV) → List (Str × DV)
  | [] => [(f, v)]
  | (g, x) :: r => if g = f then (g, v) :: r else (g, x) :: putG f v r
theorem repf_put {f : Str} {v : V} {d : DV} (r : Rep mg B v d) : ∀ {fs : List (Str × V)} {gs : List (Str × DV)}, RepF mg B fs gs → RepF mg B (putF f v fs) (putG f d gs)
  | _, _, .nil => .cons r .nil
  | (k, x) :: fs, (_, e) :: gs, .cons r' q => by
    unfold putF putG
    split
    · exact .cons r q
    · exact .cons r' (repf_put r q)
end
/-- the field f of an instance of c -/
def ifld (c f : Str) (o : Opd) : M Opd := fun S => match o.dv S with
  | some (.ins c' gs) => if c' = c then (match gs.lookup f with
    | some d => .ok (.v (.v d)) S
    | none => .stuck) else .stuck
  | _ => .stuck
theorem ifld_spec {c f : Str} {o : Opd} {S : Sl} {K : Opd → Sl → Prop} {E : Str → List (Str × DV) → Sl → Prop} (h : (ifld c f o S).spec K E) : ∃ gs d, o.dv S = some (.ins c gs) ∧ gs.lookup f = some d ∧ K (.v (.v d)) S := by
  unfold ifld at h
  split at h
  · rename_i c' gs e
    split at h
    · rename_i hc
      subst hc
      split at h
      · rename_i d hd; exact ⟨gs, d, e, hd, h⟩
      · exact h.elim
    · exact h.elim
  · exact h.elim
section
variable {X : Cx} {e : Expr} {c f : Str} {fs : List Str} {pos : Pos} {me : M Opd}
theorem px_ifld (I : KI X.K X.mg c fs) (hf : f ∈ fs) (he : PX X e me) (hb : attributeBase e f X.env (eval e X.env) = eval e X.env := by rfl) : PX X (.Attribute e f pos) (M.bind me (ifld c f)) := fun W tk => by
  obtain ⟨C, hm, hc, hn⟩ := I.ex
  refine PE.imp (pe_fld (he W tk) hb) fun σ H Q ⟨B, S, st, q⟩ => ⟨B, S, st, (spec_bind.mp q).imp (fun o S1 _ q v B1 H1 s hs or _ => ?_) fun _ _ _ h => h⟩
  obtain ⟨gs, d, e1, hl, k⟩ := ifld_spec q
  obtain ⟨a, C', dx, xs, rfl, hm', ha, rf⟩ := (or.view s.st e1).inst s.st.le
  rw [hm] at hm'; cases hm'
  obtain ⟨v, e2, rv⟩ := repf_lookup rf hl
  exact ⟨a, C, dx, xs, v, rfl, ha, hc, hn f hf, e2, k v B1 H1 s hs (.v (.v rv) fun a h => by cases h) fun a h => by cases h⟩
end
/-- the own instance in slot i gets a field -/
def putSl (i : Nat) (c f : Str) (d : DV) : SM := fun S => match S[i]? with
  | some (some (.oi p c' gs)) => if c' = c ∧ gs.length < 1000 then .nx (S.set i (some (.oi p c' (putG f d gs)))) else .stuck
  | _ => .stuck
section
variable {KK : PySem.W.Frag} {mg : Mg} {B H B0 H0 : Hp} {σ σ0 : Sg} {S S0 : Sl} {i : Nat}
theorem Stp.mutI (s : Stp KK mg B0 H0 σ0 S0 B H σ S) {a C dx : Addr} {p : Bool} {c : Str} {gs gs' : List (Str × DV)} {xs xs' : List (Str × V)} (e : S[i]? = some (some (.oi p c gs))) (ev : σ[i]? = some (some (.ref a))) (hm : mg c = some (.ref C)) (ha : H a = some (.ins C dx xs)) (q : RepF mg B xs' gs') :
    Stp KK mg B0 H0 σ0 S0 B (upd H a (.ins C dx xs')) σ (S.set i (some (.oi p c gs'))) := by
  have oi : OwnAt σ S i a := ⟨⟨_, e, rfl⟩, ev⟩
  have na : B a = none := s.st.noB ⟨i, oi⟩
  have il : i < S.length := (List.getElem?_eq_some_iff.mp e).1
  have own : ∀ j b, OwnAt σ (S.set i (some (.oi p c gs'))) j b → OwnAt σ S j b := fun j b ⟨⟨r', e1, h1⟩, e2⟩ => by
    rcases set_some_cases e1 with ⟨g1, g2⟩ | ⟨g1, g2⟩
    · subst g1; exact ⟨⟨_, e, rfl⟩, e2⟩
    · exact ⟨⟨r', g2, h1⟩, e2⟩
  have le : Sub B (upd H a (.ins C dx xs')) := ⟨fun b u h sl => by
      have hb : b ≠ a := fun z => by subst z; rw [na] at h; cases h
      rw [upd_ne hb]; exact s.st.le.keep b u h sl,
    fun b u r => by
      have hb : b ≠ a := fun z => by subst z; rcases r with r | ⟨_, r⟩ <;> rw [na] at r <;> cases r
      unfold Rd; rw [upd_ne hb]; exact s.st.le.rd b u r, fun b ps e => by
      have hb : b ≠ a := fun z => by subst z; rw [na] at e; cases e
      rw [upd_ne hb]; exact s.st.le.tb b ps e⟩
  have om : OwnA σ0 S0 a ∨ H0 a = none := s.own a ⟨i, oi⟩
  refine ⟨⟨s.grow.sub, fun b o h n ht => ?_, fun t => tabs_grow (s.grow.tab t) fun P q t => tab_upd t (fun u hu => by rw [ha] at hu; cases hu; exact ⟨rfl, fun c q z => by unfold LamX.CodeO at z; cases z⟩), fun b h => ?_, s.grow.new⟩, ⟨le, by rw [set_len]; exact s.st.len, fun j r' e1 => ?_, fun j k b h1 h2 => s.st.dis j k b (own j b h1) (own k b h2), tabs_grow s.st.tbs fun P q t => tab_upd t (fun u hu => by rw [ha] at hu; cases hu; exact ⟨rfl, fun c q z => by unfold LamX.CodeO at z; cases z⟩)⟩, fun b ⟨j, h⟩ => s.own b ⟨j, own j b h⟩, fun j hj => ?_, set_len.trans s.len⟩
  · have hb : b ≠ a := fun z => by
      subst z
      rcases om with z | z
      · exact n z
      · rw [z] at h; cases h
    rw [upd_ne hb]; exact s.grow.keep b o h n ht
  · by_cases hb : b = a
    · subst hb; rw [upd_same]; simp
    · rw [upd_ne hb]; exact s.grow.there b h
  · rcases set_some_cases e1 with ⟨g1, g2⟩ | ⟨g1, g2⟩
    · cases g2
      subst g1
      exact ⟨.ref a, ev, .oi hm na upd_same q⟩
    · obtain ⟨w, e2, q'⟩ := s.st.at_ j r' g2
      refine ⟨w, e2, ?_⟩
      have nb : ∀ b, w = .ref b → r'.isOwn = true → b ≠ a := fun b ew hr z => g1 (s.st.dis j i a ⟨⟨_, g2, hr⟩, by rw [e2, ew, z]⟩ oi)
      cases q' with
      | v q' => exact .v q'
      | ol h1 h2 q' => exact .ol h1 (by rw [upd_ne (nb _ rfl rfl)]; exact h2) q'
      | od h1 h2 q' => exact .od h1 (by rw [upd_ne (nb _ rfl rfl)]; exact h2) q'
      | oi h0 h1 h2 q' => exact .oi h0 h1 (by rw [upd_ne (nb _ rfl rfl)]; exact h2) q'
  · obtain ⟨⟨r', h1, h2⟩, h3⟩ := s.pin j hj
    refine ⟨?_, h3⟩
    by_cases nj : j = i
    · subst nj
      rw [e] at h1; cases h1
      exact ⟨_, List.getElem?_set_self il, h2⟩
    · exact ⟨r', by rw [set_other nj]; exact h1, h2⟩
end
theorem putSl_spec {i : Nat} {c f : Str} {d : DV} {S : Sl} {N : Sl → Prop} {R : Opd → Sl → Prop} {Bk Ct : Sl → Prop} {E : Str → List (Str × DV) → Sl → Prop} (h : (putSl i c f d S).spec N R Bk Ct E) : ∃ p gs, S[i]? = some (some (.oi p c gs)) ∧ gs.length < 1000 ∧ N (S.set i (some (.oi p c (putG f d gs)))) := by
  unfold putSl at h
  split at h
  · rename_i p c' gs e
    split at h
    · rename_i hc
      obtain ⟨rfl, hl⟩ := hc
      exact ⟨p, gs, e, hl, h⟩
    · exact h.elim
  · exact h.elim
section
variable {X : Cx} {o e : Expr} {c f z : Str} {fs : List Str} {pos pos' zp : Pos} {me : M DV}
theorem sx_putI (i : Nat) (I : KI X.K X.mg c fs) (hf : f ∈ fs) (hz : PX X (.Name z zp) (getSl i)) (he : FX X e me) (hs : swapsWith e (some (.Attribute (.Name z zp) f pos')) pos.line X.env = pure false := by rfl) :
    SX X (.Assign [.Attribute (.Name z zp) f pos'] e pos) (M.thn me fun d => M.thn (getSl i) fun _ => putSl i c f d) := fun W tk pp => by
  obtain ⟨C, hm, hc, hn⟩ := I.ex
  refine PS.imp (ps_fld (hz W tk) (he W tk) hs) fun D σ H ⟨B, S, st, q⟩ => ⟨B, S, st, (spec_thn.mp q).imp (fun d S1 _ q y B1 H1 s1 hs1 r => ⟨B1, S1, s1.st, (spec_thn.mp q).imp (fun o S2 eo q v B2 H2 s2 hs2 or _ => ?_) fun _ _ _ h => h.pre s1⟩) fun _ _ _ h => h⟩
  have eo : o = .sl i := by
    unfold getSl at eo
    split at eo <;> simp at eo
    exact eo.1.symm
  subst eo
  obtain ⟨p, gs, es, hl, k⟩ := putSl_spec q
  have ev : σ[i]? = some (some v) := by cases or with | sl e _ => exact e
  obtain ⟨v', e2, q0⟩ := s2.st.at_ i _ es
  rw [ev] at e2; cases e2
  cases q0 with
  | @oi a C' dx _ _ xs _ hm' hb ha rf =>
    rw [hm] at hm'; cases hm'
    refine ⟨a, C, dx, xs, rfl, ha, hc, hn f hf, by rw [repf_length rf]; exact hl, ?_⟩
    exact k B2 _ σ ((s1.trans s2).mutI es ev hm ha (repf_put (r.mono s2.grow.sub) rf))
end
/-! ### methods -/
section
variable (P : Program) (w : World) (K : PySem.W.Frag) (mg : Mg) (base : Heap)
/-- the method m of the class c is the plain function f -/
structure KM (c m : Str) (f : FSem) (ps : List Str) (k : Nat) : Prop where
  ex : ∃ (C fa : Addr) (fd : FuncData), mg c = some (.ref C) ∧ Cls K C ∧ Meth K C m fa ∧ FnG P w K mg base (L2.CX P w) k fa fd ps (spM K mg f ps.length) ∧ Binds K fd ps []
/-- a property -/
structure KP (c m : Str) (f : FSem) (ps : List Str) (k : Nat) : Prop where
  ex : ∃ (C p fa : Addr) (fd : FuncData), mg c = some (.ref C) ∧ Cls K C ∧ PropOf K C m p fa ∧ FnG P w K mg base (L2.CX P w) k fa fd ps (spM K mg f ps.length) ∧ Binds K fd ps []
/-- a special method -/
structure KS (c m : Str) (f : FSem) (ps : List Str) (k : Nat) : Prop where
  ex : ∃ (C fa : Addr) (fd : FuncData), mg c = some (.ref C) ∧ Cls K C ∧ PySem.W.noSeq K C = true ∧ PySem.W.findIn K (.ref C) m = some (some (.ref fa)) ∧ PySem.W.isFn K (.ref fa) = true ∧ PySem.W.fnIn K fa = true ∧ FnG P w K mg base (L2.CX P w) k fa fd ps (spM K mg f ps.length) ∧ Binds K fd ps []
/-- how it is made -/
structure KMk (c : Str) (f : FSem) (ps : List Str) (k : Nat) : Prop where
  ex : ∃ (C fa : Addr) (fd : FuncData), mg c = some (.ref C) ∧ Mk K C fa ∧ FnG P w K mg base (L2.CX P w) k fa fd ps (spM K mg f ps.length) ∧ Binds K fd ps []
end
/-- the object's data, of the class c -/
def insOf (c m : Str) (d : DV) : M DV := match d with
  | .ins c' gs => if c' = c ∧ gs.lookup m = none then M.pure d else M.stuck
  | _ => M.stuck
theorem insOf_spec {c m : Str} {d : DV} {S : Sl} {K : DV → Sl → Prop} {E : Str → List (Str × DV) → Sl → Prop} (h : (insOf c m d S).spec K E) : ∃ gs, d = .ins c gs ∧ gs.lookup m = none ∧ K d S := by
  unfold insOf at h
  split at h
  · rename_i c' gs
    split at h
    · rename_i hc
      obtain ⟨rfl, hl⟩ := hc
      exact ⟨gs, rfl, hl, h⟩
    · exact h.elim
  · exact h.elim
theorem rep_inst {mg : Mg} {B H : Hp} (le : Sub B H) {v : V} {c : Str} {gs : List (Str × DV)} (q : Rep mg B v (.ins c gs)) : ∃ a C dx xs, v = .ref a ∧ mg c = some (.ref C) ∧ H a = some (.ins C dx xs) ∧ RepF mg B xs gs := (View.r q).inst le
section
variable {X : Cx} {CX : CXT} {k n : Nat} {C g : Addr} {m c : Str} {fd : FuncData} {ps : List Str} {sp : Sp} {E : Sg → XK} {o e : Expr} {es : List Expr} {p apos pos : Pos} {ta : TE} {t : TA} {f : FSem} {mo : M DV} {ms : M (List DV)}
/-- how a method's call is read -/
def MethForm (X : Cx) (o : Expr) (m : Str) (es : List Expr) (apos pos : Pos) (pl : Sem Bool) : Prop :=
  eval (.Call (.Attribute o m apos) es [] pos) X.env = (eval o X.env >>= fun ov => standAt apos.atName >>= fun _ => holding [ov] (getMethod ov m pl) >>= fun q => callWith pos q.1 q.2 (backTo pos (starEach es X.env)) (backToKw pos (keywordEach [] X.env)))
/-- what a method's call wants of the object and the call -/
def tMethG (C : Addr) (m : Str) (ta : TE) (after : V → Sg → Hp → VK → Prop) : TE := fun σ H Q => ta σ H fun x H1 => ∃ a dx fs, x = .ref a ∧ H1 a = some (.ins C dx fs) ∧ fs.lookup m = none ∧ after x σ H1 Q
theorem pe_methG {pl : Sem Bool} (he : PE X o ta) (cC : Cls X.K C) (hm : Meth X.K C m g) (F : FnG X.prog X.w X.K X.mg X.base CX k g fd ps sp) (hr : Room k X.A) (hgd : X.A.guards = some []) (hb : Binds X.K fd ps []) (hx : ∀ σ, PassesAt CX X σ (E σ)) (ha : PA X (e :: es) t)
    (form : MethForm X o m (e :: es) apos pos pl) (star : starEach (e :: es) X.env = (false, eval e X.env) :: starEach es X.env := by rfl) (plain : (backTo pos (starEach es X.env)).any (·.1) = false := by rfl) :
    PE X (.Call (.Attribute o m apos) (e :: es) [] pos) (tMethG C m ta fun x σ H1 Q => t σ H1 fun vs H2 => sp (x :: vs) H2 Q (E σ)) := by
  constructor
  intro pn s0 τ G R J want
  refine PySem.W.methodCall_KW (pl := pl) ?_ form
  refine thn (he.run pn s0 τ G _ J want) ?_
  rintro ob s1 ⟨xv, G1, J1, rob, ad, dd, gs, exv, at1, no, rest⟩
  subst exv
  obtain rfl : ob = Value.ref ad := rob
  refine getmeth_ok J1 at1 cC hm no ?_
  refine PySem.W.callWith_K (first := [.ref ad]) (h₀ := X.base) J.ok.mod.kin hm.kp ?_ star plain
  exact thn (ha.run pos pn s1 τ G1 _ J1 rest) fun ws s2 ⟨xs, G2, J2, rel, post⟩ => ⟨J2.kIn, run_g (us := .ref ad :: ws) (vs := .ref ad :: xs) F hr hgd hb (hx τ) J2 (.cons rfl rel) post⟩
theorem pe_methG0 {pl : Sem Bool} (he : PE X o ta) (cC : Cls X.K C) (hm : Meth X.K C m g) (F : FnG X.prog X.w X.K X.mg X.base CX k g fd ps sp) (hr : Room k X.A) (hgd : X.A.guards = some []) (hb : Binds X.K fd ps []) (hx : ∀ σ, PassesAt CX X σ (E σ))
    (form : MethForm X o m [] apos pos pl) : PE X (.Call (.Attribute o m apos) [] [] pos) (tMethG C m ta fun x σ H1 Q => sp [x] H1 Q (E σ)) := by
  constructor
  intro pn s0 τ G R J want
  refine PySem.W.methodCall_KW (pl := pl) ?_ form
  refine thn (he.run pn s0 τ G _ J want) ?_
  rintro ob s1 ⟨xv, G1, J1, rob, ad, dd, gs, exv, at1, no, rest⟩
  subst exv
  obtain rfl : ob = Value.ref ad := rob
  refine getmeth_ok J1 at1 cC hm no ?_
  exact PySem.W.callWith_K0 (first := [.ref ad]) J1.kIn hm.kp (run_g (us := [.ref ad]) (vs := [.ref ad]) F hr hgd hb (hx τ) J1 (.cons rfl .nil) rest)
/-- a call with data, told from a later state on -/
theorem call_data2 {W : WX} {Q : VK} {B H B1 H1 : Hp} {σ : Sg} {S S1 : Sl} {vs : List V} {ds : List DV} {n : Nat} (hn : ps.length = n) (s : Stp X.K X.mg B H σ S B1 H1 σ S1) (hs : Has S S1) (r : Reps X.mg B1 vs ds)
    (q : (callF f n ds S1).spec (fun o S' => ∀ v B' H', Stp X.K X.mg B H σ S B' H' σ S' → Has S S' → OpdR X.mg B' H' σ S' v o → Young H v o → Q v H') (xPost X.K X.mg W B H σ S)) :
    spM X.K X.mg f ps.length vs H1 Q (WE W σ) := by subst hn; exact call_data s hs r q
theorem px_meth (h : KM X.prog X.w X.K X.mg X.base c m f ps k) {j : Nat} (hn : ps.length = n) (hr : Room j X.A) (hgd : X.A.guards = some []) (hj : k ≤ j) (ho : FX X o mo) (ha : FXs X (e :: es) ms) {pl : Sem Bool}
    (form : MethForm X o m (e :: es) apos pos pl := by rfl) (star : starEach (e :: es) X.env = (false, eval e X.env) :: starEach es X.env := by rfl) (plain : (backTo pos (starEach es X.env)).any (·.1) = false := by rfl) :
    PX X (.Call (.Attribute o m apos) (e :: es) [] pos) (M.bind mo fun d => M.bind (insOf c m d) fun d => M.bind ms fun ds => callF f n (d :: ds)) := fun W tk => by
  obtain ⟨C, fa, fd, hC, cc, hm, F, hb⟩ := h.ex
  refine PE.imp (pe_methG (pl := pl) (ho W tk) cc hm F (hr.mono hj) hgd hb (fun σ => passAt tk σ) (ha W tk) form star plain) fun σ H Q ⟨B, S, st, q⟩ => ?_
  refine ⟨B, S, st, (spec_bind.mp q).imp (fun d S1 _ q v B1 H1 s hs r => ?_) fun _ _ _ h => h⟩
  obtain ⟨gs, rfl, hl, q⟩ := insOf_spec (spec_bind.mp q)
  obtain ⟨a, C', dx, xs, rfl, hm', ha', rf⟩ := rep_inst s.st.le r
  rw [hC] at hm'; cases hm'
  refine ⟨a, dx, xs, rfl, ha', repf_none rf hl, B1, S1, s.st, (spec_bind.mp q).imp (fun ds S2 _ q vs B2 H2 s2 hs2 r2 => ?_) fun _ _ _ h => h.pre s⟩
  exact call_data2 hn (s.trans s2) (hs.trans hs2) (.cons (r.mono s2.grow.sub) r2) q
theorem px_meth0 (h : KM X.prog X.w X.K X.mg X.base c m f ps k) {j : Nat} (hn : ps.length = n) (hr : Room j X.A) (hgd : X.A.guards = some []) (hj : k ≤ j) (ho : FX X o mo) {pl : Sem Bool} (form : MethForm X o m [] apos pos pl := by rfl) :
    PX X (.Call (.Attribute o m apos) [] [] pos) (M.bind mo fun d => M.bind (insOf c m d) fun d => callF f n [d]) := fun W tk => by
  obtain ⟨C, fa, fd, hC, cc, hm, F, hb⟩ := h.ex
  refine PE.imp (pe_methG0 (pl := pl) (ho W tk) cc hm F (hr.mono hj) hgd hb (fun σ => passAt tk σ) form) fun σ H Q ⟨B, S, st, q⟩ => ?_
  refine ⟨B, S, st, (spec_bind.mp q).imp (fun d S1 _ q v B1 H1 s hs r => ?_) fun _ _ _ h => h⟩
  obtain ⟨gs, rfl, hl, q⟩ := insOf_spec (spec_bind.mp q)
  obtain ⟨a, C', dx, xs, rfl, hm', ha', rf⟩ := rep_inst s.st.le r
  rw [hC] at hm'; cases hm'
  exact ⟨a, dx, xs, rfl, ha', repf_none rf hl, call_data2 hn s hs (.cons r .nil) q⟩
end
end Lb
/-! Own instances: properties, operators, how they are made. -/
namespace Lb
open PySem PySem.Spec PyProof.Rows L2
section
variable {X : Cx} {CX : CXT} {k n j : Nat} {C g p : Addr} {m c : Str} {fd : FuncData} {ps : List Str} {sp : Sp} {E : Sg → XK} {o a b e : Expr} {es : List Expr} {np pos : Pos} {ta tb : TE} {t : TA} {f : FSem} {mo ma mb : M Opd} {md : M DV} {ms : M (List DV)}
variable {pins : List (Addr × Obj)} {σ : Sg} {H : Hp} {s : Shared} {Q : VK} {x dx : Addr} {gs : List (Str × V)}
/-- a call one room further in -/
theorem run_gI {us : List Value} {vs : List V} (F : FnG X.prog X.w X.K X.mg X.base CX k g fd ps sp) (hr : Room (k + 1) X.A) (hgd : X.A.guards = some []) (hb : Binds X.K fd ps []) (hx : PassesAt CX X σ (E σ))
    (I : Inv X pins σ H s) (r : Vals vs us) (h : sp vs H Q (E σ)) : wpAny (model X.prog X.w) X.A.in1 (call (.ref g) us) (EP X pins σ Q) X.xe s := by
  have bd := hb s us I.kIn (by rw [List.append_nil, ← r.length]; exact F.len _ _ _ _ h)
  rw [List.append_nil] at bd
  refine wpAny_call (codeAny_mono (F.run X.A.in1 X.stack s H ⟨us, []⟩ us vs Q (E σ) hr.in1 hgd I.env0.in1 bd r h) fun res s' got => ?_)
  match res, got with
  | .error er, got => exact hx pins H s er s' I got
  | .ok (.ret u), got => exact I.after got
theorem inst_look (I : Inv X pins σ H s) (e : H x = some (.ins C dx gs)) : ∃ od, PySem.W.InstAt s.heap x (PySem.W.instObj C dx) C (some od) := by
  obtain ⟨mA, O, _⟩ := ins_get I.hok e
  obtain ⟨od, J, _⟩ := O.look
  exact ⟨od, J⟩
/-! ### a property -/
theorem getprop_g {bb : Bool} (I : Inv X pins σ H s) (ea : H x = some (.ins C dx gs)) (cC : Cls X.K C) (hp : PropOf X.K C m p g) (F : FnG X.prog X.w X.K X.mg X.base CX k g fd ps sp) (hr : Room (k + 1) X.A) (hgd : X.A.guards = some []) (hb : Binds X.K fd ps [])
    (hx : ∀ H s e s', CX X.stack H s (fun _ _ _ => False) e s' → False) (h : sp [.ref x] H Q (fun _ _ _ => False)) : wpAny (model X.prog X.w) X.A (getAttr (.ref x) m bb) (EP X pins σ Q) X.xe s := by
  obtain ⟨od, J⟩ := inst_look I ea
  obtain ⟨more, hrec⟩ := hp.rec_
  have I1 := I.tok (s.toks + 1)
  have isC : (PySem.W.clsIn X.K C).isSome = true := by
    obtain ⟨cd, e, _⟩ := PySem.W.any_some cC.hd
    rw [e]; rfl
  have bd := hb s [.ref x] I.kIn (by rw [List.append_nil]; exact F.len _ _ _ _ h)
  rw [List.append_nil] at bd
  refine PySem.W.get_bind I.kIn J (PySem.W.plainGet_of (cC.get m)).1 (PySem.W.findObj_data isC hp.at_ hp.get hp.tak) (PySem.W.plainGet_of (cC.get m)).2 (wpAny_call (PySem.W.prop_get (s := { s with toks := s.toks + 1 }) I.kIn hrec ?_))
  refine codeAny_mono (F.run X.A.in1 X.stack { s with toks := s.toks + 1 } H ⟨[.ref x], []⟩ [.ref x] [.ref x] Q (fun _ _ _ => False) hr.in1 hgd I1.env0.in1 (hb _ [.ref x] I1.kIn (by rw [List.append_nil]; exact F.len _ _ _ _ h)) (.cons rfl .nil) h) fun res s' got => ?_
  match res, got with
  | .error er, got => exact (hx H _ er s' got).elim
  | .ok (.ret u), got =>
    obtain ⟨v, H', I3, rv, q3⟩ := I1.after got
    show wpAny _ _ (handedOut u) _ _ _
    rw [PySem.W.handedOut_of (handed_of rv)]
    exact wpAny_pure ⟨v, H', I3, rv, q3⟩
/-- a call that must not raise -/
def callV (f : FSem) (n : Nat) (ds : List DV) : M Opd := fun S => match callF f n ds S with
  | .exc _ _ _ => .stuck
  | o => o
theorem callV_spec {f : FSem} {n : Nat} {ds : List DV} {S : Sl} {K : Opd → Sl → Prop} {E E' : Str → List (Str × DV) → Sl → Prop} (h : (callV f n ds S).spec K E) : (callF f n ds S).spec K E' := by
  unfold callV at h
  cases e : callF f n ds S with
  | stuck => rw [e] at h; exact h
  | ok a S' => rw [e] at h; exact h
  | exc _ _ _ => rw [e] at h; exact h.elim
theorem px_prop (h : KP X.prog X.w X.K X.mg X.base c m f ps k) (hn : ps.length = n) (hr : Room j X.A) (hgd : X.A.guards = some []) (hj : k + 1 ≤ j) (ho : FX X o md) (hab : attributeBase o m X.env (eval o X.env) = eval o X.env := by rfl) :
    PX X (.Attribute o m pos) (M.bind md fun d => M.bind (insOf c m d) fun d => callV f n [d]) := fun W tk => by
  obtain ⟨C, p, fa, fd, hC, cc, hp, F, hb⟩ := h.ex
  refine ⟨fun pn s0 τ G R J ⟨B, S, st, q⟩ => ?_⟩
  refine attr_of hab (thn ((ho W tk).run pn s0 τ G (fun v H1 => ∃ a dx xs, v = .ref a ∧ H1 a = some (.ins C dx xs) ∧ spM X.K X.mg f ps.length [v] H1 R (fun _ _ _ => False)) J ⟨B, S, st, (spec_bind.mp q).imp (fun d S1 _ q v B1 H1 s hs r => ?_) fun _ _ _ h => h⟩) ?_)
  · obtain ⟨gs, rfl, hl, q⟩ := insOf_spec (spec_bind.mp q)
    obtain ⟨a, C', dx, xs, rfl, hm', ha', rf⟩ := rep_inst s.st.le r
    rw [hC] at hm'; cases hm'
    exact ⟨a, dx, xs, rfl, ha', call_data2 (W := fun _ _ _ _ => False) hn s hs (.cons r .nil) (callV_spec q)⟩
  · rintro u s1 ⟨v, G1, J1, rv, a, dx, xs, ev, ea, post⟩
    subst ev
    obtain rfl : u = Value.ref a := rv
    exact getprop_g J1 ea cc hp F (hr.mono hj) hgd hb (fun H s e s' z => by obtain ⟨_, _, _, _, _, _, _, _, _, _, _, _, z⟩ := z; exact z.elim) post
/-! ### what stands as data in an operand -/
def dataOf (o : Opd) (S : Sl) : Option DV := match o with
  | .v (.v d) => some d
  | .sl i => match S[i]? with
    | some (some (.v d)) => some d
    | _ => none
  | _ => none
theorem OpdR.data {KK : PySem.W.Frag} {mg : Mg} {B H : Hp} {σ : Sg} {S : Sl} (st : StR KK mg B H σ S) {v : V} {o : Opd} {d : DV} (q : OpdR mg B H σ S v o) (e : dataOf o S = some d) : Rep mg B v d := by
  cases q with
  | v q _ =>
    cases q with
    | v q => cases e; exact q
    | ol _ _ _ => cases e
    | od _ _ _ => cases e
    | oi _ _ _ _ => cases e
  | sl e1 hr =>
    obtain ⟨r, hr⟩ := hr
    obtain ⟨v', e2, q⟩ := st.at_ _ r hr
    rw [e1] at e2; cases e2
    simp only [dataOf, hr] at e
    cases q with
    | v q => cases e; exact q
    | ol _ _ _ => cases e
    | od _ _ _ => cases e
    | oi _ _ _ _ => cases e
theorem dataOf_dv {o : Opd} {S : Sl} {d : DV} (e : dataOf o S = some d) : o.dv S = some d := by
  unfold dataOf at e
  split at e
  · cases e; rfl
  · split at e
    · rename_i hs; cases e; simp [Opd.dv, hs, RV.dv]
    · cases e
  · cases e
def isIns (o : Opd) (S : Sl) : Bool := match o.dv S with
  | some (.ins _ _) => true
  | _ => false
/-! ### a[b] -/
def PlainIxO (b : Expr) : Prop := ∀ (x : Addr) (i : Value), subscripted b true (.ref x) i = runValue (.builtin "lifetime.subscript" ⟨[.ref x, i], []⟩)
theorem pe_ixO {r : R2} (hr : IxR X r) (cC : Cls X.K C) (hs : PySem.W.findIn X.K (.ref C) "__getitem__" = some (some (.ref g))) (hf : PySem.W.fnIn X.K g = true) (hfn : PySem.W.isFn X.K (.ref g) = true) (F : FnG X.prog X.w X.K X.mg X.base CX k g fd ps sp) (room : Room (k + 1) X.A) (hgd : X.A.guards = some [])
    (hb : Binds X.K fd ps []) (hx : ∀ σ, PassesAt CX X σ (E σ)) (pa : PE X a ta) (pb : PE X b tb) (plain : PlainIx b) (plainO : PlainIxO b) :
    PE X (.Subscript a b pos) (fun σ H Q => ta σ H fun x H1 => tb σ H1 fun y H2 => r x y H2 Q ∨ ∃ ad dx xs, x = .ref ad ∧ H2 ad = some (.ins C dx xs) ∧ sp [x, y] H2 Q (E σ)) := by
  constructor
  intro pn s0 τ G R J want
  refine Subscript_ (binT pa pb J want fun v u s2 x y H2 I2 rx ry q => ?_)
  rcases q with q | ⟨ad, dx, xs, ex, at2, q⟩
  · exact hr a b pn s2 τ H2 x y v u R I2 rx ry q (plain _ _)
  · subst ex
    obtain rfl : v = Value.ref ad := rx
    obtain ⟨od, O⟩ := inst_look I2 at2
    obtain ⟨ml, Fr⟩ := I2.fr
    exact PySem.W.sub_K Fr I2.ok.mod.kin O hs hf hfn (run_gI (us := [.ref ad, u]) (vs := [.ref ad, y]) F room hgd hb (hx τ) I2 (.cons rfl (.cons ry .nil)) q) (plainO ad u)
def ixM (c : Str) (f : FSem) (F : DV → DV → Option RV) (x y : Opd) : M Opd := fun S => if isIns x S then (match dataOf x S, dataOf y S with
  | some (.ins c' gs), some dy => if c' = c then callF f 2 [.ins c' gs, dy] S else .stuck
  | _, _ => .stuck) else op2 F x y S
theorem ixM_spec {c : Str} {f : FSem} {F : DV → DV → Option RV} {x y : Opd} {S : Sl} {K : Opd → Sl → Prop} {E : Str → List (Str × DV) → Sl → Prop} (h : (ixM c f F x y S).spec K E) :
    (op2 F x y S).spec K E ∨ ∃ gs dy, dataOf x S = some (.ins c gs) ∧ dataOf y S = some dy ∧ (callF f 2 [.ins c gs, dy] S).spec K E := by
  unfold ixM at h
  split at h
  · split at h
    · rename_i c' gs dy e1 e2
      split at h
      · rename_i hc; subst hc; exact .inr ⟨gs, dy, e1, e2, h⟩
      · exact h.elim
    · exact h.elim
  · exact .inl h
theorem px_ixO {r : R2} {F2 : DV → DV → Option RV} (hR : IxR X r) (hP : Prim2 X.mg r F2) (h : KS X.prog X.w X.K X.mg X.base c "__getitem__" f ps k) (hn : ps.length = 2) (hr : Room j X.A) (hgd : X.A.guards = some []) (hj : k + 1 ≤ j) (pa : PX X a ma) (pb : PX X b mb)
    (plain : PlainIx b := by intro _ _; rfl) (plainO : PlainIxO b := by intro _ _; rfl) : PX X (.Subscript a b pos) (M.bind ma fun x => M.bind mb fun y => ixM c f F2 x y) := fun W tk => by
  obtain ⟨C, fa, fd, hC, cc, _, hs, hfn, hf, F, hb⟩ := h.ex
  refine PE.imp (pe_ixO hR cc hs hf hfn F (hr.mono hj) hgd hb (fun σ => passAt tk σ) (pa W tk) (pb W tk) plain plainO) fun σ H Q ⟨B, S, st, q⟩ => ?_
  refine ⟨B, S, st, (spec_bind.mp q).imp (fun x S1 _ q v B1 H1 s hs or _ => ⟨B1, S1, s.st, (spec_bind.mp q).imp (fun y S2 _ q w B2 H2 s2 hs2 or2 _ => ?_) fun _ _ _ h => h.pre s⟩) fun _ _ _ h => h⟩
  rcases ixM_spec q with q | ⟨gs, dy, e1, e2, q⟩
  · exact .inl (op2_end hP s hs or s2 hs2 or2 q)
  · have rx := (or.step s2 hs2).data s2.st e1
    have ry := or2.data s2.st e2
    obtain ⟨ad, C', dx, xs, rfl, hm', ha', rf⟩ := rep_inst s2.st.le rx
    rw [hC] at hm'; cases hm'
    exact .inr ⟨ad, dx, xs, rfl, ha', call_data2 hn (s.trans s2) (hs.trans hs2) (.cons rx (.cons ry .nil)) q⟩
/-! ### a built-in of one thing that asks an own method -/
/-- what must come back -/
def backM (good : DV → Bool) (o : Opd) : M Opd := fun S => match o with
  | .v (.v d) => if good d then .ok o S else .stuck
  | _ => .stuck
def oneM (c : Str) (f : FSem) (good : DV → Bool) (F : List DV → Option RV) (x : Opd) : M Opd := fun S => if isIns x S then (match dataOf x S with
  | some (.ins c' gs) => if c' = c then M.bind (callF f 1 [.ins c' gs]) (backM good) S else .stuck
  | _ => .stuck) else opN F [x] S
theorem oneM_spec {c : Str} {f : FSem} {good : DV → Bool} {F : List DV → Option RV} {x : Opd} {S : Sl} {K : Opd → Sl → Prop} {E : Str → List (Str × DV) → Sl → Prop} (h : (oneM c f good F x S).spec K E) :
    (opN F [x] S).spec K E ∨ ∃ gs, dataOf x S = some (.ins c gs) ∧ (callF f 1 [.ins c gs] S).spec (fun o S' => ∃ d, o = .v (.v d) ∧ good d = true ∧ K o S') E := by
  unfold oneM at h
  split at h
  · split at h
    · rename_i c' gs e1
      split at h
      · rename_i hc; subst hc
        refine .inr ⟨gs, e1, (spec_bind.mp h).imp (fun o S' _ k => ?_) fun _ _ _ h => h⟩
        unfold backM at k
        split at k
        · split at k
          · exact ⟨_, rfl, ‹_›, k⟩
          · exact k.elim
        · exact k.elim
      · exact h.elim
    · exact h.elim
  · exact .inl h
/-- a call of a builtin with one thing; r σ: what it wants -/
theorem pe_callBE {id x : Str} {bid : String} {r : Sg → List V → Hp → VK → Prop} (hc : ∀ (pins : List (Addr × Obj)) (s : Shared) (σ : Sg) (H : Hp) (xs : List V) (us : List Value) (Q : VK), Inv X pins σ H s → Vals xs us → r σ xs H Q → wpAny (model X.prog X.w) X.A (call (.builtin bid) us) (EP X pins σ Q) X.xe s)
    (hg : Gl X x) (hm : X.mg x = none) (hv : bootBuiltins x = some (.builtin bid)) (pt : PA X (e :: es) t) (hn : x ≠ "__name__" := by decide) (hdb : (x == ("__debug__" : Str)) = false := by decide)
    (star : starEach (e :: es) X.env = (false, eval e X.env) :: starEach es X.env := by rfl) (plain : (backTo pos (starEach es X.env)).any (·.1) = false := by rfl) : PE X (.Call (.Name x np) (e :: es) [] pos) (fun σ H Q => t σ H fun vs H1 => r σ vs H1 Q) := by
  constructor
  intro pn s0 τ G R J want
  refine wpAny_Call_Name_kw (ld_blt J hg hm hv ?_ hn hdb)
  exact PyProof.Rows.callWith_builtin1 (thn (pt.run pos pn s0 τ G _ J want) fun us s1 ⟨vs, H1, I1, r1, q1⟩ => hc pn s1 τ H1 vs us R I1 r1 q1) star plain
/-- len(x), x an own instance or not -/
def goodLen : DV → Bool
  | .int i => decide (0 ≤ i) && decide (i.natAbs < 9223372036854775808)
  | _ => false
def goodStr : DV → Bool
  | .str _ => true
  | _ => false
theorem EP.weak {Q Q' : VK} {u : Value} (h : EP X pins σ Q u s) (k : ∀ v H, Q v H → Q' v H) : EP X pins σ Q' u s := by
  obtain ⟨v, H', I, r, q⟩ := h
  exact ⟨v, H', I, r, k _ _ q⟩
theorem one_end {r : List V → Hp → VK → Prop} {F : List DV → Option RV} {good : DV → Bool} {W : WX} (hP : PrimN X.mg r F) (h : KS X.prog X.w X.K X.mg X.base c m f ps k) (hn : ps.length = 1) (pa : PX X a ma) (tk : Takes X W) {x : Str} {bid : String}
    (star : starEach [a] X.env = (false, eval a X.env) :: starEach [] X.env)
    (pe : ∀ (C fa : Addr) (fd : FuncData), X.mg c = some (.ref C) → Cls X.K C → PySem.W.findIn X.K (.ref C) m = some (some (.ref fa)) → PySem.W.isFn X.K (.ref fa) = true → FnG X.prog X.w X.K X.mg X.base (L2.CX X.prog X.w) k fa fd ps (spM X.K X.mg f ps.length) → Binds X.K fd ps [] → ∀ (t : TA), PA X [a] t → PE X e (fun σ H Q => t σ H fun vs H1 => r vs H1 Q ∨ ∃ ad dx xs, vs = [.ref ad] ∧ H1 ad = some (.ins C dx xs) ∧ spM X.K X.mg f ps.length vs H1 (fun v H2 => (∃ d, good d = true ∧ ∃ B, Rep X.mg B v d) ∧ Q v H2) (WE W σ))) :
    PE X e (tM X.K X.mg (M.bind ma fun x => oneM c f good F x) W) := by
  obtain ⟨C, fa, fd, hC, cc, _, hs, hfn, hf, FG, hb⟩ := h.ex
  refine PE.imp (pe C fa fd hC cc hs hfn FG hb _ (pa_cons (pa W tk) pa_nil star)) fun σ H Q ⟨B, S, st, q⟩ => ?_
  refine ⟨B, S, st, (spec_bind.mp q).imp (fun o S1 _ q v B1 H1 s hs or _ => ?_) fun _ _ _ h => h⟩
  rcases oneM_spec q with q | ⟨gs, e1, q⟩
  · exact .inl (opN_end hP s hs (.cons or .nil) q)
  · have rx := or.data s.st e1
    obtain ⟨ad, C', dx, xs, rfl, hm', ha', rf⟩ := rep_inst s.st.le rx
    rw [hC] at hm'; cases hm'
    refine .inr ⟨ad, dx, xs, rfl, ha', call_data2 hn s hs (.cons rx .nil) (q.imp (fun o S2 _ ⟨d, eo, gd, k⟩ v B2 H2 s2 hs2 or2 y => ?_) fun _ _ _ h => h)⟩
    subst eo
    refine ⟨⟨d, gd, B2, ?_⟩, k v B2 H2 s2 hs2 or2 y⟩
    cases or2 with
    | v qq _ => cases qq with | v qq => exact qq
theorem px_lenO (h : KS X.prog X.w X.K X.mg X.base c "__len__" f ps k) (hn : ps.length = 1) (hr : Room j X.A) (hgd : X.A.guards = some []) (hj : k + 1 ≤ j) {r : List V → Hp → VK → Prop} {F : List DV → Option RV} (hc : CallR X (.builtin "len") r) (hP : PrimN X.mg r F) (hg : Gl X "len") (hm : X.mg "len" = none) (hv : bootBuiltins "len" = some (.builtin "len")) (pa : PX X a ma)
    (star : starEach [a] X.env = (false, eval a X.env) :: starEach [] X.env := by rfl) (plain : (backTo pos (starEach [] X.env)).any (·.1) = false := by rfl) :
    PX X (.Call (.Name "len" np) [a] [] pos) (M.bind ma fun x => oneM c f goodLen F x) := fun W tk => by
  refine one_end (x := "len") (bid := "len") hP h hn pa tk star fun C fa fd hC cc hs hfn FG hb t pt => ?_
  refine pe_callBE (id := "len") (r := fun σ vs H1 Q => r vs H1 Q ∨ ∃ ad dx xs, vs = [.ref ad] ∧ H1 ad = some (.ins C dx xs) ∧ spM X.K X.mg f ps.length vs H1 (fun v H2 => (∃ d, goodLen d = true ∧ ∃ B, Rep X.mg B v d) ∧ Q v H2) (WE W σ)) (fun pn s0 τ G xs us R J rv q => ?_) hg hm hv pt (by decide) (by decide) star plain
  rcases q with q | ⟨ad, dx, xs', rfl, at2, q⟩
  · exact hc pn s0 τ G xs us R J rv q
  · obtain ⟨u, rfl, ru⟩ := vals1 rv
    obtain rfl : u = Value.ref ad := ru
    obtain ⟨od, O⟩ := inst_look J at2
    obtain ⟨ml, Fr⟩ := J.fr
    refine PySem.W.len_K Fr J.ok.mod.kin O hs hfn (wpAny_mono (run_gI (us := [.ref ad]) (vs := [.ref ad]) FG (hr.mono hj) hgd hb (passAt tk τ) J (.cons rfl .nil) q) (fun u s' z => ?_) fun _ _ z => z)
    obtain ⟨v, H', I, rvv, ⟨d, gd, B, rep⟩, qq⟩ := z
    cases rep <;> simp only [goodLen, Bool.false_eq_true] at gd
    rename_i i
    obtain ⟨tk2, rfl⟩ := rvv
    rw [Bool.and_eq_true, decide_eq_true_eq, decide_eq_true_eq] at gd
    exact ⟨by omega, ⟨.int i, H', I.tok _, ⟨_, rfl⟩, qq⟩⟩
theorem px_reprO (h : KS X.prog X.w X.K X.mg X.base c "__repr__" f ps k) (hn : ps.length = 1) (hr : Room j X.A) (hgd : X.A.guards = some []) (hj : k + 1 ≤ j) {r : List V → Hp → VK → Prop} {F : List DV → Option RV} (hc : CallR X (.builtin "repr") r) (hP : PrimN X.mg r F) (hg : Gl X "repr") (hm : X.mg "repr" = none) (hv : bootBuiltins "repr" = some (.builtin "repr")) (pa : PX X a ma)
    (star : starEach [a] X.env = (false, eval a X.env) :: starEach [] X.env := by rfl) (plain : (backTo pos (starEach [] X.env)).any (·.1) = false := by rfl) :
    PX X (.Call (.Name "repr" np) [a] [] pos) (M.bind ma fun x => oneM c f goodStr F x) := fun W tk => by
  refine one_end (x := "repr") (bid := "repr") hP h hn pa tk star fun C fa fd hC cc hs hfn FG hb t pt => ?_
  refine pe_callBE (id := "repr") (r := fun σ vs H1 Q => r vs H1 Q ∨ ∃ ad dx xs, vs = [.ref ad] ∧ H1 ad = some (.ins C dx xs) ∧ spM X.K X.mg f ps.length vs H1 (fun v H2 => (∃ d, goodStr d = true ∧ ∃ B, Rep X.mg B v d) ∧ Q v H2) (WE W σ)) (fun pn s0 τ G xs us R J rv q => ?_) hg hm hv pt (by decide) (by decide) star plain
  rcases q with q | ⟨ad, dx, xs', rfl, at2, q⟩
  · exact hc pn s0 τ G xs us R J rv q
  · obtain ⟨u, rfl, ru⟩ := vals1 rv
    obtain rfl : u = Value.ref ad := ru
    obtain ⟨od, O⟩ := inst_look J at2
    obtain ⟨ml, Fr⟩ := J.fr
    have room : X.A.in1.units < cLine := by have := hr.units; show X.A.units + 1 < cLine; omega
    refine PySem.W.repr_K room Fr J.ok.mod.kin O hs hfn (wpAny_mono (run_gI (us := [.ref ad]) (vs := [.ref ad]) FG (hr.mono hj) hgd hb (passAt tk τ) J (.cons rfl .nil) q) (fun u s' z => ?_) fun _ _ z => z)
    obtain ⟨v, H', I, rvv, ⟨d, gd, B, rep⟩, qq⟩ := z
    cases rep <;> simp only [goodStr, Bool.false_eq_true] at gd
    rename_i i
    obtain ⟨tk2, rfl⟩ := rvv
    exact ⟨.str i, H', I, ⟨_, rfl⟩, qq⟩
end
end Lb
/-! == and in over data with dicts. -/
namespace Lb
open PySem PySem.Spec PyProof.Rows L2
def flV : DV → Option V
  | .non => some .non
  | .bl b => some (.bl b)
  | .int i => some (.int i)
  | .str x => some (.str x)
  | _ => none
def flEq (d e : DV) : Option Bool := match flV d, flV e with
  | some x, some y => some (eqV x y)
  | _, _ => none
def zipO (f : DV → DV → Option Bool) : List DV → List DV → Option (List Bool)
  | x :: xs, y :: ys => match f x y, zipO f xs ys with
    | some b, some r => some (b :: r)
    | _, _ => none
  | _, _ => some []
def lookK (k : Key) (l : List (Key × DV)) : Option DV := (l.find? fun p => decide (p.1 = k)).map (·.2)
def dctO (f : DV → DV → Option Bool) (ys : List (Key × DV)) : List (Key × DV) → Option (List Bool)
  | [] => some []
  | (k, d) :: r => match lookK k ys with
    | none => (dctO f ys r).map (false :: ·)
    | some d' => match f d d', dctO f ys r with
      | some b, some l => some (b :: l)
      | _, _ => none
def eqT : Nat → DV → DV → Option Bool
  | 0, d, e => flEq d e
  | n + 1, .lst xs, .lst ys => if xs.length = ys.length then (zipO (eqT n) xs ys).map (·.all id) else some false
  | n + 1, .tup xs, .tup ys => (zipO (eqT n) xs ys).map fun l => l.all id && decide (xs.length = ys.length)
  | n + 1, .tuf xs, .tuf ys => (zipO (eqT n) xs ys).map fun l => l.all id && decide (xs.length = ys.length)
  | n + 1, .dct xs, .dct ys => (dctO (eqT n) ys xs).map fun l => decide (xs.length = ys.length) && l.all id
  | _ + 1, d, e => flEq d e
theorem flV_rep {mg : Mg} {B : Hp} {x : V} {d : DV} {v : V} (r : Rep mg B x d) (h : flV d = some v) : x = v ∧ flatV x = true := by
  cases r <;> simp only [flV, reduceCtorEq, Option.some.injEq] at h <;> subst h <;> exact ⟨rfl, rfl⟩
theorem eqV_self {x : V} (h : flatV x = true) : eqV x x = true := by
  cases x with
  | non => rfl
  | bl b => cases b <;> rfl
  | int i => exact beq_self_eq_true i
  | str z => exact beq_self_eq_true z
  | _ => exact absurd (show false = true from h) Bool.false_ne_true
theorem flEq_ok {mg : Mg} {B : Hp} {x y : V} {d e : DV} {b : Bool} (r : Rep mg B x d) (q : Rep mg B y e) (h : flEq d e = some b) : flatV x = true ∧ flatV y = true ∧ b = eqV x y := by
  unfold flEq at h
  split at h
  · rename_i v u h1 h2
    obtain ⟨rfl, f1⟩ := flV_rep r h1
    obtain ⟨rfl, f2⟩ := flV_rep q h2
    exact ⟨f1, f2, (Option.some.inj h).symm⟩
  · cases h
/-! ### places -/
theorem zipO_at {f : DV → DV → Option Bool} : ∀ {xs ys : List DV} {l : List Bool}, zipO f xs ys = some l → l.length = min xs.length ys.length ∧ ∀ (j : Nat) (d e : DV), xs[j]? = some d → ys[j]? = some e → ∃ b, l[j]? = some b ∧ f d e = some b
  | [], ys, l, h => by
    cases ys <;> (simp only [zipO, Option.some.injEq] at h; subst h; exact ⟨by simp, fun j d e h1 _ => by simp at h1⟩)
  | x :: xs, [], l, h => by simp only [zipO, Option.some.injEq] at h; subst h; exact ⟨by simp, fun j d e _ h2 => by simp at h2⟩
  | x :: xs, y :: ys, l, h => by
    simp only [zipO] at h
    split at h
    · rename_i b r e1 e2
      cases h
      obtain ⟨i1, i2⟩ := zipO_at e2
      refine ⟨by simp [i1], fun j d e h1 h2 => ?_⟩
      cases j with
      | zero => simp at h1 h2; subst h1; subst h2; exact ⟨b, rfl, e1⟩
      | succ j => exact i2 j d e (by simpa using h1) (by simpa using h2)
    · cases h
theorem dctO_at {f : DV → DV → Option Bool} {ys : List (Key × DV)} : ∀ {xs : List (Key × DV)} {l : List Bool}, dctO f ys xs = some l → l.length = xs.length ∧ ∀ (j : Nat) (k : Key) (d : DV), xs[j]? = some (k, d) →
    ∃ b, l[j]? = some b ∧ (match lookK k ys with | none => b = false | some d' => f d d' = some b)
  | [], l, h => by simp only [dctO, Option.some.injEq] at h; subst h; exact ⟨rfl, fun j k d h1 => by simp at h1⟩
  | (k, d) :: xs, l, h => by
    simp only [dctO] at h
    cases q : lookK k ys with
    | none =>
      rw [q] at h
      obtain ⟨r, e2, rfl⟩ := Option.map_eq_some_iff.mp h
      obtain ⟨i1, i2⟩ := dctO_at e2
      refine ⟨by simp [i1], fun j k' d' h1 => ?_⟩
      cases j with
      | zero => simp at h1; obtain ⟨rfl, rfl⟩ := h1; exact ⟨false, rfl, by simp [q]⟩
      | succ j => exact i2 j k' d' (by simpa using h1)
    | some d0 =>
      rw [q] at h
      dsimp only at h
      split at h
      · rename_i b r e1 e2
        cases h
        obtain ⟨i1, i2⟩ := dctO_at e2
        refine ⟨by simp [i1], fun j k' d' h1 => ?_⟩
        cases j with
        | zero => simp at h1; obtain ⟨rfl, rfl⟩ := h1; exact ⟨b, rfl, by rw [q]; exact e1⟩
        | succ j => exact i2 j k' d' (by simpa using h1)
      · cases h
section
variable {KK : PySem.W.Frag} {mg : Mg} {H : Hp}
theorem repk_get : ∀ {v : List (Key × V)} {d : List (Key × DV)} {i : Nat} {k : Key} {e : DV}, RepK mg H v d → d[i]? = some (k, e) → ∃ x, v[i]? = some (k, x) ∧ Rep mg H x e
  | _, _, _, _, _, .nil, h => by simp at h
  | _, _, 0, _, _, .cons r _, h => by simp at h; obtain ⟨rfl, rfl⟩ := h; exact ⟨_, rfl, r⟩
  | _, _, i + 1, k, e, .cons _ q, h => by
    obtain ⟨x, h1, h2⟩ := repk_get (i := i) q (by simpa using h)
    exact ⟨x, by simpa using h1, h2⟩
theorem repk_get' : ∀ {v : List (Key × V)} {d : List (Key × DV)} {i : Nat} {k : Key} {x : V}, RepK mg H v d → v[i]? = some (k, x) → ∃ e, d[i]? = some (k, e) ∧ Rep mg H x e
  | _, _, _, _, _, .nil, h => by simp at h
  | _, _, 0, _, _, .cons r _, h => by simp at h; obtain ⟨rfl, rfl⟩ := h; exact ⟨_, rfl, r⟩
  | _, _, i + 1, k, e, .cons _ q, h => by
    obtain ⟨x, h1, h2⟩ := repk_get' (i := i) q (by simpa using h)
    exact ⟨x, by simpa using h1, h2⟩
theorem repk_keys : ∀ {v : List (Key × V)} {d : List (Key × DV)}, RepK mg H v d → d.map (·.1) = v.map (·.1)
  | _, _, .nil => rfl
  | _, _, .cons _ q => congrArg (_ :: ·) (repk_keys q)
theorem lookK_mem {k : Key} {d : DV} {l : List (Key × DV)} (h : lookK k l = some d) : ∃ i : Nat, l[i]? = some (k, d) := by
  obtain ⟨p, hp, rfl⟩ := Option.map_eq_some_iff.mp h
  have h1 := List.find?_some hp
  have h2 := List.mem_of_find?_eq_some hp
  obtain ⟨i, hi⟩ := List.getElem?_of_mem h2
  have : p.1 = k := by simpa using h1
  exact ⟨i, by rw [hi, ← this]⟩
theorem lookK_none {k : Key} {l : List (Key × DV)} (h : lookK k l = none) : k ∉ l.map (·.1) := by
  intro hm
  obtain ⟨p, hp, rfl⟩ := List.mem_map.mp hm
  have := Option.map_eq_none_iff.mp h
  rw [List.find?_eq_none] at this
  exact this p hp (by simp)
theorem key_inj {l : List (Key × V)} (h : (l.map (·.1)).Nodup) {i j : Nat} {k : Key} {x y : V} (h1 : l[i]? = some (k, x)) (h2 : l[j]? = some (k, y)) : i = j := by
  have a : (l.map (·.1))[i]? = some k := by rw [List.getElem?_map, h1]; rfl
  have b : (l.map (·.1))[j]? = some k := by rw [List.getElem?_map, h2]; rfl
  have hi : i < (l.map (·.1)).length := (List.getElem?_eq_some_iff.mp a).1
  exact (List.getElem?_inj hi h).mp (a.trans b.symm)
end
theorem kv_keys {κ : Type} : ∀ {a : List (κ × V)} {b : List (κ × Value)}, KV a b → a.map (·.1) = b.map (·.1)
  | _, _, .nil => rfl
  | _, _, .cons r t => by
    rw [List.map_cons, List.map_cons, r.1]
    exact congrArg _ (kv_keys t)
theorem kv_get' {κ : Type} : ∀ {a : List (κ × V)} {b : List (κ × Value)} {i : Nat} {k : κ} {u : Value}, KV a b → b[i]? = some (k, u) → ∃ x, a[i]? = some (k, x) ∧ RelV x u
  | _, _, _, _, _, .nil, h => by simp at h
  | (p1, p2) :: xs, q :: ys, 0, k, u, .cons r _, h => by
    obtain ⟨r1, r2⟩ := r
    have h' : q = (k, u) := by simpa using h
    subst h'
    have r1' : p1 = k := r1
    subst r1'
    exact ⟨p2, rfl, r2⟩
  | _, _, i + 1, _, _, .cons _ t, h => by
    obtain ⟨x, h1, h2⟩ := kv_get' (i := i) t (by simpa using h)
    exact ⟨x, by simpa using h1, h2⟩
section
variable {X : Cx} {pins : List (Addr × Obj)} {σ : Sg} {H : Hp} {s : Shared} {KK : PySem.W.Frag} {mg : Mg}
theorem rd_uniq {B : Hp} {a : Addr} {x y : List (Key × V)} (h : Rd B a (.dK x)) (q : Rd B a (.dK y)) : x = y := by
  rcases h with h | ⟨_, h⟩ <;> rcases q with q | ⟨_, q⟩ <;> rw [h] at q <;> cases q <;> rfl
theorem dk_nodup {P : Program} {w : World} {h : Heap} {a : Addr} {kvs : List (Key × V)} (hok : HOk P w H h) (r : Rd H a (.dK kvs)) : (kvs.map (·.1)).Nodup := by
  obtain ⟨_, _, vs, kv, o, es, ep, _, _, _, _, _, nd⟩ := dk_rd hok r
  rw [kv_keys kv]; exact nd
/-- the same thing answers yes -/
theorem eqT_same {P : Program} {w : World} {h : Heap} (hok : HOk P w H h) : ∀ {n : Nat} {v : V} {d e : DV} {b : Bool}, Rep mg H v d → Rep mg H v e → eqT n d e = some b → b = true := by
  have fl : ∀ {v : V} {d e : DV} {b : Bool}, Rep mg H v d → Rep mg H v e → flEq d e = some b → b = true := fun r q h => by
    obtain ⟨f1, _, rfl⟩ := flEq_ok r q h
    exact eqV_self f1
  intro n
  induction n with
  | zero => intro v d e b r q h; unfold eqT at h; exact fl r q h
  | succ n ih =>
    intro v d e b r q h
    unfold eqT at h
    split at h
    · rename_i e'; cases e'
    · rename_i m xs ys e'
      cases e'
      cases r with
      | lst r1 r2 =>
        cases q with
        | lst q1 q2 =>
          rw [r1] at q1; cases q1
          rw [if_pos (by rw [← r2.length, ← q2.length])] at h
          obtain ⟨l, hl, rfl⟩ := Option.map_eq_some_iff.mp h
          obtain ⟨i1, i2⟩ := zipO_at hl
          rw [List.all_eq_true]
          intro b hb
          obtain ⟨j, hj⟩ := List.getElem?_of_mem hb
          have hjl : j < l.length := (List.getElem?_eq_some_iff.mp hj).1
          obtain ⟨d, hd⟩ : ∃ d, xs[j]? = some d := ⟨_, List.getElem?_eq_getElem (by omega)⟩
          obtain ⟨e, he⟩ : ∃ e, ys[j]? = some e := ⟨_, List.getElem?_eq_getElem (by omega)⟩
          obtain ⟨b', h1, h2⟩ := i2 j d e hd he
          rw [hj] at h1; cases h1
          obtain ⟨x, x1, x2⟩ := r2.getD' hd
          obtain ⟨y, y1, y2⟩ := q2.getD' he
          rw [x1] at y1; cases y1
          exact ih x2 y2 h2
    · rename_i m xs ys e'
      cases e'
      cases r with
      | tup r1 r2 =>
        cases q with
        | tup q1 q2 =>
          rw [r1] at q1; cases q1
          obtain ⟨l, hl, rfl⟩ := Option.map_eq_some_iff.mp h
          obtain ⟨i1, i2⟩ := zipO_at hl
          rw [Bool.and_eq_true]
          refine ⟨?_, decide_eq_true (by rw [← r2.length, ← q2.length])⟩
          rw [List.all_eq_true]
          intro b hb
          obtain ⟨j, hj⟩ := List.getElem?_of_mem hb
          have hjl : j < l.length := (List.getElem?_eq_some_iff.mp hj).1
          obtain ⟨d, hd⟩ : ∃ d, xs[j]? = some d := ⟨_, List.getElem?_eq_getElem (by omega)⟩
          obtain ⟨e, he⟩ : ∃ e, ys[j]? = some e := ⟨_, List.getElem?_eq_getElem (by omega)⟩
          obtain ⟨b', h1, h2⟩ := i2 j d e hd he
          rw [hj] at h1; cases h1
          obtain ⟨x, x1, x2⟩ := r2.getD' hd
          obtain ⟨y, y1, y2⟩ := q2.getD' he
          rw [x1] at y1; cases y1
          exact ih x2 y2 h2
    · rename_i m xs ys e'
      cases e'
      cases r with
      | tuf r1 r0 r2 =>
        cases q with
        | tuf q1 q0 q2 =>
          rw [r1] at q1; cases q1
          obtain ⟨l, hl, rfl⟩ := Option.map_eq_some_iff.mp h
          obtain ⟨i1, i2⟩ := zipO_at hl
          rw [Bool.and_eq_true]
          refine ⟨?_, decide_eq_true (by rw [← r2.length, ← q2.length])⟩
          rw [List.all_eq_true]
          intro b hb
          obtain ⟨j, hj⟩ := List.getElem?_of_mem hb
          have hjl : j < l.length := (List.getElem?_eq_some_iff.mp hj).1
          obtain ⟨d, hd⟩ : ∃ d, xs[j]? = some d := ⟨_, List.getElem?_eq_getElem (by omega)⟩
          obtain ⟨e, he⟩ : ∃ e, ys[j]? = some e := ⟨_, List.getElem?_eq_getElem (by omega)⟩
          obtain ⟨b', h1, h2⟩ := i2 j d e hd he
          rw [hj] at h1; cases h1
          obtain ⟨x, x1, x2⟩ := r2.getD' hd
          obtain ⟨y, y1, y2⟩ := q2.getD' he
          rw [x1] at y1; cases y1
          exact ih x2 y2 h2
    · rename_i m xs ys e'
      cases e'
      cases r with
      | dct r1 r2 =>
        cases q with
        | dct q1 q2 =>
          obtain rfl := rd_uniq r1 q1
          have nd := dk_nodup hok r1
          obtain ⟨l, hl, rfl⟩ := Option.map_eq_some_iff.mp h
          obtain ⟨i1, i2⟩ := dctO_at hl
          rw [Bool.and_eq_true]
          refine ⟨decide_eq_true (by rw [← r2.length, ← q2.length]), ?_⟩
          rw [List.all_eq_true]
          intro b hb
          obtain ⟨j, hj⟩ := List.getElem?_of_mem hb
          have hjl : j < l.length := (List.getElem?_eq_some_iff.mp hj).1
          obtain ⟨⟨k, d⟩, hd⟩ : ∃ d, xs[j]? = some d := ⟨_, List.getElem?_eq_getElem (by omega)⟩
          obtain ⟨b', h1, h2⟩ := i2 j k d hd
          rw [hj] at h1; cases h1
          obtain ⟨x, x1, x2⟩ := repk_get r2 hd
          cases hk : lookK k ys with
          | none =>
            exfalso
            refine lookK_none hk ?_
            rw [repk_keys q2]
            exact List.mem_map.mpr ⟨_, List.mem_of_getElem? x1, rfl⟩
          | some d' =>
            rw [hk] at h2
            obtain ⟨i, hi⟩ := lookK_mem hk
            obtain ⟨y, y1, y2⟩ := repk_get q2 hi
            have := key_inj nd x1 y1
            subst this
            rw [x1] at y1; cases y1
            exact ih x2 y2 h2
    · exact fl r q h
end
end Lb
/-! == and in over data with dicts: the operations. -/
namespace Lb
open PySem PySem.Spec PyProof.Rows L2
section
variable {X : Cx} {pins : List (Addr × Obj)} {σ : Sg} {H : Hp} {s : Shared} {KK : PySem.W.Frag} {mg : Mg}
theorem all_range {l : List Bool} {n : Nat} (h : l.length = n) : l.all id = (List.range n).all fun j => (l[j]?).getD true := by
  subst h
  rw [Bool.eq_iff_iff, List.all_eq_true, List.all_eq_true]
  constructor
  · intro h j hj
    have hj' : j < l.length := by simpa using hj
    rw [List.getElem?_eq_getElem hj']
    exact h _ (List.getElem_mem hj')
  · intro h b hb
    obtain ⟨j, hj⟩ := List.getElem?_of_mem hb
    have hjl : j < l.length := (List.getElem?_eq_some_iff.mp hj).1
    have := h j (by simpa using hjl)
    rw [hj] at this
    exact this
theorem vals_get' : ∀ {xs : List V} {us : List Value} {j : Nat} {u : Value}, Vals xs us → us[j]? = some u → ∃ x, xs[j]? = some x ∧ RelV x u
  | _, _, _, _, .nil, h => by simp at h
  | _, _, 0, _, .cons r _, h => by simp at h; subst h; exact ⟨_, rfl, r⟩
  | _, _, j + 1, _, .cons _ t, h => by
    obtain ⟨x, h1, h2⟩ := vals_get' (j := j) t (by simpa using h)
    exact ⟨x, by simpa using h1, h2⟩
theorem kv_of_mem {κ : Type} [DecidableEq κ] {b : List (κ × Value)} {k : κ} {u : Value} (h : valueAt b k = some u) : ∃ i : Nat, b[i]? = some (k, u) := by
  obtain ⟨p, hp, rfl⟩ := Option.map_eq_some_iff.mp h
  have h1 := List.find?_some hp
  obtain ⟨i, hi⟩ := List.getElem?_of_mem (List.mem_of_find?_eq_some hp)
  have : p.1 = k := by simpa using h1
  exact ⟨i, by rw [hi, ← this]⟩
def cont : DV → Bool
  | .lst _ => true
  | .tup _ => true
  | .tuf _ => true
  | .dct _ => true
  | _ => false
theorem flEq_cont {d e : DV} {b : Bool} (h : flEq d e = some b) : cont d = false := by
  cases d <;> first | rfl | (simp [flEq, flV] at h)
abbrev CmpE (X : Cx) (pins : List (Addr × Obj)) (σ : Sg) (H : Hp) (s : Shared) (n : Nat) (v u : Value) (b : Bool) : Prop := ∀ Q : VK, X.A.units + (n + 1) < cLine → Q (.bl b) H → wpAny (model X.prog X.w) X.A (compareOp .Eq v u) (EP X pins σ Q) X.xe s
theorem eq_tree2 (I : Inv X pins σ H s) : ∀ {n : Nat} {x y : V} {v u : Value} {d e : DV} {b : Bool}, Rep mg H x d → Rep mg H y e → RelV x v → RelV y u → eqT n d e = some b → PySem.W.EqTree X.prog X.w s n v u b ∧ (cont d = true → CmpE X pins σ H s n v u b) := by
  have fl : ∀ {n : Nat} {x y : V} {v u : Value} {d e : DV} {b : Bool}, Rep mg H x d → Rep mg H y e → RelV x v → RelV y u → flEq d e = some b → PySem.W.EqTree X.prog X.w s n v u b := fun r q rv ru h => by
    obtain ⟨f1, f2, rfl⟩ := flEq_ok r q h
    exact .leaf fun A _ => eqAt_V rv ru f1 f2
  intro n
  induction n with
  | zero => intro x y v u d e b r q rv ru h; unfold eqT at h; exact ⟨fl r q rv ru h, fun z => by rw [flEq_cont h] at z; cases z⟩
  | succ n ih =>
    intro x y v u d e b r q rv ru h
    have whole := h
    unfold eqT at h
    split at h
    · rename_i e'; cases e'
    · rename_i m xs ys e'
      cases e'
      cases r with
      | @lst a vs _ r1 r2 =>
        cases q with
        | @lst a' vs' _ q1 q2 =>
          obtain rfl : v = .ref a := rv
          obtain rfl : u = .ref a' := ru
          obtain ⟨its, k1, pl, _⟩ := I.list (SqL.of r1)
          obtain ⟨its', k1', pl', _⟩ := I.list (SqL.of q1)
          have l1 : its.toArray.size = xs.length := by rw [List.size_toArray, ← k1.length, r2.length]
          have l2 : its'.toArray.size = ys.length := by rw [List.size_toArray, ← k1'.length, q2.length]
          split at h
          · rename_i hl
            obtain ⟨l, hz, rfl⟩ := Option.map_eq_some_iff.mp h
            obtain ⟨i1, i2⟩ := zipO_at hz
            have er := all_range (n := its.toArray.size) (by rw [l1, i1, hl, Nat.min_self] : l.length = _)
            have tr : ∀ j (h1 : j < its.toArray.size) (h2 : j < its'.toArray.size), PySem.W.EqTree X.prog X.w s n its.toArray[j] its'.toArray[j] ((l[j]?).getD true) := fun j h1 h2 => ?_
            · refine ⟨?_, fun _ Q hu hq => PySem.W.eq_listsT pl.isList pl'.isList (by rw [l1, l2, hl]) tr (by omega) ⟨.bl _, H, I, rfl, by rw [← er]; exact hq⟩⟩
              by_cases ha : a = a'
              · subst ha
                rw [eqT_same I.hok (.lst r1 r2) (.lst q1 q2) whole]
                exact .same
              · rw [er]
                exact .lists ha pl.isList pl'.isList (by rw [l1, l2, hl]) tr
            obtain ⟨d, hd⟩ : ∃ d, xs[j]? = some d := ⟨_, List.getElem?_eq_getElem (by omega)⟩
            obtain ⟨e, he⟩ : ∃ e, ys[j]? = some e := ⟨_, List.getElem?_eq_getElem (by omega)⟩
            obtain ⟨b', g1, g2⟩ := i2 j d e hd he
            obtain ⟨x, x1, x2⟩ := r2.getD' hd
            obtain ⟨y, y1, y2⟩ := q2.getD' he
            obtain ⟨w1, w2, w3⟩ := k1.get x1
            obtain ⟨w1', w2', w3'⟩ := k1'.get y1
            have e1 : its.toArray[j] = w1 := by have : its[j]? = some its.toArray[j] := by simp
                                                rw [w2] at this; exact (Option.some.inj this).symm
            have e2 : its'.toArray[j] = w1' := by have : its'[j]? = some its'.toArray[j] := by simp
                                                  rw [w2'] at this; exact (Option.some.inj this).symm
            rw [g1, e1, e2]
            exact (ih x2 y2 w3 w3' g2).1
          · rename_i hl
            cases h
            have ha : a ≠ a' := fun z => by
              subst z
              rw [r1] at q1; cases q1
              exact hl (by rw [← r2.length, ← q2.length])
            exact ⟨.listsLen ha pl.isList pl'.isList (by rw [l1, l2]; simpa using hl), fun _ Q hu hq => SeqAt.RcAt.lists_lengths pl.isList pl'.isList (by rw [l1, l2]; simpa using hl) (by omega) X.prog X.w X.xe _ ⟨.bl _, H, I, rfl, hq⟩⟩
    · rename_i m xs ys e'
      cases e'
      cases r with
      | @tup a vs _ r1 r2 =>
        cases q with
        | @tup a' vs' _ q1 q2 =>
          obtain rfl : v = .ref a := rv
          obtain rfl : u = .ref a' := ru
          obtain ⟨its, k1, pl, _⟩ := I.tuple (SqT.of r1)
          obtain ⟨its', k1', pl', _⟩ := I.tuple (SqT.of q1)
          have l1 : its.toArray.size = xs.length := by rw [List.size_toArray, ← k1.length, r2.length]
          have l2 : its'.toArray.size = ys.length := by rw [List.size_toArray, ← k1'.length, q2.length]
          obtain ⟨l, hz, rfl⟩ := Option.map_eq_some_iff.mp h
          obtain ⟨i1, i2⟩ := zipO_at hz
          have er := all_range (n := min its.toArray.size its'.toArray.size) (by rw [l1, l2, i1] : l.length = _)
          have hs : decide (xs.length = ys.length) = (its.toArray.size == its'.toArray.size) := by rw [l1, l2]; rfl
          have tr : ∀ j (h1 : j < its.toArray.size) (h2 : j < its'.toArray.size), PySem.W.EqTree X.prog X.w s n its.toArray[j] its'.toArray[j] ((l[j]?).getD true) := fun j h1 h2 => ?_
          · refine ⟨?_, fun _ Q hu hq => PySem.W.eq_tuplesT pl pl' tr (by omega) ⟨.bl _, H, I, rfl, by rw [← er, ← hs]; exact hq⟩⟩
            by_cases ha : a = a'
            · subst ha
              rw [eqT_same I.hok (.tup r1 r2) (.tup q1 q2) whole]
              exact .same
            · rw [er, hs]
              exact .tuples ha pl pl' tr
          obtain ⟨d, hd⟩ : ∃ d, xs[j]? = some d := ⟨_, List.getElem?_eq_getElem (by omega)⟩
          obtain ⟨e, he⟩ : ∃ e, ys[j]? = some e := ⟨_, List.getElem?_eq_getElem (by omega)⟩
          obtain ⟨b', g1, g2⟩ := i2 j d e hd he
          obtain ⟨x, x1, x2⟩ := r2.getD' hd
          obtain ⟨y, y1, y2⟩ := q2.getD' he
          obtain ⟨w1, w2, w3⟩ := k1.get x1
          obtain ⟨w1', w2', w3'⟩ := k1'.get y1
          have e1 : its.toArray[j] = w1 := by have : its[j]? = some its.toArray[j] := by simp
                                              rw [w2] at this; exact (Option.some.inj this).symm
          have e2 : its'.toArray[j] = w1' := by have : its'[j]? = some its'.toArray[j] := by simp
                                                rw [w2'] at this; exact (Option.some.inj this).symm
          rw [g1, e1, e2]
          exact (ih x2 y2 w3 w3' g2).1
    · rename_i m xs ys e'
      cases e'
      cases r with
      | @tuf a o1 vs _ r1 r0 r2 =>
        cases q with
        | @tuf a' o2 vs' _ q1 q0 q2 =>
          obtain rfl : v = .ref a := rv
          obtain rfl : u = .ref a' := ru
          obtain ⟨its, k1, pl, _⟩ := I.tuple (.inl (.inr ⟨_, r1⟩))
          obtain ⟨its', k1', pl', _⟩ := I.tuple (.inl (.inr ⟨_, q1⟩))
          have l1 : its.toArray.size = xs.length := by rw [List.size_toArray, ← k1.length, r2.length]
          have l2 : its'.toArray.size = ys.length := by rw [List.size_toArray, ← k1'.length, q2.length]
          obtain ⟨l, hz, rfl⟩ := Option.map_eq_some_iff.mp h
          obtain ⟨i1, i2⟩ := zipO_at hz
          have er := all_range (n := min its.toArray.size its'.toArray.size) (by rw [l1, l2, i1] : l.length = _)
          have hs : decide (xs.length = ys.length) = (its.toArray.size == its'.toArray.size) := by rw [l1, l2]; rfl
          have tr : ∀ j (h1 : j < its.toArray.size) (h2 : j < its'.toArray.size), PySem.W.EqTree X.prog X.w s n its.toArray[j] its'.toArray[j] ((l[j]?).getD true) := fun j h1 h2 => ?_
          · refine ⟨?_, fun _ Q hu hq => PySem.W.eq_tuplesT pl pl' tr (by omega) ⟨.bl _, H, I, rfl, by rw [← er, ← hs]; exact hq⟩⟩
            by_cases ha : a = a'
            · subst ha
              rw [eqT_same I.hok (.tuf r1 r0 r2) (.tuf q1 q0 q2) whole]
              exact .same
            · rw [er, hs]
              exact .tuples ha pl pl' tr
          obtain ⟨d, hd⟩ : ∃ d, xs[j]? = some d := ⟨_, List.getElem?_eq_getElem (by omega)⟩
          obtain ⟨e, he⟩ : ∃ e, ys[j]? = some e := ⟨_, List.getElem?_eq_getElem (by omega)⟩
          obtain ⟨b', g1, g2⟩ := i2 j d e hd he
          obtain ⟨x, x1, x2⟩ := r2.getD' hd
          obtain ⟨y, y1, y2⟩ := q2.getD' he
          obtain ⟨w1, w2, w3⟩ := k1.get x1
          obtain ⟨w1', w2', w3'⟩ := k1'.get y1
          have e1 : its.toArray[j] = w1 := by have : its[j]? = some its.toArray[j] := by simp
                                              rw [w2] at this; exact (Option.some.inj this).symm
          have e2 : its'.toArray[j] = w1' := by have : its'[j]? = some its'.toArray[j] := by simp
                                                rw [w2'] at this; exact (Option.some.inj this).symm
          rw [g1, e1, e2]
          exact (ih x2 y2 w3 w3' g2).1
    · rename_i m xs ys e'
      cases e'
      cases r with
      | @dct a vs _ r1 r2 =>
        cases q with
        | @dct a' vs' _ q1 q2 =>
          obtain rfl : v = .ref a := rv
          obtain rfl : u = .ref a' := ru
          obtain ⟨_, m1, ka, kv, da⟩ := dk_rd I.hok r1
          obtain ⟨_, m2, kb, kv', db⟩ := dk_rd I.hok q1
          have nd := dk_nodup I.hok r1
          have nd' := dk_nodup I.hok q1
          obtain ⟨l, hz, rfl⟩ := Option.map_eq_some_iff.mp h
          obtain ⟨i1, i2⟩ := dctO_at hz
          have la : ka.length = xs.length := by rw [← kv.length, r2.length]
          have lb : kb.length = ys.length := by rw [← kv'.length, q2.length]
          let eK : Key → Bool := fun k => match lookK k xs, lookK k ys with
            | some d, some d' => (eqT n d d').getD true
            | _, _ => false
          have place : ∀ (i : Nat) (k : Key) (w1 : Value), ka[i]? = some (k, w1) → ∃ x d, vs[i]? = some (k, x) ∧ RelV x w1 ∧ xs[i]? = some (k, d) ∧ Rep mg H x d ∧ lookK k xs = some d := fun i k w1 hk => by
            obtain ⟨x, x1, x2⟩ := kv_get' kv hk
            obtain ⟨d, d1, d2⟩ := repk_get' r2 x1
            refine ⟨x, d, x1, x2, d1, d2, ?_⟩
            cases hl : lookK k xs with
            | none => exact absurd (List.mem_map.mpr ⟨_, List.mem_of_getElem? d1, rfl⟩) (lookK_none hl)
            | some d0 =>
              obtain ⟨i0, h0⟩ := lookK_mem hl
              obtain ⟨x0, y1, _⟩ := repk_get r2 h0
              have := key_inj nd x1 y1
              subst this
              rw [d1] at h0; cases h0; rfl
          have other : ∀ (k : Key) (w2 : Value), valueAt kb k = some w2 → ∃ y d', RelV y w2 ∧ Rep mg H y d' ∧ lookK k ys = some d' := fun k w2 hk => by
            obtain ⟨i, hi⟩ := kv_of_mem hk
            obtain ⟨y, y1, y2⟩ := kv_get' kv' hi
            obtain ⟨d, d1, d2⟩ := repk_get' q2 y1
            refine ⟨y, d, y2, d2, ?_⟩
            cases hl : lookK k ys with
            | none => exact absurd (List.mem_map.mpr ⟨_, List.mem_of_getElem? d1, rfl⟩) (lookK_none hl)
            | some d0 =>
              obtain ⟨i0, h0⟩ := lookK_mem hl
              obtain ⟨x0, z1, _⟩ := repk_get q2 h0
              have := key_inj nd' y1 z1
              subst this
              rw [d1] at h0; cases h0; rfl
          have none' : ∀ k : Key, valueAt kb k = none → lookK k ys = none := fun k hk => by
            cases hl : lookK k ys with
            | none => rfl
            | some d0 =>
              exfalso
              obtain ⟨i0, h0⟩ := lookK_mem hl
              have m0 : k ∈ kb.map (·.1) := by
                rw [← kv_keys kv', ← repk_keys q2]
                exact List.mem_map.mpr ⟨_, List.mem_of_getElem? h0, rfl⟩
              obtain ⟨p, hp, rfl⟩ := List.mem_map.mp m0
              have := Option.map_eq_none_iff.mp hk
              rw [List.find?_eq_none] at this
              exact this p hp (by simp)
          have ev : (decide (xs.length = ys.length) && l.all id) = (ka.length == kb.length && ka.all fun p => (valueAt kb p.1).isSome && eK p.1) := by
            rw [la, lb]
            congr 1
            rw [Bool.eq_iff_iff, List.all_eq_true, List.all_eq_true]
            constructor
            · intro hall p hp
              obtain ⟨i, hi⟩ := List.getElem?_of_mem hp
              obtain ⟨k, w1⟩ := p
              obtain ⟨x, d, _, _, d1, _, dl⟩ := place i k w1 hi
              obtain ⟨b', g1, g2⟩ := i2 i k d d1
              have bt : b' = true := hall b' (List.mem_of_getElem? g1)
              subst bt
              cases hk : valueAt kb k with
              | none => rw [none' k hk] at g2; cases g2
              | some w2 =>
                obtain ⟨y, d', _, _, dl'⟩ := other k w2 hk
                rw [dl'] at g2
                show (true && eK k) = true
                simp only [eK, dl, dl', g2, Option.getD_some, Bool.and_self]
            · intro hall b hb
              obtain ⟨i, hi⟩ := List.getElem?_of_mem hb
              have hil : i < l.length := (List.getElem?_eq_some_iff.mp hi).1
              obtain ⟨⟨k, w1⟩, hp⟩ : ∃ p, ka[i]? = some p := ⟨_, List.getElem?_eq_getElem (by omega)⟩
              obtain ⟨x, d, _, _, d1, _, dl⟩ := place i k w1 hp
              obtain ⟨b', g1, g2⟩ := i2 i k d d1
              rw [hi] at g1; cases g1
              have := hall _ (List.mem_of_getElem? hp)
              rw [Bool.and_eq_true] at this
              obtain ⟨w2, hk⟩ := Option.isSome_iff_exists.mp this.1
              obtain ⟨y, d', _, _, dl'⟩ := other k w2 hk
              rw [dl'] at g2
              have t2 := this.2
              simp only [eK, dl, dl', g2, Option.getD_some] at t2
              exact t2
          have tr : ∀ k w1 w2, (k, w1) ∈ ka → valueAt kb k = some w2 → PySem.W.EqTree X.prog X.w s n w1 w2 (eK k) := fun k w1 w2 hm hk => ?_
          · refine ⟨?_, fun _ Q hu hq => PySem.W.eq_dictsT m1 m2 da db tr (by omega) ⟨.bl _, H, I, rfl, by rw [← ev]; exact hq⟩⟩
            by_cases ha : a = a'
            · subst ha
              rw [eqT_same I.hok (.dct r1 r2) (.dct q1 q2) whole]
              exact .same
            · rw [ev]
              exact .dicts ha m1 m2 da db tr
          obtain ⟨i, hi⟩ := List.getElem?_of_mem hm
          obtain ⟨x, d, _, rx, d1, rd, dl⟩ := place i k w1 hi
          obtain ⟨y, d', ry, rd', dl'⟩ := other k w2 hk
          obtain ⟨b', g1, g2⟩ := i2 i k d d1
          rw [dl'] at g2
          have : eK k = b' := by simp only [eK, dl, dl', g2, Option.getD_some]
          rw [this]
          exact (ih rd rd' rx ry g2).1
    · exact ⟨fl r q rv ru h, fun z => by rw [flEq_cont h] at z; cases z⟩
theorem eq_tree (I : Inv X pins σ H s) {n : Nat} {x y : V} {v u : Value} {d e : DV} {b : Bool} (r : Rep mg H x d) (q : Rep mg H y e) (rv : RelV x v) (ru : RelV y u) (h : eqT n d e = some b) : PySem.W.EqTree X.prog X.w s n v u b := (eq_tree2 I r q rv ru h).1
end
end Lb
/-! The operators == , !=, in, not in. -/
namespace PySem.SeqAt
open AutoSeq1 (wpAny_loadPart')
open MeetsSeq MeetsSeq2 MeetsSeq3 SeqRoads2
/-- looking through a list, each answer of this program and this world -/
theorem lookThrough {P : Program} {W : World} (la : Addr) (its : Array Value) (cap : Nat) (own : Option Addr) (slt : Array (Option Value)) (what : Value) (ans : Nat → Bool) (left : Nat) :
    ∀ from_ : Nat, its.size - from_ = left → MeetsIn P W (Builtin.«list.__contains__.loop» ⟨[.ref la, what, rawInt from_], []⟩)
      (fun A R s => s.heap.get? la = some { cls := .type "list", dict := own, data := .seq its cap, slots := slt } ∧ (∀ j (h : j < its.size), EqIn P W A.in1 s its[j] what (ans j)) ∧ R (.ok (.ret (.bool (((List.range its.size).drop from_).any ans)))) s) := by
  induction left with
  | zero =>
    intro from_ size A R s pre
    obtain ⟨hp, g, d, tk, os⟩ := s
    obtain ⟨at_, _, fin⟩ := pre
    wp_walk using wpAny_loadPart' at_
    have no : its[((from_ : Nat) : Int).toNat]? = none := by simp; omega
    rw [show (List.range its.size).drop from_ = [] by simp; omega] at fin
    rw [no]
    wp_walk
    exact fin
  | succ left again =>
    intro from_ size A R s pre
    obtain ⟨hp, g, d, tk, os⟩ := s
    obtain ⟨at_, each, fin⟩ := pre
    wp_walk using wpAny_loadPart' at_
    have lt : from_ < its.size := by omega
    rw [show (List.range its.size).drop from_ = from_ :: (List.range its.size).drop (from_ + 1) by simp [List.drop_eq_getElem_cons, lt], List.any_cons] at fin
    rw [show its[((from_ : Nat) : Int).toNat]? = some its[from_] by simp [lt]]
    refine wpAny_bind (each from_ lt _ _ ?_)
    cases hit : ans from_ with
    | true =>
      rw [hit] at fin
      wp_walk
      exact fin
    | false =>
      rw [hit] at fin
      wp_walk
      rw [show ((from_ : Int) + 1) = ((from_ + 1 : Nat) : Int) by push_cast; rfl]
      refine ⟨plainId_quiet plain_contains_loop _, codeAny_builtin entry_contains_loop ?_⟩
      rw [Around.under_plainId plain_contains_loop _]
      exact again (from_ + 1) (by omega) A R _ ⟨at_, each, by simpa using fin⟩
theorem lookThroughAll {P : Program} {W : World} (la : Addr) (its : Array Value) (cap : Nat) (own : Option Addr) (slt : Array (Option Value)) (what : Value) (ans : Nat → Bool) :
    MeetsIn P W (Builtin.«list.__contains__» ⟨[.ref la, what], []⟩)
      (fun A R s => s.heap.get? la = some { cls := .type "list", dict := own, data := .seq its cap, slots := slt } ∧ (∀ j (h : j < its.size), EqIn P W A.in1 s its[j] what (ans j)) ∧ R (.ok (.ret (.bool ((List.range its.size).any ans)))) s) := by
  intro A R s pre
  obtain ⟨hp, g, d, tk, os⟩ := s
  obtain ⟨at_, each, fin⟩ := pre
  wp_walk using wpAny_loadPart' at_
  refine ⟨plainId_quiet plain_contains_loop _, codeAny_builtin entry_contains_loop ?_⟩
  rw [Around.under_plainId plain_contains_loop _]
  exact lookThrough la its cap own slt what ans _ 0 rfl A R _ ⟨at_, each, by simpa using fin⟩
section
variable {P : Program} {W : World} {A : Around} {E : Value → Shared → Prop} {s : Shared}
theorem inList_in {la : Addr} {its : Array Value} {what : Value} {Q : Value → Shared → Prop} (ans : Nat → Bool) (isl : s.heap.IsList la its) (each : ∀ j (h : j < its.size), EqIn P W A.in1 s its[j] what (ans j)) (fin : Q (.bool ((List.range its.size).any ans)) s) :
    wpAny (model P W) A (compareOp .In what (.ref la)) Q E s := by
  obtain ⟨⟨cls, dd, data, sl⟩, at_, hc, n, hd⟩ := id isl
  simp only at hc hd
  subst hc hd
  show wpAny _ A (do return .bool (← contains (.ref la) what)) Q E s
  refine wpAny_bind (wpAny_contains_slot ⟨_, at_, rfl⟩ F.slot_list_contains (wpAny_mono (call_meetsIn F.slot_list_contains ⟨_, at_, rfl⟩ F.entry_list_contains (F.args_list_contains_2 _ _) (lookThroughAll la its n dd sl what ans) (Q := fun v s' => ∃ b, v = .bool b ∧ Q (.bool b) s') (E := E) ⟨at_, each, _, rfl, fin⟩) (fun v s' hv => ?_) fun _ _ e => e))
  obtain ⟨b, rfl, hq⟩ := hv
  exact wpAny_truthy_bool (wpAny_pure hq)
theorem notInList_in {la : Addr} {its : Array Value} {what : Value} {Q : Value → Shared → Prop} (ans : Nat → Bool) (isl : s.heap.IsList la its) (each : ∀ j (h : j < its.size), EqIn P W A.in1 s its[j] what (ans j)) (fin : Q (.bool (!(List.range its.size).any ans)) s) :
    wpAny (model P W) A (compareOp .NotIn what (.ref la)) Q E s := by
  obtain ⟨⟨cls, dd, data, sl⟩, at_, hc, n, hd⟩ := id isl
  simp only at hc hd
  subst hc hd
  show wpAny _ A (do return .bool (!(← contains (.ref la) what))) Q E s
  refine wpAny_bind (wpAny_contains_slot ⟨_, at_, rfl⟩ F.slot_list_contains (wpAny_mono (call_meetsIn F.slot_list_contains ⟨_, at_, rfl⟩ F.entry_list_contains (F.args_list_contains_2 _ _) (lookThroughAll la its n dd sl what ans) (Q := fun v s' => ∃ b, v = .bool b ∧ Q (.bool (!b)) s') (E := E) ⟨at_, each, _, rfl, fin⟩) (fun v s' hv => ?_) fun _ _ e => e))
  obtain ⟨b, rfl, hq⟩ := hv
  exact wpAny_truthy_bool (wpAny_pure hq)
end
end PySem.SeqAt
namespace Lb
open PySem PySem.Spec PyProof.Rows L2
/-! ### == -/
def eqTC (d e : DV) : Option Bool := if cont d then eqT 40 d e else none
def rEqT (mg : Mg) : R2 := fun x y H Q => ∃ d e b, Rep mg H x d ∧ Rep mg H y e ∧ eqTC d e = some b ∧ Q (.bl b) H
theorem op_eqT {X : Cx} (hu : X.A.units + 64 < cLine) : OpR X (compareOp .Eq) (rEqT X.mg) := by
  intro pins s σ H x y v u Q I rx ry h
  obtain ⟨d, e, b, rd, re, hb, q⟩ := h
  unfold eqTC at hb
  split at hb
  · rename_i hc
    exact (eq_tree2 I rd re rx ry hb).2 hc Q (by omega) q
  · cases hb
def orO (a b : Option Bool) : Option Bool := match a with
  | some x => some x
  | none => b
theorem orO_some {a b : Option Bool} {c : Bool} (h : orO a b = some c) : a = some c ∨ b = some c := by
  cases a with
  | none => exact .inr h
  | some x => exact .inl h
def rFl (neg : Bool) : R2 := fun x y H Q => flatV x = true ∧ flatV y = true ∧ Q (.bl (if neg then !eqV x y else eqV x y)) H
theorem rcAt_V {A : Around} {s : Shared} {y x : V} {u v : Value} (ry : RelV y u) (rx : RelV x v) (fy : flatV y = true) (fx : flatV x = true) : SeqAt.RcAt A s u v (eqV y x) := by
  cases y with
  | non =>
    cases ry
    cases x with
    | non => cases rx; exact SeqAt.RcAt.none_none
    | bl b => cases rx; exact SeqAt.RcAt.none_bool b
    | int b => obtain ⟨t', rfl⟩ := rx; exact SeqAt.RcAt.none_int b t'
    | str b => obtain ⟨t', rfl⟩ := rx; exact SeqAt.RcAt.none_str b t'
    | _ => exact absurd (show false = true from fx) Bool.false_ne_true
  | bl a =>
    cases ry
    cases x with
    | non => cases rx; exact SeqAt.RcAt.bool_none a
    | bl b => cases rx; exact SeqAt.RcAt.bool_bool a b
    | int b => obtain ⟨t', rfl⟩ := rx; exact SeqAt.RcAt.bool_int a b t'
    | str b => obtain ⟨t', rfl⟩ := rx; exact SeqAt.RcAt.bool_str a b t'
    | _ => exact absurd (show false = true from fx) Bool.false_ne_true
  | int a =>
    obtain ⟨t, rfl⟩ := ry
    cases x with
    | non => cases rx; exact SeqAt.RcAt.int_none a t
    | bl b => cases rx; exact SeqAt.RcAt.int_bool a t b
    | int b => obtain ⟨t', rfl⟩ := rx; exact SeqAt.RcAt.int_int a t b t'
    | str b => obtain ⟨t', rfl⟩ := rx; exact SeqAt.RcAt.int_str a t b t'
    | _ => exact absurd (show false = true from fx) Bool.false_ne_true
  | str a =>
    obtain ⟨t, rfl⟩ := ry
    cases x with
    | non => cases rx; exact SeqAt.RcAt.str_none a t
    | bl b => cases rx; exact SeqAt.RcAt.str_bool a t b
    | int b => obtain ⟨t', rfl⟩ := rx; exact SeqAt.RcAt.str_int a t b t'
    | str b => obtain ⟨t', rfl⟩ := rx; exact SeqAt.RcAt.str_str a t b t'
    | _ => exact absurd (show false = true from fx) Bool.false_ne_true
  | _ => exact absurd (show false = true from fy) Bool.false_ne_true
theorem op_eqF {X : Cx} : OpR X (compareOp .Eq) (rFl false) := by
  intro pins s σ H x y v u Q I rx ry h
  obtain ⟨f1, f2, q⟩ := h
  exact rcAt_V rx ry f1 f2 X.prog X.w X.xe _ ⟨.bl _, H, I, rfl, q⟩
/-- == of flat things, of lists, tuples and dicts, of other data -/
def eqA2 (d e : DV) : Option Bool := orO (flEq d e) (orO (eqTC d e) (eqPy d e))
def rEqA2 (mg : Mg) : R2 := fun x y H Q => rFl false x y H Q ∨ rEqT mg x y H Q ∨ rEqP mg x y H Q
theorem op_eqA2 {X : Cx} (hu : X.A.units + 64 < cLine) : OpR X (compareOp .Eq) (rEqA2 X.mg) := op_eqF.or ((op_eqT hu).or (op_eqP hu))
theorem flEq_view {B H : Hp} {mg : Mg} (le : Sub B H) {x y : V} {d e : DV} {b : Bool} (vx : View mg B H x d) (vy : View mg B H y e) (h : flEq d e = some b) : flatV x = true ∧ flatV y = true ∧ b = eqV x y := flEq_ok (vx.rep le) (vy.rep le) h
theorem prim_eqA2 {mg : Mg} : Prim2 mg (rEqA2 mg) (rvB eqA2) := primB fun B H x y dx dy b Q le vx vy e k => by
  rcases orO_some e with e | e
  · obtain ⟨f1, f2, rfl⟩ := flEq_view le vx vy e
    exact .inl ⟨f1, f2, k⟩
  · rcases orO_some e with e | e
    · exact .inr (.inl ⟨dx, dy, b, vx.rep le, vy.rep le, e, k⟩)
    · exact .inr (.inr ⟨dx, dy, b, vx.rep le, vy.rep le, e, k⟩)
/-! ### != -/
/-- lists of flat things -/
def neFl (d e : DV) : Option Bool := match d, e with
  | .lst xs, .lst ys => if xs.length = ys.length then (zipO flEq xs ys).map fun l => !l.all id else some true
  | _, _ => none
def rNeFl (mg : Mg) : R2 := fun x y H Q => ∃ d e b, Rep mg H x d ∧ Rep mg H y e ∧ neFl d e = some b ∧ Q (.bl b) H
theorem op_neFl {X : Cx} (hu : X.A.units + 64 < cLine) : OpR X (compareOp .NotEq) (rNeFl X.mg) := by
  intro pins s σ H x y v u Q I rx ry h
  obtain ⟨d, e, b, rd, re, hb, q⟩ := h
  unfold neFl at hb
  split at hb
  · rename_i xs ys
    cases rd with
    | @lst a vs _ r1 r2 =>
      cases re with
      | @lst a' vs' _ q1 q2 =>
        obtain rfl : v = .ref a := rx
        obtain rfl : u = .ref a' := ry
        obtain ⟨its, k1, pl, _⟩ := I.list (SqL.of r1)
        obtain ⟨its', k1', pl', _⟩ := I.list (SqL.of q1)
        have l1 : its.toArray.size = xs.length := by rw [List.size_toArray, ← k1.length, r2.length]
        have l2 : its'.toArray.size = ys.length := by rw [List.size_toArray, ← k1'.length, q2.length]
        split at hb
        · rename_i hl
          obtain ⟨l, hz, rfl⟩ := Option.map_eq_some_iff.mp hb
          obtain ⟨i1, i2⟩ := zipO_at hz
          have er := all_range (n := its.toArray.size) (by rw [l1, i1, hl, Nat.min_self] : l.length = _)
          refine SeqAt.RcNeAt.lists (e := fun j => (l[j]?).getD true) pl.isList pl'.isList (by rw [l1, l2, hl]) (by omega) (fun j h1 h2 => ?_) X.prog X.w X.xe _ ⟨.bl _, H, I, rfl, by rw [← er]; exact q⟩
          obtain ⟨d, hd⟩ : ∃ d, xs[j]? = some d := ⟨_, List.getElem?_eq_getElem (by omega)⟩
          obtain ⟨e, he⟩ : ∃ e, ys[j]? = some e := ⟨_, List.getElem?_eq_getElem (by omega)⟩
          obtain ⟨b', g1, g2⟩ := i2 j d e hd he
          obtain ⟨x, x1, x2⟩ := r2.getD' hd
          obtain ⟨y, y1, y2⟩ := q2.getD' he
          obtain ⟨w1, w2, w3⟩ := k1.get x1
          obtain ⟨w1', w2', w3'⟩ := k1'.get y1
          have e1 : its.toArray[j] = w1 := by have : its[j]? = some its.toArray[j] := by simp
                                              rw [w2] at this; exact (Option.some.inj this).symm
          have e2 : its'.toArray[j] = w1' := by have : its'[j]? = some its'.toArray[j] := by simp
                                                rw [w2'] at this; exact (Option.some.inj this).symm
          rw [g1, e1, e2]
          obtain ⟨f1, f2, rfl⟩ := flEq_ok x2 y2 g2
          exact eqAt_V w3 w3' f1 f2
        · rename_i hl
          cases hb
          exact SeqAt.RcNeAt.lists_lengths pl.isList pl'.isList (by rw [l1, l2]; simpa using hl) (by omega) X.prog X.w X.xe _ ⟨.bl _, H, I, rfl, q⟩
  · cases hb
def neA2 (d e : DV) : Option Bool := orO (neDV d e) (neFl d e)
def rNeA2 (mg : Mg) : R2 := fun x y H Q => rNeA mg x y H Q ∨ rNeFl mg x y H Q
theorem op_neA2 {X : Cx} (hu : X.A.units + 64 < cLine) : OpR X (compareOp .NotEq) (rNeA2 X.mg) := (op_neA hu).or (op_neFl hu)
theorem prim_neA2 {mg : Mg} : Prim2 mg (rNeA2 mg) (rvB neA2) := fun B H x y dx dy rv Q le vx vy e k => by
  unfold rvB at e
  obtain ⟨b, e', rfl⟩ := Option.map_eq_some_iff.mp e
  rcases orO_some e' with e | e
  · exact .inl (prim_neA B H x y dx dy _ Q le vx vy (by unfold rvB; rw [e]; rfl) k)
  · exact .inr ⟨dx, dy, b, vx.rep le, vy.rep le, e, k _ _ _ (res_bl le b)⟩
/-! ### in -/
def keyOf : DV → Option Key
  | .int i => some (.inl i)
  | .str x => some (.inr x)
  | _ => none
/-- in a list, each item compared -/
def inL (d : DV) (l : List DV) : Option Bool := (zipO (eqT 40) l (List.replicate l.length d)).map fun bs => bs.any id
def flAll (l : List DV) : Bool := l.all fun d => (flV d).isSome
def fIn (d e : DV) : Option Bool := match e with
  | .lst l => if (flV d).isSome && flAll l then some (l.any fun z => (flEq z d).getD false) else inL d l
  | .tup l => if (flV d).isSome && flAll l then some (l.any fun z => (flEq z d).getD false) else none
  | .dct kvs => match keyOf d with
    | some k => some (lookK k kvs).isSome
    | none => none
  | _ => none
def fNotIn (d e : DV) : Option Bool := (fIn d e).map not
theorem flAll_ok {mg : Mg} {B : Hp} : ∀ {xs : List V} {l : List DV}, Reps mg B xs l → flAll l = true → xs.all flatV = true ∧ ∀ {x : V} {d : DV}, Rep mg B x d → (flV d).isSome = true → flatV x = true ∧ inV x xs = l.any fun z => (flEq z d).getD false
  | _, _, .nil, _ => ⟨rfl, fun r h => by
    obtain ⟨v, hv⟩ := Option.isSome_iff_exists.mp h
    exact ⟨(flV_rep r hv).2, rfl⟩⟩
  | x :: xs, d :: ds, .cons r q, h => by
    rw [show flAll (d :: ds) = ((flV d).isSome && flAll ds) from rfl, Bool.and_eq_true] at h
    obtain ⟨i1, i2⟩ := flAll_ok q h.2
    obtain ⟨v, hv⟩ := Option.isSome_iff_exists.mp h.1
    obtain ⟨rfl, fx⟩ := flV_rep r hv
    refine ⟨by rw [List.all_cons, fx, i1]; rfl, fun {y e} ry hy => ?_⟩
    obtain ⟨fy, ih⟩ := i2 ry hy
    obtain ⟨u, hu⟩ := Option.isSome_iff_exists.mp hy
    obtain ⟨rfl, _⟩ := flV_rep ry hu
    refine ⟨fy, ?_⟩
    unfold inV at ih ⊢
    rw [List.any_cons, List.any_cons, ih]
    congr 1
    simp only [flEq, hv, hu, Option.getD_some]
def rInT (mg : Mg) (neg : Bool) : R2 := fun x y H Q => ∃ d l b, Rep mg H x d ∧ Rep mg H y (.lst l) ∧ inL d l = some b ∧ Q (.bl (if neg then !b else b)) H
theorem inL_ok {X : Cx} {pins : List (Addr × Obj)} {s : Shared} {σ : Sg} {H : Hp} {mg : Mg} (I : Inv X pins σ H s) {x : V} {v : Value} {d : DV} {l : List DV} {b : Bool} {a : Addr} {vs : List V} (rx : RelV x v) (rd : Rep mg H x d) (r1 : H a = some (.lst vs)) (r2 : Reps mg H vs l) (h : inL d l = some b) (hu : X.A.units + 64 < cLine) :
    ∃ (its : Array Value) (ans : Nat → Bool), s.heap.IsList a its ∧ (∀ j (h : j < its.size), SeqAt.EqIn X.prog X.w X.A.in1 s its[j] v (ans j)) ∧ (List.range its.size).any ans = b := by
  obtain ⟨bs, hz, rfl⟩ := Option.map_eq_some_iff.mp h
  obtain ⟨i1, i2⟩ := zipO_at hz
  obtain ⟨its, k1, pl, _⟩ := I.list (SqL.of r1)
  have ll : its.length = l.length := by rw [← k1.length, r2.length]
  have lb : bs.length = l.length := by rw [i1]; simp
  refine ⟨its.toArray, fun j => (bs[j]?).getD false, pl.isList, fun j hj => ?_, ?_⟩
  · have hj' : j < its.length := by simpa using hj
    obtain ⟨e, he⟩ : ∃ e, l[j]? = some e := ⟨_, List.getElem?_eq_getElem (by omega)⟩
    obtain ⟨b', g1, g2⟩ := i2 j e d he (by rw [List.getElem?_replicate, if_pos (by omega)])
    obtain ⟨x', x1, x2⟩ := r2.getD' he
    obtain ⟨w1, w2, w3⟩ := k1.get x1
    have e1 : its.toArray[j] = w1 := by have : its[j]? = some its.toArray[j] := by simp
                                        rw [w2] at this; exact (Option.some.inj this).symm
    show SeqAt.EqIn X.prog X.w X.A.in1 s its.toArray[j] v ((bs[j]?).getD false)
    rw [g1, e1]
    exact (eq_tree I x2 rd w3 rx g2).at X.A.in1 (by show X.A.units + 1 + 40 < cLine; omega)
  · have hs : its.toArray.size = bs.length := by rw [List.size_toArray]; omega
    rw [hs, Bool.eq_iff_iff, List.any_eq_true, List.any_eq_true]
    constructor
    · rintro ⟨j, hj, hb⟩
      have hj' : j < bs.length := by simpa using hj
      have hb : (bs[j]?).getD false = true := hb
      rw [List.getElem?_eq_getElem hj'] at hb
      exact ⟨_, List.getElem_mem hj', hb⟩
    · rintro ⟨b, hb, hbt⟩
      obtain ⟨j, hj⟩ := List.getElem?_of_mem hb
      exact ⟨j, by simpa using (List.getElem?_eq_some_iff.mp hj).1, by show (bs[j]?).getD false = true; rw [hj]; exact hbt⟩
theorem op_inT {X : Cx} (hu : X.A.units + 64 < cLine) : OpR X (compareOp .In) (rInT X.mg false) := by
  intro pins s σ H x y v u Q I rx ry h
  obtain ⟨d, l, b, rd, re, hb, q⟩ := h
  cases re with
  | lst r1 r2 =>
    obtain rfl : u = .ref _ := ry
    obtain ⟨its, ans, isl, each, fin⟩ := inL_ok I rx rd r1 r2 hb hu
    exact SeqAt.inList_in ans isl each (by rw [fin]; exact ⟨.bl _, H, I, rfl, q⟩)
theorem op_notInT {X : Cx} (hu : X.A.units + 64 < cLine) : OpR X (compareOp .NotIn) (rInT X.mg true) := by
  intro pins s σ H x y v u Q I rx ry h
  obtain ⟨d, l, b, rd, re, hb, q⟩ := h
  cases re with
  | lst r1 r2 =>
    obtain rfl : u = .ref _ := ry
    obtain ⟨its, ans, isl, each, fin⟩ := inL_ok I rx rd r1 r2 hb hu
    exact SeqAt.notInList_in ans isl each (by rw [fin]; exact ⟨.bl _, H, I, rfl, q⟩)
theorem lookK_rep {mg : Mg} {B : Hp} {k : Key} : ∀ {xs : List (Key × V)} {ds : List (Key × DV)}, RepK mg B xs ds → (lookK k ds = none ∧ valV xs k = none) ∨ ∃ d v, lookK k ds = some d ∧ valV xs k = some v ∧ Rep mg B v d
  | _, _, .nil => .inl ⟨rfl, rfl⟩
  | (k', x) :: xs, (_, d) :: ds, .cons r q => by
    by_cases hk : k' = k
    · subst hk
      exact .inr ⟨d, x, by simp [lookK], by simp [valV], r⟩
    · have e1 : lookK k ((k', d) :: ds) = lookK k ds := by simp [lookK, hk]
      have e2 : valV ((k', x) :: xs) k = valV xs k := by simp [valV, hk]
      rw [e1, e2]
      exact lookK_rep q
theorem keyOf_rep {mg : Mg} {B : Hp} {x : V} {d : DV} {k : Key} (r : Rep mg B x d) (h : keyOf d = some k) : x = kV k := by
  cases r <;> simp only [keyOf, reduceCtorEq, Option.some.injEq] at h <;> subst h <;> rfl
/-- a key in a dict -/
def rInK (neg : Bool) : R2 := fun x y H Q => ∃ a r, y = .ref a ∧ DGet H a x r ∧ Q (.bl (if neg then !r.isSome else r.isSome)) H
theorem op_inK {X : Cx} (hu : X.A.units + 64 < cLine) : OpR X (compareOp .In) (rInK false) := by
  intro pins s σ H x y v u Q I rx ry h
  obtain ⟨a, r, rfl, g, q⟩ := h
  obtain rfl : u = .ref a := ry
  exact d_in (by omega) I g rx fun s' I' => ⟨.bl _, H, I', rfl, q⟩
theorem op_notInK {X : Cx} (hu : X.A.units + 64 < cLine) : OpR X (compareOp .NotIn) (rInK true) := by
  intro pins s σ H x y v u Q I rx ry h
  obtain ⟨a, r, rfl, g, q⟩ := h
  obtain rfl : u = .ref a := ry
  exact d_notIn (by omega) I g rx fun s' I' => ⟨.bl _, H, I', rfl, q⟩
def rInA (K : PySem.W.Frag) (mg : Mg) (neg : Bool) : R2 := fun x y H Q => rIn K neg x y H Q ∨ rInT mg neg x y H Q ∨ rInK neg x y H Q
theorem op_inA {X : Cx} (hu : X.A.units + 64 < cLine) : OpR X (compareOp .In) (rInA X.K X.mg false) := op_in_seq.or ((op_inT hu).or (op_inK hu))
theorem op_notInA {X : Cx} (hu : X.A.units + 64 < cLine) : OpR X (compareOp .NotIn) (rInA X.K X.mg true) := op_notIn_seq.or ((op_notInT hu).or (op_notInK hu))
theorem fIn_ok {mg : Mg} {K : PySem.W.Frag} {neg : Bool} {B H : Hp} {x y : V} {d e : DV} {b : Bool} {Q : VK} (le : Sub B H) (vx : View mg B H x d) (vy : View mg B H y e) (h : fIn d e = some b) (q : Q (.bl (if neg then !b else b)) H) : rInA K mg neg x y H Q := by
  have rx := vx.rep le
  unfold fIn at h
  split at h
  · rename_i l
    split at h
    · rename_i hf
      cases h
      rw [Bool.and_eq_true] at hf
      obtain ⟨a, xs, rfl, ha, ra⟩ := vy.list le
      obtain ⟨f1, f2⟩ := flAll_ok (ra.mono le) hf.2
      obtain ⟨f3, f4⟩ := f2 rx hf.1
      exact .inl ⟨a, xs, rfl, .inl (SqL.of ha), f3, f1, by rw [f4]; exact q⟩
    · obtain ⟨a, xs, rfl, ha, ra⟩ := vy.list le
      exact .inr (.inl ⟨d, l, b, rx, .lst ha (ra.mono le), h, q⟩)
  · rename_i l
    split at h
    · rename_i hf
      cases h
      rw [Bool.and_eq_true] at hf
      obtain ⟨a, xs, rfl, ha, ra⟩ := vy.tuple le
      obtain ⟨f1, f2⟩ := flAll_ok (ra.mono le) hf.2
      obtain ⟨f3, f4⟩ := f2 rx hf.1
      exact .inl ⟨a, xs, rfl, .inr (SqT.of ha), f3, f1, by rw [f4]; exact q⟩
    · cases h
  · rename_i kvs
    split at h
    · rename_i k hk
      cases h
      obtain ⟨a, xs, rfl, ha, ra⟩ := vy.dict le
      obtain rfl := keyOf_rep rx hk
      rcases lookK_rep (k := k) ra with ⟨h1, h2⟩ | ⟨d', v', h1, h2, _⟩
      · rw [h1] at q
        exact .inr (.inr ⟨a, none, rfl, .inl ⟨xs, k, ha, rfl, h2.symm⟩, q⟩)
      · rw [h1] at q
        exact .inr (.inr ⟨a, some v', rfl, .inl ⟨xs, k, ha, rfl, h2.symm⟩, q⟩)
    · cases h
  · cases h
theorem prim_inA {mg : Mg} {K : PySem.W.Frag} : Prim2 mg (rInA K mg false) (rvB fIn) := primB fun B H x y dx dy b Q le vx vy e k => fIn_ok le vx vy e k
theorem prim_notInA {mg : Mg} {K : PySem.W.Frag} : Prim2 mg (rInA K mg true) (rvB fNotIn) := primB fun B H x y dx dy b Q le vx vy e k => by
  obtain ⟨c, e', rfl⟩ := Option.map_eq_some_iff.mp e
  exact fIn_ok le vx vy e' k
end Lb
/-! list(), tuple(), dict(), isinstance, join. -/
namespace Lb
open PySem PySem.Spec PyProof.Rows L2
section
variable {KK : PySem.W.Frag} {mg : Mg} {K : PySem.W.Frag}
def fListOf : List DV → Option RV
  | [.lst xs] => some (.ol false xs)
  | [.tup xs] => some (.ol false xs)
  | _ => none
theorem prim_listOf : PrimN mg (fun xs H Q => ∃ p ys, xs = [.ref p] ∧ (SqL K H p ys ∨ SqT K H p ys) ∧ ∀ l, H l = none → Q (.ref l) (upd H l (.lst ys))) fListOf := fun B H xs ds rv Q le vs e k => by
  unfold fListOf at e
  split at e
  · cases e
    obtain ⟨v, rfl, q⟩ := vs.one
    obtain ⟨a, ys, rfl, h, r⟩ := q.list le
    exact ⟨a, ys, rfl, .inl (SqL.of h), fun l hl => k _ _ _ (res_lst le hl r)⟩
  · cases e
    obtain ⟨v, rfl, q⟩ := vs.one
    obtain ⟨a, ys, rfl, h, r⟩ := q.tuple le
    exact ⟨a, ys, rfl, .inr (SqT.of h), fun l hl => k _ _ _ (res_lst le hl r)⟩
  · cases e
def fTupOf : List DV → Option RV
  | [.lst xs] => some (.v (.tup xs))
  | [.tup xs] => some (.v (.tup xs))
  | _ => none
theorem View.tupR {B H : Hp} (le : Sub B H) {v : V} {ds : List DV} (q : View mg B H v (.tup ds)) : Rep mg B v (.tup ds) := by
  cases q with | r q => exact q
theorem prim_tupOf : PrimN mg (fun xs H Q => ∃ p ys, xs = [.ref p] ∧ ((SqL K H p ys ∧ ∀ l, H l = none → Q (.ref l) (upd H l (.tup ys))) ∨ (SqT K H p ys ∧ Q (.ref p) H))) fTupOf := fun B H xs ds rv Q le vs e k => by
  unfold fTupOf at e
  split at e
  · cases e
    obtain ⟨v, rfl, q⟩ := vs.one
    obtain ⟨a, ys, rfl, h, r⟩ := q.list le
    exact ⟨a, ys, rfl, .inl ⟨SqL.of h, fun l hl => k _ _ _ (res_tup le hl r)⟩⟩
  · cases e
    obtain ⟨v, rfl, q⟩ := vs.one
    have qr := q.tupR le
    obtain ⟨a, ys, rfl, h, r⟩ := q.tuple le
    exact ⟨a, ys, rfl, .inr ⟨SqT.of h, k _ _ _ (.v le qr)⟩⟩
  · cases e
/-! ### dict(pairs) -/
/-- a pair (key, value) -/
def pairDV : DV → Option (Key × DV)
  | .tup [k, d] => (keyOf k).map fun k => (k, d)
  | _ => none
def pairsDV : List DV → Option (List (Key × DV))
  | [] => some []
  | d :: r => match pairDV d, pairsDV r with
    | some p, some ps => some (p :: ps)
    | _, _ => none
def fDictOf : List DV → Option RV
  | [.lst xs] => (pairsDV xs).map fun ps => .od false (mergeD [] ps)
  | [.tup xs] => (pairsDV xs).map fun ps => .od false (mergeD [] ps)
  | [.dct kvs] => some (.od false kvs)
  | _ => none
theorem pairs_rep {B H : Hp} (le : Sub B H) : ∀ {xs : List DV} {vs : List V} {ps : List (Key × DV)}, Reps mg B vs xs → pairsDV xs = some ps → ∃ (as : List Addr) (kvs : List (Key × V)), vs = as.map V.ref ∧ Paired (fun p kv => SqT K H p [kV kv.1, kv.2]) as kvs ∧ RepK mg B kvs ps
  | [], _, _, .nil, h => by cases h; exact ⟨[], [], rfl, .nil, .nil⟩
  | d :: xs, _, _, .cons r q, h => by
    simp only [pairsDV] at h
    split at h
    · rename_i p ps e1 e2
      cases h
      obtain ⟨as, kvs, rfl, pr, rk⟩ := pairs_rep le q e2
      unfold pairDV at e1
      split at e1
      · rename_i k d
        obtain ⟨k', hk, rfl⟩ := Option.map_eq_some_iff.mp e1
        cases r with
        | tup r1 r2 =>
          cases r2 with
          | cons ra rb =>
            cases rb with
            | cons rb rn =>
              cases rn
              obtain rfl := keyOf_rep ra hk
              exact ⟨_ :: as, (k', _) :: kvs, rfl, .cons (SqT.of (le.keep _ _ r1 rfl)) pr, .cons rb rk⟩
      · cases e1
    · cases h
def rDictOf (K : PySem.W.Frag) : List V → Hp → VK → Prop := fun xs H Q => (∃ (a : Addr) (ps : List Addr) (kvs : List (Key × V)), xs = [.ref a] ∧ (SqL K H a (ps.map V.ref) ∨ SqT K H a (ps.map V.ref)) ∧ Paired (fun p kv => SqT K H p [kV kv.1, kv.2]) ps kvs ∧ ∀ p, H p = none → Q (.ref p) (upd H p (.dK (mergeK [] kvs)))) ∨
  ∃ (a : Addr) (kvs : List (Key × V)), xs = [.ref a] ∧ Rd H a (.dK kvs) ∧ ∀ p, H p = none → Q (.ref p) (upd H p (.dK kvs))
end
section
variable {X : Cx}
/-- dict(t), t a tuple of pairs without attributes -/
theorem call_dictT (hcalm : X.calm = true) : CallR X (.type "dict") (fun xs H Q => ∃ (a : Addr) (o : Obj) (ps : List Addr) (kvs : List (Key × V)), xs = [.ref a] ∧ H a = some (.frz o (.tup (ps.map V.ref))) ∧ o.dict = none ∧ Paired (fun p kv => SqT X.K H p [kV kv.1, kv.2]) ps kvs ∧ ∀ p, H p = none → Q (.ref p) (upd H p (.dK (mergeK [] kvs)))) := by
  intro pins s σ H xs us Q I r q
  obtain ⟨a, o, ps, kvs, rfl, hq, hdn, hp, q⟩ := q
  obtain ⟨u, rfl, rx⟩ := vals1 r
  obtain rfl : u = .ref a := rx
  have at_ : s.heap.get? a = some o := (I.hok a _ hq).1
  obtain ⟨its, rv, pl, hz⟩ := I.tuple (.inl (.inr ⟨_, hq⟩))
  obtain rfl := refs_at rv
  rw [List.length_map] at hz
  obtain ⟨prs, rel, hl, hpr⟩ := pairs_of I hp
  obtain ⟨o', ho, hc, n, hdat⟩ := pl
  rw [at_] at ho; cases ho
  have hlp : prs.length = ps.length := hl
  -- the keys as they stand
  have key : ∀ j (hj : j < prs.length), ∃ (b : Addr) (u : Value), ps[j]? = some b ∧ IsTup s.heap b #[u, (prs[j]).2] ∧ keyIs (prs[j]).1 u = true := fun j hj => hpr j _ (List.getElem?_eq_getElem hj)
  let pv : List (Value × Value) := (List.range prs.length).map fun j => if hj : j < prs.length then (Classical.choose (Classical.choose_spec (key j hj)), (prs[j]).2) else (.none, .none)
  have pvl : pv.length = prs.length := by simp [pv]
  have pva : ∀ j (hj : j < prs.length), ∃ (b : Addr) (u : Value), ps[j]? = some b ∧ IsTup s.heap b #[u, (prs[j]).2] ∧ keyIs (prs[j]).1 u = true ∧ pv[j]? = some (u, (prs[j]).2) := fun j hj => by
    have sp := Classical.choose_spec (Classical.choose_spec (key j hj))
    refine ⟨Classical.choose (key j hj), _, sp.1, sp.2.1, sp.2.2, ?_⟩
    simp only [pv]
    rw [List.getElem?_map, List.getElem?_range hj]
    simp [hj]
  let Ts : Nat → Addr := fun j => (ps[j]?).getD 0
  have ok : PySem.PlainSeq "tuple" s.heap a (ps.map Value.ref).toArray ∧ PySem.PairItems s.heap (ps.map Value.ref).toArray Ts pv := by
    refine ⟨⟨o, n, at_, hc, hdn, hdat⟩, by rw [List.size_toArray, List.length_map, pvl, hlp], fun j k v hj => ?_⟩
    have hjl : j < prs.length := by rw [← pvl]; exact (List.getElem?_eq_some_iff.mp hj).1
    obtain ⟨b, u, e1, e2, _, e4⟩ := pva j hjl
    rw [hj] at e4; cases e4
    refine ⟨by simp [Ts, e1], ?_⟩
    show PySem.PairAt s.heap ((ps[j]?).getD 0) _ _
    rw [e1]
    exact .inl e2
  refine PySem.call_dict_pairs (knd := mixKind X.prog X.w) (kvs := prs) (PySem.PairArg.tuple a (ps.map Value.ref).toArray Ts pv) (I.ok.hd hcalm) ok ⟨pvl.symm, fun i k v hk => ?_⟩ (by rw [pvl, hlp]; exact hz) fun h' tk hd' k => ?_
  · have hi : i < prs.length := by rw [← pvl]; exact (List.getElem?_eq_some_iff.mp hk).1
    obtain ⟨b, u, _, _, e3, e4⟩ := pva i hi
    have hk' : pv[i]? = some (k, v) := hk
    rw [e4] at hk'; cases hk'
    exact ⟨(prs[i]).1, List.getElem?_eq_getElem hi, e3⟩
  · have hm : (s.heap.objs.size == sysModules) = false := beq_eq_false_iff_ne.mpr (Nat.ne_of_gt I.big)
    have hlen : (mergeK [] kvs).length ≤ sizeLine := by
      refine Nat.le_trans (length_mergeK kvs []) ?_
      rw [List.length_nil, Nat.zero_add, rel.length, hlp]
      exact hz
    exact ⟨.ref s.heap.objs.size, upd H s.heap.objs.size (.dK (mergeK [] kvs)), I.laid (t' := tk) (fun b o e => k b o (by simp) e) (Nat.le_refl _) (show ObjOk X.prog X.w _ _ _ (.dK (mergeK [] kvs)) from ⟨hlen, hm, merged [] prs, KV.merge rel .nil, hd'⟩), rfl, q _ (I.hok.fresh (Nat.le_refl _))⟩
end
end Lb
/-! dict(), tuple() with a known object, isinstance, class values, d[k], d.get, join. -/
namespace Lb
open PySem PySem.Spec PyProof.Rows L2
section
variable {X : Cx} {KK : PySem.W.Frag} {mg : Mg} {K : PySem.W.Frag}
def rDictL (K : PySem.W.Frag) : List V → Hp → VK → Prop := fun xs H Q => ∃ (a : Addr) (ps : List Addr) (kvs : List (Key × V)), xs = [.ref a] ∧ SqL K H a (ps.map V.ref) ∧ Paired (fun p kv => SqT K H p [kV kv.1, kv.2]) ps kvs ∧ ∀ p, H p = none → Q (.ref p) (upd H p (.dK (mergeK [] kvs)))
def rDictT (K : PySem.W.Frag) : List V → Hp → VK → Prop := fun xs H Q => ∃ (a : Addr) (o : Obj) (ps : List Addr) (kvs : List (Key × V)), xs = [.ref a] ∧ H a = some (.frz o (.tup (ps.map V.ref))) ∧ o.dict = none ∧ Paired (fun p kv => SqT K H p [kV kv.1, kv.2]) ps kvs ∧ ∀ p, H p = none → Q (.ref p) (upd H p (.dK (mergeK [] kvs)))
def rDictC : List V → Hp → VK → Prop := fun xs H Q => ∃ (a : Addr) (kvs : List (Key × V)), xs = [.ref a] ∧ Rd H a (.dK kvs) ∧ ∀ p, H p = none → Q (.ref p) (upd H p (.dK kvs))
def rDictA (K : PySem.W.Frag) : List V → Hp → VK → Prop := fun xs H Q => rDictL K xs H Q ∨ rDictT K xs H Q ∨ rDictC xs H Q
theorem call_dictA (hcalm : X.calm = true) : CallR X (.type "dict") (rDictA X.K) := (call_dictP hcalm).or ((call_dictT hcalm).or call_dictD)
def fDictA : List DV → Option RV
  | [.lst xs] => (pairsDV xs).map fun ps => .od false (mergeD [] ps)
  | [.tuf xs] => (pairsDV xs).map fun ps => .od false (mergeD [] ps)
  | [.dct kvs] => some (.od false kvs)
  | _ => none
theorem prim_dictA : PrimN mg (rDictA K) fDictA := fun B H xs ds rv Q le vs e k => by
  unfold fDictA at e
  split at e
  · obtain ⟨ps, e', rfl⟩ := Option.map_eq_some_iff.mp e
    obtain ⟨v, rfl, q⟩ := vs.one
    obtain ⟨a, ys, rfl, h, r⟩ := q.list le
    obtain ⟨as, kvs, rfl, pr, rk⟩ := pairs_rep (K := K) le r e'
    exact .inl ⟨a, as, kvs, rfl, SqL.of h, pr, fun p hp => k _ _ _ (res_dct le hp (repk_merge rk .nil))⟩
  · obtain ⟨ps, e', rfl⟩ := Option.map_eq_some_iff.mp e
    obtain ⟨v, rfl, q⟩ := vs.one
    cases q with
    | r q =>
      cases q with
      | tuf h ho r =>
        obtain ⟨as, kvs, rfl, pr, rk⟩ := pairs_rep (K := K) le r e'
        exact .inr (.inl ⟨_, _, as, kvs, rfl, le.keep _ _ h rfl, ho, pr, fun p hp => k _ _ _ (res_dct le hp (repk_merge rk .nil))⟩)
  · cases e
    obtain ⟨v, rfl, q⟩ := vs.one
    obtain ⟨a, ys, rfl, h, r⟩ := q.dict le
    exact .inr (.inr ⟨a, ys, rfl, h, fun p hp => k _ _ _ (res_dct le hp r)⟩)
  · cases e
/-- tuple(l), the object known -/
def rTupF (K : PySem.W.Frag) : List V → Hp → VK → Prop := fun xs H Q => ∃ p ys, xs = [.ref p] ∧ SqL K H p ys ∧ ∀ o l, o.dict = none → H l = none → Q (.ref l) (upd H l (.frz o (.tup ys)))
theorem call_tupF : CallR X (.type "tuple") (rTupF X.K) := by
  intro pins s σ H xs us Q I r h
  obtain ⟨p, ys, rfl, hq, q⟩ := h
  obtain ⟨u, rfl, rx⟩ := vals1 r
  obtain rfl : u = .ref p := rx
  obtain ⟨its, rits, pl, small⟩ := I.list hq
  have same := rits.length
  refine call_tuple_list pl.isList (fun hp' grow => ?_) (by simp only [List.size_toArray] <;> omega)
  have Ig : Inv X pins σ H { s with heap := hp' } := I.kept (t' := s.toks) grow
  have ob : (hp'.push { cls := .type "tuple", data := .seq its.toArray }).get? hp'.objs.size = some { cls := .type "tuple", data := .seq its.toArray } := Heap.get?_push_size _ rfl
  have Il : Inv X pins σ (upd H hp'.objs.size (.frz { cls := .type "tuple", data := .seq its.toArray } (.tup ys))) { s with heap := hp'.push { cls := .type "tuple", data := .seq its.toArray } } :=
    Ig.laid (t' := s.toks) (fun b o e => Heap.get?_push_of_some _ e) (Nat.le_refl _) ⟨ob, small, its, rits, IsTup.new _ _⟩
  exact ⟨.ref hp'.objs.size, _, Il, rfl, q _ _ rfl (Ig.hok.fresh (Nat.le_refl _))⟩
def fTupF : List DV → Option RV
  | [.lst xs] => some (.v (.tuf xs))
  | _ => none
theorem prim_tupF : PrimN mg (rTupF K) fTupF := fun B H xs ds rv Q le vs e k => by
  unfold fTupF at e
  split at e
  · cases e
    obtain ⟨v, rfl, q⟩ := vs.one
    obtain ⟨a, ys, rfl, h, r⟩ := q.list le
    refine ⟨a, ys, rfl, SqL.of h, fun o l ho hl => k _ (upd B l (.frz o (.tup ys))) _ ?_⟩
    have n : New B H (upd B l (.frz o (.tup ys))) (upd H l (.frz o (.tup ys))) := .alloc le hl
    exact ⟨n, .v (.tuf upd_same ho (r.mono n.sub)), fun b h => by cases h⟩
  · cases e
end
/-! ### isinstance of data: one built-in type, or some -/
def tyN : DV → Option String
  | .non => some "NoneType"
  | .bl _ => some "bool"
  | .int _ => some "int"
  | .str _ => some "str"
  | .lst _ => some "list"
  | .tup _ => some "tuple"
  | .tuf _ => some "tuple"
  | .dct _ => some "dict"
  | _ => none
def isTab (t T : String) : Bool := decide (t = T) || (decide (t = "bool") && decide (T = "int"))
def kinds7 : List String := ["NoneType", "bool", "int", "str", "list", "tuple", "dict"]
def kindsT : List String := ["bool", "int", "str", "list", "tuple", "dict"]
theorem isTab_ok : ∀ t ∈ kinds7, ∀ T ∈ kindsT, kitB t T = some (isTab t T) := by decide +kernel
theorem tyN_mem {d : DV} {t : String} (h : tyN d = some t) : t ∈ kinds7 := by
  cases d <;> simp only [tyN, reduceCtorEq, Option.some.injEq] at h <;> subst h <;> decide
theorem tyN_rep {mg : Mg} {K : PySem.W.Frag} {H : Hp} {v : V} {d : DV} {t : String} (r : Rep mg H v d) (h : tyN d = some t) : TyX K H v (.type t) := by
  cases r <;> simp only [tyN, reduceCtorEq, Option.some.injEq] at h <;> subst h
  case non => exact .base .non
  case bl => exact .base (.bl _)
  case int => exact .base (.int _)
  case str => exact .base (.str _)
  case lst h _ => exact .base (.lst h)
  case tup h _ => exact .base (.tup h)
  case tuf h _ _ => exact .fTuple h
  case dct h _ =>
    rcases h with h | ⟨o, h⟩
    · exact .base (.dK h)
    · exact .fDict h
def isiM (Ts : List String) (o : Opd) : M Opd := fun S => match o.dv S with
  | some d => (match tyN d with
    | some t => .ok (.v (.v (.bl (Ts.any fun T => isTab t T)))) S
    | none => .stuck)
  | none => .stuck
theorem isiM_spec {Ts : List String} {o : Opd} {S : Sl} {K : Opd → Sl → Prop} {E : Str → List (Str × DV) → Sl → Prop} (h : (isiM Ts o S).spec K E) : ∃ d t, o.dv S = some d ∧ tyN d = some t ∧ K (.v (.v (.bl (Ts.any fun T => isTab t T)))) S := by
  unfold isiM at h
  split at h
  · rename_i d hd
    split at h
    · rename_i t ht; exact ⟨d, t, hd, ht, h⟩
    · exact h.elim
  · exact h.elim
section
variable {X : Cx} {e : Expr} {me : M Opd} {T T2 : String} {p cp pos : Pos} {x x2 : Str}
theorem opd_bl {mg : Mg} {B H : Hp} {σ : Sg} {S : Sl} {b : Bool} : OpdR mg B H σ S (.bl b) (.v (.v (.bl b))) := .v (.v (.bl b)) (fun a h => by cases h)
theorem young_bl {H : Hp} {b : Bool} : Young H (.bl b) (.v (.v (.bl b))) := fun a h => by cases h
theorem px_isi1 (hTm : T ∈ kindsT) (hgc : Gl X x) (hxm : X.mg x = none) (hxb : bootBuiltins x = some (.type T)) (hm : X.mg "isinstance" = none) (he : PX X e me) (hg : Gl X "isinstance" := by rfl) (hn : x ≠ "__name__" := by decide) (hdb : (x == ("__debug__" : Str)) = false := by decide)
    (s1 : starEach [e, .Name x cp] X.env = (false, eval e X.env) :: starEach [.Name x cp] X.env := by rfl) (s2 : starEach [.Name x cp] X.env = (false, eval (.Name x cp) X.env) :: starEach [] X.env := by rfl) (pl : (backTo pos (starEach [.Name x cp] X.env)).any (·.1) = false := by rfl) :
    PX X (.Call (.Name "isinstance" p) [e, .Name x cp] [] pos) (M.bind me (isiM [T])) := fun W tk =>
  PE.imp (pe_callB call_isi hg hm (by first | rfl | decide +kernel) (pa_cons (he W tk) (pa_cons (pe_bltn (v := .ty T) hgc hxm hxb rfl hn hdb) pa_nil s2) s1) (by decide) (by decide) s1 pl) fun σ H Q ⟨B, S, st, q⟩ =>
    ⟨B, S, st, (spec_bind.mp q).imp (fun o S1 _ q v B1 H1 s hs or _ => by
      obtain ⟨d, t, hd, ht, k⟩ := isiM_spec q
      have rep := (or.view s.st hd).rep s.st.le
      refine ⟨v, .ty T, .type t, .type T, isTab t T, rfl, .ty T, tyN_rep rep ht, kit_ty (isTab_ok t (tyN_mem ht) T hTm), ?_⟩
      have k' : [T].any (fun T => isTab t T) = isTab t T := by simp
      rw [k'] at k
      exact k _ B1 H1 s hs opd_bl young_bl) fun _ _ _ h => h⟩
/-- isinstance(x, (T, T2)) -/
theorem px_isi2 {k : Nat} {tpos cp2 : Pos} (hTm : T ∈ kindsT) (hTm2 : T2 ∈ kindsT) (hgc : Gl X x) (hxm : X.mg x = none) (hxb : bootBuiltins x = some (.type T)) (hgc2 : Gl X x2) (hxm2 : X.mg x2 = none) (hxb2 : bootBuiltins x2 = some (.type T2))
    (hm : X.mg "isinstance" = none) (he : PX X e me) (hg : Gl X "isinstance" := by rfl) (hn : x ≠ "__name__" := by decide) (hdb : (x == ("__debug__" : Str)) = false := by decide) (hn2 : x2 ≠ "__name__" := by decide) (hdb2 : (x2 == ("__debug__" : Str)) = false := by decide)
    (s1 : starEach [e, .Tuple [.Name x cp, .Name x2 cp2] k tpos] X.env = (false, eval e X.env) :: starEach [.Tuple [.Name x cp, .Name x2 cp2] k tpos] X.env := by rfl)
    (s2 : starEach [.Tuple [.Name x cp, .Name x2 cp2] k tpos] X.env = (false, eval (.Tuple [.Name x cp, .Name x2 cp2] k tpos) X.env) :: starEach [] X.env := by rfl) (pl : (backTo pos (starEach [.Tuple [.Name x cp, .Name x2 cp2] k tpos] X.env)).any (·.1) = false := by rfl)
    (s3 : starEach [.Name x cp, .Name x2 cp2] X.env = (false, eval (.Name x cp) X.env) :: starEach [.Name x2 cp2] X.env := by rfl) (s4 : starEach [.Name x2 cp2] X.env = (false, eval (.Name x2 cp2) X.env) :: starEach [] X.env := by rfl) :
    PX X (.Call (.Name "isinstance" p) [e, .Tuple [.Name x cp, .Name x2 cp2] k tpos] [] pos) (M.bind me (isiM [T, T2])) := fun W tk =>
  PE.imp (pe_callB call_isiT hg hm (by first | rfl | decide +kernel) (pa_cons (he W tk) (pa_cons (pe_tup (pa_cons (pe_bltn (v := .ty T) hgc hxm hxb rfl hn hdb) (pa_cons (pe_bltn (v := .ty T2) hgc2 hxm2 hxb2 rfl hn2 hdb2) pa_nil s4) s3)) pa_nil s2) s1) (by decide) (by decide) s1 pl) fun σ H Q ⟨B, S, st, q⟩ =>
    ⟨B, S, st, (spec_bind.mp q).imp (fun o S1 _ q v B1 H1 s hs or _ => by
      obtain ⟨d, t, hd, ht, k⟩ := isiM_spec q
      refine ⟨by show 2 ≤ sizeLine; decide, fun tp np => ?_⟩
      have s2 := s.st.alloc np (.tup [.ty T, .ty T2])
      have rep := ((or.step s2 (.refl _)).view s2.st hd).rep s2.st.le
      refine ⟨v, tp, [.ty T, .ty T2], .type t, [.type T, .type T2], [T, T2].any (fun T => isTab t T), rfl, upd_same, .cons (.ty T) (.cons (.ty T2) .nil), tyN_rep rep ht, ?_, k _ B1 _ (s.trans s2) hs opd_bl young_bl⟩
      refine kitAny_cons (kit_ty (isTab_ok t (tyN_mem ht) T hTm)) (fun h1 => kitAny_cons (kit_ty (isTab_ok t (tyN_mem ht) T2 hTm2)) (fun h2 => ?_) fun h2 => ?_) fun h1 => ?_
      · rw [kitAny_nil]; simp [h1, h2]
      · simp [h2]
      · simp [h1]) fun _ _ _ h => h⟩
end
/-! ### class values -/
/-- the value f of the class c is the number i -/
structure KVal (K : PySem.W.Frag) (mg : Mg) (c f : Str) (i : Int) : Prop where
  ex : ∃ C mc u, mg c = some (.ref C) ∧ ClX.CRead K C mc ∧ ClX.CVal K C mc f (.int i) u
theorem px_cval {X : Cx} {c f : Str} {i : Int} {cp pos : Pos} (h : KVal X.K X.mg c f i) (hg : Gl X c) (hdb : (c == ("__debug__" : Str)) = false := by decide) (hb : attributeBase (.Name c cp) f X.env (eval (.Name c cp) X.env) = eval (.Name c cp) X.env := by rfl) :
    PX X (.Attribute (.Name c cp) f pos) (kst (.int i)) := fun W tk => by
  obtain ⟨C, mc, u, hm, cr, cv⟩ := h.ex
  refine ⟨fun pn s0 τ G R J ⟨B, S, st, q⟩ => ?_⟩
  refine attr_of hb (ld_glob J hg hm ?_ hdb)
  refine ClX.getcval_ok J cr cv fun s' J' => ⟨.int i, G, J', cv.rel, ?_⟩
  exact q _ B G (.refl st) (.refl S) (.v (.v (.int i)) fun a h => by cases h) fun a h => by cases h
/-! ### d[k] -/
def fIxA (x y : DV) : Option RV := match x with
  | .dct kvs => (match keyOf y with
    | some k => (lookK k kvs).map .v
    | none => none)
  | x => fIx x y
def rIxD : R2 := fun x y H Q => ∃ a kvs k v, x = .ref a ∧ Rd H a (.dK kvs) ∧ y = kV k ∧ valV kvs k = some v ∧ Q v H
section
variable {X : Cx}
theorem ix_dct (hu : X.A.units + 64 < cLine) : IxR X rIxD := by
  intro value slice pins s σ H x y v u Q I rx ry h hs
  obtain ⟨a, kvs, k, z, rfl, hr, rfl, hv, q⟩ := h
  obtain rfl : v = .ref a := rx
  obtain ⟨_, _, vs, _, dd⟩ := dk_rd I.hok hr
  exact tail_any dd.mapOf.typeIs PySem.F.slot_dict_getitem.lookup (d_getItem (by omega) I (.inl ⟨kvs, k, hr, rfl, hv.symm⟩) ry fun w' s' I' r => ⟨z, H, I', r, q⟩) hs
def rIxA (K : PySem.W.Frag) : R2 := fun x y H Q => rIxD x y H Q ∨ rIx K x y H Q
theorem ix_A (hu : X.A.units + 64 < cLine) : IxR X (rIxA X.K) := (ix_dct hu).or ix_seq
theorem prim_ixA {mg : Mg} {K : PySem.W.Frag} : Prim2 mg (rIxA K) fIxA := fun B H x y dx dy rv Q le vx vy e k => by
  unfold fIxA at e
  split at e
  · split at e
    · rename_i kvs k' hk
      obtain ⟨d, hl, rfl⟩ := Option.map_eq_some_iff.mp e
      obtain ⟨a, xs, rfl, ha, ra⟩ := vx.dict le
      obtain rfl := keyOf_rep (vy.rep le) hk
      rcases lookK_rep (k := k') ra with ⟨h1, h2⟩ | ⟨d', v', h1, h2, h3⟩
      · rw [h1] at hl; cases hl
      · rw [h1] at hl; cases hl
        exact .inl ⟨a, xs, k', v', rfl, ha, rfl, h2, k _ _ _ (.v le h3)⟩
    · cases e
  · exact .inr (prim_ix B H x y dx dy rv Q le vx vy e k)
theorem px_ixA {a b : Expr} {ma mb : M Opd} {pos : Pos} (hu : X.A.units + 64 < cLine) (ha : PX X a ma) (hb : PX X b mb) (hs : PlainIx b := by intro _ _; rfl) : PX X (.Subscript a b pos) (M.bind ma fun x => M.bind mb fun y => op2 fIxA x y) := fun W tk => PE.imp (pe_ix (ix_A hu) (ha W tk) (hb W tk) hs) fun σ H Q ⟨B, S, st, q⟩ =>
  ⟨B, S, st, (spec_bind.mp q).imp (fun x S1 _ q v B1 H1 s hs or _ => ⟨B1, S1, s.st, (spec_bind.mp q).imp (fun y S2 _ q w B2 H2 s2 hs2 or2 _ =>
    op2_end prim_ixA s hs or s2 hs2 or2 q) fun _ _ _ h => h.pre s⟩) fun _ _ _ h => h⟩
end
/-! ### d.get(k, x) -/
def isDct : DV → Bool
  | .dct _ => true
  | _ => false
theorem isDct_ok {d : DV} (h : isDct d = true) : ∃ kvs, d = .dct kvs := by
  cases d <;> first | exact ⟨_, rfl⟩ | cases h
def getM (o k x : DV) : M DV := match o, keyOf k with
  | .dct kvs, some k => M.pure ((lookK k kvs).getD x)
  | _, _ => M.stuck
theorem getM_spec {kvs : List (Key × DV)} {k x : DV} {S : Sl} {K : DV → Sl → Prop} {E : Str → List (Str × DV) → Sl → Prop} (h : (getM (.dct kvs) k x S).spec K E) : ∃ k', keyOf k = some k' ∧ K ((lookK k' kvs).getD x) S := by
  unfold getM at h
  cases hk : keyOf k with
  | none => rw [hk] at h; exact h.elim
  | some k' => rw [hk] at h; exact ⟨k', rfl, h⟩
section
variable {X : Cx} {o e f : Expr} {apos cpos : Pos} {mo me mf : M DV}
theorem px_get2 (hu : X.A.units + 64 < cLine) (ho : FX X o mo) (he : FX X e me) (hf : FX X f mf) (m : M2 X o "get" apos e f cpos := by exact ⟨rfl, rfl, rfl, rfl⟩) :
    FX X (.Call (.Attribute o "get" apos) [e, f] [] cpos) (M.bind mo fun d => M.bind (if isDct d then M.pure d else M.stuck) fun d => M.bind me fun k => M.bind mf fun x => getM d k x) := fun W tk =>
  PE.imp (pe_dget2 (by omega) (ho W tk) (he W tk) (hf W tk) m) fun σ H Q ⟨B, S, st, q⟩ => ⟨B, S, st, (spec_bind.mp q).imp (fun d S1 _ q v B1 H1 s hs r => by
    cases hd : isDct d with
    | false => rw [hd] at q; exact q.elim
    | true =>
      rw [hd] at q
      have q := spec_bind.mp q
      obtain ⟨kvs, rfl⟩ := isDct_ok hd
      obtain ⟨a, xs, rfl, ha, ra⟩ := (View.r r : View X.mg B1 H1 v _).dict s.st.le
      refine ⟨a, rfl, .inl ⟨xs, ha⟩, B1, S1, s.st, (spec_bind.mp q).imp (fun k S2 _ q y B2 H2 s2 hs2 rk => ⟨B2, S2, s2.st, (spec_bind.mp q).imp (fun x S3 _ q z B3 H3 s3 hs3 rx => ?_) fun _ _ _ h => (h.pre s).pre s2⟩) fun _ _ _ h => h.pre s⟩
      have r3 : Rep X.mg B3 (.ref a) (.dct kvs) := (r.mono s2.grow.sub).mono s3.grow.sub
      obtain ⟨a', xs', e', ha', ra'⟩ := (View.r r3 : View X.mg B3 H3 _ _).dict s3.st.le
      cases e'
      obtain ⟨k', hk, q⟩ := getM_spec q
      obtain rfl := keyOf_rep rk hk
      have fin : ∀ (w' : V) (d' : DV), Rep X.mg B3 w' d' → (lookK k' kvs).getD x = d' → Q w' H3 := fun w' d' rd ed => by
        subst ed
        exact q w' B3 H3 ((s.trans s2).trans s3) ((hs.trans hs2).trans hs3) rd
      rcases lookK_rep (k := k') ra' with ⟨h1, h2⟩ | ⟨d', v', h1, h2, h3⟩
      · exact ⟨none, .inl ⟨xs', k', ha', rfl, h2.symm⟩, fin z x rx (by rw [h1]; rfl)⟩
      · exact ⟨some v', .inl ⟨xs', k', ha', rfl, h2.symm⟩, fin v' d' h3 (by rw [h1]; rfl)⟩) fun _ _ _ h => h⟩
end
/-! ### texts: join -/
def strsDV : List DV → Option (List Str)
  | [] => some []
  | .str x :: r => (strsDV r).map (x :: ·)
  | _ => none
theorem strs_rep {mg : Mg} {B : Hp} : ∀ {xs : List V} {ds : List DV} {ys : List Str}, Reps mg B xs ds → strsDV ds = some ys → xs = ys.map V.str
  | _, _, _, .nil, h => by cases h; rfl
  | x :: xs, d :: ds, ys, .cons r q, h => by
    cases d <;> simp only [strsDV, reduceCtorEq] at h
    obtain ⟨zs, hz, rfl⟩ := Option.map_eq_some_iff.mp h
    cases r
    rw [strs_rep q hz]; rfl
def joinM (d l : DV) : M DV := match d, l with
  | .str a, .lst ds => (match strsDV ds with
    | some ys => if (ys.map (·.length)).sum + ys.length * a.length ≤ 16777216 then M.pure (.str (Txt.join a ys)) else M.stuck
    | none => M.stuck)
  | _, _ => M.stuck
def isStr : DV → Bool
  | .str _ => true
  | _ => false
theorem isStr_ok {d : DV} (h : isStr d = true) : ∃ x, d = .str x := by
  cases d <;> first | exact ⟨_, rfl⟩ | cases h
theorem joinM_spec {a : Str} {l : DV} {S : Sl} {K : DV → Sl → Prop} {E : Str → List (Str × DV) → Sl → Prop} (h : (joinM (.str a) l S).spec K E) : ∃ ds ys, l = .lst ds ∧ strsDV ds = some ys ∧ (ys.map (·.length)).sum + ys.length * a.length ≤ 16777216 ∧ K (.str (Txt.join a ys)) S := by
  cases l with
  | lst ds =>
    unfold joinM at h
    cases hy : strsDV ds with
    | none => simp only [hy] at h; exact h.elim
    | some ys =>
      simp only [hy] at h
      by_cases hz : (ys.map (·.length)).sum + ys.length * a.length ≤ 16777216
      · rw [if_pos hz] at h; exact ⟨ds, ys, rfl, hy, hz, h⟩
      · rw [if_neg hz] at h; exact h.elim
  | _ => exact h.elim
theorem fx_join {X : Cx} {o e : Expr} {apos pos : Pos} {mo me : M DV} (ho : FX X o mo) (he : FX X e me) (hs : starEach [e] X.env = [(false, eval e X.env)] := by rfl) (hbase : attributeBase o "join" X.env (eval o X.env) = eval o X.env := by rfl) (hline : (apos.endLine == pos.line) = true := by rfl) :
    FX X (.Call (.Attribute o "join" apos) [e] [] pos) (M.bind mo fun d => M.bind (if isStr d then M.pure d else M.stuck) fun d => M.bind me fun l => joinM d l) := fun W tk =>
  PE.imp (pe_join (ho W tk) (he W tk) hs hbase hline) fun σ H Q ⟨B, S, st, q⟩ => ⟨B, S, st, (spec_bind.mp q).imp (fun d S1 _ q v B1 H1 s hs r => by
    cases hd : isStr d with
    | false => rw [hd] at q; exact q.elim
    | true =>
      rw [hd] at q
      have q := spec_bind.mp q
      obtain ⟨a, rfl⟩ := isStr_ok hd
      cases r
      refine ⟨⟨a, rfl⟩, B1, S1, s.st, (spec_bind.mp q).imp (fun l S2 _ q y B2 H2 s2 hs2 rl => ?_) fun _ _ _ h => h.pre s⟩
      obtain ⟨ds, ys, rfl, hy, hz, q⟩ := joinM_spec q
      obtain ⟨p, xs, rfl, hp, rp⟩ := (View.r rl : View X.mg B2 H2 y _).list s2.st.le
      obtain rfl := strs_rep rp hy
      exact ⟨_, p, ys, rfl, rfl, .inl (SqL.of hp), hz, q _ B2 H2 (s.trans s2) (hs.trans hs2) (.str _)⟩) fun _ _ _ h => h⟩
end Lb
/-! How an own instance is made; calls with keywords. -/
namespace Lb
open PySem PySem.Spec PyProof.Rows L2
section
variable {KK : PySem.W.Frag} {mg : Mg} {B H B1 H1 : Hp} {σ : Sg} {S S1 : Sl} {vs : List V} {ds : List DV} {a : Addr} {r0 : RV}
theorem fresh_only : ∀ j b, OwnAt ((V.ref a :: vs).map some) ((r0 :: ds.map RV.v).map some) j b → j = 0 ∧ b = a := fun j b ⟨⟨r', e1, h1⟩, e2⟩ => by
  cases j with
  | zero =>
    simp at e2
    exact ⟨rfl, e2.symm⟩
  | succ j =>
    exfalso
    rw [List.map_cons, List.getElem?_cons_succ, map_get, List.getElem?_map] at e1
    cases q : ds[j]? with
    | none => rw [q] at e1; cases e1
    | some d => rw [q] at e1; cases e1; cases h1
theorem fresh_args (s : Stp KK mg B H σ S B1 H1 σ S1) (r : Reps mg B1 vs ds) (q0 : RVR mg B1 H1 (.ref a) r0) : StR KK mg B1 H1 ((V.ref a :: vs).map some) ((r0 :: ds.map RV.v).map some) := by
  have t := argsR s.st r
  refine ⟨s.st.le, by simp [r.length], fun j r' e1 => ?_, fun j k b h1 h2 => by rw [(fresh_only j b h1).1, (fresh_only k b h2).1], s.st.tbs⟩
  cases j with
  | zero =>
    simp at e1
    subst e1
    exact ⟨.ref a, rfl, q0⟩
  | succ j =>
    obtain ⟨v, h1, h2⟩ := t.at_ j r' (by simpa using e1)
    exact ⟨v, by simpa using h1, h2⟩
/-- what the callee did, seen from the caller's state before -/
theorem fresh_back (s : Stp KK mg B H σ S B1 H1 σ S1) (na : ¬ OwnA σ S1 a) (fresh : H a = none) {B' H' : Hp} {outs : List RV} (cp : CallP KK mg B1 H1 (V.ref a :: vs) (r0 :: ds.map RV.v) B' H' outs) : Stp KK mg B H σ S B' H' σ S1 := by
  have g : Grow KK B1 H1 B' H' (fun b => b = a) := cp.grow.imp fun b ⟨j, hj⟩ => (fresh_only j b hj).2
  have gT : Grow KK B H B' H' (OwnA σ S) := s.grow.trans g fun b hb => .inr (by subst hb; exact fresh)
  have keep : ∀ b o, H1 b = some o → b ≠ a → nTbl o = true → H' b = some o := fun b o h n t => g.keep b o h n t
  have nb : ∀ b, B1 b = none → H1 b ≠ none → b ≠ a → B' b = none := fun b h1 h2 h3 => by
    cases z : B' b with
    | none => rfl
    | some u =>
      rcases g.new b (by rw [z]; simp) with y | y | y
      · exact absurd h1 y
      · exact absurd y h2
      · exact absurd y h3
  have st' : StR KK mg B' H' σ S1 := ⟨cp.st.le, s.st.len, fun i r' e1 => by
    obtain ⟨w, h1, h2⟩ := s.st.at_ i r' e1
    refine ⟨w, h1, ?_⟩
    have ne : ∀ c, r'.isOwn = true → w = .ref c → c ≠ a := fun c hc ec z => by
      subst z; subst ec
      exact na ⟨i, ⟨r', e1, hc⟩, h1⟩
    cases h2 with
    | v h2 => exact .v (h2.mono g.sub)
    | ol g1 g2 g3 => exact .ol (nb _ g1 (by rw [g2]; simp) (ne _ rfl rfl)) (keep _ _ g2 (ne _ rfl rfl) rfl) (g3.mono g.sub)
    | od g1 g2 g3 => exact .od (nb _ g1 (by rw [g2]; simp) (ne _ rfl rfl)) (keep _ _ g2 (ne _ rfl rfl) rfl) (g3.mono g.sub)
    | oi g0 g1 g2 g3 => exact .oi g0 (nb _ g1 (by rw [g2]; simp) (ne _ rfl rfl)) (keep _ _ g2 (ne _ rfl rfl) rfl) (g3.mono g.sub), s.st.dis, g.tab s.st.tbs⟩
  exact ⟨gT, st', s.own, s.pin, s.len⟩
end
/-- making: __init__ f of the class c with the fields' data -/
def mkI (c : Str) (f : FSem) (n : Nat) (ds : List DV) : M Opd := fun S => if ds.length + 1 = n then
    (match f (.oi true c [] :: ds.map .v) with
    | .ret (.v .non) (.oi _ c' gs :: _) => .ok (.v (.oi false c' gs)) S
    | .exc k fs _ => .exc k fs S
    | _ => .stuck)
  else .stuck
theorem mkI_spec {c : Str} {f : FSem} {n : Nat} {ds : List DV} {S : Sl} {K : Opd → Sl → Prop} {E : Str → List (Str × DV) → Sl → Prop} (h : (mkI c f n ds S).spec K E) :
    ds.length + 1 = n ∧ (f (.oi true c [] :: ds.map .v)).spec (fun r outs => r = .v .non ∧ ∃ p c' gs rest, outs = .oi p c' gs :: rest ∧ K (.v (.oi false c' gs)) S) (fun k fs _ => E k fs S) := by
  unfold mkI at h
  split at h
  · rename_i hl
    refine ⟨hl, ?_⟩
    generalize f (.oi true c [] :: ds.map .v) = o at h ⊢
    cases o with
    | stuck => exact h.elim
    | exc k fs outs => exact h
    | ret r outs =>
      cases r with
      | v d =>
        cases d <;> first | (exact h.elim) | skip
        cases outs with
        | nil => exact h.elim
        | cons r1 rest =>
          cases r1 with
          | oi p c' gs => exact ⟨rfl, p, c', gs, rest, rfl, h⟩
          | _ => exact h.elim
      | _ => exact h.elim
  · exact h.elim
section
variable {X : Cx} {CX : CXT} {k j n : Nat} {C g : Addr} {x c : Str} {fd : FuncData} {ps : List Str} {sp : Sp} {E : Sg → XK} {e : Expr} {es : List Expr} {p pos : Pos} {t : TA} {f : FSem} {ms : M (List DV)}
theorem run_mkG {pins : List (Addr × Obj)} {σ : Sg} {H : Hp} {s : Shared} {Q : VK} {us : List Value} {vs : List V} (Mc : Mk X.K C g) (F : FnG X.prog X.w X.K X.mg X.base CX k g fd ps sp) (hr : Room (k + 1) X.A) (hgd : X.A.guards = some []) (hb : Binds X.K fd ps []) (hx : PassesAt CX X σ (E σ))
    (I : Inv X pins σ H s) (rel : Vals vs us) (h : ∀ ob dc, H ob = none → H dc = none → dc ≠ ob → sp (.ref ob :: vs) (upd (upd H dc (.own ob)) ob (.ins C dc [])) (fun v H2 => v = .non ∧ Q (.ref ob) H2) (E σ)) :
    wpAny (model X.prog X.w) X.A (call (.ref C) us) (EP X pins σ Q) X.xe s := by
  have want := h (s.heap.objs.size + 1) s.heap.objs.size (I.hok.fresh (Nat.le_succ _)) (I.hok.fresh (Nat.le_refl _)) (Nat.ne_of_lt (Nat.lt_succ_self _))
  have Im := Inv.made (C := C) I
  have both : Vals (V.ref (s.heap.objs.size + 1) :: vs) (Value.ref (s.heap.objs.size + 1) :: us) := .cons rfl rel
  have len : (Value.ref (s.heap.objs.size + 1) :: us).length = ps.length := both.length.symm.trans (F.len _ _ _ _ want)
  have bd := hb _ (Value.ref (s.heap.objs.size + 1) :: us) Im.kIn (by rw [List.append_nil]; exact len)
  rw [List.append_nil] at bd
  refine wpAny_call (make_map (f := g) I.kIn Mc.makes Mc.init (beq_iff_eq.mp Mc.fn) (codeAny_mono (F.run _ X.stack _ _ ⟨Value.ref (s.heap.objs.size + 1) :: us, []⟩ _ _ _ (E σ) (hr.make C us []) (guards_make hgd C us []) (Im.env0.make C us []) bd both want) fun res s' got => ?_))
  match res, got with
  | .error er, got => exact hx pins _ _ er s' Im got
  | .ok (.ret u), got =>
    obtain ⟨v, H', I3, rv, ev, q3⟩ := Im.after got
    subst ev
    exact ⟨rv, V.ref (s.heap.objs.size + 1), H', I3, rfl, q3⟩
theorem pe_mkG (Mc : Mk X.K C g) (F : FnG X.prog X.w X.K X.mg X.base CX k g fd ps sp) (hr : Room (k + 1) X.A) (hgd : X.A.guards = some []) (hg : Gl X x) (hm : X.mg x = some (.ref C)) (hb : Binds X.K fd ps []) (hx : ∀ σ, PassesAt CX X σ (E σ)) (ha : PA X (e :: es) t)
    (hdb : (x == ("__debug__" : Str)) = false := by decide) (star : starEach (e :: es) X.env = (false, eval e X.env) :: starEach es X.env := by rfl) (plain : (backTo pos (starEach es X.env)).any (·.1) = false := by rfl) :
    PE X (.Call (.Name x p) (e :: es) [] pos) (fun σ H Q => t σ H fun vs H1 => ∀ ob dc, H1 ob = none → H1 dc = none → dc ≠ ob → sp (.ref ob :: vs) (upd (upd H1 dc (.own ob)) ob (.ins C dc [])) (fun v H2 => v = .non ∧ Q (.ref ob) H2) (E σ)) := by
  constructor
  intro pn s0 τ G R J want
  refine wpAny_Call_Name_kw (ld_glob J hg hm ?_ hdb)
  exact PySem.W.callWith_K (h₀ := X.base) J.ok.mod.kin Mc.kp (thn (ha.run pos pn s0 τ G _ J want) fun us s1 ⟨vs, G1, J1, rel, post⟩ => ⟨J1.kIn, run_mkG Mc F hr hgd hb (hx τ) J1 rel post⟩) star plain
/-- c(e, ..) -/
theorem px_make (h : KMk X.prog X.w X.K X.mg X.base c f ps k) (hn : ps.length = n) (hr : Room j X.A) (hgd : X.A.guards = some []) (hj : k + 1 ≤ j) (hg : Gl X c) (ha : FXs X (e :: es) ms) (hdb : (c == ("__debug__" : Str)) = false := by decide)
    (star : starEach (e :: es) X.env = (false, eval e X.env) :: starEach es X.env := by rfl) (plain : (backTo pos (starEach es X.env)).any (·.1) = false := by rfl) :
    PX X (.Call (.Name c p) (e :: es) [] pos) (M.bind ms (mkI c f n)) := fun W tk => by
  obtain ⟨C, fa, fd, hC, Mc, F, hb⟩ := h.ex
  subst hn
  refine PE.imp (pe_mkG Mc F (hr.mono hj) hgd hg hC hb (fun σ => passAt tk σ) (ha W tk) hdb star plain) fun σ H Q ⟨B, S, st, q⟩ => ?_
  refine ⟨B, S, st, (spec_bind.mp q).imp (fun ds S1 _ q vs B1 H1 s hs r => ?_) fun _ _ _ h => h⟩
  intro ob dc nob ndc ne
  obtain ⟨hl, q⟩ := mkI_spec q
  have a1 := s.st.alloc ndc (.own ob)
  have nob2 : upd H1 dc (.own ob) ob = none := by rw [upd_ne (Ne.symm ne)]; exact nob
  have a2 := a1.st.alloc nob2 (.ins C dc [])
  have s2 := (s.trans a1).trans a2
  have nB : B1 ob = none := s.st.le.none nob
  have na : ¬ OwnA σ S1 ob := s.st.notOwn nob
  have fresh : H ob = none := s.free nob
  have q0 : RVR X.mg B1 (upd (upd H1 dc (.own ob)) ob (.ins C dc [])) (.ref ob) (.oi true c []) := .oi hC nB upd_same .nil
  refine ⟨by simp [r.length]; omega, B1, .oi true c [] :: ds.map .v, fresh_args s2 r q0, fun r' h1 h2 => ?_, q.imp (fun rv outs ⟨hv, p', c', gs, rest, eo, k⟩ v B' H' cp qv _ yg => ?_) fun c fs outs k C d B' H' hC cp hd => ?_⟩
  · rcases List.mem_cons.mp h1 with h1 | h1
    · subst h1; rfl
    · obtain ⟨d, _, rfl⟩ := List.mem_map.mp h1
      cases h2
  · subst hv; subst eo
    have hv : v = .non := by cases qv with | v qv => cases qv; rfl
    refine ⟨hv, ?_⟩
    have bk := fresh_back s2 na fresh cp
    obtain ⟨w, ew, qw⟩ := cp.st.at_ 0 _ rfl
    simp at ew; subst ew
    cases qw with
    | oi m1 m2 m3 m4 =>
      refine k (.ref ob) B' H' bk hs (.v (.oi m1 m2 m3 m4) fun b _ eb z => ?_) fun b _ eb => by cases eb; exact fresh
      cases eb
      rcases bk.own _ z with y | y
      · exact s.st.notOwn nob (by
          obtain ⟨i, ⟨r', e1, h1⟩, e2⟩ := z
          exact ⟨i, ⟨r', e1, h1⟩, e2⟩)
      · obtain ⟨i, ⟨r', e1, h1⟩, e2⟩ := z
        exact na ⟨i, ⟨r', e1, h1⟩, e2⟩
  · exact k C B' H' σ d hC (fresh_back s2 na fresh cp) hd
end
end Lb
/-! List comprehensions over the items of a dict, locked meanwhile. -/
namespace Lb
open PySem PySem.Spec PyProof.Rows L2
def kD : Key → DV
  | .inl i => .int i
  | .inr x => .str x
def itemsDV (kvs : List (Key × DV)) : List DV := kvs.map fun p => .tup [kD p.1, p.2]
/-- the items of the dict that stands in slot i as data -/
def itemsSl (i : Nat) : M (List DV) := fun S => match S[i]? with
  | some (some (.v (.dct kvs))) => .ok (itemsDV kvs) S
  | _ => .stuck
theorem itemsSl_spec {i : Nat} {S : Sl} {K : List DV → Sl → Prop} {E : Str → List (Str × DV) → Sl → Prop} (h : (itemsSl i S).spec K E) : ∃ kvs, S[i]? = some (some (.v (.dct kvs))) ∧ K (itemsDV kvs) S := by
  unfold itemsSl at h
  split at h
  · rename_i kvs e; exact ⟨kvs, e, h⟩
  · exact h.elim
theorem rep_kD {mg : Mg} {B : Hp} {k : Key} : Rep mg B (kV k) (kD k) := by cases k <;> first | exact .int _ | exact .str _
section
variable {KK : PySem.W.Frag} {mg : Mg} {B H : Hp} {a : Addr} {o : Obj} {xs : List (Key × V)} {ds : List (Key × DV)}
theorem yields_items (h : H a = some (.frz o (.dK xs))) (r : RepK mg B xs ds) : Yields mg B H (Iti a o xs) (itemsDV ds) where
  go := fun B' H' s1 s2 l i hi => ⟨l _ _ _ h, by simpa [itemsDV, ← r.length] using hi⟩
  stop := fun B' H' s1 s2 l => ⟨l _ _ _ h, by rw [r.length]; simp [itemsDV]⟩
  yld := fun B' H' s1 s2 l i x H2 ⟨T, k, v, e1, e2, e3, e4⟩ d hd => by
    subst e2; subst e4
    unfold itemsDV at hd
    rw [List.getElem?_map] at hd
    obtain ⟨⟨k', d'⟩, hd', rfl⟩ := Option.map_eq_some_iff.mp hd
    obtain ⟨x', hx, rx⟩ := repk_get r hd'
    rw [e1] at hx; cases hx
    have n : New B' H' (upd B' T (.tup [kV k, v])) (upd H' T (.tup [kV k, v])) := .alloc s2 e3
    exact ⟨_, n, .tup upd_same (.cons rep_kD (.cons ((rx.mono s1).mono n.sub) .nil))⟩
end
section
variable {KK : PySem.W.Frag} {mg : Mg} {B H B' H' : Hp} {σ σ' : Sg} {S S' : Sl} {d : Addr} {od : Obj} {xs : List (Key × V)}
theorem rd_ne {a : Addr} {kvs : List (Key × V)} (r : Rd B a (.dK kvs)) : B a ≠ none := by
  rcases r with e | ⟨_, e⟩ <;> rw [e] <;> simp
/-- locked -/
theorem StR.lock (x : StR KK mg B H σ S) (hB : Rd B d (.dK xs)) (hH : H d = some (.dK xs)) : StR KK mg B (upd H d (.frz od (.dK xs))) σ S := by
  have le : Sub B (upd H d (.frz od (.dK xs))) := ⟨fun b u e sl => by
      by_cases hb : b = d
      · subst hb
        have := x.le.keep b u e sl
        rw [hH] at this; cases this; cases sl
      · rw [upd_ne hb]; exact x.le.keep b u e sl, fun b kvs r => by
      by_cases hb : b = d
      · subst hb
        rcases x.le.rd b kvs r with e | ⟨_, e⟩
        · rw [hH] at e; cases e
          exact .inr ⟨od, upd_same⟩
        · rw [hH] at e; cases e
      · unfold Rd; rw [upd_ne hb]; exact x.le.rd b kvs r, fun b ps e => by
      obtain ⟨qs, e⟩ := x.le.tb b ps e
      have hb : b ≠ d := fun z => by subst z; rw [hH] at e; cases e
      exact ⟨qs, by rw [upd_ne hb]; exact e⟩⟩
  refine ⟨le, x.len, fun i r e => ?_, x.dis, tabs_grow x.tbs fun P q t => tab_upd t fun u hu => by rw [hH] at hu; cases hu; exact ⟨rfl, fun c q z => by unfold LamX.CodeO at z; cases z⟩⟩
  obtain ⟨v, e1, q⟩ := x.at_ i r e
  refine ⟨v, e1, ?_⟩
  have ne : ∀ b, B b = none → b ≠ d := fun b h z => by subst z; exact rd_ne hB h
  cases q with
  | v q => exact .v q
  | ol h1 h2 q => exact .ol h1 (by rw [upd_ne (ne _ h1)]; exact h2) q
  | od h1 h2 q => exact .od h1 (by rw [upd_ne (ne _ h1)]; exact h2) q
  | oi m h1 h2 q => exact .oi m h1 (by rw [upd_ne (ne _ h1)]; exact h2) q
/-- .. and unlocked -/
theorem Stp.unlock (x : StR KK mg B H σ S) (hB : Rd B d (.dK xs)) (hH : H d = some (.dK xs)) (s : Stp KK mg B (upd H d (.frz od (.dK xs))) σ S B' H' σ' S') :
    H' d = some (.frz od (.dK xs)) ∧ Stp KK mg B H σ S B' (upd H' d (.dK xs)) σ' S' := by
  have xl : StR KK mg B (upd H d (.frz od (.dK xs))) σ S := x.lock hB hH
  have at_ : H' d = some (.frz od (.dK xs)) := Stp.lk xl s d od xs upd_same
  have hB' : Rd B' d (.dK xs) := s.grow.sub.rd _ _ hB
  have ne : ∀ b, B' b = none → b ≠ d := fun b h z => by subst z; exact rd_ne hB' h
  refine ⟨at_, ⟨⟨s.grow.sub, fun b o e n t => ?_, fun t => ?_, fun b e => ?_, fun b e => ?_⟩, ⟨⟨fun b u e sl => ?_, fun b kvs r => ?_, fun b ps e => by
      obtain ⟨qs, e⟩ := s.st.le.tb b ps e
      have hb : b ≠ d := fun z => by subst z; rw [at_] at e; cases e
      exact ⟨qs, by rw [upd_ne hb]; exact e⟩⟩, s.st.len, fun i r e => ?_, s.st.dis, tabs_grow s.st.tbs fun P q t => tab_upd t fun u hu => by rw [at_] at hu; cases hu; exact ⟨rfl, fun c q z => by unfold LamX.CodeO at z; cases z⟩⟩, fun b e => ?_, s.pin, s.len⟩⟩
  · by_cases hb : b = d
    · subst hb; rw [hH] at e; cases e; rw [upd_same]
    · rw [upd_ne hb]; exact s.grow.keep b o (by rw [upd_ne hb]; exact e) n t
  · refine tabs_grow (s.grow.tab (tabs_grow t fun P q t => tab_upd t fun u hu => ?_)) fun P q t => tab_upd t fun u hu => ?_
    · rw [hH] at hu; cases hu; exact ⟨rfl, fun c q z => by unfold LamX.CodeO at z; cases z⟩
    · rw [at_] at hu; cases hu; exact ⟨rfl, fun c q z => by unfold LamX.CodeO at z; cases z⟩
  · by_cases hb : b = d
    · subst hb; rw [upd_same]; simp
    · rw [upd_ne hb]; exact s.grow.there b (by rw [upd_ne hb]; exact e)
  · rcases s.grow.new b e with z | z | z
    · exact .inl z
    · by_cases hb : b = d
      · subst hb; rw [upd_same] at z; cases z
      · rw [upd_ne hb] at z; exact .inr (.inl z)
    · exact .inr (.inr z)
  · by_cases hb : b = d
    · subst hb
      have := s.st.le.keep b u e sl
      rw [at_] at this; cases this; cases sl
    · rw [upd_ne hb]; exact s.st.le.keep b u e sl
  · by_cases hb : b = d
    · subst hb
      rcases s.st.le.rd b kvs r with z | ⟨_, z⟩
      · rw [at_] at z; cases z
      · rw [at_] at z; cases z; exact .inl upd_same
    · unfold Rd; rw [upd_ne hb]; exact s.st.le.rd b kvs r
  · obtain ⟨v, e1, q⟩ := s.st.at_ i r e
    refine ⟨v, e1, ?_⟩
    cases q with
    | v q => exact .v q
    | ol h1 h2 q => exact .ol h1 (by rw [upd_ne (ne _ h1)]; exact h2) q
    | od h1 h2 q => exact .od h1 (by rw [upd_ne (ne _ h1)]; exact h2) q
    | oi m h1 h2 q => exact .oi m h1 (by rw [upd_ne (ne _ h1)]; exact h2) q
  · rcases s.own b e with z | z
    · exact .inl z
    · by_cases hb : b = d
      · subst hb; rw [upd_same] at z; cases z
      · rw [upd_ne hb] at z; exact .inr z
theorem OpdR.unlock {v : V} {o : Opd} (hB : Rd B' d (.dK xs)) (q : OpdR mg B' H' σ S' v o) : OpdR mg B' (upd H' d (.dK xs)) σ S' v o := by
  have ne : ∀ b, B' b = none → b ≠ d := fun b h z => by subst z; exact rd_ne hB h
  cases q with
  | sl e r => exact .sl e r
  | v q n =>
    refine .v ?_ n
    cases q with
    | v q => exact .v q
    | ol h1 h2 q => exact .ol h1 (by rw [upd_ne (ne _ h1)]; exact h2) q
    | od h1 h2 q => exact .od h1 (by rw [upd_ne (ne _ h1)]; exact h2) q
    | oi m h1 h2 q => exact .oi m h1 (by rw [upd_ne (ne _ h1)]; exact h2) q
theorem Young.unlock {v : V} {o : Opd} (hH : H d = some (.dK xs)) (y : Young (upd H d (.frz od (.dK xs))) v o) : Young H v o := by
  cases o with
  | sl i => trivial
  | v r =>
    intro a h e
    have := y a h e
    by_cases hb : a = d
    · subst hb; rw [upd_same] at this; cases this
    · rw [upd_ne hb] at this; exact this
end
theorem comp_noexc {vs : List Nat} {g : GM} {t : M Bool} {e : M DV} {ds : List DV} {S S' : Sl} {c : Str} {fs : List (Str × DV)} : compM vs g t e ds S ≠ .exc c fs S' := by
  unfold compM
  split
  · split <;> simp
  · simp
section
variable {X : Cx} {elt : Expr} {elts : List Expr} {kk : Nat} {ifs : List Expr} {scope : Scope} {own : List (Str × Nat)} {tpos ap cp zp pos : Pos} {ts : List Nat} {g : GM} {t : M Bool} {me : M DV} {z : Str}
/-- the reading of the iterable, where the dict stands locked -/
theorem items_read {W : WX} {i : Nat} {σ : Sg} {H : Hp} {R : It → Hp → Prop} {d : Addr} {od : Obj} {xs : List (Key × V)} (hs : σ[i]? = some (some (.ref d))) (hd : H d = some (.frz od (.dK xs)))
    (h : tI X.K X.mg (itemsSl i) W σ H R) : iItems (fun σ H Q => ∃ v, σ[i]? = some (some v) ∧ Q v H) σ H R := by
  obtain ⟨B, S, st, q⟩ := h
  obtain ⟨kvs, eS, k⟩ := itemsSl_spec q
  obtain ⟨v, ev, qv⟩ := st.at_ i _ eS
  rw [hs] at ev; cases ev
  cases qv with
  | v qv =>
    cases qv with
    | dct r1 r2 =>
      have r3 : Rd H d (.dK _) := st.le.rd _ _ r1
      rcases r3 with e | ⟨_, e⟩
      · rw [hd] at e; cases e
      · rw [hd] at e; cases e
        exact ⟨.ref d, hs, d, od, _, rfl, hd, k _ B H (.refl st) (.refl S) (yields_items hd r2)⟩
theorem tLc_wi {wi wi' : TI} {g : TG} {tt : TT} {te : TE} {vs : List Nat} {σ : Sg} {H : Hp} {Q : VK} (h : ∀ R, wi σ H R → wi' σ H R) (q : tLc wi g tt te vs σ H Q) : tLc wi' g tt te vs σ H Q := h _ q
theorem PE.or {X : Cx} {e : Expr} {t1 t2 : TE} (h1 : PE X e t1) (h2 : PE X e t2) : PE X e (fun σ H Q => t1 σ H Q ∨ t2 σ H Q) := ⟨fun p s σ H Q I q => q.elim (h1.run p s σ H Q I) (h2.run p s σ H Q I)⟩
theorem px_lcI (i : Nat) (hz : X.N[i]? = some z) (hv : Vis X.env.scope z) (hc : X.calm = true) (hN : X.N.Nodup) (ok : BlkOk X.N X.env.scope scope own) (hts : ∀ i ∈ ts, i ∈ own.map (·.2))
    (hg : ∀ (s : Shared) (H : Hp) (C : Addr) (cl : List (Str × Addr)) (fp : List Addr), GX (X.blk s H scope (compEnvC scope cl C X.env) fp) (.Tuple elts kk tpos) ts g)
    (ht : ∀ (s : Shared) (H : Hp) (C : Addr) (cl : List (Str × Addr)) (fp : List Addr), TXs (X.blk s H scope (compEnvC scope cl C X.env) fp) ifs t)
    (he : ∀ (s : Shared) (H : Hp) (C : Addr) (cl : List (Str × Addr)) (fp : List Addr), FX (X.blk s H scope (compEnvC scope cl C X.env) fp) elt me) (hs : ∀ x, foldedSetIterable (.Call (.Attribute (.Name z zp) "items" ap) [] [] cp) X.env x = pure x := by intro _; rfl)
    (hbase : attributeBase (.Name z zp) "items" X.env (eval (.Name z zp) X.env) = eval (.Name z zp) X.env := by rfl) (hline : (ap.endLine == cp.line) = true := by rfl)
    (hdb : (z == ("__debug__" : Str)) = false := by decide) (hcd : (z == ("__classdict__" : Str)) = false := by decide) :
    PX X (.ListComp elt [⟨.Tuple elts kk tpos, .Call (.Attribute (.Name z zp) "items" ap) [] [] cp, ifs, 0⟩] scope pos) (M.bind (itemsSl i) (compM (own.map (·.2)) g t me)) := fun W tk => by
  have base := pe_lc (elt := elt) (pos := pos) (g := tGM X.K X.mg ts g) (tt := tB X.K X.mg t W0) (te := tF X.K X.mg me W0) hc hN (pi_items (elts := elts) (kk := kk) (tpos := tpos) (cpos := cp) (pe_var (pos := zp) (i := i) hz hv hdb hcd) hbase hline) ok (fun s H C cl fp => hg s H C cl fp) (fun s H C cl fp => ht s H C cl fp) (fun s H C cl fp => he s H C cl fp W0 takes0) hs
  refine PE.imp (PE.or base (pe_lock base)) fun σ H Q h => ?_
  have h0 := h
  obtain ⟨B, S, st, q⟩ := h
  obtain ⟨kvs, eS, q⟩ := itemsSl_spec (spec_bind.mp q)
  obtain ⟨v, ev, qv⟩ := st.at_ i _ eS
  cases qv with
  | v qv =>
    cases qv with
    | @dct d xs _ r1 r2 =>
      rcases st.le.rd _ _ r1 with hd | ⟨od, hd⟩
      · refine .inr ⟨d, _, hd, trivial, fun od => ?_⟩
        have sl := st.lock (od := od) r1 hd
        refine tLc_wi (fun R => items_read (W := W) ev upd_same) (lc_read hts ⟨B, S, sl, ?_⟩)
        show (M.bind (itemsSl i) (compM (own.map (·.2)) g t me) S).spec _ _
        have e1 : M.bind (itemsSl i) (compM (own.map (·.2)) g t me) S = compM (own.map (·.2)) g t me (itemsDV kvs) S := by
          have e2 : itemsSl i S = .ok (itemsDV kvs) S := by unfold itemsSl; rw [eS]
          unfold M.bind
          rw [e2]
        rw [e1]
        cases em : compM (own.map (·.2)) g t me (itemsDV kvs) S with
        | stuck => rw [em] at q; exact q.elim
        | exc c fs S' => exact (comp_noexc em).elim
        | ok o S' =>
          rw [em] at q
          intro v' B' H' s' hs' r' y'
          obtain ⟨at_, s2⟩ := Stp.unlock st r1 hd s'
          exact ⟨at_, q v' B' _ s2 hs' (r'.unlock (s'.grow.sub.rd _ _ r1)) (y'.unlock hd)⟩
      · exact .inl (tLc_wi (fun R => items_read (W := W) ev hd) (lc_read hts h0))
end
end Lb
/-! Chained comparisons, list(d.items()), d.clear(), xs.extend(ys). -/
namespace Lb
open PySem PySem.Spec PyProof.Rows L2 LiI
theorem cmpB_spec {F : DV → DV → Option Bool} {x y : Opd} {S : Sl} {K : Bool → Sl → Prop} {E : Str → List (Str × DV) → Sl → Prop} (h : (cmpB F x y S).spec K E) : ∃ dx dy k, x.dv S = some dx ∧ y.dv S = some dy ∧ F dx dy = some k ∧ K k S := by
  unfold cmpB at h
  split at h
  · rename_i dx dy h1 h2
    cases h3 : F dx dy with
    | none => rw [h3] at h; exact h.elim
    | some k => rw [h3] at h; exact ⟨dx, dy, k, h1, h2, h3, h⟩
  · exact h.elim
section
variable {X : Cx} {a b c : Expr} {ma mb mc : M Opd} {pos : Pos}
theorem px_chain {op op' : CmpOp} {r r' : R2} {F F' : DV → DV → Option Bool} (ho : OpR X (compareOp op) r) (hp : Prim2 X.mg r (rvB F)) (ho' : OpR X (compareOp op') r') (hp' : Prim2 X.mg r' (rvB F')) (ha : PX X a ma) (hb : PX X b mb) (hc : PX X c mc)
    (hm : lastMarks [op, op'] [b, c] = false := by with_unfolding_all rfl) :
    PX X (.Compare a [op, op'] [b, c] pos) (M.bind ma fun x => M.bind mb fun y => M.bind (cmpB F x y) fun k => if k then M.bind mc fun w => op2 (rvB F') y w else kst (.bl false)) := fun W tk =>
  PE.imp (pe_chain ho ho' (ha W tk) (hb W tk) (hc W tk) hm) fun σ H Q ⟨B, S, st, q⟩ =>
    ⟨B, S, st, (spec_bind.mp q).imp (fun x S1 _ q v B1 H1 s hs or _ => ⟨B1, S1, s.st, (spec_bind.mp q).imp (fun y S2 _ q w B2 H2 s2 hs2 or2 _ => by
      obtain ⟨dx, dy, k, hx, hy, hF, q⟩ := cmpB_spec (spec_bind.mp q)
      have or' := or.step s2 hs2
      refine hp B2 H2 v w dx dy (.v (.bl k)) _ s2.st.le (or'.view s2.st hx) (or2.view s2.st hy) (by unfold rvB; rw [hF]; rfl) fun v3 B3 H3 res => ?_
      have s3 : Stp X.K X.mg B2 H2 σ S2 B3 H3 σ S2 := s2.st.step res.new
      have ev : v3 = .bl k := by cases res.rv with | v qv => cases qv; rfl
      subst ev
      refine ⟨k, rfl, ?_⟩
      have sT := (s.trans s2).trans s3
      cases k with
      | false => exact q _ B3 H3 sT (hs.trans hs2) (.v (.v (.bl false)) fun a h => by cases h) fun a h => by cases h
      | true =>
        refine ⟨B3, S2, s3.st, (spec_bind.mp q).imp (fun z S4 _ q w4 B4 H4 s4 hs4 or4 _ => ?_) fun _ _ _ h => h.pre sT⟩
        exact op2_end hp' sT (hs.trans hs2) (or2.step s3 (.refl _)) s4 hs4 or4 q) fun _ _ _ h => h.pre s⟩) fun _ _ _ h => h⟩
end
/-! ### list(d.items()) of an own dict -/
def itemsL (o : Opd) : M Opd := fun S => match o with
  | .v (.od _ kvs) => .ok (.v (.ol false (itemsDV kvs))) S
  | .sl i => (match S[i]? with
    | some (some (.od _ kvs)) => .ok (.v (.ol false (itemsDV kvs))) S
    | _ => .stuck)
  | _ => .stuck
theorem itemsL_spec {KK : PySem.W.Frag} {mg : Mg} {B H : Hp} {σ : Sg} {v : V} {o : Opd} {S : Sl} {K : Opd → Sl → Prop} {E : Str → List (Str × DV) → Sl → Prop} (x : StR KK mg B H σ S) (q : OpdR mg B H σ S v o) (h : (itemsL o S).spec K E) :
    ∃ d xs kvs, v = .ref d ∧ H d = some (.dK xs) ∧ RepK mg B xs kvs ∧ K (.v (.ol false (itemsDV kvs))) S := by
  unfold itemsL at h
  split at h
  · cases q with
    | v q _ => cases q with | od _ h1 r => exact ⟨_, _, _, rfl, h1, r, h⟩
  · split at h
    · rename_i i p kvs e
      cases q with
      | sl e1 r =>
        obtain ⟨w, e2, q⟩ := x.at_ _ _ e
        rw [e1] at e2; cases e2
        cases q with | od _ h1 r => exact ⟨_, _, _, rfl, h1, r, h⟩
    · exact h.elim
  · exact h.elim
section
variable {KK : PySem.W.Frag} {mg : Mg} {B H : Hp}
/-- tuples that were just laid are data from now on -/
theorem new_tups {H' : Hp} (le : Sub B H) (keep : ∀ b o, H b = some o → H' b = some o) : ∀ {ts : List Addr} {xs : List (Key × V)} {ds : List (Key × DV)} {B1 : Hp}, New B H B1 H' → RepK mg B xs ds → Paired (fun (t : Addr) (q : Key × V) => H' t = some (.tup [kV q.1, q.2])) ts xs → (∀ t ∈ ts, H t = none) →
    ∃ B2, New B H B2 H' ∧ Sub B1 B2 ∧ Reps mg B2 (ts.map V.ref) (itemsDV ds) ∧ (∀ a, B1 a = none → a ∉ ts → B2 a = none)
  | _, _, _, B1, n, .nil, .nil, _ => ⟨B1, n, .refl _, .nil, fun a h _ => h⟩
  | t :: ts, (k, x) :: xs, (_, d) :: ds, B1, n, .cons r q, .cons h p, f => by
    have ft : H t = none := f t (by simp)
    -- t joins what is frozen
    have at_ : H' t = some (.tup [kV k, x]) := h
    let B1' : Hp := upd B1 t (.tup [kV k, x])
    have sub1 : Sub B1 B1' := by
      by_cases ht : B1 t = none
      · exact Sub.upd ht
      · refine ⟨fun a o e sl => ?_, fun a kvs e => ?_, fun a ps e => ?_⟩
        · by_cases ha : a = t
          · subst ha
            have := n.le.keep _ _ e sl
            rw [at_] at this; cases this; exact upd_same
          · show upd B1 t _ a = _; rw [upd_ne ha]; exact e
        · by_cases ha : a = t
          · subst ha
            rcases n.le.rd _ _ e with z | ⟨_, z⟩ <;> rw [at_] at z <;> cases z
          · show Rd (upd B1 t _) a _; unfold Rd; rw [upd_ne ha]; exact e
        · by_cases ha : a = t
          · subst ha
            obtain ⟨qs, z⟩ := n.le.tb _ _ e
            rw [at_] at z; cases z
          · exact ⟨ps, by show upd B1 t _ a = _; rw [upd_ne ha]; exact e⟩
    have le1 : Sub B1' H' := ⟨fun a o e sl => by
        by_cases ha : a = t
        · subst ha
          have : upd B1 a (.tup [kV k, x]) a = some o := e
          rw [upd_same] at this; cases this; exact at_
        · have : upd B1 t (.tup [kV k, x]) a = some o := e
          rw [upd_ne ha] at this; exact n.le.keep a o this sl, fun a kvs e => by
        by_cases ha : a = t
        · subst ha
          have : Rd (upd B1 a (.tup [kV k, x])) a (.dK kvs) := e
          unfold Rd at this; rw [upd_same] at this
          rcases this with z | ⟨_, z⟩ <;> cases z
        · have : Rd (upd B1 t (.tup [kV k, x])) a (.dK kvs) := e
          unfold Rd at this; rw [upd_ne ha] at this; exact n.le.rd a kvs this, fun a ps e => by
        by_cases ha : a = t
        · subst ha
          have : upd B1 a (.tup [kV k, x]) a = some (.tbl ps) := e
          rw [upd_same] at this; cases this
        · have : upd B1 t (.tup [kV k, x]) a = some (.tbl ps) := e
          rw [upd_ne ha] at this; exact n.le.tb a ps this⟩
    have n1 : New B H B1' H' := ⟨n.same, fun P q t => (n.tab P q t).sub sub1, n.there, n.sub.trans sub1, le1, fun a e => by
      by_cases ha : a = t
      · subst ha; exact .inr ft
      · have : upd B1 t (.tup [kV k, x]) a ≠ none := e
        rw [upd_ne ha] at this; exact n.new a this⟩
    obtain ⟨B2, n2, s2, r2, z2⟩ := new_tups le keep n1 q p (fun t' ht' => f t' (List.mem_cons_of_mem _ ht'))
    refine ⟨B2, n2, sub1.trans s2, ?_, fun a h1 h2 => z2 a (by show upd B1 t _ a = none; rw [upd_ne (fun z => h2 (by simp [z]))]; exact h1) (fun z => h2 (List.mem_cons_of_mem _ z))⟩
    refine .cons (.tup (s2.keep _ _ (show upd B1 t _ t = _ from upd_same) rfl) (.cons rep_kD (.cons (r.mono n2.sub) .nil))) r2
end
section
variable {X : Cx} {e : Expr} {me : M Opd} {p apos cpos pos : Pos}
theorem px_listItems (hc : X.calm = true) (he : PX X e me) (hm : X.mg "list" = none) (hg : Gl X "list" := by rfl) (hv : bootBuiltins "list" = some (.type "list") := by first | rfl | decide +kernel) (hbase : attributeBase e "items" X.env (eval e X.env) = eval e X.env := by rfl) (hline : (apos.endLine == cpos.line) = true := by rfl)
    (hs : starEach [.Call (.Attribute e "items" apos) [] [] cpos] X.env = (false, eval (.Call (.Attribute e "items" apos) [] [] cpos) X.env) :: starEach [] X.env := by rfl) :
    PX X (.Call (.Name "list" p) [.Call (.Attribute e "items" apos) [] [] cpos] [] pos) (M.bind me itemsL) := fun W tk =>
  PE.imp (pe_listItems hc (he W tk) hg hm hv hbase hline hs) fun σ H Q ⟨B, S, st, q⟩ => ⟨B, S, st, (spec_bind.mp q).imp (fun o S1 _ q v B1 H1 s hs or _ => by
    obtain ⟨d, xs, kvs, rfl, hd, rk, q⟩ := itemsL_spec s.st or q
    refine ⟨d, xs, rfl, hd, fun H' l ts keep nl nts nlts hl prd => ?_⟩
    have same : New B1 H1 B1 H' := ⟨fun b o h _ => keep b o h, fun P q t => t.ext keep, fun b h => by
      cases z : H1 b with
      | none => exact absurd z h
      | some o => rw [keep b o z]; simp, .refl _, ⟨fun b o h sl => keep b o (s.st.le.keep b o h sl), fun b k h => by
        rcases s.st.le.rd b k h with z | ⟨o, z⟩
        · exact .inl (keep _ _ z)
        · exact .inr ⟨o, keep _ _ z⟩, fun b ps e => let ⟨qs, e⟩ := s.st.le.tb b ps e; ⟨qs, keep _ _ e⟩⟩, fun b h => .inl h⟩
    obtain ⟨B2, n2, _, r2, z2⟩ := new_tups s.st.le keep same rk prd nts
    have bl : B1 l = none := s.st.le.none nl
    have s2 := s.st.step n2
    have rv : RVR X.mg B2 H' (.ref l) (.ol false (itemsDV kvs)) := .ol (z2 l bl nlts) hl r2
    refine q (.ref l) B2 H' (s.trans s2) hs (.v rv fun a _ ea z => ?_) fun a _ ea => by cases ea; exact s.free nl
    cases ea
    rcases s2.own _ z with y | y
    · exact s.st.notOwn nl y
    · obtain ⟨i, h1, h2⟩ := z
      exact s.st.notOwn nl ⟨i, h1, h2⟩) fun _ _ _ h => h⟩
end
/-! ### d.clear() of an own dict -/
section
variable {KK : PySem.W.Frag} {mg : Mg} {B0 H0 B H : Hp} {σ0 σ : Sg} {S0 S : Sl} {i : Nat}
theorem Stp.mutD (s : Stp KK mg B0 H0 σ0 S0 B H σ S) {a : Addr} {p : Bool} {ds ds' : List (Key × DV)} {xs' : List (Key × V)} (e : S[i]? = some (some (.od p ds))) (ev : σ[i]? = some (some (.ref a))) (q : RepK mg B xs' ds') :
    Stp KK mg B0 H0 σ0 S0 B (upd H a (.dK xs')) σ (S.set i (some (.od p ds'))) := by
  have oi : OwnAt σ S i a := ⟨⟨_, e, rfl⟩, ev⟩
  have na : B a = none := s.st.noB ⟨i, oi⟩
  have il : i < S.length := (List.getElem?_eq_some_iff.mp e).1
  have hlst : ∀ u, H a = some u → nTbl u = true ∧ ∀ c q, u ≠ LamX.CodeO c q := fun u hu => by
    obtain ⟨v, e1, q⟩ := s.st.at_ i _ e
    rw [ev] at e1; cases e1
    cases q with
    | od _ h _ => rw [h] at hu; cases hu; exact ⟨rfl, fun c q z => by unfold LamX.CodeO at z; cases z⟩
  have hth : H a ≠ none := by
    obtain ⟨v, e1, q⟩ := s.st.at_ i _ e
    rw [ev] at e1; cases e1
    cases q with
    | od _ h _ => rw [h]; simp
  have own : ∀ j b, OwnAt σ (S.set i (some (.od p ds'))) j b → OwnAt σ S j b := fun j b ⟨⟨r', e1, h1⟩, e2⟩ => by
    rcases set_some_cases e1 with ⟨g1, g2⟩ | ⟨g1, g2⟩
    · subst g1; exact ⟨⟨_, e, rfl⟩, e2⟩
    · exact ⟨⟨r', g2, h1⟩, e2⟩
  have le : Sub B (upd H a (.dK xs')) := ⟨fun b u h sl => by
      have hb : b ≠ a := fun z => by subst z; rw [na] at h; cases h
      rw [upd_ne hb]; exact s.st.le.keep b u h sl,
    fun b u r => by
      have hb : b ≠ a := fun z => by subst z; rcases r with r | ⟨_, r⟩ <;> rw [na] at r <;> cases r
      unfold Rd; rw [upd_ne hb]; exact s.st.le.rd b u r, fun b ps e => by
      have hb : b ≠ a := fun z => by subst z; rw [na] at e; cases e
      rw [upd_ne hb]; exact s.st.le.tb b ps e⟩
  have om : OwnA σ0 S0 a ∨ H0 a = none := s.own a ⟨i, oi⟩
  refine ⟨⟨s.grow.sub, fun b o h n ht => ?_, fun t => tabs_grow (s.grow.tab t) fun P q t => tab_upd t (fun u hu => hlst u hu), fun b h => ?_, s.grow.new⟩, ⟨le, by rw [set_len]; exact s.st.len, fun j r' e1 => ?_, fun j k b h1 h2 => s.st.dis j k b (own j b h1) (own k b h2), tabs_grow s.st.tbs fun P q t => tab_upd t hlst⟩, fun b ⟨j, h⟩ => s.own b ⟨j, own j b h⟩, fun j hj => ?_, set_len.trans s.len⟩
  · have hb : b ≠ a := fun z => by
      subst z
      rcases om with z | z
      · exact n z
      · rw [z] at h; cases h
    rw [upd_ne hb]; exact s.grow.keep b o h n ht
  · by_cases hb : b = a
    · subst hb; rw [upd_same]; simp
    · rw [upd_ne hb]; exact s.grow.there b h
  · rcases set_some_cases e1 with ⟨g1, g2⟩ | ⟨g1, g2⟩
    · cases g2
      subst g1
      exact ⟨.ref a, ev, .od na upd_same q⟩
    · obtain ⟨w, e2, q'⟩ := s.st.at_ j r' g2
      refine ⟨w, e2, ?_⟩
      cases q' with
      | v q' => exact .v q'
      | @ol b p' ys es h1 h2 q' =>
        have hb : b ≠ a := fun z => g1 (s.st.dis j i a ⟨⟨_, g2, rfl⟩, z ▸ e2⟩ oi)
        exact .ol h1 (by rw [upd_ne hb]; exact h2) q'
      | @od b p' ys es h1 h2 q' =>
        have hb : b ≠ a := fun z => g1 (s.st.dis j i a ⟨⟨_, g2, rfl⟩, z ▸ e2⟩ oi)
        exact .od h1 (by rw [upd_ne hb]; exact h2) q'
      | @oi b C dx p' k ys es h0 h1 h2 q' =>
        have hb : b ≠ a := fun z => g1 (s.st.dis j i a ⟨⟨_, g2, rfl⟩, z ▸ e2⟩ oi)
        exact .oi h0 h1 (by rw [upd_ne hb]; exact h2) q'
  · obtain ⟨⟨r', h1, h2⟩, h3⟩ := s.pin j hj
    refine ⟨?_, h3⟩
    by_cases nj : j = i
    · subst nj
      rw [e] at h1; cases h1
      exact ⟨_, List.getElem?_set_self il, h2⟩
    · exact ⟨r', by rw [set_other nj]; exact h1, h2⟩
end
def clearM (i : Nat) : SM := fun S => match S[i]? with
  | some (some (.od p _)) => .nx (S.set i (some (.od p [])))
  | _ => .stuck
section
variable {X : Cx} {x : Str} {zp ap cp pos : Pos}
theorem sx_clear (i : Nat) (hN : X.N[i]? = some x) (hv : Vis X.env.scope x := by first | exact Or.inl rfl | exact Or.inr (Or.inl rfl) | exact Or.inr (Or.inr rfl)) (hd : (x == ("__debug__" : Str)) = false := by decide)
    (hcd : (x == ("__classdict__" : Str)) = false := by decide)
    (hs : swapsWith (.Call (.Attribute (.Name x zp) "clear" ap) [] [] cp) none pos.line X.env = pure false := by rfl)
    (hbase : attributeBase (.Name x zp) "clear" X.env (eval (.Name x zp) X.env) = eval (.Name x zp) X.env := by rfl)
    (hline : (ap.endLine == cp.line) = true := by rfl) :
    SX X (.Expr (.Call (.Attribute (.Name x zp) "clear" ap) [] [] cp) pos) (clearM i) := fun W tk pp =>
  PS.imp (ps_expr (pe_dclear (pe_var (i := i) hN hv hd hcd) hbase hline) hs) fun D σ H ⟨B, S, st, q⟩ => by
    unfold clearM at q
    split at q
    · rename_i p kvs e
      obtain ⟨v, ev, qv⟩ := st.at_ i _ e
      cases qv with
      | @od a p xs ds hb hh r =>
        exact ⟨.ref a, ev, .inr (.inr (.inl ⟨rfl, .inl ⟨xs, hh⟩⟩)), a, xs, rfl, rfl, hh, q B _ σ ((Stp.refl st).mutD e ev .nil)⟩
    · exact q.elim
end
/-! ### xs.extend(e) -/
def extendM (i : Nat) (m : M DV) : SM := fun S => if isOl S i then match m S with
    | .ok (.lst es) S1 => (match S1[i]? with
      | some (some (.ol p ds)) => if ds.length + es.length ≤ sizeLine then .nx (S1.set i (some (.ol p (ds ++ es)))) else .stuck
      | _ => .stuck)
    | .ok _ _ => .stuck
    | .exc c fs S1 => .exc c fs S1
    | .stuck => .stuck
  else .stuck
section
variable {X : Cx} {e : Expr} {x : Str} {zp ap cp pos : Pos} {m : M DV}
theorem sx_extend (i : Nat) (hN : X.N[i]? = some x) (he : FX X e m) (hv : Vis X.env.scope x := by first | exact Or.inl rfl | exact Or.inr (Or.inl rfl) | exact Or.inr (Or.inr rfl)) (hd : (x == ("__debug__" : Str)) = false := by decide)
    (hcd : (x == ("__classdict__" : Str)) = false := by decide)
    (hs : swapsWith (.Call (.Attribute (.Name x zp) "extend" ap) [e] [] cp) none pos.line X.env = pure false := by rfl)
    (hbase : attributeBase (.Name x zp) "extend" X.env (eval (.Name x zp) X.env) = eval (.Name x zp) X.env := by rfl)
    (hfew : ((backTo cp (starEach [e] X.env)).all (fun x => !x.1) && (backToKw cp (keywordEach [] X.env)).all (fun x => x.1.isSome)
      && decide (([e] : List Expr).length + ([] : List Keyword).length + (if ([] : List Keyword).isEmpty then 0 else 1) < 30)) = true := by rfl)
    (hline : (ap.endLine == cp.line) = true := by rfl) (hst : starEach [e] X.env = (false, eval e X.env) :: starEach [] X.env := by rfl) (hplain : (backTo cp (starEach [] X.env)).any (·.1) = false := by rfl) :
    SX X (.Expr (.Call (.Attribute (.Name x zp) "extend" ap) [e] [] cp) pos) (extendM i m) := fun W tk pp =>
  PS.imp (ps_expr (pe_bm PySem.F.plainAttrs_list PySem.F.slot_list_extend PySem.F.type_list_extend mt_extend (pe_var (i := i) hN hv hd hcd) (pa_cons (he W tk) pa_nil hst) hbase hfew hline hst hplain) hs) fun D σ H ⟨B, S, st, q⟩ => by
    unfold extendM at q
    split at q
    · rename_i ho
      obtain ⟨p, ds, eS⟩ := isOl_of ho
      obtain ⟨v, ev, qv⟩ := st.at_ i _ eS
      cases qv with
      | @ol a p xs ds hb hh r =>
        refine ⟨.ref a, ev, .inl ⟨rfl, xs, SqL.of hh⟩, B, S, st, ?_⟩
        cases em : m S with
        | stuck => rw [em] at q; exact q.elim
        | exc c fs S1 => rw [em] at q; exact q
        | ok d S1 =>
          rw [em] at q
          intro y B1 H1 s hs ry
          split at q
          · rename_i es S1' em'
            cases em'
            split at q
            · rename_i p1 ds1 e1
              split at q
              · rename_i hz
                obtain ⟨v1, ev1, qv1⟩ := s.st.at_ i _ e1
                rw [ev] at ev1; cases ev1
                cases qv1 with
                | ol hb1 hh1 r1 =>
                  cases ry with
                  | @lst b zs _ hb2 r2 =>
                    exact ⟨a, b, _, zs, rfl, rfl, hh1, s.st.le.keep _ _ hb2 rfl, by rw [r1.length, r2.length]; exact hz, q B1 _ σ (s.mutL e1 ev (r1.append r2))⟩
              · exact q.elim
            · exact q.elim
          all_goals first | exact q.elim | (rename_i hh; cases hh)
    · exact q.elim
end
end Lb
/-! Dict comprehensions of one clause. -/
namespace Lb
open PySem PySem.Spec PyProof.Rows L2
def dcompL (vs : List Nat) (g : GM) (t : M Bool) (k e : M DV) : List DV → List (Key × DV) → Sl → Option (List (Key × DV) × Sl)
  | [], acc, S => some (acc, S)
  | d :: ds, acc, S => match g d S with
    | none => none
    | some S1 => match t S1 with
      | .ok false S2 => dcompL vs g t k e ds acc (wipeS S2 vs)
      | .ok true S2 => match k S2 with
        | .ok ky S3 => match e S3 with
          | .ok y S4 => match keyDV ky with
            | some kk => if acc.length < sizeLine then dcompL vs g t k e ds (putD acc kk y) (wipeS S4 vs) else none
            | none => none
          | _ => none
        | _ => none
      | _ => none
def dcompM (vs : List Nat) (g : GM) (t : M Bool) (k e : M DV) (ds : List DV) : M Opd := fun S => if noOwn S vs then
    (match dcompL vs g t k e ds [] (wipeS S vs) with
    | some (acc, S') => .ok (.v (.od false acc)) (restS S S' vs)
    | none => .stuck)
  else .stuck
theorem rep_key {mg : Mg} {B : Hp} {v : V} {d : DV} {k : Key} (r : Rep mg B v d) (h : keyDV d = some k) : v = kV k := by
  cases d with
  | int i => cases h; cases r; rfl
  | str x => cases h; cases r; rfl
  | _ => cases h
section
variable {X : Cx} {kx vx tg iter : Expr} {ifs : List Expr} {scope : Scope} {own : List (Str × Nat)} {pos : Pos} {mi : M (List DV)} {ts : List Nat} {g : GM} {t : M Bool} {mk me : M DV}
theorem dc_read {W : WX} (hts : ∀ i ∈ ts, i ∈ own.map (·.2)) {σ : Sg} {H : Hp} {Q : VK} (h : tM X.K X.mg (M.bind mi (dcompM (own.map (·.2)) g t mk me)) W σ H Q) :
    tDc (tI X.K X.mg mi W) (tGM X.K X.mg ts g) (tB X.K X.mg t W0) (tF X.K X.mg mk W0) (tF X.K X.mg me W0) (own.map (·.2)) σ H Q := by
  generalize hvs : own.map (·.2) = vs at h hts ⊢
  obtain ⟨B, S, st, q⟩ := h
  refine ⟨B, S, st, (spec_bind.mp q).imp (fun ds S1 _ q J B1 H1 s hs y => ?_) fun _ _ _ h => h⟩
  unfold dcompM at q
  obtain ⟨no, q⟩ := if_spec q
  cases ec : dcompL vs g t mk me ds [] (wipeS S1 vs) with
  | none => rw [ec] at q; exact q.elim
  | some p =>
    obtain ⟨accF, SF⟩ := p
    rw [ec] at q
    intro D hD
    have w0 : ∀ v ∈ vs, ∀ r : RV, (wipeS S1 vs)[v]? ≠ some (some r) := fun v hv r => wipeS_in hv
    have st1 : StR X.K X.mg B1 H1 (L2.wipe σ vs) (wipeS S1 vs) := s.st.wipe
    refine ⟨fun i m H' => ∃ B' S' acc accV, Stp X.K X.mg B1 H1 (L2.wipe σ vs) (wipeS S1 vs) B' H' (L2.wipe σ vs) S' ∧ Has (wipeS S1 vs) S' ∧ (∀ v ∈ vs, ∀ r : RV, S'[v]? ≠ some (some r)) ∧ H' D = some (.dK accV) ∧ B' D = none ∧ ¬ OwnA (L2.wipe σ vs) S' D ∧ RepK X.mg B' accV acc ∧
      m = ds.length - i ∧ i ≤ ds.length ∧ dcompL vs g t mk me (ds.drop i) acc S' = some (accF, SF),
      ⟨ds.length, B1, wipeS S1 vs, [], [], st1.alloc hD _, .refl _, w0, upd_same, s.st.le.none hD, st1.notOwn hD, .nil, by simp, Nat.zero_le _, by simpa using ec⟩, ?_⟩
    rintro i m H' ⟨B', S', acc, accV, s', has', w', hDv, hDb, hDo, racc, rfl, hi, ec'⟩
    by_cases hlt : i < ds.length
    · have hd : ds[i]? = some ds[i] := List.getElem?_eq_getElem hlt
      refine .inr ⟨y.go B' H' s'.sub s'.st.le (Stp.lk st1 s') i hlt, _, fun _ h => h, fun xv H2 hy => ?_⟩
      obtain ⟨B2, n2, r2⟩ := y.yld B' H' s'.sub s'.st.le (Stp.lk st1 s') i xv H2 hy _ hd
      have sn := s'.st.step n2
      rw [List.drop_eq_getElem_cons hlt] at ec'
      unfold dcompL at ec'
      cases eg : g ds[i] S' with
      | none => rw [eg] at ec'; cases ec'
      | some S3 =>
        rw [eg] at ec'
        refine ⟨B2, S', ds[i], S3, sn.st, r2, eg, fun B3 H3 σ3 s3 hs3 o3 => ?_⟩
        have hw : L2.wipe σ3 vs = L2.wipe σ vs := by
          refine wipe_congr ?_ fun j hj => ?_
          · rw [s3.st.len, s3.len, ← s'.st.len, wipe_length]
          · rw [o3 j fun z => hj (hts j z), wipe_out hj]
        refine ⟨hw, B3, S3, s3.st, ?_⟩
        have turn : ∀ {B5 H5 : Hp} {S5 : Sl}, Stp X.K X.mg B' H' (L2.wipe σ vs) S' B5 H5 σ3 S5 → Has S' S5 → Stp X.K X.mg B' H' (L2.wipe σ vs) S' B5 H5 (L2.wipe σ vs) (wipeS S5 vs) ∧ Has (wipeS S1 vs) (wipeS S5 vs) := fun {B5 H5 S5} s5 h5 => by
          refine ⟨by have := s5.wipe w'; rw [hw] at this; exact this, fun j hj => ?_⟩
          have hjv : j ∉ vs := fun z => by
            obtain ⟨r, hr⟩ := hj
            exact w0 j z r hr
          obtain ⟨r, hr⟩ := h5 j (has' j hj)
          exact ⟨r, by rw [wipeS_out hjv]; exact hr⟩
        have s23 := sn.trans s3
        have h23 : Has S' S3 := hs3
        dsimp only at ec'
        cases et : t S3 with
        | stuck => rw [et] at ec'; cases ec'
        | exc c fs S4 => rw [et] at ec'; cases ec'
        | ok b S4 =>
          rw [et] at ec'
          intro B4 H4 s4 hs4
          have s24 := s23.trans s4
          have h24 := h23.trans hs4
          cases b with
          | false =>
            rw [if_neg Bool.false_ne_true]
            obtain ⟨k1, k2⟩ := turn s24 h24
            obtain ⟨q1, q2, q3⟩ := k1.tmpStay rfl hDv hDb hDo
            exact ⟨ds.length - (i + 1), by omega, B4, wipeS S4 vs, acc, accV, s'.trans k1, k2, fun v hv r => wipeS_in hv, q1, q2, q3, racc.mono s24.grow.sub, rfl, hlt, ec'⟩
          | true =>
            rw [if_pos rfl]
            refine ⟨B4, S4, s4.st, ?_⟩
            dsimp only at ec'
            cases ek : mk S4 with
            | stuck => rw [ek] at ec'; cases ec'
            | exc c fs S5 => rw [ek] at ec'; cases ec'
            | ok kd S5 =>
              rw [ek] at ec'
              intro kV' B5 H5 s5 hs5 rk
              dsimp only at ec'
              refine ⟨B5, S5, s5.st, ?_⟩
              cases ee : me S5 with
              | stuck => rw [ee] at ec'; cases ec'
              | exc c fs S6 => rw [ee] at ec'; cases ec'
              | ok yv S6 =>
                rw [ee] at ec'
                intro yV B6 H6 s6 hs6 ry
                dsimp only at ec'
                split at ec'
                · rename_i kk hkk
                  split at ec'
                  · rename_i hlen
                    have s26 := (s24.trans s5).trans s6
                    obtain ⟨k1, k2⟩ := turn s26 ((h24.trans hs5).trans hs6)
                    obtain ⟨q1, q2, q3⟩ := k1.tmpStay rfl hDv hDb hDo
                    refine ⟨accV, kk, rep_key rk hkk, q1, by rw [racc.length]; exact hlen, ds.length - (i + 1), by omega, B6, wipeS S6 vs, putD acc kk yv, putK accV kk yV, (s'.trans k1).tmp q1 ⟨rfl, fun c q z => by unfold LamX.CodeO at z; cases z⟩ hD q2 q3, k2, fun v hv r => wipeS_in hv, upd_same, q2, q3, repk_put ry (racc.mono s26.grow.sub), rfl, hlt, ec'⟩
                  · cases ec'
                · cases ec'
    · have e : i = ds.length := by omega
      subst e
      refine .inl ⟨y.stop B' H' s'.sub s'.st.le (Stp.lk st1 s'), ?_⟩
      rw [List.drop_length] at ec'
      unfold dcompL at ec'
      cases ec'
      obtain ⟨fin, fo⟩ := s'.unwipe s.st no
      refine q (.ref D) B' H' (s.trans fin) (fun j hj => ?_) (.v (.od hDb hDv racc) fun a _ e z => by cases e; exact hDo (fo _ z)) fun a _ e => by cases e; exact s.free hD
      obtain ⟨r, hr⟩ := hs j hj
      by_cases hjv : j ∈ vs
      · have hl : j < SF.length := by
          rw [s'.len, wipeS_len]
          exact (List.getElem?_eq_some_iff.mp hr).1
        exact ⟨r, restS_at hjv hl hr⟩
      · obtain ⟨r', hr'⟩ := has' j ⟨r, by rw [wipeS_out hjv]; exact hr⟩
        exact ⟨r', by rw [restS_out hjv]; exact hr'⟩
theorem px_dc (hc : X.calm = true) (hN : X.N.Nodup) (hi : IX X tg iter mi) (ok : BlkOk X.N X.env.scope scope own) (hts : ∀ i ∈ ts, i ∈ own.map (·.2))
    (hg : ∀ (s : Shared) (H : Hp) (C : Addr) (cl : List (Str × Addr)) (fp : List Addr), GX (X.blk s H scope (compEnvC scope cl C X.env) fp) tg ts g)
    (ht : ∀ (s : Shared) (H : Hp) (C : Addr) (cl : List (Str × Addr)) (fp : List Addr), TXs (X.blk s H scope (compEnvC scope cl C X.env) fp) ifs t)
    (hk : ∀ (s : Shared) (H : Hp) (C : Addr) (cl : List (Str × Addr)) (fp : List Addr), FX (X.blk s H scope (compEnvC scope cl C X.env) fp) kx mk)
    (he : ∀ (s : Shared) (H : Hp) (C : Addr) (cl : List (Str × Addr)) (fp : List Addr), FX (X.blk s H scope (compEnvC scope cl C X.env) fp) vx me) (hs : ∀ x, foldedSetIterable iter X.env x = pure x := by intro _; rfl) :
    PX X (.DictComp kx vx [⟨tg, iter, ifs, 0⟩] scope pos) (M.bind mi (dcompM (own.map (·.2)) g t mk me)) := fun W tk =>
  PE.imp (pe_dc (g := tGM X.K X.mg ts g) (tt := tB X.K X.mg t W0) hc hN (hi W tk) ok (fun s H C cl fp => hg s H C cl fp) (fun s H C cl fp => ht s H C cl fp) (fun s H C cl fp => hk s H C cl fp W0 takes0) (fun s H C cl fp => he s H C cl fp W0 takes0) hs) fun σ H Q h => dc_read hts h
end
end Lb
/-! {**a, **b}. -/
namespace Lb
open PySem PySem.Spec PyProof.Rows
section
variable {prog : Program} {w : World} {K : Type} [DecidableEq K] {knd : KeyKind prog w K} {A : Around} {E : Value → Shared → Prop} {s : Shared}
/-- one entry is put into a dict -/
theorem put_one {d : Addr} {xs : List (K × Value)} {k : K} {key v : Value} {Q : Unit → Shared → Prop} (is : knd.is k key = true) (at_ : s.heap.DictOf knd d xs) (few : xs.length ≤ sizeLine)
    (done : ∀ h', h'.DictOf knd d (stored xs k v) → Heap.SameBut d s.heap h' → Q () { s with heap := h' }) : wpAny (model prog w) A (dictPut d (knd.hash k) key v) Q E s := by
  obtain ⟨ob, en, n, e1, e2, e3, ks, ps, nd⟩ := at_
  have size : en.size = xs.length := ps.length ▸ (Array.length_toList (xs := en)).symm
  have same : en.findIdx? (fun e => knd.is k e.key) = xs.findIdx? (fun q => decide (q.1 = k)) := by
    rw [← ps.findIdx k]
    cases en; simp
  unfold dictPut
  refine wpAny_bind (wpAny_dictFind_of is e1 e3 ks ?_)
  have ne : (xs.map (·.1)).Nodup := nd
  by_cases there : (xs.findIdx? (fun q => decide (q.1 = k))).isSome = true
  · obtain ⟨i, hi⟩ := Option.isSome_iff_exists.mp there
    have hl : (en.toList.findIdx? fun e => knd.is k e.key) = some i := (ps.findIdx k).trans hi
    have what : stored xs k v = xs.map (fun q => if q.1 = k then (q.1, v) else q) := if_pos (any_of_findIdx_some hi)
    rw [same, hi]
    have keys : ((stored xs k v).map (·.1)).Nodup := by rw [what, keys_map_store]; exact nd
    have rel : Pairs knd (en.modify i fun e => { e with val := v }).toList (stored xs k v) := by
      rw [what, Array.toList_modify]
      exact ps.modify nd hl v
    exact wpAny_updateDict e1 e3 (done _ ⟨_, _, n, Heap.get?_update_self _ e1 (Obj.isFreed_of_dict (Obj.data_mapDict e3 _)), e2.mapDict _, Obj.data_mapDict e3 _, ks.modify _ _, rel, keys⟩ (.update ..))
  · have no : xs.findIdx? (fun q => decide (q.1 = k)) = none := by
      cases z : xs.findIdx? (fun q => decide (q.1 = k)) with
      | none => rfl
      | some i => rw [z] at there; exact absurd rfl there
    have out := not_mem_of_findIdx_none no
    have what : stored xs k v = xs ++ [(k, v)] := if_neg fun z => by
      obtain ⟨q, m, e⟩ := List.any_eq_true.mp z
      exact out (List.mem_map.mpr ⟨q, m, of_decide_eq_true e⟩)
    rw [same, no]
    have keys : ((stored xs k v).map (·.1)).Nodup := by
      rw [what, List.map_append]
      exact List.nodup_append.mpr ⟨nd, by simp, fun x hx y hy z => out (by simp at hy; rw [← hy, ← z]; exact hx)⟩
    have rel : Pairs knd (en.push ⟨knd.hash k, key, v⟩).toList (stored xs k v) := by
      rw [what, Array.toList_push]
      exact ps.append is _ v
    exact wpAny_updateDictKeys (hz := by omega) e1 e3 (done _ ⟨_, _, n + 1, Heap.get?_update_self _ e1 (Obj.isFreed_of_dict (Obj.data_mapDictKeys e3 _)), e2.mapDictKeys _, Obj.data_mapDictKeys e3 _, ks.push is _, rel, keys⟩ (.update ..))
/-- a walk over the first n numbers: what holds behind i turns -/
theorem upto {P : Nat → Shared → Prop} {n : Nat} {f : Nat → PUnit → Sem (ForInStep PUnit)} {Q : PUnit → Shared → Prop} (start : P 0 s) (fin : ∀ s', P n s' → Q ⟨⟩ s')
    (turn : ∀ i s', i < n → P i s' → wpAny (model prog w) A (f i ⟨⟩) (fun r s2 => r = .yield ⟨⟩ ∧ P (i + 1) s2) E s') : wpAny (model prog w) A (forIn (List.range n) PUnit.unit f) Q E s := by
  have gen : ∀ (m i : Nat) (s' : Shared), i + m = n → P i s' → wpAny (model prog w) A (forIn (List.range' i m) PUnit.unit f) Q E s' := by
    intro m
    induction m with
    | zero =>
      intro i s' e p
      rw [List.range'_zero, List.forIn_nil]
      exact wpAny_pure (fin s' (by have : i = n := e; rw [← this]; exact p))
    | succ m ih =>
      intro i s' e p
      rw [List.range'_succ, List.forIn_cons]
      refine wpAny_bind (wpAny_mono (turn i s' (by omega) p) (fun r s2 ⟨h1, h2⟩ => ?_) fun _ _ z => z)
      subst h1
      exact ih (i + 1) s2 (by omega) h2
  rw [List.range_eq_range']
  exact gen n 0 s (Nat.zero_add n) start
/-- what stands in a dict is put into another one -/
theorem merge_two {d o : Addr} {xs ys : List (K × Value)} {Q : Unit → Shared → Prop} (ne : d ≠ o) (low : (o == sysModules) = false) (hd : s.heap.DictOf knd d xs) (ho : s.heap.DictOf knd o ys) (few : xs.length + ys.length ≤ sizeLine)
    (done : ∀ h', h'.DictOf knd d (merged xs ys) → h'.DictOf knd o ys → Heap.SameBut d s.heap h' → Q () { s with heap := h' }) : wpAny (model prog w) A (mergeMapping d (.ref o) false) Q E s := by
  obtain ⟨ob, en, n, e1, e2, e3, ks, ps, nd⟩ := id ho
  have size : en.size = ys.length := ps.length ▸ (Array.length_toList (xs := en)).symm
  have isIt : (some (Value.builtin "dict.__iter__") == some (Value.builtin "dict.__iter__") : Bool) = true := beq_self_eq_true _
  unfold mergeMapping
  refine wpAny_bind (wpAny_isInstance ho.typeIs isSubtype_dict_dict ?_)
  rw [if_pos rfl]
  refine wpAny_bind (wpAny_specialOf ho.typeIs F.slot_dict_iter.lookup (wpAny_bind (wpAny_pure ?_)))
  rw [isIt]
  simp only [low, Bool.false_eq_true, if_false]
  have hd0 := hd
  obtain ⟨_, _, _, f1, _, f3, _⟩ := hd0
  refine wpAny_bind (wpAny_dictEntries f1 f3 ?_)
  split
  case' isTrue =>
    refine wpAny_bind (wpAny_dictEntries e1 e3 (wpAny_bind (PySem.MeetsSeq2.wpAny_forIn_array _ (fun rest _ s' => s' = s ∧ ∀ e ∈ rest, e ∈ en) _ ?keys ?rest _ _ ⟨rfl, fun e he => by simpa using he⟩)))
    case keys =>
      rintro e rest b s' ⟨h1, he⟩
      obtain ⟨k, hk, _⟩ := ks e (he e List.mem_cons_self)
      have byV := knd.byValue k e.key hk
      split
      · rename_i a ea
        rw [ea] at byV; cases byV
      · exact wpAny_pure ⟨h1, fun e' h => he e' (List.mem_cons_of_mem _ h)⟩
    rintro b s' ⟨h1, _⟩
    rw [h1]
  all_goals
    refine wpAny_bind (wpAny_dictEntries e1 e3 (wpAny_bind (wpAny_dictEpoch e1 e3 (wpAny_bind
      (upto (P := fun i s' => ∃ h', s' = { s with heap := h' } ∧ h'.DictOf knd d (merged xs (ys.take i)) ∧ h'.get? o = some ob ∧ Heap.SameBut d s.heap h') ⟨s.heap, rfl, hd, e1, .refl _ _⟩ (fun s' ⟨h', hs, g1, g2, g3⟩ => ?_) fun i s' hi ⟨h', hs, g1, g2, g3⟩ => ?_)))))
    · subst hs
      rw [size, List.take_length] at g1
      exact wpAny_pure (done h' g1 ⟨ob, en, n, g2, e2, e3, ks, ps, nd⟩ g3)
    · subst hs
      obtain ⟨q, hq⟩ : ∃ q, ys[i]? = some q := ⟨ys[i]'(size ▸ hi), List.getElem?_eq_getElem _⟩
      obtain ⟨r1, r2⟩ := ps.get? (e := en[i]) (by simp [hi]) hq
      obtain ⟨k, r3, r4⟩ := ks en[i] (Array.getElem_mem hi)
      have ek : k = q.1 := knd.inj _ _ _ r3 r1
      subst ek
      refine wpAny_bind (wpAny_dictEntries g2 e3 ?_)
      rw [Array.getElem?_eq_getElem hi]
      have short : (merged xs (ys.take i)).length ≤ sizeLine := Nat.le_trans (merged_length_le _ _) (Nat.le_trans (Nat.add_le_add_left (List.length_take_le' i ys) _) few)
      refine wpAny_bind (wpAny_holding ?_)
      rw [r4, r2]
      refine put_one r3 g1 short fun h2 k1 k2 => ?_
      have g2' : h2.get? o = some ob := (k2.2 o (Ne.symm ne)).trans g2
      refine wpAny_bind (wpAny_dictEpoch g2' e3 ?_)
      rw [if_neg (by simp)]
      exact wpAny_pure ⟨rfl, h2, rfl, by rw [merged_take_succ xs ys i q hq]; exact k1, g2', g3.trans k2⟩
end
open L2
section
variable {X : Cx} {a b : Expr} {ta tb : TE} {pos : Pos}
def tMerge (ta tb : TE) : TE := fun σ H Q => ∀ p, H p = none → ta σ (upd H p (.dK [])) fun x H1 => H1 p = some (.dK []) ∧ ∃ o k1, x = .ref o ∧ Rd H1 o (.dK k1) ∧ p ≠ o ∧
  tb σ (upd H1 p (.dK (mergeK [] k1))) fun y H2 => ∃ k0 o2 k2, y = .ref o2 ∧ H2 p = some (.dK k0) ∧ Rd H2 o2 (.dK k2) ∧ p ≠ o2 ∧ k0.length + k2.length ≤ sizeLine ∧ Q (.ref p) (upd H2 p (.dK (mergeK k0 k2)))
theorem merge_inv {pins : List (Addr × Obj)} {σ : L2.St} {H : Hp} {s : Shared} {p o : Addr} {k0 k1 : List (Key × V)} (I : L2.Inv X pins σ H s) (hp : H p = some (.dK k0)) (ho : Rd H o (.dK k1)) (ne : p ≠ o) (hz : k0.length + k1.length ≤ sizeLine)
    {A : Around} {E : Value → Shared → Prop} {Q : Unit → Shared → Prop} (hQ : ∀ h', Inv X pins σ (upd H p (.dK (mergeK k0 k1))) { s with heap := h' } → Q () { s with heap := h' }) :
    wpAny (model X.prog X.w) A (mergeMapping p (.ref o) false) Q E s := by
  obtain ⟨_, hd, v0, r0, d0⟩ := dk_of I.hok hp
  obtain ⟨_, hoS, v1, r1, d1⟩ := dk_rd I.hok ho
  refine merge_two ne hoS d0 d1 (by rw [← Paired.length r0, ← Paired.length r1]; exact hz) fun h' dd _ sb => hQ h' ?_
  have hl := length_mergeK k1 k0
  have he : ∃ q, h'.get? p = some q := let ⟨q, _, _, hq, _⟩ := dd; ⟨q, hq⟩
  exact d_write (t' := s.toks) I (by rw [hp]; exact True.intro) sb he (dk_new (by omega) hd (r1.merge r0) dd)
theorem pe_merge (ha : PE X a ta) (hb : PE X b tb) : PE X (.Dict [none, none] [a, b] pos) (tMerge ta tb) := by
  refine ⟨fun pins s σ H Q I q => ?_⟩
  have hn := I.hok.fresh (Nat.le_refl s.heap.objs.size)
  have I1 := I.laid (a := s.heap.objs.size) (o := .dK []) (h' := s.heap.push { cls := .type "dict", data := .dict #[] }) (t' := s.toks) (fun _ _ q => Heap.get?_push_of_some _ q) (Nat.le_refl _) (dk_empty s.heap I.big)
  rw [arm_eval_Dict]
  refine wpAny_bind (wpAny_standAt ?_)
  unfold dictDisplay
  have e : (evalEachOpt [none, none] X.env).zip ((evalEach [a, b] X.env).map fun v => do let x ← v; standAt pos; pure x) = [(none, do let x ← eval a X.env; standAt pos; pure x), (none, do let x ← eval b X.env; standAt pos; pure x)] := rfl
  rw [e]
  dsimp only
  refine wpAny_bind ?_
  rw [List.forIn_cons]
  refine wpAny_bind ?_
  dsimp only
  refine wpAny_bind (show wpAny _ _ (pure none) _ _ _ from wpAny_pure ?_)
  refine wpAny_bind (wpAny_alloc ?_)
  refine wpAny_bind (wpAny_holding (wpAny_bind (thn (ha.run pins _ σ _ _ I1 (q _ hn)) fun u s1 ⟨x, H1, I2, rx, hp, o, k1, ex, ho, ne, q2⟩ => ?_)))
  subst ex
  obtain rfl : u = Value.ref o := rx
  refine wpAny_bind (wpAny_standAt (wpAny_pure ?_))
  have z1 : k1.length ≤ sizeLine := (dk_rd I2.hok ho).1
  refine wpAny_bind (wpAny_onRaise (wpAny_tryCatch (wpAny_onRaise (wpAny_holding (merge_inv I2 hp ho ne (by simpa using z1) fun h' I3 => ?_)))))
  refine wpAny_pure ?_
  dsimp only
  rw [List.forIn_cons]
  refine wpAny_bind ?_
  dsimp only
  refine wpAny_bind (show wpAny _ _ (pure (some _)) _ _ _ from wpAny_pure ?_)
  refine wpAny_bind (wpAny_pure ?_)
  refine wpAny_bind (wpAny_holding (wpAny_bind (thn (hb.run pins _ σ _ _ I3 q2) fun u s2 ⟨y, H2, I4, ry, k0, o2, k2, ey, hp2, ho2, ne2, hz, q3⟩ => ?_)))
  subst ey
  obtain rfl : u = Value.ref o2 := ry
  refine wpAny_bind (wpAny_standAt (wpAny_pure ?_))
  refine wpAny_bind (wpAny_onRaise (wpAny_tryCatch (wpAny_onRaise (wpAny_holding (merge_inv I4 hp2 ho2 ne2 hz fun h' I5 => ?_)))))
  refine wpAny_pure ?_
  dsimp only
  rw [List.forIn_nil]
  refine wpAny_pure ?_
  dsimp only
  refine wpAny_bind (show wpAny _ _ (pure (some _)) _ _ _ from wpAny_pure ?_)
  refine wpAny_pure ?_
  exact ⟨.ref s.heap.objs.size, _, I5, rfl, q3⟩
end
def dctV (o : Opd) : M (List (Key × DV)) := fun S => match o.dv S with
  | some (.dct kvs) => .ok kvs S
  | _ => .stuck
theorem dctV_spec {o : Opd} {S : Sl} {K : List (Key × DV) → Sl → Prop} {E : Str → List (Str × DV) → Sl → Prop} (h : (dctV o S).spec K E) : ∃ kvs, o.dv S = some (.dct kvs) ∧ K kvs S := by
  unfold dctV at h
  split at h
  · rename_i kvs e; exact ⟨kvs, e, h⟩
  · exact h.elim
def mergeM (k1 k2 : List (Key × DV)) : M Opd := fun S => if k1.length + k2.length ≤ sizeLine then .ok (.v (.od false (mergeD (mergeD [] k1) k2))) S else .stuck
/-- an operand stands elsewhere than what is ours alone -/
theorem opd_ne {KK : PySem.W.Frag} {mg : Mg} {B H H0 : Hp} {σ : Sg} {S : Sl} {p a : Addr} {o : Opd} {kvs : List (Key × DV)} (x : StR KK mg B H σ S) (or : OpdR mg B H σ S (.ref a) o) (y : Young H0 (.ref a) o) (e : o.dv S = some (.dct kvs)) (h0 : H0 p ≠ none) (hb : B p = none) (no : ¬ OwnA σ S p) : p ≠ a := fun z => by
  subst z
  cases or with
  | v q n =>
    cases q with
    | v q =>
      cases e
      cases q with | dct r _ => exact rd_ne r hb
    | ol _ _ _ => exact h0 (y _ rfl rfl)
    | od _ _ _ => exact h0 (y _ rfl rfl)
    | oi _ _ _ _ => exact h0 (y _ rfl rfl)
  | @sl i e1 r =>
    obtain ⟨r, hr⟩ := r
    obtain ⟨w, e2, q⟩ := x.at_ i r hr
    rw [e1] at e2; cases e2
    have ed : r.dv = .dct kvs := by
      simp only [Opd.dv, hr] at e
      exact Option.some.inj e
    cases q with
    | v q =>
      simp only [RV.dv] at ed
      subst ed
      cases q with | dct r _ => exact rd_ne r hb
    | ol _ _ _ => exact no ⟨i, ⟨_, hr, rfl⟩, e1⟩
    | od _ _ _ => exact no ⟨i, ⟨_, hr, rfl⟩, e1⟩
    | oi _ _ _ _ => exact no ⟨i, ⟨_, hr, rfl⟩, e1⟩
section
variable {X : Cx} {a b : Expr} {ma mb : M Opd} {pos : Pos}
theorem px_merge (ha : PX X a ma) (hb : PX X b mb) : PX X (.Dict [none, none] [a, b] pos) (M.bind ma fun x => M.bind (dctV x) fun k1 => M.bind mb fun y => M.bind (dctV y) fun k2 => mergeM k1 k2) := fun W tk =>
  PE.imp (pe_merge (ha W tk) (hb W tk)) fun σ H Q ⟨B, S, st, q⟩ p np => by
    have dk : ∀ xs : List (Key × V), nTbl (.dK xs) = true ∧ ∀ c q, (HO.dK xs) ≠ LamX.CodeO c q := fun xs => ⟨rfl, fun c q z => by unfold LamX.CodeO at z; cases z⟩
    have s0 := st.alloc np (.dK [])
    refine ⟨B, S, s0.st, (spec_bind.mp q).imp (fun o S1 _ q v B1 H1 s hs or y => ?_) fun _ _ _ h => h.pre s0⟩
    obtain ⟨hp1, hb1, ho1⟩ := s.tmpStay rfl upd_same (st.le.none np) (st.notOwn np)
    obtain ⟨kvs, eo, q⟩ := dctV_spec (spec_bind.mp q)
    obtain ⟨a1, xs, rfl, rd, rk⟩ := (or.view s.st eo).dict s.st.le
    have ne := opd_ne (p := p) s.st or y eo (by rw [upd_same]; simp) hb1 ho1
    refine ⟨hp1, a1, xs, rfl, rd, ne, ?_⟩
    have s1 := (s0.trans s).tmp (o := .dK (mergeK [] xs)) hp1 (dk _) np hb1 ho1
    refine ⟨B1, S1, s1.st, (spec_bind.mp q).imp (fun o2 S2 _ q v2 B2 H2 s2 hs2 or2 y2 => ?_) fun _ _ _ h => h.pre s1⟩
    obtain ⟨hp2, hb2, ho2⟩ := s2.tmpStay rfl upd_same hb1 ho1
    obtain ⟨kvs2, eo2, q⟩ := dctV_spec (spec_bind.mp q)
    obtain ⟨a2, xs2, rfl, rd2, rk2⟩ := (or2.view s2.st eo2).dict s2.st.le
    have ne2 := opd_ne (p := p) s2.st or2 y2 eo2 (by rw [upd_same]; simp) hb2 ho2
    unfold mergeM at q
    obtain ⟨hz, q⟩ := if_spec q
    have hl := length_mergeK xs []
    rw [List.length_nil, Nat.zero_add, rk.length] at hl
    refine ⟨_, a2, xs2, rfl, hp2, rd2, ne2, by rw [rk2.length]; omega, ?_⟩
    have s3 := (s1.trans s2).tmp (o := .dK (mergeK (mergeK [] xs) xs2)) hp2 (dk _) np hb2 ho2
    exact q (.ref p) B2 _ s3 (hs.trans hs2) (.v (.od hb2 upd_same (repk_merge rk2 (repk_merge (rk.mono s2.grow.sub) .nil))) fun a _ e z => by cases e; exact ho2 z) fun a _ e => by cases e; exact np
end
end Lb
/-! sorted(set(xs)), xs a list of ints. -/
namespace Lb
open PySem PySem.Spec PyProof.Rows L2
section
variable {P : Program} {w : World} {A : Around} {E : Value → Shared → Prop} {s : Shared}
/-- a type is called: it is made, and then led on -/
theorem call_made {T newId initId : String} {args : List Value} {Q Q1 : Value → Shared → Prop} (ft : TypeCalled T newId initId) (ok : checkTypeCall T ⟨args, []⟩ = pure ())
    (mk : codeAny (model P w) A.in1 (.call (.builtin newId) ⟨.type T :: args, []⟩) (wants Q1 E) s)
    (led : ∀ o s1, Q1 o s1 → s1.TypeIs o T ∧ codeAny (model P w) A.in1 (.call (.builtin initId) ⟨o :: args, []⟩) (wants (fun r s2 => r = .none ∧ Q o s2) E) s1) : wpAny (model P w) A (call (.type T) args) Q E s := by
  have k1 := ft.notType
  have k2 := ft.canCreate
  have k3 := ft.made
  have k4 := ft.sub
  obtain ⟨_, _, k5⟩ := ft.mro
  refine wpAny_call (codeAny_of_tree (show wpAny _ _ (callAny (.type T) _) _ _ _ from wpAny_pure ⟨Code.quiet_builtin _ (by decide +kernel), codeAny_builtin F.entry_type_call ?_⟩))
  rw [Around.under_plain (weight_type_call_type T args []) rfl]
  repeat (any_goals (first | assumption | wp_step))
  refine codeAny_mono mk fun r s1 hr => ?_
  match r, hr with
  | .error e, hr => exact hr
  | .ok (.ret o), hr =>
    obtain ⟨hT, hl⟩ := led o s1 hr
    have k6 := ft.init.lookup
    have k7 := ft.init.bind o
    repeat (any_goals (first | assumption | wp_step))
    refine codeAny_mono hl fun r2 s2 hr2 => ?_
    match r2, hr2 with
    | .error e, hr2 => exact hr2
    | .ok (.ret v), hr2 =>
      obtain ⟨e, hq⟩ := hr2
      subst e
      repeat (any_goals (first | assumption | wp_step))
/-- set(xs) -/
theorem set_of_ints {l : Addr} {items : Array Value} {ns : List Int} {Q : Value → Shared → Prop} (calm : A.handled = none) (isL : s.heap.IsList l items) (hit : PyProof.Rows.IntsAre items.toList ns) (few : ns.length + 1 < scanBound)
    (h : ∀ (h' : Heap) (tk c : Nat), SetR w h' s.heap.objs.size (fun j => decide (j ∈ ns)) c → c ≤ ns.length → (∀ b o, s.heap.get? b = some o → h'.get? b = some o) → Q (.ref s.heap.objs.size) { s with heap := h', toks := tk }) :
    wpAny (model P w) A (call (.type "set") [.ref l]) Q E s := by
  let S := s.heap.objs.size
  let o0 : Obj := { cls := .type "set", dict := none, data := .set #[] 0 (.fresh 0 0 (!w.params.followText "set-order")) }
  let h1 : Heap := s.heap.push o0
  have len : items.size = ns.length := by
    have e := PyProof.Rows.IntsAre.length hit
    rw [Array.length_toList] at e
    exact e
  refine call_made F.called_set (F.typeCall_set_1 (.ref l)) (Q1 := fun o s1 => o = .ref S ∧ s1 = { s with heap := h1 }) (code_set_led1 (.ref l) ⟨rfl, rfl⟩) fun o s1 ⟨eo, es⟩ => ?_
  subst eo; subst es
  have atS : h1.get? S = some o0 := Heap.get?_push_size _ rfl
  have isSet : Shared.TypeIs { s with heap := h1 } (.ref S) "set" := ⟨_, atS, rfl⟩
  refine ⟨isSet, codeAny_call_builtin F.called_set.init.plain F.entry_set_init (check_set_init_1 isSet ?_)⟩
  obtain ⟨ob, hob, c1, m, d1⟩ := isL
  have isL1 : h1.IsList l items := ⟨ob, Heap.get?_push_of_some _ hob, c1, m, d1⟩
  have isL2 : Shared.TypeIs { s with heap := h1 } (.ref l) "list" := ⟨ob, Heap.get?_push_of_some _ hob, c1⟩
  have f1 := F.sub_list_set
  have f2 := F.sub_list_frozenset
  have f3 : (Value.type "list" == Value.type "dict") = false := by decide
  unfold Builtin.«set.__init__» noKeywords Builtin.Frozenset.updateFrom
  generalize ep : pyIter = pit
  wp_walk
  subst ep
  have lS : l ≠ S := Nat.ne_of_lt (Heap.lt_size hob)
  have sz : h1.objs.size = S + 1 := Heap.size_push ..
  have lI : l ≠ h1.objs.size := by rw [sz]; exact Nat.ne_of_lt (Nat.lt_succ_of_lt (Heap.lt_size hob))
  have SI : S ≠ h1.objs.size := by rw [sz]; exact Nat.ne_of_lt (Nat.lt_succ_self _)
  refine wpAny_pyIter_list isL1 (wpAny_bind (wpAny_runValue ?_))
  have vals : ∀ (i : Nat) (v : Value), items[i]? = some v → ∃ k t, ns[i]? = some k ∧ v = .int k t := fun i v hv => by
    obtain ⟨t, e⟩ := PyProof.Rows.IntsAre.int_at hit i v (by rw [Array.getElem?_toList]; exact hv)
    have hi : i < ns.length := len ▸ (Array.getElem?_eq_some_iff.mp hv).1
    exact ⟨ns[i], t, List.getElem?_eq_getElem hi, by rw [e, List.getD_eq_getElem?_getD, List.getElem?_eq_getElem hi]; rfl⟩
  have calm3 : A.in1.in1.in1.handled = none := by simp [calm]
  refine set_update_ints ((Walks.list calm3 _ l lI items).toS) S ?_ ns len few vals _ 0 _ rfl (Nat.zero_le _) ⟨⟨_, Heap.get?_push_size _ rfl, rfl, rfl⟩, isL1.push _⟩ ⟨0, Nat.le_refl 0, setR_new_at (Heap.get?_push_of_some _ atS)⟩ fun s' c mv hc R => ?_
  · intro z
    rcases List.mem_cons.mp z with z | z
    · exact SI z
    · exact lS (List.mem_singleton.mp z).symm
  · obtain ⟨h2, g2, d2, t2, o2⟩ := s'
    cases mv.gens
    cases mv.drawn
    cases mv.os
    refine wpAny_pure ?_
    show wpAny _ _ (ret Value.none) _ _ _
    refine wpAny_pure ⟨rfl, h h2 t2 c R (len ▸ hc) fun b o hb => mv.heap b o (fun z => ?_) (Heap.get?_push_of_some _ (Heap.get?_push_of_some _ hb))⟩
    have low := Heap.lt_size hb
    rcases List.mem_cons.mp z with z | z
    · exact Nat.ne_of_lt low z
    · have e := List.mem_singleton.mp z
      rw [sz] at e
      exact Nat.ne_of_lt (Nat.lt_succ_of_lt low) e
end
def rSetOfI (K : PySem.W.Frag) (w : World) : List V → Hp → VK → Prop := fun xs H Q => ∃ (l : Addr) (ns : List Int), xs = [.ref l] ∧ SqL K H l (ns.map V.int) ∧ ns.length < 64 ∧ ∀ (a : Addr) (c : Nat), H a = none → c ≤ ns.length → Q (.ref a) (upd H a (SetO w a (fun j => decide (j ∈ ns)) c))
theorem cr_setOfI {X : Cx} (hc : X.calm = true) : CallR X (.type "set") (rSetOfI X.K X.w) := by
  intro pins s σ H xs us Q I r ⟨l, ns, ex, hl, few, q⟩
  subst ex
  rw [Vals.ref1 r]
  obtain ⟨its, rv, pl, _⟩ := I.list hl
  have new : H s.heap.objs.size = none := I.hok.fresh (Nat.le_refl _)
  refine set_of_ints (I.ok.hd hc) pl.isList (ns := ns) (by simpa using rv.ints) (by unfold scanBound; omega) fun h' tk c R cl k => ?_
  exact ⟨.ref s.heap.objs.size, _, I.laid (t' := tk) k (Nat.le_refl _) (setO_new R), rfl, q _ c new cl⟩
/-! ### strictly rising lists -/
def insU (k : Int) : List Int → List Int
  | [] => [k]
  | x :: xs => if k < x then k :: x :: xs else if k = x then x :: xs else x :: insU k xs
def sortU (ns : List Int) : List Int := ns.foldr insU []
theorem insU_mem {k j : Int} : ∀ {xs : List Int}, j ∈ insU k xs ↔ j = k ∨ j ∈ xs
  | [] => by simp [insU]
  | x :: xs => by
    unfold insU
    split
    · simp
    · split
      · rename_i e; subst e; simp
      · rw [List.mem_cons, insU_mem, List.mem_cons]
        exact ⟨fun h => h.elim (fun h => .inr (.inl h)) fun h => h.elim .inl fun h => .inr (.inr h), fun h => h.elim (fun h => .inr (.inl h)) fun h => h.elim .inl fun h => .inr (.inr h)⟩
theorem insU_sorted {k : Int} : ∀ {xs : List Int}, xs.Pairwise (· < ·) → (insU k xs).Pairwise (· < ·)
  | [], _ => List.pairwise_singleton ..
  | x :: xs, h => by
    have ⟨h1, h2⟩ := List.pairwise_cons.mp h
    unfold insU
    split
    · rename_i lt
      exact List.pairwise_cons.mpr ⟨fun y hy => by
        rcases List.mem_cons.mp hy with e | hy
        · rw [e]; exact lt
        · exact Int.lt_trans lt (h1 y hy), h⟩
    · split
      · exact h
      · rename_i nl ne
        exact List.pairwise_cons.mpr ⟨fun y hy => by
          rcases insU_mem.mp hy with e | hy
          · rw [e]; omega
          · exact h1 y hy, insU_sorted h2⟩
theorem sortU_mem {j : Int} : ∀ {ns : List Int}, j ∈ sortU ns ↔ j ∈ ns
  | [] => Iff.rfl
  | n :: ns => by
    show j ∈ insU n (sortU ns) ↔ _
    rw [insU_mem, sortU_mem, List.mem_cons]
theorem sortU_sorted : ∀ {ns : List Int}, (sortU ns).Pairwise (· < ·)
  | [] => .nil
  | n :: ns => insU_sorted (sortU_sorted (ns := ns))
theorem rising_eq : ∀ {xs ys : List Int}, xs.Pairwise (· < ·) → ys.Pairwise (· < ·) → (∀ j, j ∈ xs ↔ j ∈ ys) → xs = ys
  | [], [], _, _, _ => rfl
  | [], y :: ys, _, _, h => absurd ((h y).mpr List.mem_cons_self) (by simp)
  | x :: xs, [], _, _, h => absurd ((h x).mp List.mem_cons_self) (by simp)
  | x :: xs, y :: ys, hx, hy, h => by
    have ⟨x1, x2⟩ := List.pairwise_cons.mp hx
    have ⟨y1, y2⟩ := List.pairwise_cons.mp hy
    have e : x = y := by
      rcases List.mem_cons.mp ((h x).mp List.mem_cons_self) with e | m1
      · exact e
      · rcases List.mem_cons.mp ((h y).mpr List.mem_cons_self) with e | m2
        · exact e.symm
        · have := x1 y m2
          have := y1 x m1
          omega
    subst e
    refine congrArg (x :: ·) (rising_eq x2 y2 fun j => ⟨fun m => ?_, fun m => ?_⟩)
    · rcases List.mem_cons.mp ((h j).mp (List.mem_cons_of_mem _ m)) with e | m'
      · have := x1 j m; omega
      · exact m'
    · rcases List.mem_cons.mp ((h j).mpr (List.mem_cons_of_mem _ m)) with e | m'
      · have := y1 j m; omega
      · exact m'
def intsDV : List DV → Option (List Int)
  | [] => some []
  | .int i :: ds => (intsDV ds).map (i :: ·)
  | _ => none
theorem reps_intsDV {mg : Mg} {B : Hp} : ∀ {xs : List V} {ds : List DV} {ns : List Int}, Reps mg B xs ds → intsDV ds = some ns → xs = ns.map V.int
  | _, _, _, .nil, h => by cases h; rfl
  | _, _, ns, .cons (d := d) (ds := ds) r q, h => by
    cases d with
    | int i =>
      simp only [intsDV, Option.map_eq_some_iff] at h
      obtain ⟨ms, h1, h2⟩ := h
      subst h2
      cases r
      rw [reps_intsDV q h1]; rfl
    | _ => cases h
theorem reps_ints {mg : Mg} {B : Hp} : ∀ {ns : List Int}, Reps mg B (ns.map V.int) (ns.map DV.int)
  | [] => .nil
  | n :: _ => .cons (.int n) reps_ints
def sortSetM (o : Opd) : M Opd := fun S => match o.dv S with
  | some (.lst ds) => (match intsDV ds with
    | some ns => if ns.length < 64 then .ok (.v (.ol false ((sortU ns).map DV.int))) S else .stuck
    | none => .stuck)
  | _ => .stuck
theorem sortSet_spec {o : Opd} {S : Sl} {K : Opd → Sl → Prop} {E : Str → List (Str × DV) → Sl → Prop} (h : (sortSetM o S).spec K E) : ∃ ds ns, o.dv S = some (.lst ds) ∧ intsDV ds = some ns ∧ ns.length < 64 ∧ K (.v (.ol false ((sortU ns).map DV.int))) S := by
  unfold sortSetM at h
  split at h
  · rename_i ds e
    split at h
    · rename_i ns e2
      obtain ⟨h1, h2⟩ := if_spec h
      exact ⟨ds, ns, e, e2, h1, h2⟩
    · exact h.elim
  · exact h.elim
section
variable {X : Cx} {e : Expr} {me : M Opd} {p p2 pos pos2 : Pos}
theorem px_sortSet (hc : X.calm = true) (he : PX X e me) (hm : X.mg "sorted" = none) (hm2 : X.mg "set" = none) (hg : Gl X "sorted" := by rfl) (hg2 : Gl X "set" := by rfl)
    (hv : bootBuiltins "sorted" = some (.builtin "sorted") := by first | rfl | decide +kernel) (hv2 : bootBuiltins "set" = some (.type "set") := by first | rfl | decide +kernel)
    (s1 : starEach [e] X.env = (false, eval e X.env) :: starEach [] X.env := by rfl)
    (s2 : starEach [.Call (.Name "set" p2) [e] [] pos2] X.env = (false, eval (.Call (.Name "set" p2) [e] [] pos2) X.env) :: starEach [] X.env := by rfl)
    (l1 : (backTo pos2 (starEach [] X.env)).any (·.1) = false := by rfl) (l2 : (backTo pos (starEach [] X.env)).any (·.1) = false := by rfl) :
    PX X (.Call (.Name "sorted" p) [.Call (.Name "set" p2) [e] [] pos2] [] pos) (M.bind me sortSetM) := fun W tk =>
  PE.imp (pe_callB (cr_sortedSet hc) hg hm hv (pa_cons (pe_callTy (cr_setOfI hc) hg2 hm2 hv2 (pa_cons (he W tk) pa_nil s1) (by decide) (by decide) s1 l1) pa_nil s2) (by decide) (by decide) s2 l2) fun σ H Q ⟨B, S, st, q⟩ =>
    ⟨B, S, st, (spec_bind.mp q).imp (fun o S1 _ q v B1 H1 s hs or y => by
      obtain ⟨ds, ns, eo, en, hz, q⟩ := sortSet_spec q
      obtain ⟨l, xs, rfl, hl, rl⟩ := (or.view s.st eo).list s.st.le
      obtain rfl := reps_intsDV rl en
      refine ⟨l, ns, rfl, SqL.of hl, hz, fun a c ha hc => ?_⟩
      refine ⟨a, _, c, rfl, upd_same, by omega, fun ms p hsr hmem hlen hp => ?_⟩
      obtain rfl : ms = sortU ns := rising_eq hsr sortU_sorted fun j => (hmem j).trans (by rw [sortU_mem]; simp)
      have s1 := s.trans (s.st.alloc ha (SetO X.w a (fun j => decide (j ∈ ns)) c))
      have s2 := s1.trans (s1.st.alloc hp (.lst ((sortU ns).map V.int)))
      exact q (.ref p) B1 _ s2 hs (.v (.ol (s1.st.le.none hp) upd_same reps_ints) fun b _ e z => by cases e; exact s1.st.notOwn hp z) fun b _ e => by cases e; exact s1.free hp) fun _ _ _ h => h⟩
end
end Lb
/-! Calls of defs by keywords alone. -/
namespace Lb
open PySem PySem.Spec PyProof.Rows L2
/-- the values in the sequence of the parameters -/
def gp (pm : List Nat) {α : Type} (l : List α) : List α := pm.filterMap fun i => l[i]?
theorem Vals.at_ : ∀ {vs : List V} {us : List Value} {i : Nat}, Vals vs us → (∃ v u, vs[i]? = some v ∧ us[i]? = some u ∧ RelV v u) ∨ (vs[i]? = none ∧ us[i]? = none)
  | _, _, _, .nil => .inr ⟨by simp, by simp⟩
  | _, _, 0, .cons r _ => .inl ⟨_, _, rfl, rfl, r⟩
  | _, _, i + 1, .cons _ q => by
    rcases Vals.at_ (i := i) q with ⟨v, u, h1, h2, h3⟩ | ⟨h1, h2⟩
    · exact .inl ⟨v, u, by simpa using h1, by simpa using h2, h3⟩
    · exact .inr ⟨by simpa using h1, by simpa using h2⟩
theorem vals_gp {vs : List V} {us : List Value} (r : Vals vs us) : ∀ (pm : List Nat), Vals (gp pm vs) (gp pm us)
  | [] => .nil
  | i :: pm => by
    unfold gp
    rcases Vals.at_ (i := i) r with ⟨v, u, h1, h2, h3⟩ | ⟨h1, h2⟩
    · rw [List.filterMap_cons_some h1, List.filterMap_cons_some h2]
      exact .cons h3 (vals_gp r pm)
    · rw [List.filterMap_cons_none h1, List.filterMap_cons_none h2]
      exact vals_gp r pm
theorem reps_gp {mg : Mg} {B : Hp} {vs : List V} {ds : List DV} (r : Reps mg B vs ds) : ∀ (pm : List Nat), Reps mg B (gp pm vs) (gp pm ds)
  | [] => .nil
  | i :: pm => by
    unfold gp
    cases hv : vs[i]? with
    | none =>
      have hd : ds[i]? = none := by rw [List.getElem?_eq_none_iff] at hv ⊢; rw [← r.length]; exact hv
      rw [List.filterMap_cons_none hv, List.filterMap_cons_none hd]
      exact reps_gp r pm
    | some v =>
      obtain ⟨d, hd, q⟩ := r.get hv
      rw [List.filterMap_cons_some hv, List.filterMap_cons_some hd]
      exact .cons q (reps_gp r pm)
section
variable (P : Program) (w : World) (K : PySem.W.Frag) (mg : Mg) (base : Heap)
/-- a def, as it is called with the keywords ks; pm: where each parameter stands among them -/
structure KDK (x : Str) (f : FSem) (ps : List Str) (k : Nat) (ks : List Str) (pm : List Nat) : Prop where
  ex : ∃ (fa : Addr) (fd : FuncData), FnG P w K mg base (L2.CX P w) k fa fd ps (spM K mg f ps.length) ∧ mg x = some (.ref fa) ∧ PySem.W.keepIn K (.ref fa) = true ∧
    ∀ (s : Shared) (ws : List Value), K.In s.heap → ws.length = ks.length → BindsTo s fd ⟨[], ks.zip ws⟩ (ps.zip (gp pm ws))
end
section
variable {X : Cx} {x : Str} {p pos : Pos} {kws : List Keyword} {f : FSem} {ps ks : List Str} {pm : List Nat} {ms : M (List DV)} {k j n : Nat}
theorem px_callKD (h : KDK X.prog X.w X.K X.mg X.base x f ps k ks pm) (hn : ps.length = n) (hr : Room j X.A) (hgd : X.A.guards = some []) (hj : k ≤ j) (hg : Gl X x) (ha : FKs X kws ms)
    (hall : (backToKw pos (keywordEach kws X.env)).all (·.1.isSome) = true := by rfl) (hks : (backToKw pos (keywordEach kws X.env)).filterMap (·.1) = ks := by rfl) (hdb : (x == ("__debug__" : Str)) = false := by decide)
    (hpl : ((backTo pos (starEach [] X.env)).any (·.1) || (backToKw pos (keywordEach kws X.env)).any (·.1.isNone)) = false := by rfl) (hkl : kws.length = ks.length := by rfl) :
    PX X (.Call (.Name x p) [] kws pos) (M.bind ms fun ds => fun S => if ds.length = ks.length then callF f n (gp pm ds) S else .stuck) := fun W tk => by
  subst hn
  obtain ⟨fa, fd, F, hm, hk, hb⟩ := h.ex
  refine ⟨fun pins s σ H Q I ⟨B, S, st, q⟩ => ?_⟩
  refine wpAny_Call_Name_kw (ld_glob I hg hm ?_ hdb)
  refine PySem.W.callWith_KW0 (h₀ := X.base) I.ok.mod.kin hk hall ?_ hpl
  refine thn ((ha W tk).run pos pins s σ H (fun zs H1 => zs.length = ks.length ∧ spM X.K X.mg f ps.length (gp pm zs) H1 Q (WE W σ)) I ⟨B, S, st, (spec_bind.mp q).imp (fun ds S1 _ q vs B1 H1 s hs r => ?_) fun _ _ _ h => h⟩) fun ws s2 hh => ?_
  · obtain ⟨hl, q⟩ := if_spec q
    exact ⟨by rw [r.length]; exact hl, call_data s hs (reps_gp r pm) q⟩
  · obtain ⟨zs, H2, I2, rz, hl, q2⟩ := hh
    refine ⟨I2.kIn, ?_⟩
    rw [hks]
    refine wpAny_call (codeAny_mono (F.run X.A X.stack s2 H2 ⟨[], ks.zip ws⟩ (gp pm ws) (gp pm zs) Q (WE W σ) (hr.mono hj) hgd I2.env0 (hb s2 ws I2.kIn (rz.length.symm.trans hl)) (vals_gp rz pm) q2) fun r s' hq => ?_)
    cases r with
    | error e => exact passAt tk σ pins H2 s2 e s' I2 hq
    | ok fl =>
      cases fl with
      | ret u => exact I2.after hq
      | next => exact False.elim hq
      | brk => exact False.elim hq
      | cont => exact False.elim hq
end
end Lb
/-! Names of the module that hold ints; what a def is asked of its room. -/
namespace Lb
open PySem PySem.Spec PyProof.Rows L2
structure KGi (mg : Mg) (x : Str) (i : Int) : Prop where
  ex : ∃ t, mg x = some (.int i t)
theorem px_gi {X : Cx} {x : Str} {i : Int} {p : Pos} (h : KGi X.mg x i) (hg : Gl X x) (hdb : (x == ("__debug__" : Str)) = false := by decide) : PX X (.Name x p) (kst (.int i)) := fun W tk => by
  obtain ⟨t, ht⟩ := h.ex
  exact PE.imp (pe_glob (v := .int i) hg ht ⟨t, rfl⟩ hdb) fun σ H Q ⟨B, S, st, q⟩ => q (.int i) B H (.refl st) (.refl S) (.v (.v (.int i)) fun a h => by cases h) fun a h => by cases h
end Lb
/-! f"..{x!r}.." of data. -/
namespace Lb
open PySem PySem.Spec PyProof.Rows L2
def tFR (mg : Mg) (te : TE) : TE := fun σ H Q => te σ H fun x H1 => ∃ d p, Rep mg H1 x d ∧ toPy d = some p ∧ reprable p = true ∧ Q (.str p.shown) H1
section
variable {X : Cx}
theorem pe_fr {e : Expr} {te : TE} {pos : Pos} (hgd : X.A.guards = some []) (hr : X.A.units + 200 < cLine) (hs : ∃ o, X.base.get? sysModules = some o) (he : PE X e te) : PE X (.FormattedValue e 114 none pos) (tFR X.mg te) := by
  refine ⟨fun pins s0 σ H Q I0 h => ?_⟩
  refine wpAny_FormattedValue_repr (thn (he.run pins s0 σ H _ I0 h) fun u s ⟨v, H1, I, ru, d, p, rp, ep, hp, q⟩ => ?_)
  obtain ⟨as, rd, t⟩ := rep_reads I.hok rp ep ru
  simp only [reprable, Bool.and_eq_true, decide_eq_true_eq] at hp
  obtain ⟨⟨h1, h2⟩, h3⟩ := hp
  have ns : sysModules ∉ as := fun hm => by
    obtain ⟨o, e⟩ := hs
    exact t _ hm (I.bs _ _ e).2
  have fin : ∀ h' u' tk, (∀ b o, s.heap.get? b = some o → h'.get? b = some o) → wpAny (model X.prog X.w) X.A (formatField (.str p.shown u') Str.empty) (EP X pins σ Q) X.xe { s with heap := h', toks := tk } := fun h' u' tk k =>
    wpAny_formatField_str ⟨.str p.shown, H1, I.kept (t' := tk) k, ⟨u', rfl⟩, q⟩ ⟨.str p.shown, H1, (I.kept (t' := tk) k).tok _, ⟨_, rfl⟩, q⟩ h2
  have heap : ∀ {a : Addr}, u = .ref a → wpAny (model X.prog X.w) X.A (pyReprObj u) (fun r s2 => wpAny (model X.prog X.w) X.A (formatField r Str.empty) (EP X pins σ Q) X.xe s2) X.xe s := fun e => by
    subst e
    exact pyReprObj_of_reads rd h1 (fun _ => ns) hgd (by omega) (fun b o e => e) fin h2
  have one : ∀ tk, wpAny (model X.prog X.w) X.A (formatField (.str p.shown s.toks) Str.empty) (EP X pins σ Q) X.xe { s with toks := tk } := fun tk => fin s.heap s.toks tk fun b o e => e
  cases rd with
  | none => exact pyReprObj_none (one _)
  | bool b => exact pyReprObj_bool (one _)
  | int i t => exact pyReprObj_int (by simpa [PyData.showable] using h1) (one _)
  | str x t => exact pyReprObj_str (one _) (by simpa only [PyData.shown] using h2)
  | list _ _ _ _ => exact heap rfl
  | tuple _ _ _ _ => exact heap rfl
  | dict _ _ _ _ _ => exact heap rfl
end
/-! ### the parts, one behind the other -/
def tJ (KK : PySem.W.Frag) (mg : Mg) (m : Str → M Str) (W : WX) (acc : Str) : Sg → Hp → (Str → Hp → Prop) → Prop := fun σ H Q => ∃ B S, StR KK mg B H σ S ∧ (m acc S).spec (fun out S' => ∀ B' H', Stp KK mg B H σ S B' H' σ S' → Has S S' → Q out H') (xPost KK mg W B H σ S)
def JX (X : Cx) (es : List Expr) (m : Str → M Str) : Prop := ∀ W, Takes X W → ∃ ts, PJ X es ts ∧ ∀ acc σ H Q, tJ X.K X.mg m W acc σ H Q → tJs ts acc σ H Q
def addS (acc y : Str) : M Str := fun S => if (acc ++ y).length ≤ sizeLine then .ok (acc ++ y) S else .stuck
def reprM (o : Opd) : M Str := fun S => match o.dv S with
  | some d => (match toPy d with
    | some p => if reprable p then .ok p.shown S else .stuck
    | none => .stuck)
  | none => .stuck
theorem reprM_spec {o : Opd} {S : Sl} {K : Str → Sl → Prop} {E : Str → List (Str × DV) → Sl → Prop} (h : (reprM o S).spec K E) : ∃ d p, o.dv S = some d ∧ toPy d = some p ∧ reprable p = true ∧ K p.shown S := by
  unfold reprM at h
  split at h
  · rename_i d e
    split at h
    · rename_i p ep
      obtain ⟨h1, h2⟩ := if_spec h
      exact ⟨d, p, e, ep, h1, h2⟩
    · exact h.elim
  · exact h.elim
section
variable {X : Cx} {e : Expr} {es : List Expr} {pos : Pos} {me : M Opd} {m : Str → M Str}
theorem jx_nil : JX X [] (fun acc => M.pure acc) := fun W tk => ⟨[], .nil, fun acc σ H Q ⟨B, S, st, q⟩ => q B H (.refl st) (.refl S)⟩
theorem jx_str {x : Str} {j : Nat} (h : JX X es m) : JX X (.Constant (.str x) j pos :: es) (fun acc => M.bind (addS acc x) m) := fun W tk => by
  obtain ⟨ts, hj, i⟩ := h W tk
  refine ⟨_, .cons pe_str hj, fun acc σ H Q ⟨B, S, st, q⟩ => ?_⟩
  obtain ⟨hz, q⟩ := if_spec (spec_bind.mp q)
  exact ⟨x, rfl, hz, i _ σ H Q ⟨B, S, st, q⟩⟩
theorem jx_fr (hgd : X.A.guards = some []) (hr : X.A.units + 200 < cLine) (hs : ∃ o, X.base.get? sysModules = some o) (he : PX X e me) (h : JX X es m) :
    JX X (.FormattedValue e 114 none pos :: es) (fun acc => M.bind me fun o => M.bind (reprM o) fun y => M.bind (addS acc y) m) := fun W tk => by
  obtain ⟨ts, hj, i⟩ := h W tk
  refine ⟨_, .cons (pe_fr hgd hr hs (he W tk)) hj, fun acc σ H Q ⟨B, S, st, q⟩ => ?_⟩
  refine ⟨B, S, st, (spec_bind.mp q).imp (fun o S1 _ q v B1 H1 s hs or _ => ?_) fun _ _ _ h => h⟩
  obtain ⟨d, p, e1, e2, e3, q⟩ := reprM_spec (spec_bind.mp q)
  obtain ⟨hz, q⟩ := if_spec (spec_bind.mp q)
  exact ⟨d, p, (or.view s.st e1).rep s.st.le, e2, e3, p.shown, rfl, hz, i _ σ H1 Q ⟨B1, S1, s.st, (show (m (acc ++ p.shown) S1).spec _ _ from q).imp (fun out S2 _ k B2 H2 s2 hs2 => k B2 H2 (s.trans s2) (hs.trans hs2)) fun _ _ _ h => h.pre s⟩⟩
theorem px_joined {v1 v2 : Expr} {rest : List Expr} (h : JX X (v1 :: v2 :: rest) m) : PX X (.JoinedStr (v1 :: v2 :: rest) pos) (M.bind (m Str.empty) fun x => kst (.str x)) := fun W tk => by
  obtain ⟨ts, hj, i⟩ := h W tk
  refine PE.imp (pe_joined hj) fun σ H Q ⟨B, S, st, q⟩ => i Str.empty σ H _ ⟨B, S, st, (spec_bind.mp q).imp (fun x S1 _ q B1 H1 s hs => ?_) fun _ _ _ h => h⟩
  exact q (.str x) B1 H1 s hs (.v (.v (.str x)) fun a h => by cases h) fun a h => by cases h
end
end Lb
/-! Lambdas that are handed to a def: the guards are known in their bodies, and errors go through. -/
namespace Lb
open PySem PySem.Spec PyProof.Rows L2 LamX
section
variable {X : Cx} {pins : List (Addr × Obj)} {σ : Sg} {H : Hp} {s : Shared}
/-- the lambda's name behind the def's -/
abbrev lamQ (X : Cx) : Str := X.env.qual ++ "<lambda>"
/-- the context of the def x that got the lambda, entered at s -/
abbrev gotCx (X : Cx) (Ng : List Str) (x : Str) (sg : Scope) (g : Addr) (cdg : Value) (s : Shared) (H : Hp) (E : XK) : Cx := cxOf (L2.CX X.prog X.w) X.prog X.w X.K X.mg X.base Ng x sg g cdg X.A X.stack s H E
/-- what the making of a lambda does to the heap: nothing, or a new code object stands in P's table -/
def Made (H H1 : Hp) (P c' : Addr) (q : Str) : Prop := (H1 = H ∧ ∃ (ps : Array Value) (pos : Pos), H P = some (.tbl ps) ∧ codeAmong pos ps.toList = some (.ref c')) ∨ ∃ (ps : Array Value) (pos : Pos), H P = some (.tbl ps) ∧ H c' = none ∧ H1 = upd (upd H P (.tbl (ps ++ #[rawInt pos.line, rawInt pos.col, .ref c']))) c' (CodeO c' q)
theorem lam_mk {T : List (Addr × Str)} {c P : Addr} {params : Arguments} {body : Expr} {scope : Scope} {pos : Pos} {E : Value → Shared → Prop} {Q : Value → Shared → Prop} (I : Inv X pins σ H s) (TB : TabB X.base X.mg c P) (hcode : X.env.code = .ref c)
    (hm : (P, lamQ X) ∈ T) (hu : ∀ p ∈ T, p.1 = P → p.2 = lamQ X) (hT : Tabs T H) (hdef : defaultsOf params X.env = ([], [])) (free : ∀ y ∈ scope.names, y.2 = .free → ∃ c, X.env.cells.lookup y.1 = some c)
    (h : ∀ (f c' : Addr) (pm ctv : Value) (H1 : Hp) (s' : Shared), Inv X pins σ H1 s' → Made H H1 P c' (lamQ X) → Tabs T H1 → s'.heap.get? f = some (PySem.W.kla_obj "<lambda>" (lamQ X) params body scope (cloFrom X.env.cells scope.names []) pm c' ctv) → H1 f = none → f ∉ frs X.stack → H1 c' = some (CodeO c' (lamQ X)) → Q (.ref f) s') :
    wpAny (model X.prog X.w) X.A (eval (.Lambda params body scope pos) X.env) Q E s := by
  obtain ⟨ps, hP, trip, known⟩ := hT _ hm
  have atP : s.heap.get? P = some { cls := .none, data := .fields ps } := I.hok P _ hP
  have bm : s.heap.BuiltinsAt X.mg P := TB.bm.keeps I.bk
  have noframe : ∀ f, s.heap.objs.size ≤ f → f ∉ frs X.stack := fun f hf z => (List.mem_cons.mp (I.stkSub _ z)).elim (fun e => by have h1 := I.lt; rw [← e] at h1; exact absurd h1 (Nat.not_lt.mpr hf)) (I.nofs hf)
  refine PySem.W.kla_eval hdef ?_
  cases hit : codeAmong pos ps.toList with
  | some cv =>
    obtain ⟨c', e, co⟩ := known pos cv hit
    subst e
    refine PySem.W.kla_makeFunctionHit (mg := X.mg) (c := c) (P := P) (ps := ps) (closure_ok free) I.ok.glob (I.mod.glob.keeps I.bk) hcode (TB.code.keeps I.bk) atP trip hit bm fun ctv h' tk keep sz => ?_
    exact h h'.objs.size c' _ ctv H _ (I.kept fun b o e => Heap.get?_push_of_some _ (keep b o e)) (.inl ⟨rfl, ps, pos, hP, hit⟩) hT (Heap.get?_push_size _ rfl) (I.hok.fresh sz) (noframe _ sz) co
  | none =>
    refine PySem.W.kla_makeFunction (mg := X.mg) (c := c) (P := P) (ps := ps) (closure_ok free) I.ok.glob (I.mod.glob.keeps I.bk) hcode (TB.code.keeps I.bk) atP trip hit TB.gP bm fun c' ctv h' tk keep ge lt rec tab => ?_
    obtain ⟨c2, oc, vs, t, e2, hoc, hd, hv⟩ := rec
    cases e2
    let more : Array Value := #[rawInt pos.line, rawInt pos.col, .ref c']
    let H1 : Hp := upd (upd H P (.tbl (ps ++ more))) c' (CodeO c' (lamQ X))
    have nC : H c' = none := I.hok.fresh ge
    have nPc : P ≠ c' := ne_of_none hP nC
    have sz : s.heap.objs.size ≤ h'.objs.size := Nat.le_trans ge (Nat.le_of_lt lt)
    have atP1 : H1 P = some (.tbl (ps ++ more)) := by show upd _ _ _ P = _; rw [upd_ne nPc, upd_same]
    have ext : ∀ b o, H b = some o → b ≠ P → H1 b = some o := fun b o e n => by show upd _ _ _ b = _; rw [upd_ne (ne_of_none e nC), upd_ne n]; exact e
    have I1 := inv_table (t' := tk) (more := more) (h' := h'.push (PySem.W.kla_obj "<lambda>" (lamQ X) params body scope (cloFrom X.env.cells scope.names []) ((X.mg "__name__").getD .none) c' ctv)) I hP
      (fun b o hb e => Heap.get?_push_of_some _ (keep b o hb e)) (Heap.get?_push_of_some _ tab) ge ⟨oc, vs, t, Heap.get?_push_of_some _ hoc, hd, hv⟩
    have code : ∀ c0, H c0 = some (CodeO c0 (lamQ X)) → H1 c0 = some (CodeO c0 (lamQ X)) := fun c0 e => ext c0 _ e fun z => by rw [z, hP] at e; exact codeO_ne ps (Option.some.inj e).symm
    refine h h'.objs.size c' _ ctv H1 _ I1 (.inr ⟨ps, pos, hP, nC, rfl⟩) (fun p hp => ?_) (Heap.get?_push_size _ rfl) ?_ (noframe _ sz) upd_same
    · by_cases hb : p.1 = P
      · have el : (ps ++ more).toList = ps.toList ++ [rawInt pos.line, rawInt pos.col, .ref c'] := by simp [more]
        rw [hu p hp hb, hb]
        refine ⟨_, atP1, by rw [el]; exact PySem.TriplesOk_snoc _ _ _ _ trip, fun pos' cv hcv => ?_⟩
        rw [el] at hcv
        rcases among_app _ trip hcv with z | z
        · obtain ⟨c0, e1, e2⟩ := known pos' cv z
          exact ⟨c0, e1, code c0 e2⟩
        · exact ⟨c', z, upd_same⟩
      · obtain ⟨qs, a1, a2, a3⟩ := hT p hp
        refine ⟨qs, ext _ _ a1 hb, a2, fun pos' cv hcv => ?_⟩
        obtain ⟨c0, e1, e2⟩ := a3 pos' cv hcv
        exact ⟨c0, e1, ext _ _ e2 fun z => by rw [z, hP] at e2; exact codeO_ne ps (Option.some.inj e2).symm⟩
    · show upd _ _ _ _ = none
      rw [upd_ne (Nat.ne_of_gt lt), upd_ne (Nat.ne_of_gt (Nat.lt_of_lt_of_le (Heap.lt_size atP) sz))]
      exact I.hok.fresh sz
theorem pe_actG {Eg : XK} {Ng : List Str} {x : Str} {sg : Scope} {g f c' : Addr} {cdg pm ctv : Value} {params : Arguments} {body : Expr} {scope : Scope} {k i : Nat} {a : Str} {pn : List (Addr × Obj)} {xe : Value → Shared → Prop} {W : WX} {tb : XK → TE} {p1 p2 : Pos}
    (I : Inv X pins σ H s) (L : LamS X.env.scope scope) (at_ : s.heap.get? f = some (PySem.W.kla_obj "<lambda>" (lamQ X) params body scope (cloFrom X.env.cells scope.names []) pm c' ctv)) (fn : H f = none) (ff : f ∉ frs X.stack)
    (bind0 : bindArgs (PySem.W.kla_fn "<lambda>" (lamQ X) params body scope (cloFrom X.env.cells scope.names []) pm (.ref c') ctv) ⟨[], []⟩ = pure [])
    (tk : Takes ((gotCx X Ng x sg g cdg s H Eg).tr pn xe) W) (hr : Room (k + 1) (X.A.deeper (envOfC x sg s.heap.objs.size g cdg))) (hgd : X.A.guards = some [])
    (hbody : ∀ (A : Around) (outer : List Env) (s : Shared) (H : Hp) (E : XK), Room k (A.deeper (lamEnv X scope s.heap.objs.size f c')) → A.guards = some [] → PE (lamCx X A outer s H E scope f c') body (tb E))
    (hN : Ng[i]? = some a) (hv : Vis sg a) (hd : (a == ("__debug__" : Str)) = false := by decide) (hcd : (a == ("__classdict__" : Str)) = false := by decide) :
    PE ((gotCx X Ng x sg g cdg s H Eg).tr pn xe) (.Call (.Name a p1) [] [] p2) (fun σZ HZ Q => σZ[i]? = some (some (.ref f)) ∧ HZ c' = some (CodeO c' (lamQ X)) ∧ tb (WE W σZ) σ HZ Q) := by
  refine ⟨fun pZ sZ σZ HZ Q IZ ⟨hs, hc, ht⟩ => wpAny_Call_Name_kw (thn ((pe_var (pos := p1) (i := i) hN hv hd hcd).run pZ sZ σZ HZ (fun v H1 => v = .ref f ∧ H1 = HZ) IZ ⟨.ref f, hs, rfl, rfl⟩) fun u s1 ⟨v, H1, I1, r1, ev, eH⟩ => ?_)⟩
  subst ev eH
  obtain rfl : u = Value.ref f := r1
  have un : Un (frs X.stack) [] H H1 s.heap s1.heap := I1.base
  have fun_at := un.keep f _ at_ fn ff (by simp)
  refine PySem.W.callWith_F0 ⟨_, _, _, _, fun_at⟩ ?_
  obtain ⟨⟨oc, vs, t, hoc, hdc, hvc⟩, _⟩ := I1.hok c' _ hc
  let A1 : Around := X.A.deeper (envOfC x sg s.heap.objs.size g cdg)
  have rc : codeAny (model X.prog X.w) A1 (.call (.ref f) ⟨[], []⟩) (CR (L2.CX X.prog X.w) (envOfC x sg s.heap.objs.size g cdg :: X.stack) X.prog X.w H1 s1 Q (WE W σZ)) s1 := by
    refine PySem.W.kla_callFunE hr.depth fun_at rfl L.co L.gen rfl ⟨c', oc, vs, t, rfl, hoc, hdc, hvc⟩ ?_
    rw [bind0]
    refine wpAny_pure (wpAny_newFunctionEnv (fun y hy => (L.own y hy).2) (fun y hy => absurd hy (by simp)) (fun h1 hns sb => ⟨I1.nolimit.fresh _ sb, ?_⟩) L.kind)
    show codeAny _ _ (.expr body (lamEnv X scope s1.heap.objs.size f c')) _ _
    have keep : ∀ b o, s1.heap.get? b = some o → h1.get? b = some o := fun b o e => sb.extBut b o (Nat.ne_of_lt (Heap.lt_size e)) (Heap.get?_push_of_some _ e)
    have J := lam_start2 (E := WE W σZ) (f := f) (c' := c') (tk := s1.toks + ([] : List (Str × Value)).length) I L I1.env0 hr.hd un hns keep
    refine PySem.W.kla_codeExpr (wpAny_mono ((hbody A1 _ s1 H1 (WE W σZ) (hr.deeper _) hgd).run [] _ σ H1 Q J ht) (fun v s' ⟨w', H', J', rv, q⟩ => ?_) fun e s' hq => hq)
    exact ⟨w', H', J'.os, J'.bare, J'.base, J'.hok, rv, q⟩
  refine wpAny_call (codeAny_mono rc fun r s' hq => ?_)
  cases r with
  | error e => exact passAt tk σZ pZ H1 s1 e s' I1 hq
  | ok fl =>
    cases fl with
    | ret u => exact I1.after hq
    | next => exact False.elim hq
    | brk => exact False.elim hq
    | cont => exact False.elim hq
/-- what is known of the call a() in the def that got the lambda -/
def Act (X : Cx) (Ng : List Str) (x : Str) (sg : Scope) (g : Addr) (cdg : Value) (a : Str) (s : Shared) (H : Hp) (E : XK) (f c' : Addr) (tl : XK → Hp → VK → Prop) : Prop :=
  ∀ (W : WX) (pn : List (Addr × Obj)) (xe : Value → Shared → Prop) (p1 p2 : Pos), Takes ((gotCx X Ng x sg g cdg s H E).tr pn xe) W →
    PE ((gotCx X Ng x sg g cdg s H E).tr pn xe) (.Call (.Name a p1) [] [] p2) (fun σZ HZ Q => σZ[0]? = some (some (.ref f)) ∧ HZ c' = some (CodeO c' (lamQ X)) ∧ tl (WE W σZ) HZ Q)
theorem pe_lamG {T : List (Addr × Str)} {x a : Str} {g c P : Addr} {k : Nat} {pg : Arguments} {bg : List Stmt} {sg : Scope} {dV kV doc pm cdv ct oc : Value} {an od : Option Addr} {osl : Array (Option Value)} {Ng : List Str} {params : Arguments} {body : Expr} {scope : Scope} {tb : XK → TE} {p lpos pos : Pos} {W : WX}
    (tk : Takes X W) (hg : Gl X x) (hm : X.mg x = some (.ref g)) (hk : PySem.W.keepIn X.K (.ref g) = true) (lk : X.K.lookup g = some ⟨oc, od, .func (PySem.W.fnOf x x pg bg sg dV kV doc pm an cdv ct), osl⟩) (hcg : PySem.W.codeIn X.K cdv x = true)
    (hb : L2.Binds X.K (PySem.W.fnOf x x pg bg sg dV kV doc pm an cdv ct) [a] []) (Sg : FnScope Ng [a] sg) (hNg : Ng[0]? = some a) (hva : Vis sg a) (TB : TabB X.base X.mg c P) (hcode : X.env.code = .ref c) (hmT : (P, lamQ X) ∈ T) (hu : ∀ p ∈ T, p.1 = P → p.2 = lamQ X)
    (hr : Room (k + 2) X.A) (hgd : X.A.guards = some []) (L : LamS X.env.scope scope) (hdef : defaultsOf params X.env = ([], []))
    (bind0 : ∀ (q : Str) (cl : List (Str × Addr)) (pm cv ctv : Value), bindArgs (PySem.W.kla_fn "<lambda>" q params body scope cl pm cv ctv) ⟨[], []⟩ = pure [])
    (hbody : ∀ (f c' : Addr) (A : Around) (outer : List Env) (s : Shared) (H : Hp) (E : XK), Room k (A.deeper (lamEnv X scope s.heap.objs.size f c')) → A.guards = some [] → PE (lamCx X A outer s H E scope f c') body (tb E))
    (hdb : (x == ("__debug__" : Str)) = false := by decide) (hd : (a == ("__debug__" : Str)) = false := by decide) (hcd : (a == ("__classdict__" : Str)) = false := by decide) :
    PE X (.Call (.Name x p) [.Lambda params body scope lpos] [] pos) (fun σ H Q => Tabs T H ∧ ∀ (f c' : Addr) (H1 : Hp) (s : Shared), Made H H1 P c' (lamQ X) → Tabs T H1 → H1 c' = some (CodeO c' (lamQ X)) → Room (k + 1) (X.A.deeper (envOfC x sg s.heap.objs.size g cdv)) →
      Act X Ng x sg g cdv a s H1 (WE W σ) f c' (fun E H' Q' => tb E σ H' Q') → ∃ t, PSs (gotCx X Ng x sg g cdv s H1 (WE W σ)) bg t ∧ t { nx := fun _ H' => Q .non H', rt := Q } (L2.start Ng [.ref f]) H1) := by
  refine ⟨fun pins s σ H Q I ⟨hT, h⟩ => ?_⟩
  refine wpAny_Call_Name_kw (ld_glob I hg hm (PySem.W.callWith_K (h₀ := X.base) I.ok.mod.kin hk ?_ (by rfl) (by rfl)) hdb)
  show wpAny _ _ (spliced ((false, eval (.Lambda params body scope lpos) X.env) :: backTo pos (starEach [] X.env))) _ _ s
  refine Calls.spliced_cons (lam_mk I TB hcode hmT hu hT hdef (L.has I.ok) fun f c' pm' ctv H1 s1 I1 ext tabs at_ fn ff co => Calls.spliced_nil ⟨I1.kIn, ?_⟩)
  have rc : codeAny (model X.prog X.w) X.A (.call (.ref g) ⟨[.ref f], []⟩) (CR (L2.CX X.prog X.w) X.stack X.prog X.w H1 s1 Q (WE W σ)) s1 :=
    run_ofS (N := Ng) (ps := [a]) (us := [.ref f]) (vs := [.ref f]) lk hcg Sg hr I1.env0 (hb s1 [.ref f] I1.kIn rfl) (.cons rfl .nil) rfl fun hr' =>
      h f c' H1 s1 ext tabs co hr' fun W' pn xe p1 p2 tk' => pe_actG (i := 0) I1 L at_ fn ff (bind0 _ _ _ _ _) tk' hr' hgd (fun A outer s H E hr2 hg2 => hbody f c' A outer s H E hr2 hg2) hNg hva hd hcd
  refine wpAny_call (codeAny_mono rc fun r s2 hq => ?_)
  cases r with
  | error e => exact passAt tk σ pins H1 s1 e s2 I1 hq
  | ok fl =>
    cases fl with
    | ret u => exact I1.after hq
    | next => exact False.elim hq
    | brk => exact False.elim hq
    | cont => exact False.elim hq
end
end Lb
/-! The call of a lambda that was handed in, as a plain function. -/
namespace Lb
open PySem PySem.Spec PyProof.Rows L2 LamX
def onlyD (Sd : List (Option DV)) : Sl := Sd.map (Option.map RV.v)
/-- what the lambda's body gives -/
inductive LO where
  | val (r : RV)
  | exc (c : Str) (fs : List (Str × DV))
  | stuck
def runL (mb : M Opd) (Sd : List (Option DV)) : LO := match mb (onlyD Sd) with
  | .ok (.v r) _ => if r.isPin then .stuck else .val r
  | .ok (.sl _) _ => .stuck
  | .exc c fs _ => .exc c fs
  | .stuck => .stuck
def callL (L : LO) : M Opd := fun S => match L with
  | .val r => .ok (.v r) S
  | .exc c fs => .exc c fs S
  | .stuck => .stuck
def callM (i : Nat) (f c' : Addr) (q0 : Str) (σ0 : Sg) (mb : M Opd) : M Opd := fun S => match S[i]? with
  | some (some (.v (.clo f1 c1 q1 σ1 Sd))) => if f1 = f ∧ c1 = c' ∧ q1 = q0 ∧ σ1 = σ0 then callL (runL mb Sd) S else .stuck
  | _ => .stuck
section
variable {KK : PySem.W.Frag} {mg : Mg} {B H B' H' : Hp} {σ σ' : Sg} {S S' : Sl}
theorem RepO.length : ∀ {xs : List (Option V)} {ds : List (Option DV)}, RepO mg B xs ds → xs.length = ds.length
  | _, _, .nil => rfl
  | _, _, .no q => congrArg (· + 1) (RepO.length q)
  | _, _, .yes _ q => congrArg (· + 1) (RepO.length q)
theorem RepO.at_ : ∀ {xs : List (Option V)} {ds : List (Option DV)} {i : Nat} {r : RV}, RepO mg B xs ds → (onlyD ds)[i]? = some (some r) → ∃ v d, xs[i]? = some (some v) ∧ r = .v d ∧ Rep mg B v d
  | _, _, _, _, .nil, h => by simp [onlyD] at h
  | _, _, 0, _, .no _, h => by simp [onlyD] at h
  | _, _, 0, _, .yes r _, h => by simp [onlyD] at h; exact ⟨_, _, rfl, h.symm, r⟩
  | _, _, i + 1, _, .no q, h => RepO.at_ (i := i) q (by simpa [onlyD] using h)
  | _, _, i + 1, _, .yes _ q, h => RepO.at_ (i := i) q (by simpa [onlyD] using h)
theorem onlyD_no {ds : List (Option DV)} {a : Addr} : ¬ OwnA σ (onlyD ds) a := fun ⟨i, ⟨r, e, h⟩, _⟩ => by
  unfold onlyD at e
  rw [List.getElem?_map] at e
  cases q : ds[i]? with
  | none => rw [q] at e; cases e
  | some d =>
    rw [q] at e
    cases d with
    | none => cases e
    | some d => cases e; cases h
/-- the maker's data, in a later heap -/
theorem RepO.st {ds : List (Option DV)} (x : StR KK mg B H σ' S') (q : RepO mg B σ ds) : StR KK mg B H σ (onlyD ds) :=
  ⟨x.le, by rw [q.length]; simp [onlyD], fun i r e => by
    obtain ⟨v, d, h1, h2, h3⟩ := q.at_ e
    subst h2
    exact ⟨v, h1, .v h3⟩, fun i j a h _ => absurd ⟨i, h⟩ onlyD_no, x.tbs⟩
theorem new_no {ds : List (Option DV)} {S2 : Sl} {σ2 : Sg} (s : Stp KK mg B H σ (onlyD ds) B' H' σ2 S2) : NewK KK B H B' H' :=
  ⟨fun a o e t => s.grow.keep a o e onlyD_no t, s.grow.tab, s.grow.there, s.grow.sub, s.st.le, fun a h => by
    rcases s.grow.new a h with z | z | z
    · exact .inl z
    · exact .inr z
    · exact absurd z onlyD_no⟩
end
section
variable {X : Cx} {Ng : List Str} {x a : Str} {sg : Scope} {g f c' : Addr} {cdg : Value} {s : Shared} {H : Hp} {E : XK} {σ : Sg} {mb : M Opd}
theorem px_actM (act : Act X Ng x sg g cdg a s H E f c' (fun E H' Q' => tM X.K X.mg mb (fun cls d _ H => E cls d H) σ H' Q')) (pn : List (Addr × Obj)) (xe : Value → Shared → Prop) {p1 p2 : Pos} :
    PX ((gotCx X Ng x sg g cdg s H E).tr pn xe) (.Call (.Name a p1) [] [] p2) (callM 0 f c' (lamQ X) σ mb) := fun W tk =>
  PE.imp (act W pn xe p1 p2 tk) fun σZ HZ Q ⟨B, S, st, q⟩ => by
    unfold callM at q
    split at q
    · rename_i f1 c1 q1 σ1 Sd eS
      have q2 := (if_spec q).2
      obtain ⟨h1, h2, h3, h4⟩ := (if_spec q).1
      clear q
      subst h1 h2 h3 h4
      obtain ⟨v, ev, qv⟩ := st.at_ 0 _ eS
      cases qv with
      | v qv =>
        cases qv with
        | clo hc hO =>
          refine ⟨ev, ?_, B, onlyD Sd, hO.st st, ?_⟩
          · exact st.le.keep _ _ hc rfl
          · unfold runL at q2
            cases em : mb (onlyD Sd) with
            | stuck => rw [em] at q2; exact q2.elim
            | exc c fs S2 =>
              rw [em] at q2
              intro C B' H' σ' d hC sp hd
              exact q2 C B' H' σZ d hC (st.stepK (new_no sp)) hd
            | ok o S2 =>
              rw [em] at q2
              intro v B' H' sp hs or y
              cases o with
              | sl j => exact q2.elim
              | v r =>
                dsimp only at q2
                split at q2
                · exact q2.elim
                · cases or with
                  | v qr nr =>
                    exact q2 v B' H' (st.stepK (new_no sp)) (.refl S) (.v qr fun b hb eb z => st.notOwn (y b hb eb) z) y
    · exact q.elim
end
end Lb
/-! f(lambda: e), as a plain function. -/
namespace Lb
open PySem PySem.Spec PyProof.Rows L2 LamX
def dataO : Option RV → Option DV
  | some (.v d) => some d
  | _ => none
def dataS (S : Sl) : List (Option DV) := S.map dataO
/-- F: what the def makes of what the lambda gives -/
def FOut.ret0 : FOut → FOut
  | .stuck => .stuck
  | .ret r _ => .ret r []
  | .exc c fs _ => .exc c fs []
def lamM (F : LO → FOut) (mb : M Opd) : M Opd := fun S => match F (runL mb (dataS S)) with
  | .ret r _ => if r.isPin then .stuck else .ok (.v r) S
  | .exc c fs _ => .exc c fs S
  | .stuck => .stuck
section
variable (P : Program) (w : World) (K : PySem.W.Frag) (mg : Mg) (base : Heap)
/-- the def x calls the one thing that it gets; mT: its body; F: what comes of it -/
structure KL (x : Str) (F : LO → FOut) (k : Nat) : Prop where
  ex : ∃ (g : Addr) (a : Str) (pg : Arguments) (bg : List Stmt) (sg : Scope) (dV kV doc pm cdv ct oc : Value) (an od : Option Addr) (osl : Array (Option Value)) (Ng : List Str) (mT : M Opd → SM),
    mg x = some (.ref g) ∧ PySem.W.keepIn K (.ref g) = true ∧ K.lookup g = some ⟨oc, od, .func (PySem.W.fnOf x x pg bg sg dV kV doc pm an cdv ct), osl⟩ ∧ PySem.W.codeIn K cdv x = true ∧
    L2.Binds K (PySem.W.fnOf x x pg bg sg dV kV doc pm an cdv ct) [a] [] ∧ FnScope Ng [a] sg ∧ Ng[0]? = some a ∧ Vis sg a ∧ (a == ("__debug__" : Str)) = false ∧ (a == ("__classdict__" : Str)) = false ∧
    (∀ (A : Around) (outer : List Env) (s : Shared) (H : Hp) (E : XK) (cm : M Opd), Room k (A.deeper (envOfC x sg s.heap.objs.size g cdv)) → A.guards = some [] →
      (∀ (pn : List (Addr × Obj)) (xe : Value → Shared → Prop) (p1 p2 : Pos), PX ((cxOf (L2.CX P w) P w K mg base Ng x sg g cdv A outer s H E).tr pn xe) (.Call (.Name a p1) [] [] p2) cm) →
      SXs (cxOf (L2.CX P w) P w K mg base Ng x sg g cdv A outer s H E) bg (mT cm)) ∧
    ∀ (f c' : Addr) (q : Str) (σ : Sg) (Sd : List (Option DV)) (mb : M Opd), (runDef (mT (callM 0 f c' q σ mb)) Ng.length [.v (.clo f c' q σ Sd)]).ret0 = F (runL mb Sd)
end
section
variable {KK : PySem.W.Frag} {mg : Mg} {B H : Hp} {σ : Sg} {S : Sl}
theorem dataS_rep (x : StR KK mg B H σ S) : RepO mg B σ (dataS S) := by
  have gen : ∀ (σ : Sg) (S : Sl), σ.length = S.length → (∀ (i : Nat) (d : DV), S[i]? = some (some (.v d)) → ∃ v, σ[i]? = some (some v) ∧ Rep mg B v d) → RepO mg B σ (dataS S) := by
    intro σ
    induction σ with
    | nil => intro S hl _; cases S with
      | nil => exact .nil
      | cons _ _ => cases hl
    | cons v σ ih =>
      intro S hl h
      cases S with
      | nil => cases hl
      | cons r S =>
        have rest := ih S (Nat.succ.inj hl) fun i d e => by
          obtain ⟨v, h1, h2⟩ := h (i + 1) d (by simpa using e)
          exact ⟨v, by simpa using h1, h2⟩
        cases r with
        | none => exact .no rest
        | some r =>
          cases r with
          | v d =>
            obtain ⟨u, h1, h2⟩ := h 0 d rfl
            simp at h1
            subst h1
            exact .yes h2 rest
          | ol _ _ => exact .no rest
          | od _ _ => exact .no rest
          | oi _ _ _ => exact .no rest
  exact gen σ S x.len fun i d e => by
    obtain ⟨v, h1, h2⟩ := x.at_ i _ e
    cases h2 with | v h2 => exact ⟨v, h1, h2⟩
end
/-- the making of a lambda changes nothing that is seen; its code object is frozen from now on -/
theorem StR.made {KK : PySem.W.Frag} {mg : Mg} {B H H1 : Hp} {σ : Sg} {S : Sl} {P c' : Addr} {q : Str} (st : StR KK mg B H σ S) (hm : (P, q) ∈ tblsOf KK) (hu : ∀ p ∈ tblsOf KK, p.1 = P → p.2 = q) (m : Made H H1 P c' q) :
    ∃ B1, Stp KK mg B H σ S B1 H1 σ S ∧ B1 c' = some (CodeO c' q) := by
  rcases m with ⟨e, ps, pos, hP, hit⟩ | ⟨ps, pos, hP, nC, e⟩
  · subst e
    obtain ⟨qs, h1, h2, h3⟩ := st.tbs _ hm
    rw [hP] at h1; cases h1
    obtain ⟨c, e1, e2⟩ := h3 pos _ hit
    cases e1
    exact ⟨B, .refl st, e2⟩
  let more : Array Value := #[rawInt pos.line, rawInt pos.col, .ref c']
  have at_ : ∀ a, a ≠ P → a ≠ c' → H1 a = H a := fun a h1 h2 => by rw [e, upd_ne h2, upd_ne h1]
  have nPc : P ≠ c' := ne_of_none hP nC
  have atP : H1 P = some (.tbl (ps ++ more)) := by rw [e, upd_ne nPc, upd_same]
  have atC : H1 c' = some (CodeO c' q) := by rw [e, upd_same]
  have keep : ∀ a o, H a = some o → nTbl o = true → H1 a = some o := fun a o h t => by
    rw [at_ a (fun z => by subst z; rw [hP] at h; cases h; cases t) (ne_of_none h nC)]; exact h
  have ts : ∀ o, solid o = true → nTbl o = true := fun o h => by cases o <;> first | rfl | cases h
  have nB : B c' = none := st.le.none nC
  have su : Sub B (upd B c' (CodeO c' q)) := Sub.upd nB
  have le0 : Sub B H1 := ⟨fun a o e sl => keep a o (st.le.keep a o e sl) (ts o sl), fun a kvs r => by
      rcases st.le.rd a kvs r with z | ⟨o, z⟩
      · exact .inl (keep _ _ z rfl)
      · exact .inr ⟨o, keep _ _ z rfl⟩, fun a qs h => by
      obtain ⟨us, h⟩ := st.le.tb a qs h
      by_cases hb : a = P
      · subst hb; exact ⟨_, atP⟩
      · exact ⟨us, by rw [at_ a hb (ne_of_none h nC)]; exact h⟩⟩
  have le : Sub (upd B c' (CodeO c' q)) H1 := sub_upd_le le0 atC
  have tabs : Tabs2 (tblsOf KK) B H → Tabs2 (tblsOf KK) (upd B c' (CodeO c' q)) H1 := fun t p hp => by
    obtain ⟨qs, a1, a2, a3⟩ := t p hp
    by_cases hb : p.1 = P
    · rw [hb, hP] at a1; cases a1
      have el : (ps ++ more).toList = ps.toList ++ [rawInt pos.line, rawInt pos.col, .ref c'] := by simp [more]
      rw [hb, hu p hp hb]
      refine ⟨_, atP, by rw [el]; exact PySem.TriplesOk_snoc _ _ _ _ a2, fun pos' cv hcv => ?_⟩
      rw [el] at hcv
      rcases among_app _ a2 hcv with z | z
      · obtain ⟨c0, e1, e2⟩ := a3 pos' cv z
        rw [hu p hp hb] at e2
        exact ⟨c0, e1, su.keep _ _ e2 rfl⟩
      · exact ⟨c', z, upd_same⟩
    · refine ⟨qs, by rw [at_ _ hb (ne_of_none a1 nC)]; exact a1, a2, fun pos' cv hcv => ?_⟩
      obtain ⟨c0, e1, e2⟩ := a3 pos' cv hcv
      exact ⟨c0, e1, su.keep _ _ e2 rfl⟩
  refine ⟨upd B c' (CodeO c' q), ⟨⟨su, fun a o h _ t => keep a o h t, tabs, fun a h => ?_, fun a h => ?_⟩, ⟨le, st.len, fun i r e => ?_, st.dis, tabs st.tbs⟩, fun a h => .inl h, fun i h => ⟨h, rfl⟩, rfl⟩, upd_same⟩
  · by_cases hb : a = P
    · subst hb; rw [atP]; simp
    · by_cases hc : a = c'
      · subst hc; exact absurd nC h
      · rw [at_ a hb hc]; exact h
  · by_cases hc : a = c'
    · subst hc; exact .inr (.inl nC)
    · rw [upd_ne hc] at h; exact .inl h
  · obtain ⟨v, e1, q⟩ := st.at_ i r e
    refine ⟨v, e1, ?_⟩
    have nc : ∀ (qq : Str) a o, H a = some o → upd B c' (CodeO c' qq) a = B a := fun qq a o h => upd_ne (ne_of_none h nC)
    cases q with
    | v q => exact .v (q.mono su)
    | ol h1 h2 q => exact .ol (by rw [nc _ _ _ h2]; exact h1) (keep _ _ h2 rfl) (q.mono su)
    | od h1 h2 q => exact .od (by rw [nc _ _ _ h2]; exact h1) (keep _ _ h2 rfl) (q.mono su)
    | oi m h1 h2 q => exact .oi m (by rw [nc _ _ _ h2]; exact h1) (keep _ _ h2 rfl) (q.mono su)
/-! ### the code object of a def that makes lambdas -/
def lamN (x : Str) : Str := (x ++ (".<locals>." : Str)) ++ ("<lambda>" : Str)
structure LamC (K : PySem.W.Frag) (mg : Mg) (base : Heap) (cdv : Value) (x : Str) : Prop where
  ex : ∃ c P, cdv = .ref c ∧ TabB base mg c P ∧ (P, lamN x) ∈ tblsOf K ∧ ∀ p ∈ tblsOf K, p.1 = P → p.2 = lamN x
def lamB (K : PySem.W.Frag) (x : Str) : Bool := match PySem.W.nsIn K mainGlobals x with
  | some (some (.ref f)) => (match K.lookup f with
    | some ⟨_, _, .func fd, _⟩ => (match fd.code with
      | .ref c => (match K.lookup c with
        | some o => (match tblOf o with
          | some (P, q) => q == lamN x && (PySem.W.codeHdIn K c P && ((tblsOf K).any (fun p => p.1 == P && p.2 == lamN x) && (tblsOf K).all fun p => p.1 != P || p.2 == lamN x))
          | none => false)
        | none => false)
      | _ => false)
    | _ => false)
  | _ => false
section
variable {P : Program} {w : World} {K : PySem.W.Frag} {mg : Mg} {base : Heap} {x : Str} {st : Stmt} {f : Addr} {fd : FuncData} {N ps : List Str} {k : Nat} {m : SM} {cdv : Value}
theorem lamC_of (KX : K.In base) (G : base.Ns mainGlobals mg) (T : ∀ p ∈ tblsOf K, base.BuiltinsAt mg p.1 ∧ mainGlobals ≠ p.1) (e : lamB K x = true) (F : Fun K x x st f fd) (hm : mg x = some (.ref f)) (hc : fd.code = cdv) : LamC K mg base cdv x := by
  obtain ⟨oc, od, kV, doc, pm, an, cdv', ct, osl, e1, lk, hcd⟩ := F.ex
  unfold lamB at e
  split at e
  · rename_i f' hn
    have z := PySem.W.mg_of KX G hn
    rw [hm] at z; cases z
    rw [lk] at e
    dsimp only at e
    rw [hc] at e
    split at e
    · rename_i c
      split at e
      · rename_i o ho
        split at e
        · rename_i T0 q hq
          simp only [Bool.and_eq_true, List.any_eq_true, List.all_eq_true, beq_iff_eq, Bool.or_eq_true, bne_iff_ne, ne_eq] at e
          obtain ⟨_, h2, ⟨⟨a, b⟩, h3, h4, h5⟩, h6⟩ := e
          dsimp only at h4 h5
          subst h4 h5
          exact ⟨c, a, rfl, ⟨PySem.W.codeHd_of_K KX h2, (T _ h3).1, (T _ h3).2⟩, h3, fun p hp hb => (h6 p hp).elim (fun z => absurd hb z) id⟩
        · cases e
      · cases e
    · cases e
  · cases e
theorem kd_mkC (F : Fun K x x st f fd) (S : FnScope N ps (defScope st)) (hm : mg x = some (.ref f)) (hb : Binds K fd ps []) (hl : ∀ cdv, fd.code = cdv → LamC K mg base cdv x)
    (h : ∀ (cdv : Value) (A : Around) (outer : List Env) (s : Shared) (H : Hp) (E : XK), LamC K mg base cdv x → Room k (A.deeper (envOfC x (defScope st) s.heap.objs.size f cdv)) → A.guards = some [] →
      SXs (cxOf (L2.CX P w) P w K mg base N x (defScope st) f cdv A outer s H E) (defBody st) m) : KD P w K mg base x (runDef m N.length) ps (k + 1) :=
  ⟨f, fd, fn_mkC F S fun cdv A outer s H E hc hr hg => h cdv A outer s H E (hl cdv hc) hr hg, hm, F.kp, hb⟩
end
section
variable {X : Cx} {x y : Str} {F : LO → FOut} {k j : Nat} {params : Arguments} {body : Expr} {scope : Scope} {lpos p pos : Pos} {mb : M Opd} {cdv : Value}
/-- THE RULE: a lambda without parameters is handed to a def that calls it -/
theorem px_lam (D : KL X.prog X.w X.K X.mg X.base x F k) (hr : Room j X.A) (hj : k + 2 ≤ j) (hgd : X.A.guards = some []) (hg : Gl X x) (hc : LamC X.K X.mg X.base cdv y) (hcode : X.env.code = cdv) (hq : lamQ X = lamN y)
    (L : LamS X.env.scope scope) (hdef : defaultsOf params X.env = ([], []))
    (bind0 : ∀ (q : Str) (cl : List (Str × Addr)) (pm cv ctv : Value), bindArgs (PySem.W.kla_fn "<lambda>" q params body scope cl pm cv ctv) ⟨[], []⟩ = pure [])
    (hbody : ∀ (f c' : Addr) (A : Around) (outer : List Env) (s : Shared) (H : Hp) (E : XK), Room k (A.deeper (lamEnv X scope s.heap.objs.size f c')) → A.guards = some [] → PX (lamCx X A outer s H E scope f c') body mb)
    (hdb : (x == ("__debug__" : Str)) = false := by decide) :
    PX X (.Call (.Name x p) [.Lambda params body scope lpos] [] pos) (lamM F mb) := fun W tk => by
  obtain ⟨g, a, pg, bg, sg, dV, kV, doc, pm, cdg, ct, oc, an, od, osl, Ng, mT, hm, hk, lk, hcg, hb, Sg, hN0, hva, hd, hcd, hT, hF⟩ := D.ex
  obtain ⟨c, P, ec, TB, hmT, hu⟩ := hc.ex
  rw [← hq] at hmT hu
  refine PE.imp (pe_lamG (T := tblsOf X.K) (k := k) (tb := fun E => tM X.K X.mg mb (fun cls d _ H => E cls d H)) tk hg hm hk lk hcg hb Sg hN0 hva TB (hcode.trans ec) hmT hu (hr.mono hj) hgd L hdef bind0
    (fun f c' A outer s H E h1 h2 => hbody f c' A outer s H E h1 h2 _ (takes_of rfl rfl rfl rfl)) hdb hd hcd) fun σ H Q ⟨B, S, st, q⟩ => ?_
  refine ⟨st.tbs.tabs st.le, fun f c' H1 s made _ _ room act => ?_⟩
  obtain ⟨B1, s1, hB1⟩ := st.made hmT hu made
  have rep : Reps X.mg B1 [.ref f] [.clo f c' (lamQ X) σ (dataS S)] := .cons (.clo hB1 (dataS_rep s1.st)) .nil
  refine def_run (n := 1) (hT X.A X.stack s H1 (WE W σ) (callM 0 f c' (lamQ X) σ mb) (room.mono (by omega)) hgd fun pn xe p1 p2 => px_actM act pn xe) (by have := (List.getElem?_eq_some_iff.mp hN0).1; omega) ?_
  refine call_data (f := runDef (mT (callM 0 f c' (lamQ X) σ mb)) Ng.length) (ps := [a]) s1 (.refl S) rep ?_
  have e : callF (runDef (mT (callM 0 f c' (lamQ X) σ mb)) Ng.length) 1 [.clo f c' (lamQ X) σ (dataS S)] S = lamM F mb S := by
    unfold callF lamM
    have hl : ([DV.clo f c' (lamQ X) σ (dataS S)] : List DV).length = 1 := rfl
    rw [if_pos hl]
    show (match runDef (mT (callM 0 f c' (lamQ X) σ mb)) Ng.length [.v (.clo f c' (lamQ X) σ (dataS S))] with | .ret r _ => _ | .exc c fs _ => _ | .stuck => _) = _
    rw [← hF f c' (lamQ X) σ (dataS S) mb]
    cases runDef (mT (callM 0 f c' (lamQ X) σ mb)) Ng.length [.v (.clo f c' (lamQ X) σ (dataS S))] <;> rfl
  exact e ▸ q
end
end Lb
/-! x = {.., "rows": []}, and a walk whose turns put what is new behind x["rows"]: one rule for both statements. -/
namespace Lb
open PySem PySem.Spec PyProof.Rows L2
/-! ### the display -/
def tPh (KK : PySem.W.Frag) (mg : Mg) (k0 : Str) (m : M (List (DV × DV))) (W : WX) : Sg → Hp → (List (V × V) → Hp → Prop) → Prop := fun σ H Q => ∃ B S, StR KK mg B H σ S ∧ (m S).spec
  (fun ps S' => ∀ xs ys b B' H', Stp KK mg B H σ S B' H' σ S' → Has S S' → H b = none → H' b = some (.lst []) → B' b = none → ¬ OwnA σ S' b → Reps mg B' xs (ps.map (·.1)) → Reps mg B' ys (ps.map (·.2)) → Q (xs.zip ys ++ [(.str k0, .ref b)]) H') (xPost KK mg W B H σ S)
def PPXh (X : Cx) (pos : Pos) (k0 : Str) (ks : List (Option Expr)) (vs : List Expr) (m : M (List (DV × DV))) : Prop := ∀ W, Takes X W → ∃ trs, PPs X pos ks vs trs ∧ ∀ σ H Q, tPh X.K X.mg k0 m W σ H Q → tPairs trs σ H Q
section
variable {X : Cx} {pos p2 p3 : Pos} {k v : Expr} {ks : List (Option Expr)} {vs : List Expr} {k0 : Str} {j : Nat}
theorem pph_last : PPXh X pos k0 [some (.Constant (.str k0) j p2)] [.List [] p3] (M.pure []) := fun W tk => by
  refine ⟨_, pps_cons (px_str (X := X) (x := k0) W tk) (px_lst (X := X) fxs_nil W tk) pps_nil, fun σ H Q ⟨B, S, st, q⟩ => ?_⟩
  refine ⟨B, S, st, fun v1 B1 H1 s1 hs1 r1 _ => ⟨B1, S, s1.st, ?_⟩⟩
  have ev : v1 = .str k0 := (OpdR.view s1.st r1 rfl).str
  subst ev
  show (mkL [] S).spec _ _
  unfold mkL
  have z : ([] : List DV).length ≤ sizeLine := Nat.zero_le _
  rw [if_pos z]
  intro v2 B2 H2 s2 hs2 r2 y2
  have s := s1.trans s2
  cases r2 with
  | v r2 n2 =>
    cases r2 with
    | @ol b p xs ds hb hh rr =>
      cases rr
      exact q [] [] b B2 H2 s (.refl S) (s1.free (y2 b rfl rfl)) hh hb (n2 b rfl rfl) .nil .nil
theorem pph_cons {mk mv : M DV} {mr : M (List (DV × DV))} (hk : FX X k mk) (hv : FX X v mv) (hr : PPXh X pos k0 ks vs mr) : PPXh X pos k0 (some k :: ks) (v :: vs) (M.bind mk fun a => M.bind mv fun b => M.bind mr fun r => M.pure ((a, b) :: r)) := fun W tk => by
  obtain ⟨trs, h, i⟩ := hr W tk
  refine ⟨_, pps_cons (hk W tk) (hv W tk) h, fun σ H Q ⟨B, S, st, q⟩ => ?_⟩
  exact ⟨B, S, st, (spec_bind.mp q).imp (fun a S1 _ q x B1 H1 s1 hs1 rx => ⟨B1, S1, s1.st, (spec_bind.mp q).imp (fun b S2 _ q y B2 H2 s2 hs2 ry => i σ H2 _ ⟨B2, S2, s2.st, (spec_bind.mp q).imp (fun r S3 _ q xs ys l B3 H3 s3 hs3 nl hl bl ol r1 r2 => by
    have := q (x :: xs) (y :: ys) l B3 H3 ((s1.trans s2).trans s3) ((hs1.trans hs2).trans hs3) ((s1.trans s2).free nl) hl bl ol (.cons ((rx.mono s2.sub).mono s3.sub) r1) (.cons (ry.mono s3.sub) r2)
    exact this) fun _ _ _ h => h.pre (s1.trans s2)⟩) fun _ _ _ h => h.pre s1⟩) fun _ _ _ h => h⟩
end
def shDisp (k0 : Str) (b : Addr) (ps : List (DV × DV)) : Option DV := match keysDV ps with
  | some kvs => if kvs.length ≤ 14 then some (.dct (mergeD [] (kvs ++ [(.inr k0, .loc b)]))) else none
  | none => none
/-- in slot i stands a dict that has the list at b under k0 -/
def shAt (i : Nat) (k0 : Str) (b : Addr) (S : Sl) : Bool := match S[i]? with
  | some (some (.v d)) => (match fIxA d (.str k0) with
    | some (.v (.loc b')) => decide (b' = b)
    | _ => false)
  | _ => false
theorem shAt_of {i : Nat} {k0 : Str} {b : Addr} {S : Sl} (h : shAt i k0 b S = true) : ∃ d, S[i]? = some (some (.v d)) ∧ fIxA d (.str k0) = some (.v (.loc b)) := by
  unfold shAt at h
  split at h
  · rename_i d e
    split at h
    · rename_i b' e2
      have := of_decide_eq_true h
      subst this
      exact ⟨d, e, e2⟩
    · cases h
  · cases h
def sheetL (i r : Nat) (k0 : Str) (g : GM) (ma : SM) (b : Addr) : List DV → List DV → Sl → Option (List DV × Sl)
  | [], acc, S => some (acc, S)
  | d :: ds, acc, S => match g d S with
    | none => none
    | some S1 => match ma S1 with
      | .nx S2 => if shAt i k0 b S2 then (match S2[r]? with
          | some (some (.v x)) => (match fNotIn x (.lst acc) with
            | some true => if acc.length < sizeLine then sheetL i r k0 g ma b ds (acc ++ [x]) S2 else none
            | some false => sheetL i r k0 g ma b ds acc S2
            | none => none)
          | _ => none) else none
      | _ => none
def fillD (b : Addr) (xs : List DV) : DV → DV
  | .loc b' => if b' = b then .lst xs else .loc b'
  | d => d
def sheetB (i r : Nat) (k0 : Str) (m : M (List (DV × DV))) (mi : M (List DV)) (g : GM) (ma : SM) (b : Addr) : SM := fun S => match m S with
  | .ok ps S1 => (match shDisp k0 b ps with
    | some d => (match stores i (.v d) S1 with
      | .nx S2 => (match mi S2 with
        | .ok ds S3 => (match sheetL i r k0 g ma b ds [] S3 with
          | some (acc, S4) => (match S4[i]? with
            | some (some (.v (.dct kvs))) => .nx (S4.set i (some (.v (.dct (kvs.map fun kv => (kv.1, fillD b acc kv.2))))))
            | _ => .stuck)
          | none => .stuck)
        | _ => .stuck)
      | _ => .stuck)
    | none => .stuck)
  | _ => .stuck
open Classical in
/-- .. wherever the list stands -/
noncomputable def sheetM (i r : Nat) (k0 : Str) (m : M (List (DV × DV))) (mi : M (List DV)) (g : GM) (ma : SM) : SM := fun S =>
  if h : ∃ S', ∀ b, sheetB i r k0 m mi g ma b S = .nx S' then .nx h.choose else .stuck
theorem sheetM_eq {i r : Nat} {k0 : Str} {m : M (List (DV × DV))} {mi : M (List DV)} {g : GM} {ma : SM} {S S' : Sl} (h : ∀ b, sheetB i r k0 m mi g ma b S = .nx S') : sheetM i r k0 m mi g ma S = .nx S' := by
  have e : ∃ S', ∀ b, sheetB i r k0 m mi g ma b S = .nx S' := ⟨S', h⟩
  unfold sheetM
  rw [dif_pos e]
  have := e.choose_spec 0
  rw [h 0] at this
  cases this
  rfl
theorem fill_rep {mg : Mg} {B : Hp} {b : Addr} {xs : List V} {acc : List DV} (hb : B b = some (.lst xs)) (ra : Reps mg B xs acc) : ∀ {vs : List (Key × V)} {ds : List (Key × DV)}, RepK mg B vs ds → RepK mg B vs (ds.map fun kv => (kv.1, fillD b acc kv.2))
  | _, _, .nil => .nil
  | _, _, .cons (d := d) r q => by
    refine .cons ?_ (fill_rep hb ra q)
    show Rep mg B _ (fillD b acc d)
    unfold fillD
    split
    · rename_i b'
      split
      · rename_i h
        subst h
        cases r
        exact .lst hb ra
      · exact r
    · exact r
theorem sub_ok {i : Nat} {k0 : Str} {b : Addr} {S : Sl} (h : shAt i k0 b S = true) : (M.bind (getSl i) fun a => M.bind (kst (.str k0)) fun b => op2 fIxA a b) S = .ok (.v (.v (.loc b))) S := by
  obtain ⟨d, e1, e2⟩ := shAt_of h
  unfold M.bind
  rw [getSl_ok e1]
  show op2 fIxA (.sl i) (.v (.v (.str k0))) S = _
  unfold op2
  simp only [Opd.dv, e1, RV.dv]
  rw [e2]
theorem notOwn_set {σ : Sg} {S : Sl} {i : Nat} {v : V} {d : DV} {b : Addr} (h : ¬ OwnA σ S b) : ¬ OwnA (σ.set i (some v)) (S.set i (some (.v d))) b := fun ⟨j, ⟨r, e1, h1⟩, e2⟩ => by
  rcases set_some_cases e1 with ⟨g1, g2⟩ | ⟨g1, g2⟩
  · cases g2; cases h1
  · rcases sig_set_cases e2 with ⟨g3, _⟩ | ⟨g3, g4⟩
    · exact g1 g3
    · exact h ⟨j, ⟨r, g2, h1⟩, g4⟩
theorem Stp.frz2 {KK : PySem.W.Frag} {mg : Mg} {B0 H0 B H : Hp} {σ0 σ : Sg} {S0 S : Sl} {a : Addr} {o : HO} (s : Stp KK mg B0 H0 σ0 S0 B H σ S) (hb : B a = none) (hh : H a = some o) (hy : H0 a = none) (ho : ¬ OwnA σ S a) : Stp KK mg B0 H0 σ0 S0 (upd B a o) H σ S := by
  obtain ⟨x, ow⟩ := s.st.frz (S' := S) hb hh rfl fun i r e => .inl ⟨e, fun z => ho ⟨i, z⟩⟩
  refine ⟨⟨s.grow.sub.trans (Sub.upd hb), s.grow.keep, fun t => (s.grow.tab t).sub (Sub.upd hb), s.grow.there, fun b e => ?_⟩, x, s.own, s.pin, s.len⟩
  by_cases hba : b = a
  · subst hba; exact .inr (.inl hy)
  · rw [upd_ne hba] at e; exact s.grow.new b e
theorem Lk.trans {H H1 H2 : Hp} (a : Lk H H1) (b : Lk H1 H2) : Lk H H2 := fun c o kvs h => b c o kvs (a c o kvs h)
theorem Lk.lst {H : Hp} {b : Addr} {xs ys : List V} (h : H b = some (.lst xs)) : Lk H (upd H b (.lst ys)) := fun a o kvs e => by
  rw [upd_ne (fun z => by subst z; rw [h] at e; cases e)]; exact e
section
variable {X : Cx} {x rn k0 : Str} {j j2 : Nat} {p1 p2 p3 p4 p5 p6 p7 p8 p9 p10 p11 p12 p13 p14 p15 dpos spos : Pos} {ks : List (Option Expr)} {vs : List Expr} {m : M (List (DV × DV))} {tg iter : Expr} {mi : M (List DV)} {ts : List Nat} {g : GM} {sA : Stmt} {ma k : SM} {rest : List Stmt}
theorem sxs_sheet (i r : Nat) (hm : PPXh X dpos k0 ks vs m) (hN : X.N.Nodup) (hi : X.N[i]? = some x) (hx : Loc X.env.scope x) (hc : X.calm = true) (hit : IX X tg iter mi) (hg : GX X tg ts g) (ha : SX X sA ma) (hu : X.A.units + 64 < cLine)
    (hX : ∀ p, PX X (.Name x p) (getSl i)) (hR : ∀ p, PX X (.Name rn p) (getSl r)) (hrest : SXs X rest k)
    (hall : ks.all (·.isSome) = true := by rfl) (hl : ks.length = vs.length := by rfl) (h0 : ks ≠ [] := by simp) (h15 : ks.length ≤ 15 := by decide)
    (hs : swapsWith (.Dict ks vs dpos) (some (.Name x p1)) spos.line X.env = pure false := by rfl) (hf : X.fn x = true ∨ X.env.scope.names.lookup x = some .local := by first | exact .inl rfl | exact .inr rfl | assumption)
    (hmark : behindInMarks .NotIn (.Subscript (.Name x p3) (.Constant (.str k0) j p4) p5) = false := by with_unfolding_all rfl)
    (hst : starEach [.Name rn p11] X.env = (false, eval (.Name rn p11) X.env) :: starEach [] X.env := by rfl) (hplain : (backTo p12 (starEach [] X.env)).any (·.1) = false := by rfl)
    (hbase : attributeBase (.Subscript (.Name x p7) (.Constant (.str k0) j2 p8) p9) "append" X.env (eval (.Subscript (.Name x p7) (.Constant (.str k0) j2 p8) p9) X.env) = eval (.Subscript (.Name x p7) (.Constant (.str k0) j2 p8) p9) X.env := by rfl)
    (hfew : ((backTo p12 (starEach [.Name rn p11] X.env)).all (fun x => !x.1) && (backToKw p12 (keywordEach [] X.env)).all (fun x => x.1.isSome)
      && decide (([.Name rn p11] : List Expr).length + ([] : List Keyword).length + (if ([] : List Keyword).isEmpty then 0 else 1) < 30)) = true := by rfl)
    (hline : (p10.endLine == p12.line) = true := by rfl)
    (hs2 : swapsWith (.Call (.Attribute (.Subscript (.Name x p7) (.Constant (.str k0) j2 p8) p9) "append" p10) [.Name rn p11] [] p12) none p13.line X.env = pure false := by rfl)
    (hs3 : ∀ x, foldedSetIterable iter X.env x = pure x := by intro _; rfl) :
    SXs X (.Assign [.Name x p1] (.Dict ks vs dpos) spos :: .For tg iter [sA, .If (.Compare (.Name rn p2) [.NotIn] [.Subscript (.Name x p3) (.Constant (.str k0) j p4) p5] p6)
      [.Expr (.Call (.Attribute (.Subscript (.Name x p7) (.Constant (.str k0) j2 p8) p9) "append" p10) [.Name rn p11] [] p12) p13] [] p14] [] p15 :: rest) (SM.seq (sheetM i r k0 m mi g ma) k) := fun W tk pp => by
  obtain ⟨trs, hp, himp⟩ := hm W tk
  have h1 := ps_set (pos := spos) hN hi hx (pe_disp hp hall hl h0 h15) hs hf
  have hsub : ∀ (p q r : Pos) (j : Nat), PX X (.Subscript (.Name x p) (.Constant (.str k0) j q) r) (M.bind (getSl i) fun a => M.bind (kst (.str k0)) fun b => op2 fIxA a b) := fun p q r j => px_ixA hu (hX p) px_str
  have ht := pt_cmpR (pos := p6) (op_notInA hu) (hR p2 W tk) (hsub p3 p4 p5 j W tk) hmark
  have happ := ps_expr (pos := p13) (pe_bm PySem.F.plainAttrs_list PySem.F.slot_list_append PySem.F.type_list_append mt_append (hsub p7 p8 p9 j2 W tk) (pa_cons (fx_of (hR p11) W tk) pa_nil hst) hbase hfew hline hst hplain) hs2
  have hbody := pss_cons (ha W tk pp) (pss_one (ps_if (pos := p14) ht (pss_one happ) pss_nil))
  refine PSs.imp (pss_cons h1 (pss_cons (ps_for (pos := p15) pp hc (hit W tk) hg hbody hs3) (hrest W tk pp))) fun D σ H ⟨B, S, st, q⟩ => ?_
  have q := spec_seq.mp q
  obtain ⟨S', hS, q⟩ : ∃ S', (∀ b, sheetB i r k0 m mi g ma b S = .nx S') ∧ (SOut.nx S').spec (fun S1 => (k S1).spec (fun S' => ∀ B' H' σ', Stp X.K X.mg B H σ S B' H' σ' S' → D.nx σ' H') (fun o S' => ∀ v B' H' σ', Stp X.K X.mg B H σ S B' H' σ' S' → OpdR X.mg B' H' σ' S' v o → Young H v o → D.rt v H')
      (fun S' => ∀ B' H' σ', Stp X.K X.mg B H σ S B' H' σ' S' → D.bk σ' H') (fun S' => ∀ B' H' σ', Stp X.K X.mg B H σ S B' H' σ' S' → D.ct σ' H') (xPost X.K X.mg W B H σ S))
      (fun o S' => ∀ v B' H' σ', Stp X.K X.mg B H σ S B' H' σ' S' → OpdR X.mg B' H' σ' S' v o → Young H v o → D.rt v H')
      (fun S' => ∀ B' H' σ', Stp X.K X.mg B H σ S B' H' σ' S' → D.bk σ' H') (fun S' => ∀ B' H' σ', Stp X.K X.mg B H σ S B' H' σ' S' → D.ct σ' H') (xPost X.K X.mg W B H σ S) := by
    unfold sheetM at q
    split at q
    · rename_i h
      exact ⟨_, h.choose_spec, q⟩
    · exact q.elim
  have q : (k S').spec _ _ _ _ _ := q
  intro p np
  have s0 := st.alloc np (.dK [])
  have np0 : B p = none := st.le.none np
  have no0 : ¬ OwnA σ S p := st.notOwn np
  refine himp σ _ _ ⟨B, S, s0.st, ?_⟩
  have hb := hS
  unfold sheetB at hb
  cases em : m S with
  | stuck => rw [em] at hb; exact absurd (hb 0) (by simp)
  | exc c fs S1 => rw [em] at hb; exact absurd (hb 0) (by simp)
  | ok ps S1 =>
    rw [em] at hb
    intro xs ys b B1 H1 s1 hs1 nb hb1 bb ob r1 r2
    replace hb := hb b
    dsimp only at hb
    cases ed : shDisp k0 b ps with
    | none => rw [ed] at hb; cases hb
    | some d =>
      rw [ed] at hb
      dsimp only at hb
      obtain ⟨kvs, ek, hl14, rfl⟩ : ∃ kvs, keysDV ps = some kvs ∧ kvs.length ≤ 14 ∧ d = .dct (mergeD [] (kvs ++ [(.inr k0, .loc b)])) := by
        unfold shDisp at ed
        split at ed
        · rename_i kvs ek
          split at ed
          · rename_i hz
            exact ⟨kvs, ek, hz, (Option.some.inj ed).symm⟩
          · cases ed
        · cases ed
      obtain ⟨S2, e2, hb⟩ : ∃ S2, stores i (.v (.dct (mergeD [] (kvs ++ [(.inr k0, .loc b)])))) S1 = .nx S2 ∧ (match mi S2 with
          | .ok ds S3 => (match sheetL i r k0 g ma b ds [] S3 with
            | some (acc, S4) => (match S4[i]? with
              | some (some (.v (.dct kvs))) => .nx (S4.set i (some (.v (.dct (kvs.map fun kv => (kv.1, fillD b acc kv.2))))))
              | _ => .stuck)
            | none => .stuck)
          | _ => .stuck) = SOut.nx S' := by
        split at hb
        · rename_i S2 e2
          exact ⟨S2, e2, hb⟩
        · cases hb
      obtain ⟨ds, S3, e3, hb⟩ : ∃ ds S3, mi S2 = .ok ds S3 ∧ (match sheetL i r k0 g ma b ds [] S3 with
            | some (acc, S4) => (match S4[i]? with
              | some (some (.v (.dct kvs))) => .nx (S4.set i (some (.v (.dct (kvs.map fun kv => (kv.1, fillD b acc kv.2))))))
              | _ => .stuck)
            | none => .stuck) = SOut.nx S' := by
        split at hb
        · rename_i ds S3 e3
          exact ⟨ds, S3, e3, hb⟩
        · cases hb
      obtain ⟨accF, S4, e4, hb⟩ : ∃ accF S4, sheetL i r k0 g ma b ds [] S3 = some (accF, S4) ∧ (match S4[i]? with
              | some (some (.v (.dct kvs))) => .nx (S4.set i (some (.v (.dct (kvs.map fun kv => (kv.1, fillD b accF kv.2))))))
              | _ => .stuck) = SOut.nx S' := by
        split at hb
        · rename_i accF S4 e4
          exact ⟨accF, S4, e4, hb⟩
        · cases hb
      obtain ⟨kvs4, e5, hfin⟩ : ∃ kvs4, S4[i]? = some (some (.v (.dct kvs4))) ∧ S' = S4.set i (some (.v (.dct (kvs4.map fun kv => (kv.1, fillD b accF kv.2))))) := by
        split at hb
        · rename_i kvs4 e5
          exact ⟨kvs4, e5, (SOut.nx.inj hb).symm⟩
        · cases hb
      obtain ⟨h1p, nb1, no1⟩ := s1.tmpStay rfl upd_same np0 no0
      have nbp : b ≠ p := fun z => by subst z; rw [h1p] at hb1; cases hb1
      have nbH : H b = none := by rw [upd_ne nbp] at nb; exact nb
      obtain ⟨kz, ez, rk⟩ := keys_zip ek r1 r2
      refine ⟨h1p, kz ++ [(.inr k0, .ref b)], by rw [ez, List.map_append]; rfl, by rw [List.length_append, rk.length]; simp; omega, ?_⟩
      let oK : HO := .dK (mergeK [] (kz ++ [(.inr k0, .ref b)]))
      have sT : Stp X.K X.mg B H σ S B1 (upd H1 p oK) σ S1 := (s0.trans s1).tmp h1p ⟨rfl, fun c q z => by unfold LamX.CodeO at z; cases z⟩ np nb1 no1
      have sF : Stp X.K X.mg B H σ S (upd B1 p oK) (upd H1 p oK) σ S1 := sT.frz nb1 upd_same rfl (.inl np) (fun _ h => h) (fun i' r' e => .inl ⟨e, fun z => no1 ⟨i', z⟩⟩)
      have rep : Rep X.mg (upd B1 p oK) (.ref p) (.dct (mergeD [] (kvs ++ [(.inr k0, .loc b)]))) := .dct (.inl upd_same) ((repk_merge (repk_snoc .loc rk) .nil).mono (Sub.upd nb1))
      obtain ⟨hp1, hp2, rfl⟩ := stores_spec (N := fun Z => Z = S2) (R := fun _ _ => False) (Bk := fun _ => False) (Ct := fun _ => False) (E := fun _ _ _ => False) (by rw [e2]; rfl)
      have s2 := sF.set (.v rep) (fun a h => by cases h) (fun a h => by cases h) hp1 hp2
      have hb2 : upd H1 p oK b = some (.lst []) := by rw [upd_ne nbp]; exact hb1
      have bb2 : upd B1 p oK b = none := by rw [upd_ne nbp]; exact bb
      have ob2 := notOwn_set (i := i) (v := .ref p) (d := .dct (mergeD [] (kvs ++ [(.inr k0, .loc b)]))) ob
      refine ⟨_, _, s2.st, ?_⟩
      rw [e3]
      intro J B3 H3 s3 hs3 y
      obtain ⟨hb3, bb3, ob3⟩ := s3.tmpStay rfl hb2 bb2 ob2
      refine ⟨fun i' m' σ' H' => ∃ B' S' acc ys, Stp X.K X.mg B H σ S B' H' σ' S' ∧ Sub B3 B' ∧ Lk H3 H' ∧ H' b = some (.lst ys) ∧ B' b = none ∧ ¬ OwnA σ' S' b ∧ Reps X.mg B' ys acc ∧ m' = ds.length - i' ∧ i' ≤ ds.length ∧ sheetL i r k0 g ma b (ds.drop i') acc S' = some (accF, S4),
        ⟨ds.length, B3, S3, [], [], s2.trans s3, .refl _, .refl _, hb3, bb3, ob3, .nil, by simp, Nat.zero_le _, by simpa using e4⟩, ?_⟩
      rintro i' m' σ' H' ⟨B', T', acc, ys', s', sub, lk, hb', bb', ob', racc, rfl, hi', eL⟩
      by_cases hlt : i' < ds.length
      · have hd : ds[i']? = some ds[i'] := List.getElem?_eq_getElem hlt
        refine .inr ⟨y.go B' H' sub s'.st.le lk i' hlt, _, fun _ _ h => h, fun xv Hy hy => ?_⟩
        obtain ⟨By, ny, ry⟩ := y.yld B' H' sub s'.st.le lk i' xv Hy hy _ hd
        have sy := s'.st.step ny
        rw [List.drop_eq_getElem_cons hlt] at eL
        unfold sheetL at eL
        cases eg : g ds[i'] T' with
        | none => rw [eg] at eL; cases eL
        | some Sg =>
          rw [eg] at eL
          dsimp only at eL
          refine ⟨By, T', ds[i'], Sg, sy.st, ry, eg, fun Bg Hg σg sg hsg og => ?_⟩
          obtain ⟨S5, ea, eL⟩ : ∃ S5, ma Sg = .nx S5 ∧ (if shAt i k0 b S5 then (match S5[r]? with
              | some (some (.v x)) => (match fNotIn x (.lst acc) with
                | some true => if acc.length < sizeLine then sheetL i r k0 g ma b (ds.drop (i' + 1)) (acc ++ [x]) S5 else none
                | some false => sheetL i r k0 g ma b (ds.drop (i' + 1)) acc S5
                | none => none)
              | _ => none) else none) = some (accF, S4) := by
            split at eL
            · rename_i S5 ea
              exact ⟨S5, ea, eL⟩
            · cases eL
          refine ⟨Bg, Sg, sg.st, ?_⟩
          rw [ea]
          intro Ba Ha σa sa
          have s5 := (sy.trans sg).trans sa
          obtain ⟨hba, bba, oba⟩ := s5.tmpStay rfl hb' bb' ob'
          split at eL
          · rename_i hsh
            split at eL
            · rename_i xd er
              have hsub := sub_ok hsh
              refine ⟨Ba, S5, sa.st, ?_⟩
              rw [getSl_ok er]
              intro v B6 H6 s6 hs6 or6 _
              refine ⟨B6, S5, s6.st, ?_⟩
              rw [hsub]
              intro w B7 H7 s7 hs7 or7 _
              have ew : w = .ref b := by
                cases or7 with
                | v q _ => cases q with | v q => cases q; rfl
              subst ew
              have s57 := (s5.trans s6).trans s7
              obtain ⟨hb7, bb7, ob7⟩ := s57.tmpStay rfl hb' bb' ob'
              have vx : View X.mg B7 H7 v xd := (or6.step s7 (.refl _)).view s7.st (by simp only [Opd.dv, er, RV.dv])
              have vy : View X.mg B7 H7 (.ref b) (.lst acc) := .lst hb7 (racc.mono s57.grow.sub)
              have done : ∀ {B8 H8 : Hp}, Stp X.K X.mg B' H' σ' T' B8 H8 σa S5 → sheetL i r k0 g ma b (ds.drop (i' + 1)) acc S5 = some (accF, S4) → ∃ m'', m'' < ds.length - i' ∧ ∃ B' S' acc ys, Stp X.K X.mg B H σ S B' H8 σa S' ∧ Sub B3 B' ∧ Lk H3 H8 ∧ H8 b = some (.lst ys) ∧ B' b = none ∧ ¬ OwnA σa S' b ∧ Reps X.mg B' ys acc ∧ m'' = ds.length - (i' + 1) ∧ i' + 1 ≤ ds.length ∧ sheetL i r k0 g ma b (ds.drop (i' + 1)) acc S' = some (accF, S4) := fun {B8 H8} s8 e8 => by
                obtain ⟨q1, q2, q3⟩ := s8.tmpStay rfl hb' bb' ob'
                exact ⟨ds.length - (i' + 1), by omega, B8, S5, acc, ys', s'.trans s8, sub.trans s8.grow.sub, lk.trans (Stp.lk s'.st s8), q1, q2, q3, racc.mono s8.grow.sub, rfl, hlt, e8⟩
              split at eL
              · rename_i en
                refine prim_notInA B7 H7 v (.ref b) xd (.lst acc) (.v (.bl true)) _ s7.st.le vx vy (by unfold rvB; rw [en]; rfl) fun v' B8 H8 res => ?_
                have ev' : v' = .bl true := by
                  have := res.rv
                  cases this with | v q => cases q; rfl
                subst ev'
                refine ⟨true, rfl, ?_⟩
                dsimp only
                rw [if_pos rfl]
                split at eL
                · rename_i hlen
                  have s8 := s57.trans (s57.st.step res.new)
                  refine ⟨B8, S5, s8.st, ?_⟩
                  rw [hsub]
                  intro w2 B9 H9 s9 hs9 or9 _
                  have ew2 : w2 = .ref b := by
                    cases or9 with
                    | v q _ => cases q with | v q => cases q; rfl
                  subst ew2
                  have s89 := s8.trans s9
                  obtain ⟨hb9, bb9, ob9⟩ := s89.tmpStay rfl hb' bb' ob'
                  refine ⟨.inl ⟨rfl, ys', SqL.of hb9⟩, B9, S5, s9.st, ?_⟩
                  have ef : (M.bind (getSl r) frz) S5 = .ok xd S5 := by
                    unfold M.bind
                    rw [getSl_ok er]
                    show frz (.sl r) S5 = _
                    unfold frz
                    dsimp only
                    rw [er]
                  rw [ef]
                  intro yv B10 H10 s10 hs10 ryv
                  have s810 := s89.trans s10
                  obtain ⟨hb10, bb10, ob10⟩ := s810.tmpStay rfl hb' bb' ob'
                  refine ⟨b, ys', yv, rfl, rfl, hb10, by rw [racc.length]; exact hlen, ?_⟩
                  refine ⟨ds.length - (i' + 1), by omega, B10, S5, acc ++ [xd], ys' ++ [yv], (s'.trans s810).tmp hb10 ⟨rfl, fun c q z => by unfold LamX.CodeO at z; cases z⟩ nbH bb10 ob10, sub.trans s810.grow.sub, (lk.trans (Stp.lk s'.st s810)).trans (.lst hb10), upd_same, bb10, ob10, (racc.mono s810.grow.sub).snoc ryv, rfl, hlt, eL⟩
                · cases eL
              · rename_i en
                refine prim_notInA B7 H7 v (.ref b) xd (.lst acc) (.v (.bl false)) _ s7.st.le vx vy (by unfold rvB; rw [en]; rfl) fun v' B8 H8 res => ?_
                have ev' : v' = .bl false := by
                  have := res.rv
                  cases this with | v q => cases q; rfl
                subst ev'
                refine ⟨false, rfl, ?_⟩
                dsimp only
                rw [if_neg Bool.false_ne_true]
                exact done (s57.trans (s57.st.step res.new)) eL
              · cases eL
            · cases eL
          · cases eL
      · have e : i' = ds.length := by omega
        subst e
        refine .inl ⟨y.stop B' H' sub s'.st.le lk, ?_⟩
        rw [List.drop_length] at eL
        unfold sheetL at eL
        cases eL
        have sE : Stp X.K X.mg B H σ S (upd B' b (.lst ys')) H' σ' S4 := s'.frz2 bb' hb' nbH ob'
        obtain ⟨vd, ev, qv⟩ := sE.st.at_ i _ e5
        have sN : Stp X.K X.mg B H σ S (upd B' b (.lst ys')) H' (σ'.set i (some vd)) S' := by
          rw [hfin]
          refine sE.set (.v ?_) (fun a h => by cases h) (fun a h => by cases h) (fun ⟨r', z1, z2⟩ => by rw [e5] at z1; cases z1; cases z2) rfl
          cases qv with
          | v qv =>
            cases qv with
            | dct hrd rk4 => exact .dct hrd (fill_rep upd_same (racc.mono (Sub.upd bb')) rk4)
        have eσ : σ'.set i (some vd) = σ' := by
          have hlt' := (List.getElem?_eq_some_iff.mp ev).1
          have := (List.getElem?_eq_some_iff.mp ev).2
          rw [← this]
          exact List.set_getElem_self hlt'
        rw [eσ] at sN
        exact ⟨_, S', sN.st, tS_pre sN q⟩
end
end Lb
/-! What is asked of a caught exception: isinstance, and, repr of what it tells. -/
namespace Lb
open PySem PySem.Spec PyProof.Rows L2
section
variable {X : Cx} {i : Nat} {a b e : Expr} {x c : Str} {tab : List Str} {sub : Str → Bool} {p zp cp pos : Pos}
theorem pxc_isa (ia : IsA X.K X.mg tab c sub) (hm : X.mg "isinstance" = none) (hN : X.N[i]? = some x := by rfl) (hv : Vis X.env.scope x := by first | exact Or.inl rfl | exact Or.inr (Or.inl rfl) | exact Or.inr (Or.inr rfl)) (hd : (x == ("__debug__" : Str)) = false := by decide)
    (hcd : (x == ("__classdict__" : Str)) = false := by decide) (hg : Gl X "isinstance" := by rfl) (hgc : Gl X c := by rfl) (hdb : (c == ("__debug__" : Str)) = false := by decide)
    (he : starEach [.Name x zp, .Name c cp] X.env = (false, eval (.Name x zp) X.env) :: starEach [.Name c cp] X.env := by rfl) (he2 : starEach [.Name c cp] X.env = (false, eval (.Name c cp) X.env) :: starEach [] X.env := by rfl)
    (hpl : (backTo pos (starEach [.Name c cp] X.env)).any (·.1) = false := by rfl) :
    PXc X i (.Call (.Name "isinstance" p) [.Name x zp, .Name c cp] [] pos) (fun k fs => isxM tab sub (.v (.v (.exn k fs)))) := fun ad oe cls d pn hz hf => by
  obtain ⟨cv, u, h1, h2, h3, h4⟩ := ia.ex
  have hc : PE (X.suite ad ((ad, oe) :: pn)) (.Name c cp) (tC cv) := by
    rcases h3 with h3 | ⟨h3, h5, h6⟩
    · exact pe_glob (X := X.suite ad ((ad, oe) :: pn)) hgc h3 h2 hdb
    · exact pe_bltn (X := X.suite ad ((ad, oe) :: pn)) hgc h3 h5 h2 h6 hdb
  have hx := pe_var (X := X.suite ad ((ad, oe) :: pn)) (pos := zp) (i := i) hN hv hd hcd
  have hcall := pe_callBE (X := X.suite ad ((ad, oe) :: pn)) (np := p) (pos := pos) (id := "isinstance") (x := "isinstance") (bid := "isinstance") (r := fun σ vs H Q => ∃ (C : Addr) (b : Bool), vs = [.ref ad, cv] ∧ cls = .ref C ∧ (∀ dx, d = some dx → ∃ xs, H dx = some (.xd xs)) ∧ ExcC X.K C ∧ PySem.W.kitOne X.K (.ref C) u = some b ∧ Q (.bl b) H) (fun pins s σ H xs us Q I r h => ?_) hg hm (by first | rfl | decide +kernel) (pa_cons hx (pa_cons hc pa_nil he2) he) (by decide) (by decide) he hpl
  · refine PE.imp hcall fun σ H Q ⟨B, S, k, fs, st, cau, q⟩ => ?_
    obtain ⟨k', fs', e1, hk, q⟩ := isx_spec q
    cases e1
    obtain ⟨C, ec, hmC⟩ := cau.cl
    obtain ⟨t1, t2⟩ := h4 k hk C hmC
    refine ⟨.ref ad, cau.at_, C, _, rfl, ec, fun dx ed => ?_, t1, t2, q _ B H (.refl st) (.refl S) (.v (.v (.bl _)) fun a h => by cases h) fun a h => by cases h⟩
    have := cau.dt
    rw [ed] at this
    obtain ⟨xs, hxs, _⟩ := this
    exact ⟨xs, hxs⟩
  · obtain ⟨C, b, rfl, ec, hdx, T, hk, q⟩ := h
    obtain ⟨u1, u2, rfl, r1, r2⟩ := vals2 r
    obtain rfl : u1 = Value.ref ad := r1
    cases h1.eq r2
    obtain ⟨ha, _⟩ := I.pin (ad, oe) (List.mem_append_left _ List.mem_cons_self)
    obtain ⟨vs, hfd⟩ := hf
    have J : ∃ od, PySem.W.InstAt s.heap ad oe C od := by
      cases d with
      | none => exact ⟨none, ha, by rw [hz.1, ec], by unfold PySem.W.notCls; rw [hfd] <;> rfl, by rw [hz.2]; trivial⟩
      | some dx =>
        obtain ⟨xs, hxs⟩ := hdx dx rfl
        have hx : ObjOk X.prog X.w H s.heap dx (.xd xs) := I.hok dx _ hxs
        obtain ⟨mA, hns, _⟩ := hx
        obtain ⟨od, ho, _⟩ := lookIn_ns hns
        exact ⟨some od, ha, by rw [hz.1, ec], by unfold PySem.W.notCls; rw [hfd] <;> rfl, by rw [hz.2]; exact ho⟩
    obtain ⟨od, J⟩ := J
    exact PySem.W.kia_one (kitx_exc T) I.kIn J hk (fun z => nomatch z) fun tk => ⟨.bl b, H, I.tok tk, rfl, q⟩
theorem pxc_and {ma mb : Xm Opd} {p2 : Pos} (ha : PXc X i a ma) (hb : PXc X i b mb) : PXc X i (.BoolOp .And [a, b] pos) (fun c fs => M.bind (M.bind (ma c fs) truthOf) fun t => if t then mb c fs else kst (.bl false)) := fun ad oe cls d pn hz hf =>
  PE.imp (pe_and (ha ad oe cls d pn hz hf) (pe_one (hb ad oe cls d pn hz hf))) fun σ H Q ⟨B, S, c, fs, st, k, q⟩ =>
  ⟨B, S, c, fs, st, k, (spec_bind.mp (spec_bind.mp q)).imp (fun o S1 _ q v B1 H1 s hs r y => by
    obtain ⟨t, e, kk⟩ := truthOf_spec q
    refine ⟨t, (r.view s.st e).bl, ?_⟩
    cases t with
    | true => exact ⟨B1, S1, c, fs, s.st, k.step st s, Out.spec.imp kk (fun o S' _ z v B' H' s' h' r' y' => z v B' H' (s.trans s') (hs.trans h') r' (y'.pre s)) fun _ _ _ h => h⟩
    | false => exact kk _ B1 H1 s hs (.v (.v (.bl false)) fun a h => by cases h) fun a h => by cases h) fun _ _ _ h => h⟩
theorem fxc_px {m : Xm Opd} (h : PXc X i e m) : FXc X i e (fun c fs => M.bind (m c fs) frz) := fun ad oe cls d pn hz hf => PE.imp (h ad oe cls d pn hz hf) fun σ H Q ⟨B, S, c, fs, st, k, q⟩ => by
  refine ⟨B, S, c, fs, st, k, (spec_bind.mp q).imp (fun o S1 _ q v B1 H1 s hs or y => ?_) fun _ _ _ h => h⟩
  cases ef : frz o S1 with
  | stuck => rw [ef] at q; exact q.elim
  | exc c fs S' => exact (frz_noexc ef).elim
  | ok d S2 =>
    rw [ef] at q
    obtain ⟨B2, s2, h2, r⟩ := frz_ok s hs or y ef
    exact q v B2 H1 s2 h2 r
/-- repr(e) of what was read off the exception -/
theorem pxc_repr {m : Xm DV} (hgd : X.A.guards = some []) (hr : X.A.units + 200 < cLine) (hsys : ∃ o, X.base.get? sysModules = some o) (hm : X.mg "repr" = none) (ha : FXc X i a m) (hg : Gl X "repr" := by rfl)
    (he : starEach [a] X.env = (false, eval a X.env) :: starEach [] X.env := by rfl) (hpl : (backTo pos (starEach [] X.env)).any (·.1) = false := by rfl) :
    PXc X i (.Call (.Name "repr" p) [a] [] pos) (fun c fs => M.bind (m c fs) fun d => opN fRepr [.v (.v d)]) := fun ad oe cls d pn hz hf =>
  PE.imp (pe_callB (X := X.suite ad ((ad, oe) :: pn)) (call_repr (X := X.suite ad ((ad, oe) :: pn)) hgd hr hsys) hg hm (by first | rfl | decide +kernel) (pa_cons (ha ad oe cls d pn hz hf) pa_nil he) (by decide) (by decide) he hpl) fun σ H Q ⟨B, S, c, fs, st, k, q⟩ =>
  ⟨B, S, c, fs, st, k, (spec_bind.mp q).imp (fun d S1 _ q v B1 H1 s hs r => by
    exact opN_end prim_repr s hs (.cons (.v (.v r) fun a h => by cases h) .nil) q) fun _ _ _ h => h⟩
end
end Lb
/-! The head by one kernel run, for programs with own classes and lambdas: defs, methods, getters; tables of code objects that stand empty. -/
namespace Lb
open PySem PySem.Spec PyProof.Rows L2
/-! ### the part: all objects at the addresses, the tables left out -/
def isTabO (o : Obj) : Bool := match o.cls, o.data with
  | .none, .fields _ => true
  | _, _ => false
def frT (g : Addr → Option Obj) (n : List Addr) : PySem.W.Frag := n.filterMap fun a => (g a).bind fun o => if isTabO o then none else some (a, o)
theorem frT_mem {g : Addr → Option Obj} {n : List Addr} {p : Addr × Obj} (h : p ∈ frT g n) : g p.1 = some p.2 := by
  obtain ⟨a, _, e⟩ := List.mem_filterMap.mp h
  obtain ⟨o, e1, e2⟩ := Option.bind_eq_some_iff.mp e
  split at e2
  · cases e2
  · cases e2; exact e1
theorem mem_of_look {K : PySem.W.Frag} {a : Addr} {o : Obj} (e : K.lookup a = some o) : (a, o) ∈ K := by
  induction K with
  | nil => cases e
  | cons p K ih =>
    rw [List.lookup] at e
    cases hk : a == p.1 with
    | true => rw [hk] at e; cases e; rw [beq_iff_eq.mp hk]; exact List.mem_cons_self
    | false => rw [hk] at e; exact List.mem_cons_of_mem _ (ih e)
theorem frT_in {n : List Addr} {h : Heap} : (frT h.get? n).In h := fun a o e => frT_mem (mem_of_look e)
/-! ### where a def stands -/
inductive Way where
  | self
  | meth (m : Str)
  | prop (m : Str)
def gtr (K : PySem.W.Frag) (p : Addr) : Addr := match PySem.W.recIn K p "property" with
  | some (.ref g :: _) => g
  | _ => 0
structure FnQ where
  cls : Str
  way : Way
  name : Str
  qual : Str
  params : Arguments
  body : List Stmt
  scope : Scope
def adQ (K : PySem.W.Frag) (x : Str) : Way → Addr
  | .self => He.ga K x
  | .meth m => He.ma K (He.ga K x) m
  | .prop m => gtr K (He.ma K (He.ga K x) m)
def seenQ (K : PySem.W.Frag) (a : Addr) : He.FnV := match K.lookup a with
  | some o => (match o.data with
    | .func f => some (f.name, f.qualname, f.params, f.body, f.scope, f.globals, f.closure, f.defaults, f.builtins)
    | _ => none)
  | none => none
def codeQ (K : PySem.W.Frag) (a : Addr) (q : Str) : Bool := match K.lookup a with
  | some o => (match o.data with
    | .func f => PySem.W.codeIn K f.code q
    | _ => false)
  | none => false
def FnQ.val (d : FnQ) : He.FnV := some (d.name, d.qual, d.params, .stmts d.body, d.scope, mainGlobals, [], .none, builtinsNs)
theorem seenQ_ok {K : PySem.W.Frag} {a : Addr} {d : FnQ} (h1 : seenQ K a = d.val) (h2 : codeQ K a d.qual = true) : ∃ oc od osl kV doc pm an cdv ct, K.lookup a = some ⟨oc, od, .func (PySem.W.fnOf d.name d.qual d.params d.body d.scope .none kV doc pm an cdv ct), osl⟩ ∧ PySem.W.codeIn K cdv d.qual = true := by
  unfold codeQ at h2
  unfold seenQ at h1
  split at h1
  · rename_i o ho
    rw [ho] at h2
    obtain ⟨oc, od, dt, osl⟩ := o
    dsimp only at h1 h2
    split at h1
    · rename_i f
      dsimp only at h2
      obtain ⟨z1, z2, z3, z4, z5, z6, z7, z8, z9, z10, z11, z12, z13, z14, z15⟩ := f
      dsimp only at h1 h2
      unfold FnQ.val at h1
      simp only [Option.some.injEq, Prod.mk.injEq] at h1
      obtain ⟨rfl, rfl, rfl, rfl, rfl, rfl, rfl, rfl, rfl⟩ := h1
      exact ⟨oc, od, osl, z9, z10, z11, z12, z13, z14, ho, h2⟩
    · cases h1
  · cases h1
/-! ### the tables -/
def emptyTab (o : Option Obj) : Bool := match o with
  | some ⟨.none, none, .fields vs, sl⟩ => vs.isEmpty && sl.isEmpty
  | _ => false
theorem emptyTab_eq {o : Option Obj} (h : emptyTab o = true) : o = some { cls := .none, data := .fields #[] } := by
  unfold emptyTab at h
  split at h
  · rename_i vs sl
    rw [Bool.and_eq_true, Array.isEmpty_iff, Array.isEmpty_iff] at h
    obtain ⟨rfl, rfl⟩ := h
    rfl
  · cases h
/-- each law's def has its table outside of the part, and its code object inside -/
def tabsB (K : PySem.W.Frag) : Bool := K.all fun p => match tblOf p.2 with
  | some (T, _) => PySem.W.codeHdIn K p.1 T && (K.lookup T).isNone
  | none => true
theorem tabsB_ok {K : PySem.W.Frag} (h : tabsB K = true) : ∀ p ∈ tblsOf K, K.lookup p.1 = none ∧ ∃ c, PySem.W.codeHdIn K c p.1 = true := fun p hp => by
  obtain ⟨z, hz, e⟩ := List.mem_filterMap.mp hp
  have := List.all_eq_true.mp h z hz
  rw [e] at this
  simp only [Bool.and_eq_true, Option.isNone_iff_eq_none] at this
  exact ⟨this.2, _, this.1⟩
/-! ### what is looked at -/
def okQ (K : PySem.W.Frag) (d : FnQ) : Bool := (He.Fa.glo d.cls).ok K && (codeQ K (adQ K d.cls d.way) d.qual && PySem.W.keepIn K (.ref (adQ K d.cls d.way)))
def obsQ (b : PySem.W.Frag → Bool) (fn : List FnQ) (K : PySem.W.Frag) : AlH := (b K && fn.all fun d => okQ K d, fn.map fun d => seenQ K (adQ K d.cls d.way))
def valQ (fn : List FnQ) : AlH := (true, fn.map FnQ.val)
def SaysQ (b : PySem.W.Frag → Bool) (fn : List FnQ) (K : PySem.W.Frag) : Prop := obsQ b fn K = valQ fn
abbrev AlQ : Type := Bool × AlH
def lookQ (n : List Addr) (b : PySem.W.Frag → Bool) (fn : List FnQ) (g : Addr → Option Obj) : AlQ := ((tblsOf (frT g n)).all fun p => emptyTab (g p.1), obsQ b fn (frT g n))
def hookQ (n : List Addr) (b : PySem.W.Frag → Bool) (fn : List FnQ) : PySem.W.Hook where
  α := AlQ
  obs := fun s => lookQ n b fn s.heap.get?
  val := fun _ => (true, valQ fn)
  says := fun _ h => ∃ K : PySem.W.Frag, K.In h ∧ SaysQ b fn K ∧ ∀ p ∈ tblsOf K, h.get? p.1 = some { cls := .none, data := .fields #[] }
  of := fun _ s e => ⟨_, frT_in, (Prod.mk.inj e).2, fun p hp => emptyTab_eq (List.all_eq_true.mp (Prod.mk.inj e).1 p hp)⟩
  keeps := fun _ _ _ ⟨K, hK, c, t⟩ k => ⟨K, PySem.W.Frag.In.keeps hK k, c, fun p hp => k _ _ (t p hp)⟩
/-- worked out over the part once -/
def lookF (n : List Addr) (b : PySem.W.Frag → Bool) (fn : List FnQ) (g : Addr → Option Obj) : AlH := frcK (frT g n) fun K => obsQ b fn K
def lookT (n : List Addr) (g : Addr → Option Obj) : Bool := frcK (frT g n) fun K => (tblsOf K).all fun p => emptyTab (g p.1)
def lookA (n : List Addr) (b : PySem.W.Frag → Bool) (fn : List FnQ) (g : Addr → Option Obj) : AlQ := (lookT n g, lookF n b fn g)
theorem lookA_eq {n : List Addr} {b : PySem.W.Frag → Bool} {fn : List FnQ} {g : Addr → Option Obj} {s : Shared} (h : ∀ a, g a = s.heap.get? a) : lookA n b fn g = (hookQ n b fn).obs s := by
  have e : g = s.heap.get? := funext h
  unfold lookA lookT lookF
  rw [frcK_eq, frcK_eq, e] <;> rfl
section
variable {b : PySem.W.Frag → Bool} {fn : List FnQ} {K : PySem.W.Frag}
theorem SaysQ.truth (c : SaysQ b fn K) : b K = true := (He.ba (show (b K && fn.all fun d => okQ K d) = true from congrArg (fun z : AlH => z.1) c)).1
theorem SaysQ.fn_ (c : SaysQ b fn K) (i : Nat) {d : FnQ} (h : fn[i]? = some d := by rfl) : (He.Fa.glo d.cls).ok K = true ∧ PySem.W.keepIn K (.ref (adQ K d.cls d.way)) = true ∧
    ∃ oc od osl kV doc pm an cdv ct, K.lookup (adQ K d.cls d.way) = some ⟨oc, od, .func (PySem.W.fnOf d.name d.qual d.params d.body d.scope .none kV doc pm an cdv ct), osl⟩ ∧ PySem.W.codeIn K cdv d.qual = true := by
  have c2 := (He.ba (show (b K && fn.all fun d => okQ K d) = true from congrArg (fun z : AlH => z.1) c)).2
  have e : fn.map (fun d => seenQ K (adQ K d.cls d.way)) = fn.map FnQ.val := congrArg (fun z : AlH => z.2) c
  have e2 : (fn.map fun d => seenQ K (adQ K d.cls d.way))[i]? = (fn.map FnQ.val)[i]? := by rw [e]
  rw [List.getElem?_map, List.getElem?_map, h] at e2
  obtain ⟨g, c4⟩ := He.ba (List.all_eq_true.mp c2 d (List.mem_of_getElem? h))
  obtain ⟨q, k⟩ := He.ba c4
  exact ⟨g, k, seenQ_ok (Option.some.inj e2) q⟩
def fnQ (x : Str) (w : Way) (name qual : Str) (st : Stmt) : FnQ := ⟨x, w, name, qual, defArgs st, defBody st, defScope st⟩
/-- a def that was seen -/
theorem SaysQ.fun_ (c : SaysQ b fn K) (i : Nat) {x name qual : Str} {w : Way} {st : Stmt} (h : fn[i]? = some (fnQ x w name qual st) := by rfl) : ∃ fd, Fun K name qual st (adQ K x w) fd := by
  obtain ⟨g, k, oc, od, osl, kV, doc, pm, an, cdv, ct, l, q⟩ := c.fn_ i h
  exact ⟨_, L2.fun_mk l q k⟩
theorem SaysQ.glo (c : SaysQ b fn K) (i : Nat) {x name qual : Str} {w : Way} {st : Stmt} (h : fn[i]? = some (fnQ x w name qual st) := by rfl) : PySem.W.nsIn K mainGlobals x = some (some (.ref (He.ga K x))) := He.eqO_ok (c.fn_ i h).1
theorem SaysQ.defk (c : SaysQ b fn K) (i : Nat) {x : Str} {st : Stmt} (h : fn[i]? = some (fnQ x .self x x st) := by rfl) : DefK K x st := by
  obtain ⟨fd, F⟩ := c.fun_ i h
  exact ⟨_, fd, c.glo i h, F⟩
theorem SaysQ.exck (c : SaysQ b fn K) (i : Nat) {x qual : Str} {st : Stmt} {newId : String} {l : List Value} {fs : List Str} (e : excB K x newId l fs = true) (h : fn[i]? = some (fnQ x (.meth "__init__") "__init__" qual st) := by rfl) : ExcK K x qual st newId l fs := by
  obtain ⟨fd, F⟩ := c.fun_ i h
  simp only [excB, Bool.and_eq_true] at e
  obtain ⟨h1, h2, h3, h4, h5, h6, h7, h8, h9, h10⟩ := e
  exact ⟨_, _, _, c.glo i h, F, ⟨h1, h2, h3, He.eqO_ok h4, h5, He.eqO_ok h6, of_decide_eq_true h7, of_decide_eq_true h8, of_decide_eq_true h9⟩, fun f hf => He.eqO_ok (List.all_eq_true.mp h10 f hf)⟩
end
/-! ### own classes -/
def propB (K : PySem.W.Frag) (x m : Str) : Bool := He.eqO (PySem.W.findIn K (.ref (He.ga K x)) m) (some (some (.ref (He.ma K (He.ga K x) m)))) && (He.eqO (PySem.W.specialIn K (.ref (He.ma K (He.ga K x) m)) "__get__") (some (some (.builtin "property.__get__"))) &&
  (decide (PySem.W.takesIn K (.ref (He.ma K (He.ga K x) m)) = some true) && (match PySem.W.recIn K (He.ma K (He.ga K x) m) "property" with
    | some (.ref _ :: _) => true
    | _ => false)))
theorem propB_ok {K : PySem.W.Frag} {x m : Str} (h : propB K x m = true) : PropOf K (He.ga K x) m (He.ma K (He.ga K x) m) (adQ K x (.prop m)) := by
  simp only [propB, Bool.and_eq_true] at h
  obtain ⟨h1, h2, h3, h4⟩ := h
  refine ⟨He.eqO_ok h1, He.eqO_ok h2, of_decide_eq_true h3, ?_⟩
  split at h4
  · rename_i g rest e
    exact ⟨rest, by rw [e]; show _ = some (Value.ref (gtr K _) :: rest); unfold gtr; rw [e]⟩
  · cases h4
def specB (K : PySem.W.Frag) (x m : Str) : Bool := PySem.W.noSeq K (He.ga K x) && (He.eqO (PySem.W.findIn K (.ref (He.ga K x)) m) (some (some (.ref (He.ma K (He.ga K x) m)))) && (PySem.W.isFn K (.ref (He.ma K (He.ga K x) m)) && PySem.W.fnIn K (He.ma K (He.ga K x) m)))
def cvalB (K : PySem.W.Frag) (x f : Str) (i : Int) : Bool := PySem.W.readsIn K (He.ga K x) (.type "type") && (He.eqO (PySem.W.specialIn K (.ref (He.ga K x)) "__getattribute__") (some (some (.builtin "type.__getattribute__"))) &&
  (match PySem.W.findCls K (.ref (He.ga K x)) (.type "type") f with
    | some (.val (.int j _)) => decide (j = i)
    | _ => false))
def cvalK (K : PySem.W.Frag) (x f : Str) (i : Int) : Prop := cvalB K x f i = true
section
variable {P : Program} {w : World} {K : PySem.W.Frag} {mg : Mg} {base h : Heap} {x m qual : Str} {st : Stmt} {fd : FuncData} {N ps : List Str} {k : Nat} {sm : SM} {i : Int}
theorem kval_of (KX : K.In h) (G : h.Ns mainGlobals mg) (g : (He.Fa.glo x).ok K = true) (e : cvalB K x m i = true) : KVal K mg x m i := by
  simp only [cvalB, Bool.and_eq_true] at e
  obtain ⟨h1, h2, h3⟩ := e
  split at h3
  · rename_i j t q
    have ej : j = i := of_decide_eq_true h3
    subst ej
    exact ⟨_, _, _, He.glo_ok KX G g, ⟨h1, He.eqO_ok h2⟩, ⟨q, t, rfl⟩⟩
  · cases h3
theorem ki_of {fs : List Str} (KX : K.In h) (G : h.Ns mainGlobals mg) (g : (He.Fa.glo x).ok K = true) (c : (He.Fa.cls x).ok K = true) (e : (fs.all fun f => (He.Fa.noat x f).ok K) = true) : KI K mg x fs :=
  ⟨_, He.glo_ok KX G g, He.cls_ok c, fun f hf => He.noat_ok (List.all_eq_true.mp e f hf)⟩
theorem kgi_of (KX : K.In h) (G : h.Ns mainGlobals mg) (e : (He.Fa.int x i).ok K = true) : KGi mg x i := ⟨He.int_ok KX G e⟩
theorem km_of {f : FSem} (KX : K.In h) (G : h.Ns mainGlobals mg) (g : (He.Fa.glo x).ok K = true) (c : (He.Fa.cls x).ok K = true) (e : (He.Fa.meth x m).ok K = true) (F : FnG P w K mg base (L2.CX P w) k (adQ K x (.meth m)) fd ps (spM K mg f ps.length)) (hb : Binds K fd ps []) : KM P w K mg base x m f ps k :=
  ⟨_, _, fd, He.glo_ok KX G g, He.cls_ok c, He.meth_ok e, F, hb⟩
theorem kp_of {f : FSem} (KX : K.In h) (G : h.Ns mainGlobals mg) (g : (He.Fa.glo x).ok K = true) (c : (He.Fa.cls x).ok K = true) (e : propB K x m = true) (F : FnG P w K mg base (L2.CX P w) k (adQ K x (.prop m)) fd ps (spM K mg f ps.length)) (hb : Binds K fd ps []) : KP P w K mg base x m f ps k :=
  ⟨_, _, _, fd, He.glo_ok KX G g, He.cls_ok c, propB_ok e, F, hb⟩
theorem ks_of {f : FSem} (KX : K.In h) (G : h.Ns mainGlobals mg) (g : (He.Fa.glo x).ok K = true) (c : (He.Fa.cls x).ok K = true) (e : specB K x m = true) (F : FnG P w K mg base (L2.CX P w) k (adQ K x (.meth m)) fd ps (spM K mg f ps.length)) (hb : Binds K fd ps []) : KS P w K mg base x m f ps k := by
  simp only [specB, Bool.and_eq_true] at e
  obtain ⟨h1, h2, h3, h4⟩ := e
  exact ⟨_, _, fd, He.glo_ok KX G g, He.cls_ok c, h1, He.eqO_ok h2, h3, h4, F, hb⟩
theorem kmk_of {f : FSem} (KX : K.In h) (G : h.Ns mainGlobals mg) (g : (He.Fa.glo x).ok K = true) (e : (He.Fa.mkr x).ok K = true) (F : FnG P w K mg base (L2.CX P w) k (adQ K x (.meth "__init__")) fd ps (spM K mg f ps.length)) (hb : Binds K fd ps []) : KMk P w K mg base x f ps k :=
  ⟨_, _, fd, He.glo_ok KX G g, He.mkr_ok e, F, hb⟩
/-- the same def, called by keywords -/
theorem kdk_of {f : FSem} {fa : Addr} {ks : List Str} {pm : List Nat} (hm : mg x = some (.ref fa)) (F : FnG P w K mg base (L2.CX P w) k fa fd ps (spM K mg f ps.length)) (Fn : Fun K x qual st fa fd)
    (hb : ∀ (kV doc pmv : Value) (an : Option Addr) (cdv ct : Value) (ws : List Value), ws.length = ks.length → bindArgs (PySem.W.fnOf x qual (defArgs st) (defBody st) (defScope st) .none kV doc pmv an cdv ct) ⟨[], ks.zip ws⟩ = pure (ps.zip (gp pm ws))) : KDK P w K mg base x f ps k ks pm := by
  refine ⟨fa, fd, F, hm, Fn.kp, fun s ws _ hl => ?_⟩
  obtain ⟨oc, od, kV, doc, pmv, an, cdv, ct, osl, rfl, lk, hcd⟩ := Fn.ex
  exact .of_eq (hb kV doc pmv an cdv ct ws hl)
end
/-- a def that calls what it gets -/
theorem kl_of {P : Program} {w : World} {K : PySem.W.Frag} {mg : Mg} {base : Heap} {x a : Str} {st : Stmt} {g : Addr} {fd : FuncData} {Ng : List Str} {k : Nat} {mT : M Opd → SM} {F : LO → FOut} (Fn : Fun K x x st g fd) (S : FnScope Ng [a] (defScope st)) (hm : mg x = some (.ref g)) (hb : Binds K fd [a] [])
    (h0 : Ng[0]? = some a) (hv : Vis (defScope st) a) (hd : (a == ("__debug__" : Str)) = false) (hcd : (a == ("__classdict__" : Str)) = false)
    (hT : ∀ (cdv : Value) (A : Around) (outer : List Env) (s : Shared) (H : Hp) (E : XK) (cm : M Opd), Room k (A.deeper (envOfC x (defScope st) s.heap.objs.size g cdv)) → A.guards = some [] →
      (∀ (pn : List (Addr × Obj)) (xe : Value → Shared → Prop) (p1 p2 : Pos), PX ((cxOf (L2.CX P w) P w K mg base Ng x (defScope st) g cdv A outer s H E).tr pn xe) (.Call (.Name a p1) [] [] p2) cm) → SXs (cxOf (L2.CX P w) P w K mg base Ng x (defScope st) g cdv A outer s H E) (defBody st) (mT cm))
    (hF : ∀ (f c' : Addr) (q : Str) (σ : Sg) (Sd : List (Option DV)) (mb : M Opd), (runDef (mT (callM 0 f c' q σ mb)) Ng.length [.v (.clo f c' q σ Sd)]).ret0 = F (runL mb Sd)) : KL P w K mg base x F k := by
  obtain ⟨oc, od, kV, doc, pm, an, cdv, ct, osl, rfl, lk, hc⟩ := Fn.ex
  exact ⟨g, a, _, _, _, _, kV, doc, pm, cdv, ct, oc, an, od, osl, Ng, mT, hm, Fn.kp, lk, hc, hb, S, h0, hv, hd, hcd, fun A outer s H E cm => hT cdv A outer s H E cm, hF⟩
/-! ### the run's equation in parts -/
theorem lookF_and {n : List Addr} {b1 b2 : PySem.W.Frag → Bool} {f1 f2 : List FnQ} {g : Addr → Option Obj} (h1 : lookF n b1 f1 g = valQ f1) (h2 : lookF n b2 f2 g = valQ f2) : lookF n (fun K => b1 K && b2 K) (f1 ++ f2) g = valQ (f1 ++ f2) := by
  unfold lookF at h1 h2 ⊢
  rw [frcK_eq] at h1 h2 ⊢
  unfold obsQ valQ at h1 h2 ⊢
  simp only [Prod.mk.injEq, Bool.and_eq_true] at h1 h2
  simp only [Prod.mk.injEq, Bool.and_eq_true, List.all_append, List.map_append]
  exact ⟨⟨⟨h1.1.1, h2.1.1⟩, h1.1.2, h2.1.2⟩, by rw [h1.2, h2.2]⟩
theorem runQ_and {α : Type} {n : List Addr} {b1 b2 : PySem.W.Frag → Bool} {f1 f2 : List FnQ} {x : Option α} {g : α → Addr → Option Obj} (h1 : x.map (fun s => lookF n b1 f1 (g s)) = some (valQ f1)) (h2 : x.map (fun s => lookF n b2 f2 (g s)) = some (valQ f2)) :
    x.map (fun s => lookF n (fun K => b1 K && b2 K) (f1 ++ f2) (g s)) = some (valQ (f1 ++ f2)) := by
  cases x with
  | none => cases h1
  | some a => exact congrArg some (lookF_and (Option.some.inj h1) (Option.some.inj h2))
theorem runQ_tab {α : Type} {n : List Addr} {b : PySem.W.Frag → Bool} {fn : List FnQ} {x : Option α} {g : α → Addr → Option Obj} (h1 : x.map (fun s => lookT n (g s)) = some true) (h2 : x.map (fun s => lookF n b fn (g s)) = some (valQ fn)) : x.map (fun s => lookA n b fn (g s)) = some (true, valQ fn) := by
  cases x with
  | none => cases h1
  | some a =>
    have e1 : lookT n (g a) = true := Option.some.inj h1
    have e2 : lookF n b fn (g a) = valQ fn := Option.some.inj h2
    show some (lookT n (g a), lookF n b fn (g a)) = _
    rw [e1, e2]
/-! ### from the law's def to the statement -/
theorem walkQ {l : PySem.W.OpenLaw} {q : Program} {loose : List Str} {XP : (Str → Option Value) → Heap → Prop} {YP : World → Heap → Prop} {d : DefRec} {k : Nat} {b : PySem.W.Frag → Bool} {fn : List FnQ} {x : Str} {f : FSem}
    (hn : l.most = some 63) (hdf : d.params.defaults = []) (hi : importsNone q = true) (hr : Room k callerA) (hnl : ∀ K : PySem.W.Frag, SaysQ b fn K → noLst K = true) (htb : ∀ K : PySem.W.Frag, SaysQ b fn K → tabsB K = true)
    (hY : ∀ (w : World) (h : Heap), YP w h → ∃ K : PySem.W.Frag, K.In h ∧ SaysQ b fn K ∧ ∀ p ∈ tblsOf K, h.get? p.1 = some { cls := .none, data := .fields #[] })
    (F : ∀ (w : World) (mg : Str → Option Value) (fa : Addr) (h : Heap) (K : PySem.W.Frag), K.In h → SaysQ b fn K → h.Ns mainGlobals mg → mg d.name = some (.ref fa) →
      ∃ fd : FuncData, (∀ (s : Shared) (u : Value), BindsTo s fd ⟨[u], []⟩ [(x, u)]) ∧ ∀ base : Heap, K.In base → base.Ns mainGlobals mg → (∃ o, base.get? sysModules = some o) → (∀ p ∈ tblsOf K, base.BuiltinsAt mg p.1 ∧ mainGlobals ≠ p.1) →
        FnG l.prog w K mg base (L2.CX l.prog w) k fa fd [x] (spM K mg f 1))
    (hf : ∀ ns : List Int, ns.length ≤ 63 → ∃ outs, f [.v (.scr ns)] = .ret (.v (.bl true)) outs) :
    PySem.W.WalkO q loose XP YP l.row.toRowW d [] (fun f vs => PySem.call f vs) := by
  refine Att.attach_callB hn hdf fun w s₀ s₁ mg mb fa o pm cd doc a vs ns G Y ho hd hcd hmg hobj hints hlen hbits hg => ?_
  obtain ⟨K, KX, Y, tY⟩ := hY w _ Y
  have hC := tabsB_ok (htb K Y)
  obtain ⟨fd, hb, hF⟩ := F w mg fa _ K KX Y G.T.g hmg
  have hsm : ∃ m, s₁.heap.Ns sysModules m := (G.T.seer hi).mods.imp fun m z => z.1
  refine top_call KX G.T.g G.T.b G.T.builtins G.T.nolimit hg hsm tY (fun p hp => (hC p hp).1) (fun p hp => let ⟨c, e⟩ := (hC p hp).2; ⟨c, PySem.W.codeHd_of_K KX e⟩) G.T.bmain hobj hints (Nat.le_trans hlen (by decide)) hr hF hb (fun H hT hS => ?_) (fun H e s' hx => ?_) ?_
  · obtain ⟨outs, e⟩ := hf ns hlen
    refine ⟨rfl, H, [.v (.scr ns)], ⟨.refl H, rfl, fun i r hi => ?_, fun i j c hi hj => ?_, hT H⟩, fun r hr hw => ?_, ?_⟩
    · cases i with
      | zero => cases hi; exact ⟨.ref a, rfl, .v (.scr hS)⟩
      | succ i => cases hi
    · obtain ⟨⟨r, e1, h1⟩, _⟩ := hi
      cases i with
      | zero => cases e1; cases h1
      | succ i => cases e1
    · rcases List.mem_singleton.mp hr with rfl
      cases hw
    · rw [e]
      intro v B' H' cp rv _ _
      cases rv with
      | v r => cases r; rfl
  · obtain ⟨_, _, _, _, _, _, _, _, _, _, _, _, z⟩ := hx
    exact z.elim
  · cases e : K.lookup a with
    | none => rfl
    | some o' =>
      have y := KX a o' e
      rw [hobj] at y
      cases y
      exact (noLst_at (hnl K Y) e rfl).elim
end Lb
/-! a, b = x, y where a tuple is made: names that comprehensions read. -/
namespace Lb
open PySem PySem.Spec PyProof.Rows L2
section
variable {X : Cx} {x y : Str} {a b : Expr} {m1 m2 : M Opd} {px py pt pos : Pos} {kt k2 : Nat} {pt2 : Pos}
theorem sx_parT (i j : Nat) (hc : X.calm = true) (hN : X.N.Nodup) (hi : X.N[i]? = some x) (hj : X.N[j]? = some y) (hij : i ≠ j) (hx : Loc X.env.scope x) (hy : Loc X.env.scope y) (h1 : PX X a m1) (h2 : PX X b m2)
    (hfx : X.fn x = true ∨ X.env.scope.names.lookup x = some .local := by first | exact .inl rfl | exact .inr rfl | assumption)
    (hfy : X.fn y = true ∨ X.env.scope.names.lookup y = some .local := by first | exact .inl rfl | exact .inr rfl | assumption)
    (hw : swappedStores [.Tuple [.Name x px, .Name y py] kt pt] (.Tuple [a, b] k2 pt2) X.env = pure none := by rfl)
    (hs : swapsWithSole [.Tuple [.Name x px, .Name y py] kt pt] (.Tuple [a, b] k2 pt2) pos.line X.env = pure false := by rfl)
    (h3 : (assignEach [.Tuple [.Name x px, .Name y py] kt pt] X.env).map (·.2) = [assign (.Tuple [.Name x px, .Name y py] kt pt) X.env] := by rfl)
    (hg1 : (assignEach [.Name x px, .Name y py] X.env).map (·.2) = assign (.Name x px) X.env :: (assignEach [.Name y py] X.env).map (·.2) := by rfl)
    (hg2 : (assignEach [.Name y py] X.env).map (·.2) = assign (.Name y py) X.env :: (assignEach [] X.env).map (·.2) := by rfl)
    (hn : (assignEach [.Name x px, .Name y py] X.env).length = 2 := by rfl) (hst : (assignEach [.Name x px, .Name y py] X.env).findIdx? (·.1) = none := by rfl)
    (he : starEach [a, b] X.env = (false, eval a X.env) :: starEach [b] X.env := by rfl) (he2 : starEach [b] X.env = (false, eval b X.env) :: starEach [] X.env := by rfl) :
    SX X (.Assign [.Tuple [.Name x px, .Name y py] kt pt] (.Tuple [a, b] k2 pt2) pos) (M.thn m1 fun o1 => M.thn m2 fun o2 => parM i j o1 o2) := fun W tk pp =>
  PS.imp (ps_asg (pe_tup (pa_cons (h1 W tk) (pa_cons (h2 W tk) pa_nil he2) he)) (pg_tup hc (pgs_cons (pg_name hN hi hx hfx) (pgs_cons (pg_name hN hj hy hfy) pgs_nil hg2) hg1) hn hst) hs hw h3) fun D σ H ⟨B, S, st, q⟩ =>
  ⟨B, S, st, (spec_thn.mp q).imp (fun o1 S1 _ q v B1 H1 s1 hs1 or1 y1 => ⟨B1, S1, s1.st, (spec_thn.mp q).imp (fun o2 S2 _ q w B2 H2 s2 hs2 or2 y2 => by
    refine ⟨by rw [sizeLine_eq]; show 2 ≤ _; omega, fun p hp => ⟨p, [v, w], rfl, SqT.of upd_same, rfl, v, [w], rfl, w, [], rfl, rfl, ?_⟩⟩
    have sT := s1.trans s2
    obtain ⟨r1, B3, S3, s3, hh3, rv1, n1, f1, g1, q⟩ := ownOr_ok sT (or1.step s2 hs2) y1 (spec_thn.mp q)
    obtain ⟨r2, B4, S4, s4, hh4, rv2, n2, f2, _, q⟩ := ownOr_ok (s2.trans s3) (or2.step s3 hh3) y2 (spec_thn.mp q)
    have s5 := s4.st.step (New.own (o := .tup [v, w]) s4.st.le hp : New B4 H2 B4 (upd H2 p (.tup [v, w])))
    obtain ⟨rv1', n1'⟩ := rv1.step n1 (s4.trans s5)
    obtain ⟨rv2', n2'⟩ := rv2.step n2 s5
    have sU := ((sT.trans s3).trans s4).trans s5
    obtain ⟨p1, p2, q⟩ := stores_spec (spec_seq.mp q)
    obtain ⟨p3, p4, k⟩ := stores_spec q
    have sA := sU.set rv1' n1' f1 p1 p2
    refine k B4 _ _ (sA.set rv2' (fun c hc ec z => ?_) (fun c hc ec => s1.free (f2 c hc ec)) p3 p4)
    obtain ⟨l, ⟨r', e1, hr'⟩, e2⟩ := z
    rcases set_some_cases e1 with ⟨k1, k2⟩ | ⟨k1, k2⟩
    · cases k2
      rcases sig_set_cases e2 with ⟨_, k4⟩ | ⟨k3, _⟩
      · cases k4
        have hn := f2 c hc ec
        have := g1 hr'
        subst this
        cases or1 with
        | v qq _ =>
          cases qq with
          | v _ => cases hr'
          | ol _ hh _ => rw [hn] at hh; cases hh
          | od _ hh _ => rw [hn] at hh; cases hh
          | oi _ _ hh _ => rw [hn] at hh; cases hh
      · exact k3 k1
    · refine n2' c hc ec ⟨l, ⟨r', k2, hr'⟩, ?_⟩
      rwa [List.getElem?_set_ne (Ne.symm k1)] at e2) fun _ _ _ h => h.pre s1⟩) fun _ _ _ h => h⟩
end
/-! ### for over a list, a tuple or a text -/
def seqS : DV → Option (List DV)
  | .lst ds => some ds
  | .tup ds => some ds
  | .str x => some (signsDV x)
  | _ => none
def asSeqS (d : DV) : M (List DV) := M.of (seqS d)
section
variable {X : Cx} {tg iter : Expr} {me : M DV}
theorem ix_seqS (he : FX X iter me) : IX X tg iter (M.bind me asSeqS) := fun W tk => PI.imp (PI.or (ix_seq' he W tk) (ix_str he W tk)) fun σ H R ⟨B, S, st, q⟩ => by
  have key : M.bind me asSeqS S = M.bind me asSeq S ∨ M.bind me asSeqS S = M.bind me asSigns S := by
    unfold M.bind
    cases me S with
    | stuck => exact .inl rfl
    | exc => exact .inl rfl
    | ok d S1 => cases d <;> first | exact .inl rfl | exact .inr rfl
  rcases key with k | k
  · exact .inl ⟨B, S, st, by rw [← k]; exact q⟩
  · exact .inr ⟨B, S, st, by rw [← k]; exact q⟩
end
/-! ### len of dicts, too -/
def rLenB (K : PySem.W.Frag) : List V → Hp → VK → Prop := fun xs H Q => rLenA K xs H Q ∨ ∃ a kvs, xs = [.ref a] ∧ Rd H a (.dK kvs) ∧ Q (.int kvs.length) H
theorem call_lenB {X : Cx} : CallR X (.builtin "len") (rLenB X.K) := fun pins s σ H xs us Q I r h => h.elim (call_lenA pins s σ H xs us Q I r) fun ⟨a, kvs, e, ha, q⟩ => by
  subst e
  obtain ⟨u, rfl, ru⟩ := vals1 r
  cases ru
  exact d_len I ha fun t s' I' => ⟨.int kvs.length, H, I', ⟨t, rfl⟩, q⟩
def fLenB : List DV → Option RV
  | [.dct kvs] => some (.v (.int kvs.length))
  | [.tuf xs] => some (.v (.int xs.length))
  | ds => fLen ds
theorem prim_lenB {mg : Mg} {K : PySem.W.Frag} : PrimN mg (rLenB K) fLenB := fun B H xs ds rv Q le vs e k => by
  unfold fLenB at e
  split at e
  · cases e
    obtain ⟨v, rfl, q⟩ := vs.one
    obtain ⟨a, ys, rfl, h, r⟩ := q.dict le
    rw [← r.length] at k
    exact .inr ⟨a, ys, rfl, h, k _ _ _ (res_int le _)⟩
  · cases e
    obtain ⟨v, rfl, q⟩ := vs.one
    cases q with
    | r q =>
      cases q with
      | tuf h _ r =>
        rw [← r.length] at k
        exact .inl (.inl ⟨_, _, rfl, .inr (.inl (.inr ⟨_, le.keep _ _ h rfl⟩)), k _ _ _ (res_int le _)⟩)
  · exact .inl (prim_len B H xs _ rv Q le vs e k)
end Lb
/-! The plain functions worked out by simp. -/
namespace Lb
open PySem PySem.Spec PyProof.Rows L2
section
variable {α β : Type}
@[simp ↓] theorem ev_bind (m : M α) (f : α → M β) (S : Sl) : M.bind m f S = (match m S with
  | .stuck => .stuck
  | .ok a S' => f a S'
  | .exc c fs S' => .exc c fs S') := rfl
@[simp ↓] theorem ev_thn (m : M α) (f : α → SM) (S : Sl) : M.thn m f S = (match m S with
  | .stuck => .stuck
  | .ok a S' => f a S'
  | .exc c fs S' => .exc c fs S') := rfl
@[simp ↓] theorem ev_seq (m k : SM) (S : Sl) : SM.seq m k S = (match m S with
  | .nx S' => k S'
  | o => o) := rfl
@[simp ↓] theorem ev_nil (S : Sl) : SM.nil S = .nx S := rfl
@[simp ↓] theorem ev_pure (a : α) (S : Sl) : M.pure a S = .ok a S := rfl
@[simp ↓] theorem ev_map (f : α → β) (m : M α) (S : Sl) : M.map f m S = (match m S with
  | .stuck => .stuck
  | .ok a S' => .ok (f a) S'
  | .exc c fs S' => .exc c fs S') := rfl
@[simp ↓] theorem ev_kst (d : DV) (S : Sl) : kst d S = .ok (.v (.v d)) S := rfl
@[simp ↓] theorem ev_of_some (a : α) (S : Sl) : M.of (some a) S = .ok a S := rfl
@[simp ↓] theorem ev_frz_v (r : RV) (S : Sl) : frz (.v r) S = .ok r.dv S := rfl
@[simp ↓] theorem ev_rvB (F : DV → DV → Option Bool) (x y : DV) : rvB F x y = (F x y).map fun b => .v (.bl b) := rfl
@[simp ↓] theorem ev_runDef (m : SM) (n : Nat) (rs : List RV) : runDef m n rs = (match m (startS n rs) with
  | .nx S' => .ret (.v .non) (outsOf rs S')
  | .rt o S' => (match retOf o S' with
    | some r => .ret r (outsOf rs S')
    | none => .stuck)
  | .exc c fs S' => .exc c fs (outsOf rs S')
  | _ => .stuck) := rfl
end
@[simp] theorem dvOf_v (S : Sl) (r : RV) : Opd.dv S (.v r) = some r.dv := rfl
@[simp] theorem rv_dv_v (d : DV) : RV.dv (.v d) = d := rfl
@[simp] theorem rv_dv_ol (p : Bool) (l : List DV) : RV.dv (.ol p l) = .lst l := rfl
@[simp] theorem rv_dv_od (p : Bool) (l : List (Key × DV)) : RV.dv (.od p l) = .dct l := rfl
@[simp] theorem rv_dv_oi (p : Bool) (c : Str) (l : List (Str × DV)) : RV.dv (.oi p c l) = .ins c l := rfl
@[simp] theorem rv_pin_v (d : DV) : RV.isPin (.v d) = false := rfl
@[simp] theorem rv_pin_ol (p : Bool) (l : List DV) : RV.isPin (.ol p l) = p := rfl
@[simp] theorem rv_pin_od (p : Bool) (l : List (Key × DV)) : RV.isPin (.od p l) = p := rfl
@[simp] theorem rv_pin_oi (p : Bool) (c : Str) (l : List (Str × DV)) : RV.isPin (.oi p c l) = p := rfl
@[simp] theorem rv_own_v (d : DV) : RV.isOwn (.v d) = false := rfl
@[simp] theorem rv_own_ol (p : Bool) (l : List DV) : RV.isOwn (.ol p l) = true := rfl
@[simp] theorem rv_own_od (p : Bool) (l : List (Key × DV)) : RV.isOwn (.od p l) = true := rfl
@[simp] theorem rv_own_oi (p : Bool) (c : Str) (l : List (Str × DV)) : RV.isOwn (.oi p c l) = true := rfl
@[simp] theorem rv_rp_ol (p q : Bool) (l : List DV) : RV.rePin p (.ol q l) = .ol p l := rfl
@[simp] theorem rv_rp_od (p q : Bool) (l : List (Key × DV)) : RV.rePin p (.od q l) = .od p l := rfl
@[simp] theorem rv_rp_oi (p q : Bool) (c : Str) (l : List (Str × DV)) : RV.rePin p (.oi q c l) = .oi p c l := rfl
@[simp] theorem ret_v (r : RV) (S : Sl) : retOf (.v r) S = if r.isPin then none else some r := rfl
@[simp] theorem outs_nil (S : Sl) : outsOf [] S = [] := rfl
@[simp] theorem outs_v (d : DV) (rs : List RV) (S : Sl) : outsOf (.v d :: rs) S = .v d :: outsOf rs S.tail := rfl
@[simp] theorem outs_ol (p : Bool) (l : List DV) (rs : List RV) (r : RV) (S : Sl) : outsOf (.ol p l :: rs) (some r :: S) = r :: outsOf rs S := rfl
@[simp] theorem outs_oi (p : Bool) (c : Str) (l : List (Str × DV)) (rs : List RV) (r : RV) (S : Sl) : outsOf (.oi p c l :: rs) (some r :: S) = r :: outsOf rs S := rfl
theorem outs_data (ds : List DV) : ∀ (S : Sl), outsOf (ds.map RV.v) S = ds.map RV.v := by
  induction ds with
  | nil => intro S; rfl
  | cons d ds ih => intro S; show RV.v d :: outsOf (ds.map RV.v) S.tail = _; rw [ih]; rfl
@[simp] theorem ev_getSl (i : Nat) (S : Sl) : getSl i S = (match S[i]? with
  | some (some _) => .ok (.sl i) S
  | _ => .stuck) := rfl
@[simp] theorem ev_frz (o : Opd) (S : Sl) : frz o S = (match o with
  | .v r => .ok r.dv S
  | .sl i => match S[i]? with
    | some (some (.v d)) => .ok d S
    | some (some r) => if r.isPin then .stuck else .ok r.dv (S.set i (some (.v r.dv)))
    | _ => .stuck) := rfl
@[simp] theorem ev_callF (f : FSem) (n : Nat) (ds : List DV) (S : Sl) : callF f n ds S = (if ds.length = n then
    (match f (ds.map .v) with
    | .ret r _ => if r.isPin then .stuck else .ok (.v r) S
    | .exc c fs _ => .exc c fs S
    | .stuck => .stuck)
  else .stuck) := rfl
@[simp] theorem ev_callP (f : FSem) (n i : Nat) (ds : List DV) (S : Sl) : callP f n i ds S = (if ds.length + 1 = n then
    (match S[i]? with
    | some (some r0) => if r0.isOwn then
        (match f (r0.rePin true :: ds.map .v) with
        | .ret r (r1 :: _) => if r.isPin then .stuck else .ok (.v r) (S.set i (some (r1.rePin r0.isPin)))
        | .exc c fs (r1 :: _) => .exc c fs (S.set i (some (r1.rePin r0.isPin)))
        | _ => .stuck) else .stuck
    | _ => .stuck)
  else .stuck) := rfl
@[simp] theorem ev_callO (f : FSem) (n : Nat) (o : Opd) (ds : List DV) (S : Sl) : callO f n o ds S = (if ds.length + 1 = n then
    (match o with
    | .v r0 => if r0.isOwn && !r0.isPin then
        (match f (r0.rePin true :: ds.map .v) with
        | .ret r _ => if r.isPin then .stuck else .ok (.v r) S
        | .exc c fs _ => .exc c fs S
        | .stuck => .stuck) else .stuck
    | .sl _ => .stuck)
  else .stuck) := rfl
@[simp] theorem ev_truthOf (o : Opd) (S : Sl) : truthOf o S = (match o.dv S with
  | some (.bl b) => .ok b S
  | _ => .stuck) := rfl
@[simp] theorem ev_op2 (F : DV → DV → Option RV) (x y : Opd) (S : Sl) : op2 F x y S = (match x.dv S, y.dv S with
  | some dx, some dy => match F dx dy with
    | some r => .ok (.v r) S
    | none => .stuck
  | _, _ => .stuck) := rfl
@[simp] theorem ev_opN (F : List DV → Option RV) (xs : List Opd) (S : Sl) : opN F xs S = (match Opd.dvs S xs with
  | some ds => match F ds with
    | some r => .ok (.v r) S
    | none => .stuck
  | none => .stuck) := rfl
@[simp] theorem ev_cmpB (F : DV → DV → Option Bool) (x y : Opd) (S : Sl) : cmpB F x y S = (match x.dv S, y.dv S with
  | some dx, some dy => match F dx dy with
    | some r => .ok r S
    | none => .stuck
  | _, _ => .stuck) := rfl
@[simp] theorem ev_stores (i : Nat) (r : RV) (S : Sl) : stores i r S = (match S[i]? with
  | none => .stuck
  | some x => if (x.map RV.isPin).getD false || r.isPin then .stuck else .nx (S.set i (some r))) := rfl
@[simp] theorem ev_storeD (i : Nat) (d : DV) (S : Sl) : storeD i d S = (match S[i]? with
  | none => none
  | some x => if (x.map RV.isPin).getD false then none else some (S.set i (some (.v d)))) := rfl
@[simp] theorem ev_cutM (o : Opd) (lo hi : Option Int) (S : Sl) : cutM o lo hi S = (match o.dv S with
  | some d => match fCut d lo hi with
    | some r => .ok (.v r) S
    | none => .stuck
  | none => .stuck) := rfl
@[simp] theorem ev_mkL (ds : List DV) (S : Sl) : mkL ds S = (if ds.length ≤ sizeLine then .ok (.v (.ol false ds)) S else .stuck) := rfl
@[simp] theorem ev_mkT (ds : List DV) (S : Sl) : mkT ds S = (if ds.length ≤ sizeLine then .ok (.v (.v (.tup ds))) S else .stuck) := rfl
@[simp] theorem ev_ifld (c f : Str) (o : Opd) (S : Sl) : ifld c f o S = (match o.dv S with
  | some (.ins c' gs) => if c' = c then (match gs.lookup f with
    | some d => .ok (.v (.v d)) S
    | none => .stuck) else .stuck
  | _ => .stuck) := rfl
@[simp] theorem ev_putSl (i : Nat) (c f : Str) (d : DV) (S : Sl) : putSl i c f d S = (match S[i]? with
  | some (some (.oi p c' gs)) => if c' = c ∧ gs.length < 1000 then .nx (S.set i (some (.oi p c' (putG f d gs)))) else .stuck
  | _ => .stuck) := rfl
@[simp] theorem ev_callV (f : FSem) (n : Nat) (ds : List DV) (S : Sl) : callV f n ds S = (match callF f n ds S with
  | .exc _ _ _ => .stuck
  | o => o) := rfl
@[simp] theorem ev_ixM (c : Str) (f : FSem) (F : DV → DV → Option RV) (x y : Opd) (S : Sl) : ixM c f F x y S = (if isIns x S then (match dataOf x S, dataOf y S with
  | some (.ins c' gs), some dy => if c' = c then callF f 2 [.ins c' gs, dy] S else .stuck
  | _, _ => .stuck) else op2 F x y S) := rfl
theorem ev_oneM (c : Str) (f : FSem) (good : DV → Bool) (F : List DV → Option RV) (x : Opd) (S : Sl) : oneM c f good F x S = (if isIns x S then (match dataOf x S with
  | some (.ins c' gs) => if c' = c then M.bind (callF f 1 [.ins c' gs]) (backM good) S else .stuck
  | _ => .stuck) else opN F [x] S) := rfl
@[simp] theorem ev_mkI (c : Str) (f : FSem) (n : Nat) (ds : List DV) (S : Sl) : mkI c f n ds S = (if ds.length + 1 = n then
    (match f (.oi true c [] :: ds.map .v) with
    | .ret (.v .non) (.oi _ c' gs :: _) => .ok (.v (.oi false c' gs)) S
    | .exc k fs _ => .exc k fs S
    | _ => .stuck)
  else .stuck) := rfl
@[simp] theorem ev_itemsSl (i : Nat) (S : Sl) : itemsSl i S = (match S[i]? with
  | some (some (.v (.dct kvs))) => .ok (itemsDV kvs) S
  | _ => .stuck) := rfl
@[simp] theorem ev_itemsL (o : Opd) (S : Sl) : itemsL o S = (match o with
  | .v (.od _ kvs) => .ok (.v (.ol false (itemsDV kvs))) S
  | .sl i => (match S[i]? with
    | some (some (.od _ kvs)) => .ok (.v (.ol false (itemsDV kvs))) S
    | _ => .stuck)
  | _ => .stuck) := rfl
@[simp] theorem ev_isiM (Ts : List String) (o : Opd) (S : Sl) : isiM Ts o S = (match o.dv S with
  | some d => (match tyN d with
    | some t => .ok (.v (.v (.bl (Ts.any fun T => isTab t T)))) S
    | none => .stuck)
  | none => .stuck) := rfl
@[simp] theorem ev_sortSetM (o : Opd) (S : Sl) : sortSetM o S = (match o.dv S with
  | some (.lst ds) => (match intsDV ds with
    | some ns => if ns.length < 64 then .ok (.v (.ol false ((sortU ns).map DV.int))) S else .stuck
    | none => .stuck)
  | _ => .stuck) := rfl
@[simp] theorem ev_dctV (o : Opd) (S : Sl) : dctV o S = (match o.dv S with
  | some (.dct kvs) => .ok kvs S
  | _ => .stuck) := rfl
@[simp] theorem ev_mergeM (k1 k2 : List (Key × DV)) (S : Sl) : mergeM k1 k2 S = (if k1.length + k2.length ≤ sizeLine then .ok (.v (.od false (mergeD (mergeD [] k1) k2))) S else .stuck) := rfl
@[simp] theorem ev_dispM (ps : List (DV × DV)) (S : Sl) : dispM ps S = (match keysDV ps with
  | some kvs => if kvs.length ≤ 15 then .ok (.v (.od false (mergeD [] kvs))) S else .stuck
  | none => .stuck) := rfl
@[simp ↓] theorem ev_appendM (i : Nat) (m : M DV) (S : Sl) : appendM i m S = (if isOl S i then match m S with
    | .ok d S1 => (match S1[i]? with
      | some (some (.ol p ds)) => if ds.length < sizeLine then .nx (S1.set i (some (.ol p (ds ++ [d])))) else .stuck
      | _ => .stuck)
    | .exc c fs S1 => .exc c fs S1
    | .stuck => .stuck
  else .stuck) := rfl
@[simp ↓] theorem ev_extendM (i : Nat) (m : M DV) (S : Sl) : extendM i m S = (if isOl S i then match m S with
    | .ok (.lst es) S1 => (match S1[i]? with
      | some (some (.ol p ds)) => if ds.length + es.length ≤ sizeLine then .nx (S1.set i (some (.ol p (ds ++ es)))) else .stuck
      | _ => .stuck)
    | .ok _ _ => .stuck
    | .exc c fs S1 => .exc c fs S1
    | .stuck => .stuck
  else .stuck) := rfl
@[simp] theorem ev_clearM (i : Nat) (S : Sl) : clearM i S = (match S[i]? with
  | some (some (.od p _)) => .nx (S.set i (some (.od p [])))
  | _ => .stuck) := rfl
@[simp ↓] theorem ev_lamM (F : LO → FOut) (mb : M Opd) (S : Sl) : lamM F mb S = (match F (runL mb (dataS S)) with
  | .ret r _ => if r.isPin then .stuck else .ok (.v r) S
  | .exc c fs _ => .exc c fs S
  | .stuck => .stuck) := rfl
@[simp ↓] theorem ev_tryM (m : SM) (hs : List Hd) (S : Sl) : tryM m hs S = (match m S with
  | .exc c fs S' => catchM hs c fs S'
  | o => o) := rfl
@[simp] theorem ev_raiseM (c : Str) (fs : List Str) (ds : List DV) (S : Sl) : raiseM c fs ds S = (if ds.length = fs.length then .exc c (fs.zip ds).reverse S else .stuck) := rfl
@[simp] theorem ev_isxM (tab : List Str) (sub : Str → Bool) (o : Opd) (S : Sl) : isxM tab sub o S = (match o.dv S with
  | some (.exn c _) => if tab.contains c then .ok (.v (.v (.bl (sub c)))) S else .stuck
  | _ => .stuck) := rfl
@[simp] theorem ev_fNeg (o : Opd) (S : Sl) : fNeg o S = (match o.dv S with
  | some (.int i) => .ok (.v (.v (.int (-i)))) S
  | _ => .stuck) := rfl
theorem ev_backM (good : DV → Bool) (o : Opd) (S : Sl) : backM good o S = (match o with
  | .v (.v d) => if good d then .ok o S else .stuck
  | _ => .stuck) := rfl
@[simp] theorem ev_storeAt (j : Nat) (mi : M Opd) (d : DV) (S : Sl) : storeAt j mi d S = (match M.bind (getSl j) (fun _ => mi) S with
  | .ok o S1 => match o.dv S1, S1[j]? with
    | some (.int k), some (some (.ol p xs)) => (ixN xs.length k).map fun n => S1.set j (some (.ol p (xs.set n d)))
    | _, _ => none
  | _ => none) := rfl
@[simp ↓] theorem ev_setSl_v (i : Nat) (r : RV) (S : Sl) : setSl i (.v r) S = stores i r S := rfl
@[simp ↓] theorem ev_setSl_sl (i j : Nat) (S : Sl) : setSl i (.sl j) S = M.thn (frz (.sl j)) (fun d => stores i (.v d)) S := rfl
@[simp ↓] theorem ev_gSM (g : GM) (d : DV) (S : Sl) : gSM g d S = (match g d S with
  | some S' => .nx S'
  | none => .stuck) := rfl
@[simp] theorem ev_gTup (n : Nat) (gs : GMs) (ds : List DV) (S : Sl) : gTupM n gs (.tup ds) S = if ds.length = n then gs ds S else none := rfl
@[simp] theorem ev_gCons (g : GM) (gs : GMs) (d : DV) (r : List DV) (S : Sl) : gConsM g gs (d :: r) S = (g d S).bind (gs r) := rfl
@[simp] theorem ev_gNil (S : Sl) : gNilM [] S = some S := rfl
@[simp] theorem ev_asInt (i : Int) : asInt (.int i) = M.pure (some i) := rfl
@[simp ↓] theorem ev_parM (i j : Nat) (o1 o2 : Opd) (S : Sl) : parM i j o1 o2 S = M.thn (ownOr o1) (fun r1 => M.thn (ownOr o2) fun r2 => SM.seq (stores i r1) (stores j r2)) S := rfl
@[simp ↓] theorem ev_ownOr_v (r : RV) (S : Sl) : ownOr (.v r) S = .ok r S := rfl
@[simp ↓] theorem ev_ownOr_sl (k : Nat) (S : Sl) : ownOr (.sl k) S = M.map RV.v (frz (.sl k)) S := rfl
@[simp] theorem ev_dvs_nil (S : Sl) : Opd.dvs S [] = some [] := rfl
@[simp] theorem ev_dvs_cons (S : Sl) (o : Opd) (os : List Opd) : Opd.dvs S (o :: os) = (match o.dv S, Opd.dvs S os with
  | some d, some ds => some (d :: ds)
  | _, _ => none) := rfl
@[simp] theorem ev_dv_sl (S : Sl) (i : Nat) : Opd.dv S (.sl i) = (match S[i]? with
  | some (some r) => some r.dv
  | _ => none) := rfl
@[simp] theorem ev_startS (N : Nat) (rs : List RV) : startS N rs = rs.map some ++ List.replicate (N - rs.length) none := rfl
@[simp] theorem ev_isOl (S : Sl) (i : Nat) : isOl S i = (match S[i]? with
  | some (some (.ol _ _)) => true
  | _ => false) := rfl
@[simp] theorem ev_isIns (o : Opd) (S : Sl) : isIns o S = (match o.dv S with
  | some (.ins _ _) => true
  | _ => false) := rfl
@[simp] theorem ev_dataOf_sl (i : Nat) (S : Sl) : dataOf (.sl i) S = (match S[i]? with
  | some (some (.v d)) => some d
  | _ => none) := rfl
@[simp] theorem ev_dataOf_v (d : DV) (S : Sl) : dataOf (.v (.v d)) S = some d := rfl
@[simp] theorem ev_ret_sl (i : Nat) (S : Sl) : retOf (.sl i) S = (match S[i]? with
  | some (some r) => if r.isPin then none else some r
  | _ => none) := rfl
@[simp] theorem ev_asSeqS_lst (l : List DV) : asSeqS (.lst l) = M.pure l := rfl
@[simp] theorem ev_asSeqS_tup (l : List DV) : asSeqS (.tup l) = M.pure l := rfl
@[simp] theorem ev_asSeqS_str (x : Str) : asSeqS (.str x) = M.pure (signsDV x) := rfl
@[simp] theorem ev_asEnum (l : List DV) : asEnum [.lst l] = M.pure (enumDV l) := rfl
@[simp] theorem tru_bl (b : Bool) : truDV (.bl b) = some b := rfl
@[simp] theorem fLt_int (i j : Int) : fLt (.int i) (.int j) = some (decide (i < j)) := rfl
@[simp] theorem fGt_int (i j : Int) : fGt (.int i) (.int j) = some (decide (j < i)) := rfl
@[simp] theorem fLe_int (i j : Int) : fLe (.int i) (.int j) = some (decide (i ≤ j)) := rfl
@[simp] theorem fGe_int (i j : Int) : fGe (.int i) (.int j) = some (decide (j ≤ i)) := rfl
@[simp] theorem fAdd_int (i j : Int) : fAdd (.int i) (.int j) = some (.v (.int (i + j))) := rfl
@[simp] theorem fSub_int (i j : Int) : fSub (.int i) (.int j) = some (.v (.int (i - j))) := rfl
@[simp] theorem fAbs_int (i : Int) : fAbs [.int i] = some (.v (.int (if i < 0 then -i else i))) := rfl
@[simp] theorem fInt_int (i : Int) : fInt [.int i] = some (.v (.int i)) := rfl
@[simp] theorem fLenB_lst (l : List DV) : fLenB [.lst l] = some (.v (.int l.length)) := rfl
@[simp] theorem fLenB_tup (l : List DV) : fLenB [.tup l] = some (.v (.int l.length)) := rfl
@[simp] theorem fLenB_tuf (l : List DV) : fLenB [.tuf l] = some (.v (.int l.length)) := rfl
@[simp] theorem fLenB_scr (l : List Int) : fLenB [.scr l] = some (.v (.int l.length)) := rfl
@[simp] theorem fLenB_dct (l : List (Key × DV)) : fLenB [.dct l] = some (.v (.int l.length)) := rfl
theorem fLenB_str {x : Str} (h : x.length ≤ sizeLine) : fLenB [.str x] = some (.v (.int x.length)) := by
  show (if x.length ≤ sizeLine then some (RV.v (DV.int x.length)) else none) = _
  rw [if_pos h]
theorem eqV_int (i j : Int) : eqV (.int i) (.int j) = decide (i = j) := by
  show (i == j) = _
  rfl
@[simp] theorem eqA2_int (i j : Int) : eqA2 (.int i) (.int j) = some (decide (i = j)) := by
  show some (eqV (.int i) (.int j)) = _
  rw [eqV_int]
@[simp] theorem fTupOf_lst (l : List DV) : fTupOf [.lst l] = some (.v (.tup l)) := rfl
@[simp] theorem fTupOf_tup (l : List DV) : fTupOf [.tup l] = some (.v (.tup l)) := rfl
@[simp] theorem fTupF_lst (l : List DV) : fTupF [.lst l] = some (.v (.tuf l)) := rfl
@[simp] theorem fListOf_lst (l : List DV) : fListOf [.lst l] = some (.ol false l) := rfl
@[simp] theorem fListOf_tup (l : List DV) : fListOf [.tup l] = some (.ol false l) := rfl
/-! ### comprehensions -/
/-- one round of a comprehension that leaves the rest as it is -/
def CStep (vs : List Nat) (g : GM) (t : M Bool) (e : M DV) (S0 : Sl) (d : DV) : Option DV → Prop
  | none => ∃ S1 S2, g d S0 = some S1 ∧ t S1 = .ok false S2 ∧ wipeS S2 vs = S0
  | some y => ∃ S1 S2 S3, g d S0 = some S1 ∧ t S1 = .ok true S2 ∧ e S2 = .ok y S3 ∧ wipeS S3 vs = S0
theorem compL_pure {vs : List Nat} {g : GM} {t : M Bool} {e : M DV} {S0 : Sl} (f : DV → Option DV) : ∀ (ds acc : List DV), (∀ d ∈ ds, CStep vs g t e S0 d (f d)) → acc.length + ds.length ≤ sizeLine → compL vs g t e ds acc S0 = some (acc ++ ds.filterMap f, S0)
  | [], acc, _, _ => by simp [compL]
  | d :: ds, acc, h, hl => by
    have hd := h d List.mem_cons_self
    have ht : ∀ x ∈ ds, CStep vs g t e S0 x (f x) := fun x hx => h x (List.mem_cons_of_mem _ hx)
    simp only [List.length_cons] at hl
    cases hf : f d with
    | none =>
      rw [hf] at hd
      obtain ⟨S1, S2, e1, e2, e3⟩ := hd
      unfold compL
      rw [e1]; dsimp only; rw [e2]; dsimp only
      rw [e3, compL_pure f ds acc ht (by omega), List.filterMap_cons, hf]
    | some y =>
      rw [hf] at hd
      obtain ⟨S1, S2, S3, e1, e2, e3, e4⟩ := hd
      unfold compL
      rw [e1]; dsimp only; rw [e2]; dsimp only; rw [e3]; dsimp only
      rw [if_pos (by omega), e4, compL_pure f ds (acc ++ [y]) ht (by simp; omega), List.filterMap_cons, hf, List.append_assoc]
      rfl
theorem compM_pure {vs : List Nat} {g : GM} {t : M Bool} {e : M DV} {ds : List DV} {S : Sl} (f : DV → Option DV) (h : ∀ d ∈ ds, CStep vs g t e (wipeS S vs) d (f d)) (hl : ds.length ≤ sizeLine) (hn : noOwn S vs = true) :
    compM vs g t e ds S = .ok (.v (.ol false (ds.filterMap f))) (restS S (wipeS S vs) vs) := by
  unfold compM
  rw [if_pos hn, compL_pure f ds [] h (by simpa using hl)]
  rfl
theorem compM_map {vs : List Nat} {g : GM} {t : M Bool} {e : M DV} {ds : List DV} {S : Sl} (f : DV → DV) (h : ∀ d ∈ ds, CStep vs g t e (wipeS S vs) d (some (f d))) (hl : ds.length ≤ sizeLine) (hn : noOwn S vs = true) :
    compM vs g t e ds S = .ok (.v (.ol false (ds.map f))) (restS S (wipeS S vs) vs) := by
  rw [compM_pure (fun d => some (f d)) h hl hn, List.filterMap_eq_map']
/-- .. that draws: what is told of each item -/
inductive CRel (P : DV → Option DV → Prop) : List DV → List DV → Prop
  | nil : CRel P [] []
  | skip {d : DV} {ds ys : List DV} : P d none → CRel P ds ys → CRel P (d :: ds) ys
  | take {d y : DV} {ds ys : List DV} : P d (some y) → CRel P ds ys → CRel P (d :: ds) (y :: ys)
theorem compL_rel {vs : List Nat} {g : GM} {t : M Bool} {e : M DV} (I : Sl → Prop) (P : DV → Option DV → Prop) : ∀ (ds acc : List DV) (S : Sl), (∀ d ∈ ds, ∀ S, I S → ∃ S1, g d S = some S1 ∧ ((∃ S2, t S1 = .ok false S2 ∧ I (wipeS S2 vs) ∧ P d none) ∨ ∃ S2 S3 y, t S1 = .ok true S2 ∧ e S2 = .ok y S3 ∧ I (wipeS S3 vs) ∧ P d (some y))) →
    I S → acc.length + ds.length ≤ sizeLine → ∃ ys S', compL vs g t e ds acc S = some (acc ++ ys, S') ∧ I S' ∧ CRel P ds ys
  | [], acc, S, _, hS, _ => ⟨[], S, by simp [compL], hS, .nil⟩
  | d :: ds, acc, S, h, hS, hl => by
    have ht : ∀ x ∈ ds, ∀ S, I S → _ := fun x hx => h x (List.mem_cons_of_mem _ hx)
    simp only [List.length_cons] at hl
    obtain ⟨S1, e1, z⟩ := h d List.mem_cons_self S hS
    rcases z with ⟨S2, e2, i2, p⟩ | ⟨S2, S3, y, e2, e3, i3, p⟩
    · obtain ⟨ys, S', q1, q2, q3⟩ := compL_rel I P ds acc _ ht i2 (by omega)
      refine ⟨ys, S', ?_, q2, .skip p q3⟩
      unfold compL
      rw [e1]; dsimp only; rw [e2]; dsimp only
      exact q1
    · obtain ⟨ys, S', q1, q2, q3⟩ := compL_rel I P ds (acc ++ [y]) _ ht i3 (by simp; omega)
      refine ⟨y :: ys, S', ?_, q2, .take p q3⟩
      unfold compL
      rw [e1]; dsimp only; rw [e2]; dsimp only; rw [e3]; dsimp only
      rw [if_pos (by omega), q1, List.append_assoc]
      rfl
theorem compM_rel {vs : List Nat} {g : GM} {t : M Bool} {e : M DV} {ds : List DV} {S : Sl} (I : Sl → Prop) (P : DV → Option DV → Prop) (h : ∀ d ∈ ds, ∀ S, I S → ∃ S1, g d S = some S1 ∧ ((∃ S2, t S1 = .ok false S2 ∧ I (wipeS S2 vs) ∧ P d none) ∨ ∃ S2 S3 y, t S1 = .ok true S2 ∧ e S2 = .ok y S3 ∧ I (wipeS S3 vs) ∧ P d (some y)))
    (hS : I (wipeS S vs)) (hl : ds.length ≤ sizeLine) (hn : noOwn S vs = true) : ∃ ys S', compM vs g t e ds S = .ok (.v (.ol false ys)) (restS S S' vs) ∧ I S' ∧ CRel P ds ys := by
  obtain ⟨ys, S', q1, q2, q3⟩ := compL_rel I P ds [] _ h hS (by simpa using hl)
  refine ⟨ys, S', ?_, q2, q3⟩
  unfold compM
  rw [if_pos hn, q1]
  rfl
theorem CRel.length {P : DV → Option DV → Prop} (hp : ∀ d, ¬ P d none) : ∀ {ds ys : List DV}, CRel P ds ys → ys.length = ds.length
  | _, _, .nil => rfl
  | _, _, .skip p _ => absurd p (hp _)
  | _, _, .take _ q => congrArg (· + 1) (CRel.length hp q)
/-! ### loops -/
theorem loopM_ok {g : GM} {body : SM} : ∀ {ds : List DV} {S : Sl} (I : Nat → Sl → Prop) (k : Nat), (∀ (i : Nat) (d : DV), ds[i]? = some d → ∀ S, I (k + i) S → ∃ S1 S2, g d S = some S1 ∧ body S1 = .nx S2 ∧ I (k + i + 1) S2) → I k S → ∃ S', loopM g body ds S = .nx S' ∧ I (k + ds.length) S'
  | [], S, I, k, _, hS => ⟨S, rfl, by simpa using hS⟩
  | d :: ds, S, I, k, h, hS => by
    obtain ⟨S1, S2, e1, e2, i2⟩ := h 0 d rfl S hS
    obtain ⟨S', e3, i3⟩ := loopM_ok (g := g) (body := body) (ds := ds) (S := S2) I (k + 1) (fun i d hd S hI => by
      have := h (i + 1) d (by simpa using hd) S (by rw [show k + (i + 1) = k + 1 + i by omega]; exact hI)
      rw [show k + (i + 1) + 1 = k + 1 + i + 1 by omega] at this
      exact this) i2
    refine ⟨S', ?_, by rw [List.length_cons, show k + (ds.length + 1) = k + 1 + ds.length by omega]; exact i3⟩
    unfold loopM
    rw [e1]; dsimp only; rw [e2]; dsimp only
    exact e3
/-- a loop that changes nothing behind each round -/
theorem loopM_same {g : GM} {body : SM} {S0 : Sl} : ∀ {ds : List DV} {S : Sl} (I : Sl → Prop), (∀ d ∈ ds, ∀ S, I S → ∃ S1 S2, g d S = some S1 ∧ body S1 = .nx S2 ∧ I S2) → I S → ∃ S', loopM g body ds S = .nx S' ∧ I S'
  | [], S, I, _, hS => ⟨S, rfl, hS⟩
  | d :: ds, S, I, h, hS => by
    obtain ⟨S1, S2, e1, e2, i2⟩ := h d List.mem_cons_self S hS
    obtain ⟨S', e3, i3⟩ := loopM_same (g := g) (body := body) (S0 := S0) (ds := ds) (S := S2) I (fun x hx => h x (List.mem_cons_of_mem _ hx)) i2
    refine ⟨S', ?_, i3⟩
    unfold loopM
    rw [e1]; dsimp only; rw [e2]; dsimp only
    exact e3
theorem fAll_true {l : List DV} (h : ∀ d ∈ l, d = .bl true) : fAll [.lst l] = some (.v (.bl true)) := by
  have e : boolsDV l = some (List.replicate l.length true) := by
    induction l with
    | nil => rfl
    | cons d l ih =>
      have := h d List.mem_cons_self
      subst this
      show (boolsDV l).map (true :: ·) = _
      rw [ih fun x hx => h x (List.mem_cons_of_mem _ hx)]
      rfl
  show (boolsDV l).map _ = _
  rw [e]
  simp
/-! ### kinds -/
@[simp] theorem tyN_non : tyN .non = some "NoneType" := rfl
@[simp] theorem tyN_bl (b : Bool) : tyN (.bl b) = some "bool" := rfl
@[simp] theorem tyN_int (i : Int) : tyN (.int i) = some "int" := rfl
@[simp] theorem tyN_str (x : Str) : tyN (.str x) = some "str" := rfl
@[simp] theorem tyN_lst (l : List DV) : tyN (.lst l) = some "list" := rfl
@[simp] theorem tyN_tup (l : List DV) : tyN (.tup l) = some "tuple" := rfl
@[simp] theorem tyN_dct (l : List (Key × DV)) : tyN (.dct l) = some "dict" := rfl
@[simp] theorem ev_isTab (t T : String) : isTab t T = (decide (t = T) || (decide (t = "bool") && decide (T = "int"))) := rfl
@[simp ↓] theorem ev_ite_M {α : Type} (c : Prop) [Decidable c] (a b : M α) (S : Sl) : (if c then a else b) S = if c then a S else b S := by split <;> rfl
@[simp ↓] theorem ev_ite_SM (c : Prop) [Decidable c] (a b : SM) (S : Sl) : (if c then a else b) S = if c then a S else b S := by split <;> rfl
/-! ### behind `generalize hc : .. = o` -/
theorem comp_rel {vs : List Nat} {g : GM} {t : M Bool} {e : M DV} {ds : List DV} {S : Sl} {o : Out Opd} (hc : compM vs g t e ds S = o) (I : Sl → Prop) (P : DV → Option DV → Prop) (h : ∀ d ∈ ds, ∀ S, I S → ∃ S1, g d S = some S1 ∧ ((∃ S2, t S1 = .ok false S2 ∧ I (wipeS S2 vs) ∧ P d none) ∨ ∃ S2 S3 y, t S1 = .ok true S2 ∧ e S2 = .ok y S3 ∧ I (wipeS S3 vs) ∧ P d (some y)))
    (hS : I (wipeS S vs)) (hl : ds.length ≤ sizeLine) (hn : noOwn S vs = true) : ∃ ys S', o = .ok (.v (.ol false ys)) (restS S S' vs) ∧ I S' ∧ CRel P ds ys := by
  subst hc
  exact compM_rel I P h hS hl hn
theorem loop_same {g : GM} {body : SM} {ds : List DV} {S : Sl} {o : SOut} (hc : loopM g body ds S = o) (I : Sl → Prop) (h : ∀ d ∈ ds, ∀ S, I S → ∃ S1 S2, g d S = some S1 ∧ body S1 = .nx S2 ∧ I S2) (hS : I S) : ∃ S', o = .nx S' ∧ I S' := by
  subst hc
  exact loopM_same (S0 := []) I h hS
theorem loop_ok {g : GM} {body : SM} {ds : List DV} {S : Sl} {o : SOut} (hc : loopM g body ds S = o) (I : Nat → Sl → Prop) (h : ∀ (i : Nat) (d : DV), ds[i]? = some d → ∀ S, I i S → ∃ S1 S2, g d S = some S1 ∧ body S1 = .nx S2 ∧ I (i + 1) S2) (hS : I 0 S) : ∃ S', o = .nx S' ∧ I ds.length S' := by
  subst hc
  have := loopM_ok (g := g) (body := body) (ds := ds) I 0 (fun i d hd S hI => by simpa using h i d hd S (by simpa using hI)) hS
  simpa using this
@[simp] theorem fIsN_non  : fIsN .non .non = some true := rfl
@[simp] theorem fNotN_non  : fNotN .non .non = some false := rfl
@[simp] theorem fIsN_bl (b : Bool) : fIsN (.bl b) .non = some false := rfl
@[simp] theorem fNotN_bl (b : Bool) : fNotN (.bl b) .non = some true := rfl
@[simp] theorem fIsN_int (i : Int) : fIsN (.int i) .non = some false := rfl
@[simp] theorem fNotN_int (i : Int) : fNotN (.int i) .non = some true := rfl
@[simp] theorem fIsN_str (x : Str) : fIsN (.str x) .non = some false := rfl
@[simp] theorem fNotN_str (x : Str) : fNotN (.str x) .non = some true := rfl
@[simp] theorem fIsN_lst (l : List DV) : fIsN (.lst l) .non = some false := rfl
@[simp] theorem fNotN_lst (l : List DV) : fNotN (.lst l) .non = some true := rfl
@[simp] theorem fIsN_tup (l : List DV) : fIsN (.tup l) .non = some false := rfl
@[simp] theorem fNotN_tup (l : List DV) : fNotN (.tup l) .non = some true := rfl
@[simp] theorem fIsN_tuf (l : List DV) : fIsN (.tuf l) .non = some false := rfl
@[simp] theorem fNotN_tuf (l : List DV) : fNotN (.tuf l) .non = some true := rfl
@[simp] theorem fIsN_dct (l : List (Key × DV)) : fIsN (.dct l) .non = some false := rfl
@[simp] theorem fNotN_dct (l : List (Key × DV)) : fNotN (.dct l) .non = some true := rfl
theorem backM_of {good : DV → Bool} {d : DV} (h : good d = true) (S : Sl) : backM good (.v (.v d)) S = .ok (.v (.v d)) S := if_pos h
theorem oneM_of {c : Str} {f : FSem} {good : DV → Bool} {F : List DV → Option RV} {o : Opd} {S : Sl} {gs : List (Str × DV)} {d : DV} {outs : List RV} (hf : f [.v (.ins c gs)] = .ret (.v d) outs) (hg : good d = true) (hi : isIns o S = true) (ho : dataOf o S = some (.ins c gs)) :
    oneM c f good F o S = .ok (.v (.v d)) S := by
  unfold oneM
  rw [if_pos hi, ho]
  dsimp only
  rw [if_pos rfl]
  unfold callF
  simp only [List.map_cons, List.map_nil, List.length_cons, List.length_nil, Nat.zero_add, if_true, ev_bind]
  rw [hf]
  simp only [rv_pin_v, Bool.false_eq_true, if_false]
  exact backM_of hg S
end Lb
/-! How long a repr may be. -/
namespace Lb
open PySem PySem.Spec PyProof.Rows L2
/-- repr is there, of at most n signs, at most k deep -/
def Sz (n k : Nat) (d : DV) : Prop := ∃ p, toPy d = some p ∧ p.showable = true ∧ p.shown.length ≤ n ∧ p.depth ≤ k
theorem Sz.mono {n n' k k' : Nat} {d : DV} (h : Sz n k d) (a : n ≤ n') (b : k ≤ k') : Sz n' k' d := by
  obtain ⟨p, h1, h2, h3, h4⟩ := h
  exact ⟨p, h1, h2, by omega, by omega⟩
theorem sz_str {x : Str} {m : Nat} (h : x.length ≤ m) (hc : ∀ c ∈ x.cps.toList, c < 16 ^ 8) : Sz (10 * m + 2) 0 (.str x) := by
  refine ⟨.str x, rfl, rfl, ?_, Nat.le_refl _⟩
  exact Nat.le_trans (PySem.StrLaws.reprText_len x hc) (by omega)
theorem sz_int {i : Int} (h0 : 0 ≤ i) (h : i < 10000000000) : Sz 10 0 (.int i) := by
  refine ⟨.int i, rfl, ?_, toString_length_le h0 (by decide) (by simpa using h), Nat.le_refl _⟩
  show decide (i.natAbs.log2 < 1920) = true
  have : i.natAbs < 2 ^ 40 := by omega
  have h2 : i.natAbs.log2 < 40 := by
    by_cases z : i.natAbs = 0
    · rw [z]; decide
    · exact (Nat.log2_lt z).mpr this
  exact decide_eq_true (by omega)
theorem sz_bl (b : Bool) : Sz 5 0 (.bl b) := ⟨.bool b, rfl, rfl, by cases b <;> decide, Nat.le_refl _⟩
theorem sz_non : Sz 4 0 .non := ⟨.none, rfl, rfl, by decide, Nat.le_refl _⟩
theorem sz_all {n k : Nat} : ∀ {L : List DV}, (∀ d ∈ L, Sz n k d) → ∃ ps, toPys L = some ps ∧ ps.length = L.length ∧ PyData.showableAll ps = true ∧ ((PyData.shownAll ps).map (fun x : Str => x.length)).sum ≤ n * L.length ∧ PyData.depthAll ps ≤ k ∧ (PyData.shownAll ps).length = L.length
  | [], _ => ⟨[], rfl, rfl, rfl, Nat.zero_le _, Nat.zero_le _, rfl⟩
  | d :: L, h => by
    obtain ⟨p, e, h1, h2, h3⟩ := h d List.mem_cons_self
    obtain ⟨ps, e2, g1, g2, g3, g4, g5⟩ := sz_all fun x hx => h x (List.mem_cons_of_mem _ hx)
    refine ⟨p :: ps, by simp only [toPys, e, e2], by simp [g1], by simp [PyData.showableAll, h1, g2], ?_, ?_, by simp [PyData.shownAll, g5]⟩
    · simp only [PyData.shownAll, List.map_cons, List.sum_cons, List.length_cons]
      rw [Nat.mul_succ]; omega
    · simp only [PyData.depthAll]
      exact Nat.max_le.mpr ⟨h3, g4⟩
theorem sz_lst {n k m : Nat} {L : List DV} (h : ∀ d ∈ L, Sz n k d) (hm : L.length ≤ m) : Sz ((n + 2) * m + 2) (k + 1) (.lst L) := by
  obtain ⟨ps, e, g1, g2, g3, g4, g5⟩ := sz_all h
  refine ⟨.list ps, by simp only [toPy, e, Option.map_some], by simpa [PyData.showable] using g2, ?_, by simp only [PyData.depth]; omega⟩
  have := listText_le (PyData.shownAll ps)
  have e1 : ((PyData.shownAll ps).map (·.length)).sum = ((PyData.shownAll ps).map (fun x : Str => x.length)).sum := rfl
  have h5 : (n + 2) * L.length ≤ (n + 2) * m := Nat.mul_le_mul_left _ hm
  have h6 : (n + 2) * L.length = n * L.length + 2 * L.length := Nat.add_mul _ _ _
  show (listText (PyData.shownAll ps)).length ≤ _
  omega
theorem join_le : ∀ ts : List Str, (Str.join ", " ts).length ≤ (ts.map (fun x : Str => x.length)).sum + 2 * ts.length
  | [] => by simp [Str.join, Str.empty, Str.length]
  | [x] => by simp [Str.join]
  | x :: y :: r => by
    have ih := join_le (y :: r)
    show (x ++ ", " ++ Str.join ", " (y :: r)).length ≤ _
    have e2 : ((", " : String) : Str).length = 2 := rfl
    rw [strLen_append, strLen_append, e2]
    simp only [List.map_cons, List.sum_cons, List.length_cons] at ih ⊢
    omega
theorem sz_tup {n k m : Nat} {L : List DV} (h : ∀ d ∈ L, Sz n k d) (hm : L.length ≤ m) : Sz ((n + 2) * m + 3) (k + 1) (.tup L) := by
  obtain ⟨ps, e, g1, g2, g3, g4, g5⟩ := sz_all h
  refine ⟨.tuple ps, by simp only [toPy, e, Option.map_some], by simpa [PyData.showable] using g2, ?_, by simp only [PyData.depth]; omega⟩
  have := join_le (PyData.shownAll ps)
  have h5 : (n + 2) * L.length ≤ (n + 2) * m := Nat.mul_le_mul_left _ hm
  have h6 : (n + 2) * L.length = n * L.length + 2 * L.length := Nat.add_mul _ _ _
  have e1 : ((("(" : String) : Str)).length = 1 := by decide
  have e2 : ∀ b : Bool, (((if b then ",)" else ")" : String) : Str)).length ≤ 2 := fun b => by cases b <;> decide
  show (("(" : Str) ++ Str.join ", " (PyData.shownAll ps) ++ (if (PyData.shownAll ps).length == 1 then ",)" else ")" : String)).length ≤ _
  rw [strLen_append, strLen_append, e1]
  have := e2 ((PyData.shownAll ps).length == 1)
  omega
theorem sz_kv {n k : Nat} : ∀ {L : List (Key × DV)}, (∀ q ∈ L, Sz n k (kD q.1) ∧ Sz n k q.2) → ∃ ps, toPyK L = some ps ∧ PyData.showableKv ps = true ∧ ((PyData.shownKv ps).map (fun x : Str => x.length)).sum ≤ (2 * n + 2) * L.length ∧ PyData.depthKv ps ≤ k ∧ (PyData.shownKv ps).length = L.length
  | [], _ => ⟨[], rfl, rfl, Nat.zero_le _, Nat.zero_le _, rfl⟩
  | q :: L, h => by
    obtain ⟨⟨pk, ek, k1, k2, k3⟩, ⟨p, e, h1, h2, h3⟩⟩ := h q List.mem_cons_self
    obtain ⟨ps, e2, g2, g3, g4, g5⟩ := sz_kv fun x hx => h x (List.mem_cons_of_mem _ hx)
    obtain ⟨ky, v⟩ := q
    have ek' : keyPy ky = pk := by
      cases ky <;> (simp only [kD, toPy, Option.some.injEq] at ek; exact ek)
    have ec : (((": " : String) : Str)).length = 2 := by decide
    refine ⟨(keyPy ky, p) :: ps, ?_, by simp [PyData.showableKv, h1, g2, ek', k1], ?_, ?_, by simp [PyData.shownKv, g5]⟩
    · show (match toPy v, toPyK L with | some p, some ps => some ((keyPy ky, p) :: ps) | _, _ => none) = _
      have e' : toPy v = some p := e
      rw [e', e2]
    · simp only [PyData.shownKv, List.map_cons, List.sum_cons, List.length_cons]
      rw [strLen_append, strLen_append, ec, ek', Nat.mul_succ]; omega
    · simp only [PyData.depthKv]
      rw [ek']
      exact Nat.max_le.mpr ⟨Nat.max_le.mpr ⟨k3, h3⟩, g4⟩
theorem sz_dct {n k m : Nat} {L : List (Key × DV)} (h : ∀ q ∈ L, Sz n k (kD q.1) ∧ Sz n k q.2) (hm : L.length ≤ m) : Sz ((2 * n + 4) * m + 2) (k + 1) (.dct L) := by
  obtain ⟨ps, e, g2, g3, g4, g5⟩ := sz_kv h
  refine ⟨.dict ps, by simp only [toPy, e, Option.map_some], by simpa [PyData.showable] using g2, ?_, by simp only [PyData.depth]; omega⟩
  have := join_le (PyData.shownKv ps)
  have h5 : (2 * n + 4) * L.length ≤ (2 * n + 4) * m := Nat.mul_le_mul_left _ hm
  have h6 : (2 * n + 4) * L.length = (2 * n + 2) * L.length + 2 * L.length := by rw [← Nat.add_mul]
  have e1 : ((("{" : String) : Str)).length = 1 := by decide
  have e2 : ((("}" : String) : Str)).length = 1 := by decide
  show (("{" : Str) ++ Str.join ", " (PyData.shownKv ps) ++ ("}" : Str)).length ≤ _
  rw [strLen_append, strLen_append, e1, e2]
  omega
theorem Sz.repr {n k : Nat} {d : DV} (h : Sz n k d) (hn : n ≤ 16777216) (hk : k ≤ 60) : ∃ z : Str, z.length ≤ n ∧ fRepr [d] = some (.v (.str z)) ∧ ∀ (o : Opd) (S : Sl), o.dv S = some d → reprM o S = .ok z S := by
  obtain ⟨p, h1, h2, h3, h4⟩ := h
  have hr : reprable p = true := by
    unfold reprable
    rw [h2, Bool.true_and, Bool.and_eq_true]
    exact ⟨decide_eq_true (by rw [sizeLine_eq]; omega), decide_eq_true (by omega)⟩
  refine ⟨p.shown, h3, ?_, fun o S ho => ?_⟩
  · show (match toPy d with
      | some p => if reprable p then some (RV.v (.str p.shown)) else none
      | none => none) = _
    rw [h1]
    exact if_pos hr
  · unfold reprM
    rw [ho]
    dsimp only
    rw [h1]
    exact if_pos hr
end Lb
namespace Law
open PySem PySem.Spec PyProof.Rows L2 Lb
def top (i : Nat) : Stmt := PySem.Challenge.pw_loosebeats_k15_whole_reactions_that_agre.main.body.getD i (.Pass ⟨0, 0, 0, 0⟩)
theorem room200 {A : Around} {k : Nat} (h : Room k A) : A.units + 200 < cLine := by have := h.un; omega
theorem room64 {A : Around} {k : Nat} (h : Room k A) : A.units + 64 < cLine := by have := h.un; omega
def tabE : List Str := [("InvalidIns" : Str), ("InvalidOuts" : Str), ("InvalidStandings" : Str), ("InvalidReactions" : Str), ("InvalidReaction" : Str), ("InvalidNumber" : Str), ("InvalidStanding" : Str), ("SharedLine" : Str), ("NotAgreeing" : Str), ("TooMany" : Str)]
structure Bt (mg : Mg) : Prop where
  divmod_ : mg "divmod" = none
  int_ : mg "int" = none
  max_ : mg "max" = none
  min_ : mg "min" = none
  abs_ : mg "abs" = none
  len_ : mg "len" = none
  any_ : mg "any" = none
  all_ : mg "all" = none
  repr_ : mg "repr" = none
  isinstance_ : mg "isinstance" = none
  range_ : mg "range" = none
  enumerate_ : mg "enumerate" = none
  zip_ : mg "zip" = none
  list_ : mg "list" = none
  tuple_ : mg "tuple" = none
  dict_ : mg "dict" = none
  set_ : mg "set" = none
  sorted_ : mg "sorted" = none
  bool_ : mg "bool" = none
  str_ : mg "str" = none
def tabF_one : List Str := [("NotAgreeing" : Str)]
def tabF_other : List Str := [("NotAgreeing" : Str)]
def tabF_value : List Str := [("InvalidStandings" : Str), ("InvalidReaction" : Str), ("InvalidNumber" : Str), ("InvalidStanding" : Str), ("SharedLine" : Str)]
def sub_BeatError : Str → Bool := subOf [("InvalidIns" : Str), ("InvalidOuts" : Str), ("InvalidStandings" : Str), ("InvalidReactions" : Str), ("InvalidReaction" : Str), ("InvalidNumber" : Str), ("InvalidStanding" : Str)]
def sub_Machine : Str → Bool := subOf []
def sub_RuntimeError : Str → Bool := subOf [("SharedLine" : Str), ("NotAgreeing" : Str)]
def sub_StateError : Str → Bool := subOf [("SharedLine" : Str), ("NotAgreeing" : Str)]
def ca_InvalidNumber_sub : Str → Option Bool := subIn' tabE [("InvalidNumber" : Str)]
def ca_NotAgreeing_sub : Str → Option Bool := subIn' tabE [("NotAgreeing" : Str)]
section
variable {P : Program} {w : World} {K : PySem.W.Frag} {mg : Mg} {base : Heap}
def s_is_integer : Stmt := top 18
theorem sc_is_integer : FnScope ["value"] ["value"] (defScope s_is_integer) := ⟨rfl, rfl, rfl, by decide +kernel, rfl, by decide +kernel, by decide +kernel⟩
def m_is_integer : SM :=
  (SM.seq (M.thn (M.bind (M.bind (M.bind (getSl 0) (isiM ["int"])) truthOf) fun c => if c then (M.bind (M.bind (M.bind (getSl 0) (isiM ["bool"])) truthOf) fun c => kst (.bl (!c))) else kst (.bl false)) fun o S => .rt o S)
    SM.nil)
def f_is_integer : FSem := runDef m_is_integer 1
theorem b_is_integer {f : Addr} (T : Bt mg)  (cdv : Value) (A : Around) (outer : List Env) (s : Shared) (H : Hp) (E : XK) (hr : Room 0 (A.deeper (envOfC "is_integer" (defScope s_is_integer) s.heap.objs.size f cdv))) (hgd : A.guards = some []) :
    SXs (cxOf (L2.CX P w) P w K mg base ["value"] "is_integer" (defScope s_is_integer) f cdv A outer s H E) (defBody s_is_integer) m_is_integer :=
  (sxs_cons (sx_ret (px_and (px_isi1 (by decide) (by rfl) T.int_ (by decide +kernel) T.isinstance_ (px_var 0)) (px_one (px_not (px_isi1 (by decide) (by rfl) T.bool_ (by decide +kernel) T.isinstance_ (px_var 0))))))
    sxs_nil)
def s_is_name : Stmt := top 22
theorem sc_is_name : FnScope ["value", "letter"] ["value"] (defScope s_is_name) := ⟨rfl, rfl, rfl, by decide +kernel, rfl, by decide +kernel, by decide +kernel⟩
def m_is_name : SM :=
  (SM.seq (M.thn (M.bind (M.bind (M.bind (M.bind (getSl 0) (isiM ["str"])) truthOf) fun b => M.pure (!b)) fun c => if c then M.pure true else (M.bind (M.bind (M.bind (M.bind (getSl 0) fun o => M.bind (M.pure []) fun os => M.pure (o :: os)) (opN fLenB)) fun x => M.bind (kst (.int 1)) fun y => cmpB fLt x y) fun c => if c then M.pure true else (M.bind (M.bind (M.bind (getSl 0) fun o => M.bind (M.pure []) fun os => M.pure (o :: os)) (opN fLenB)) fun x => M.bind (kst (.int 8)) fun y => cmpB fGt x y))) fun b => if b then (SM.seq (M.thn (kst (.bl false)) fun o S => .rt o S)
    SM.nil) else SM.nil)
    (SM.seq (M.thn (M.bind (M.bind (M.bind (M.bind (M.bind (getSl 0) frz) asSeqS) (compM ([("letter", 1)].map (·.2)) (storeD 1) (M.pure true) (M.bind (M.bind (kst (.str "a")) fun x => M.bind (getSl 1) fun y => M.bind (cmpB fLe x y) fun k => if k then M.bind (kst (.str "z")) fun w => op2 (rvB fLe) y w else kst (.bl false)) frz))) fun o => M.bind (M.pure []) fun os => M.pure (o :: os)) (opN fAll)) fun o S => .rt o S)
    SM.nil))
def f_is_name : FSem := runDef m_is_name 2
theorem b_is_name {f : Addr} (T : Bt mg) (g_MOST_LETTERS : KGi mg "MOST_LETTERS" 8) (cdv : Value) (A : Around) (outer : List Env) (s : Shared) (H : Hp) (E : XK) (hr : Room 0 (A.deeper (envOfC "is_name" (defScope s_is_name) s.heap.objs.size f cdv))) (hgd : A.guards = some []) :
    SXs (cxOf (L2.CX P w) P w K mg base ["value", "letter"] "is_name" (defScope s_is_name) f cdv A outer s H E) (defBody s_is_name) m_is_name :=
  (sxs_cons (sx_if (bx_bool (bw_or (bx_not (bx_val (px_isi1 (by decide) (by rfl) T.str_ (by decide +kernel) T.isinstance_ (px_var 0)))) (bw_or (bx_cmp op_lt prim_lt (px_callB call_lenB prim_lenB (by rfl) T.len_ (by decide +kernel) (oxs_cons (px_var 0) oxs_nil)) px_int (nomark _)) (bw_or1 (bx_cmp op_gt prim_gt (px_callB call_lenB prim_lenB (by rfl) T.len_ (by decide +kernel) (oxs_cons (px_var 0) oxs_nil)) (px_gi g_MOST_LETTERS (by rfl)) (nomark _)))))) (sxs_cons (sx_ret px_bl)
    sxs_nil) sxs_nil)
    (sxs_cons (sx_ret (px_callB (cr_all rfl) prim_all (by rfl) T.all_ (by decide +kernel) (oxs_cons (px_lc rfl sc_is_name.nd (by exact (ix_seqS (fx_of (px_var 0)))) (blk_of (own := [("letter", 1)]) (by rfl)) (by decide) (fun s H C cl fp => (gx_name 1 sc_is_name.nd rfl (by first | exact Or.inl rfl | exact Or.inr rfl))) (fun s H C cl fp => txs_nil) (fun s H C cl fp => (fx_of (px_chain op_leA prim_le op_leA prim_le px_str (px_var 1) px_str)))) oxs_nil)))
    sxs_nil))
def s_is_list : Stmt := top 23
theorem sc_is_list : FnScope ["value"] ["value"] (defScope s_is_list) := ⟨rfl, rfl, rfl, by decide +kernel, rfl, by decide +kernel, by decide +kernel⟩
def m_is_list : SM :=
  (SM.seq (M.thn (M.bind (getSl 0) (isiM ["list", "tuple"])) fun o S => .rt o S)
    SM.nil)
def f_is_list : FSem := runDef m_is_list 1
theorem b_is_list {f : Addr} (T : Bt mg)  (cdv : Value) (A : Around) (outer : List Env) (s : Shared) (H : Hp) (E : XK) (hr : Room 0 (A.deeper (envOfC "is_list" (defScope s_is_list) s.heap.objs.size f cdv))) (hgd : A.guards = some []) :
    SXs (cxOf (L2.CX P w) P w K mg base ["value"] "is_list" (defScope s_is_list) f cdv A outer s H E) (defBody s_is_list) m_is_list :=
  (sxs_cons (sx_ret (px_isi2 (by decide) (by decide) (by rfl) T.list_ (by decide +kernel) (by rfl) T.tuple_ (by decide +kernel) T.isinstance_ (px_var 0)))
    sxs_nil)
def s_is_tuple : Stmt := top 24
theorem sc_is_tuple : FnScope ["value", "many"] ["value", "many"] (defScope s_is_tuple) := ⟨rfl, rfl, rfl, by decide +kernel, rfl, by decide +kernel, by decide +kernel⟩
def m_is_tuple : SM :=
  (SM.seq (M.thn (M.bind (M.bind (M.bind (getSl 0) (isiM ["tuple"])) truthOf) fun c => if c then (M.bind (M.bind (M.bind (getSl 0) fun o => M.bind (M.pure []) fun os => M.pure (o :: os)) (opN fLenB)) fun x => M.bind (getSl 1) fun y => op2 (rvB eqA2) x y) else kst (.bl false)) fun o S => .rt o S)
    SM.nil)
def f_is_tuple : FSem := runDef m_is_tuple 2
theorem b_is_tuple {f : Addr} (T : Bt mg)  (cdv : Value) (A : Around) (outer : List Env) (s : Shared) (H : Hp) (E : XK) (hr : Room 0 (A.deeper (envOfC "is_tuple" (defScope s_is_tuple) s.heap.objs.size f cdv))) (hgd : A.guards = some []) :
    SXs (cxOf (L2.CX P w) P w K mg base ["value", "many"] "is_tuple" (defScope s_is_tuple) f cdv A outer s H E) (defBody s_is_tuple) m_is_tuple :=
  (sxs_cons (sx_ret (px_and (px_isi1 (by decide) (by rfl) T.tuple_ (by decide +kernel) T.isinstance_ (px_var 0)) (px_one (px_cmp (op_eqA2 (room64 hr)) prim_eqA2 (px_callB call_lenB prim_lenB (by rfl) T.len_ (by decide +kernel) (oxs_cons (px_var 0) oxs_nil)) (px_var 1) (nomark _)))))
    sxs_nil)
def s_is_line : Stmt := top 25
theorem sc_is_line : FnScope ["value", "lines"] ["value", "lines"] (defScope s_is_line) := ⟨rfl, rfl, rfl, by decide +kernel, rfl, by decide +kernel, by decide +kernel⟩
def m_is_line : SM :=
  (SM.seq (M.thn (M.bind (M.bind (M.bind (getSl 0) (isiM ["str"])) truthOf) fun c => if c then (M.bind (getSl 0) fun x => M.bind (getSl 1) fun y => op2 (rvB fIn) x y) else kst (.bl false)) fun o S => .rt o S)
    SM.nil)
def f_is_line : FSem := runDef m_is_line 2
theorem b_is_line {f : Addr} (T : Bt mg)  (cdv : Value) (A : Around) (outer : List Env) (s : Shared) (H : Hp) (E : XK) (hr : Room 0 (A.deeper (envOfC "is_line" (defScope s_is_line) s.heap.objs.size f cdv))) (hgd : A.guards = some []) :
    SXs (cxOf (L2.CX P w) P w K mg base ["value", "lines"] "is_line" (defScope s_is_line) f cdv A outer s H E) (defBody s_is_line) m_is_line :=
  (sxs_cons (sx_ret (px_and (px_isi1 (by decide) (by rfl) T.str_ (by decide +kernel) T.isinstance_ (px_var 0)) (px_one (px_cmp (op_inA (room64 hr)) prim_inA (px_var 0) (px_var 1) (by with_unfolding_all rfl)))))
    sxs_nil)
def s_paired : Stmt := top 36
theorem sc_paired : FnScope ["worths", "lines", "line"] ["worths", "lines"] (defScope s_paired) := ⟨rfl, rfl, rfl, by decide +kernel, rfl, by decide +kernel, by decide +kernel⟩
def m_paired : SM :=
  (SM.seq (M.thn (M.bind (M.bind (M.bind (M.bind (M.bind (getSl 1) frz) asSeqS) (compM ([("line", 2)].map (·.2)) (storeD 2) (M.bind (getSl 2) fun x => M.bind (getSl 0) fun y => cmpB fIn x y) (M.bind (M.bind (M.bind (M.bind (getSl 2) frz) fun o => M.bind (M.bind (M.bind (M.bind (getSl 0) fun x => M.bind (getSl 2) fun y => op2 fIxA x y) frz) fun o => M.bind (M.pure []) fun os => M.pure (o :: os)) fun os => M.pure (o :: os)) mkT) frz))) fun o => M.bind (M.pure []) fun os => M.pure (o :: os)) (opN fTupF)) fun o S => .rt o S)
    SM.nil)
def f_paired : FSem := runDef m_paired 3
theorem b_paired {f : Addr} (T : Bt mg)  (cdv : Value) (A : Around) (outer : List Env) (s : Shared) (H : Hp) (E : XK) (hr : Room 0 (A.deeper (envOfC "paired" (defScope s_paired) s.heap.objs.size f cdv))) (hgd : A.guards = some []) :
    SXs (cxOf (L2.CX P w) P w K mg base ["worths", "lines", "line"] "paired" (defScope s_paired) f cdv A outer s H E) (defBody s_paired) m_paired :=
  (sxs_cons (sx_ret (px_callTy call_tupF prim_tupF (by rfl) T.tuple_ (by decide +kernel) (oxs_cons (px_lc rfl sc_paired.nd (by exact (ix_seqS (fx_of (px_var 1)))) (blk_of (own := [("line", 2)]) (by rfl)) (by decide) (fun s H C cl fp => (gx_name 2 sc_paired.nd rfl (by first | exact Or.inl rfl | exact Or.inr rfl))) (fun s H C cl fp => (txs_one (bx_cmp (op_inA (room64 hr)) prim_inA (px_var 2) (px_var 0) (by with_unfolding_all rfl)))) (fun s H C cl fp => (fx_of (px_tup (fxs_cons (fx_of (px_var 2)) (fxs_cons (fx_of (px_ixA (room64 hr) (px_var 0) (px_var 2))) fxs_nil)))))) oxs_nil)))
    sxs_nil)
def s_law_pot : Stmt := top 45
theorem sc_law_pot : FnScope ["_law_script", "_law_k", "_law_cell"] ["_law_script", "_law_k"] (defScope s_law_pot) := ⟨rfl, rfl, rfl, by decide +kernel, rfl, by decide +kernel, by decide +kernel⟩
def m_law_pot : SM :=
  (SM.seq (M.thn (M.bind (M.bind (getSl 1) fun x => M.bind (M.bind (M.bind (getSl 0) fun o => M.bind (M.pure []) fun os => M.pure (o :: os)) (opN fLenB)) fun y => cmpB fLt x y) fun k => if k then (M.bind (M.bind (M.bind (getSl 0) fun x => M.bind (getSl 1) fun y => op2 fIxA x y) fun o => M.bind (M.pure []) fun os => M.pure (o :: os)) (opN fAbs)) else (M.bind (M.bind (kst (.int 53)) fun x => M.bind (getSl 1) fun y => op2 fMulB x y) fun x => M.bind (kst (.int 19)) fun y => op2 fAdd x y)) (setSl 2))
    (SM.seq (M.thn (M.bind (M.bind (M.bind (M.bind (M.bind (kst (.int 0)) fun o => M.bind (M.bind (M.bind (getSl 2) fun x => M.bind (M.bind (kst (.int 10)) fun x => M.bind (kst (.int 18)) fun y => op2 fPow x y) fun y => op2 fSub x y) fun o => M.bind (M.pure []) fun os => M.pure (o :: os)) fun os => M.pure (o :: os)) (opN fMax)) frz) fun o => M.bind (M.bind (M.bind (M.bind (M.bind (M.bind (M.bind (M.bind (M.bind (M.bind (M.bind (M.bind (M.bind (getSl 2) fun o => M.bind (M.pure []) fun os => M.pure (o :: os)) (opN fInt)) fun x => M.bind (kst (.int 2147483579)) fun y => op2 fMod x y) fun x => M.bind (kst (.int 48271)) fun y => op2 fMulB x y) fun x => M.bind (M.bind (kst (.int 60091)) fun x => M.bind (getSl 1) fun y => op2 fMulB x y) fun y => op2 fAdd x y) fun x => M.bind (kst (.int 47)) fun y => op2 fAdd x y) fun o => M.bind (M.pure []) fun os => M.pure (o :: os)) (opN fInt)) fun x => M.bind (kst (.int 2147483563)) fun y => op2 fMod x y) fun x => M.bind (kst (.int 1)) fun y => op2 fAdd x y) frz) fun o => M.bind (M.pure []) fun os => M.pure (o :: os)) fun os => M.pure (o :: os)) mkL) fun o S => .rt o S)
    SM.nil))
def f_law_pot : FSem := runDef m_law_pot 3
theorem b_law_pot {f : Addr} (T : Bt mg)  (cdv : Value) (A : Around) (outer : List Env) (s : Shared) (H : Hp) (E : XK) (hr : Room 0 (A.deeper (envOfC "_law_pot" (defScope s_law_pot) s.heap.objs.size f cdv))) (hgd : A.guards = some []) :
    SXs (cxOf (L2.CX P w) P w K mg base ["_law_script", "_law_k", "_law_cell"] "_law_pot" (defScope s_law_pot) f cdv A outer s H E) (defBody s_law_pot) m_law_pot :=
  (sxs_cons (sx_set 2 sc_law_pot.nd rfl (by first | exact Or.inl rfl | exact Or.inr rfl) (px_ifE (bx_cmp op_lt prim_lt (px_var 1) (px_callB call_lenB prim_lenB (by rfl) T.len_ (by decide +kernel) (oxs_cons (px_var 0) oxs_nil)) (nomark _)) (px_callB call_abs prim_abs (by rfl) T.abs_ (by decide +kernel) (oxs_cons (px_ixA (room64 hr) (px_var 0) (px_var 1)) oxs_nil)) (px_op2 op_addA prim_add (px_op2 op_mulB prim_mulB px_int (px_var 1)) px_int)))
    (sxs_cons (sx_ret (px_lst (fxs_cons (fx_of (px_callB (call_max2 rfl) prim_max (by rfl) T.max_ (by decide +kernel) (oxs_cons px_int (oxs_cons (px_op2 op_sub prim_sub (px_var 2) (px_op2 op_pow prim_pow px_int px_int)) oxs_nil)))) (fxs_cons (fx_of (px_op2 op_addA prim_add (px_op2 op_mod prim_mod (px_callTy call_int1 prim_int (by rfl) T.int_ (by decide +kernel) (oxs_cons (px_op2 op_addA prim_add (px_op2 op_addA prim_add (px_op2 op_mulB prim_mulB (px_op2 op_mod prim_mod (px_callTy call_int1 prim_int (by rfl) T.int_ (by decide +kernel) (oxs_cons (px_var 2) oxs_nil)) px_int) px_int) (px_op2 op_mulB prim_mulB px_int (px_var 1))) px_int) oxs_nil)) px_int) px_int)) fxs_nil))))
    sxs_nil))
def s_law_draw : Stmt := top 46
theorem sc_law_draw : FnScope ["_law_pot_here", "_law_many", "_law_digit"] ["_law_pot_here", "_law_many"] (defScope s_law_draw) := ⟨rfl, rfl, rfl, by decide +kernel, rfl, by decide +kernel, by decide +kernel⟩
def m_law_draw : SM :=
  (SM.seq (M.thn (M.bind (M.bind (getSl 0) fun x => M.bind (kst (.int 0)) fun y => op2 fIxA x y) fun x => M.bind (kst (.int 0)) fun y => cmpB fGt x y) fun b => if b then (SM.seq (M.thn (M.bind (M.bind (M.bind (M.bind (getSl 0) fun x => M.bind (kst (.int 0)) fun y => op2 fIxA x y) fun o => M.bind (M.bind (getSl 1) fun o => M.bind (M.pure []) fun os => M.pure (o :: os)) fun os => M.pure (o :: os)) (opN fDivmod)) frz) (gSM (gTupM 2 (gConsM (storeAt 0 (kst (.int 0))) (gConsM (storeD 2) gNilM)))))
    (SM.seq (M.thn (getSl 2) fun o S => .rt o S)
    SM.nil)) else SM.nil)
    (SM.seq (M.thn (M.bind (M.bind (M.bind (M.bind (M.bind (M.bind (M.bind (getSl 0) fun x => M.bind (kst (.int 1)) fun y => op2 fIxA x y) fun x => M.bind (kst (.int 39373)) fun y => op2 fMulB x y) fun x => M.bind (kst (.int 16661)) fun y => op2 fAdd x y) fun o => M.bind (M.pure []) fun os => M.pure (o :: os)) (opN fInt)) fun x => M.bind (kst (.int 2147483629)) fun y => op2 fMod x y) frz) (gSM (storeAt 0 (kst (.int 1)))))
    (SM.seq (M.thn (M.bind (M.bind (M.bind (M.bind (M.bind (M.bind (M.bind (M.bind (M.bind (getSl 0) fun x => M.bind (kst (.int 1)) fun y => op2 fIxA x y) fun x => M.bind (M.bind (getSl 0) fun x => M.bind (kst (.int 1)) fun y => op2 fIxA x y) fun y => op2 fMulB x y) fun o => M.bind (M.pure []) fun os => M.pure (o :: os)) (opN fInt)) fun x => M.bind (kst (.int 2147483549)) fun y => op2 fMod x y) fun x => M.bind (kst (.int 13)) fun y => op2 fDiv x y) fun o => M.bind (M.pure []) fun os => M.pure (o :: os)) (opN fInt)) fun x => M.bind (getSl 1) fun y => op2 fMod x y) fun o S => .rt o S)
    SM.nil)))
def f_law_draw : FSem := runDef m_law_draw 3
theorem b_law_draw {f : Addr} (T : Bt mg)  (cdv : Value) (A : Around) (outer : List Env) (s : Shared) (H : Hp) (E : XK) (hr : Room 0 (A.deeper (envOfC "_law_draw" (defScope s_law_draw) s.heap.objs.size f cdv))) (hgd : A.guards = some []) :
    SXs (cxOf (L2.CX P w) P w K mg base ["_law_pot_here", "_law_many", "_law_digit"] "_law_draw" (defScope s_law_draw) f cdv A outer s H E) (defBody s_law_draw) m_law_draw :=
  (sxs_cons (sx_if (bx_cmp op_gt prim_gt (px_ixA (room64 hr) (px_var 0) px_int) px_int (nomark _)) (sxs_cons (sx_asg (fx_of (px_callB call_divmod prim_divmod (by rfl) T.divmod_ (by decide +kernel) (oxs_cons (px_ixA (room64 hr) (px_var 0) px_int) (oxs_cons (px_var 1) oxs_nil)))) (gx_tup rfl (gxs_cons (gx_at 0 (px_var 0) px_int) (gxs_cons (gx_name 2 sc_law_draw.nd rfl (by first | exact Or.inl rfl | exact Or.inr rfl)) gxs_nil))))
    (sxs_cons (sx_ret (px_var 2))
    sxs_nil)) sxs_nil)
    (sxs_cons (sx_asg (fx_of (px_op2 op_mod prim_mod (px_callTy call_int1 prim_int (by rfl) T.int_ (by decide +kernel) (oxs_cons (px_op2 op_addA prim_add (px_op2 op_mulB prim_mulB (px_ixA (room64 hr) (px_var 0) px_int) px_int) px_int) oxs_nil)) px_int)) (gx_at 0 (px_var 0) px_int))
    (sxs_cons (sx_ret (px_op2 op_mod prim_mod (px_callTy call_int1 prim_int (by rfl) T.int_ (by decide +kernel) (oxs_cons (px_op2 op_fdiv prim_div (px_op2 op_mod prim_mod (px_callTy call_int1 prim_int (by rfl) T.int_ (by decide +kernel) (oxs_cons (px_op2 op_mulB prim_mulB (px_ixA (room64 hr) (px_var 0) px_int) (px_ixA (room64 hr) (px_var 0) px_int)) oxs_nil)) px_int) px_int) oxs_nil)) (px_var 1)))
    sxs_nil)))
def s_law_told : Stmt := top 53
theorem sc_law_told : FnScope ["_law_call", "e", "_law_told_here"] ["_law_call"] (defScope s_law_told) := ⟨rfl, rfl, rfl, by decide +kernel, rfl, by decide +kernel, by decide +kernel⟩
def m_law_told (cm : M Opd) : SM :=
  (SM.seq (tryM (SM.seq (M.thn (M.bind (M.bind (M.bind (kst (.str "told")) frz) fun o => M.bind (M.bind (M.bind (M.bind cm itemsL) frz) fun o => M.bind (M.pure []) fun os => M.pure (o :: os)) fun os => M.pure (o :: os)) mkL) (setSl 2))
    SM.nil) [{ sub := ca_NotAgreeing_sub, i := 1, h := fun c fs => M.thn (M.bind (M.bind (M.bind (kst (.str "apart")) frz) fun o => M.bind (M.bind (fld tabF_one "one" (.exn c fs)) fun o => M.bind (M.bind (fld tabF_other "other" (.exn c fs)) fun o => M.bind (M.bind (M.bind (M.bind (M.bind (isxM tabE sub_StateError (.v (.v (.exn c fs)))) truthOf) fun t => if t then (isxM tabE sub_RuntimeError (.v (.v (.exn c fs)))) else kst (.bl false)) frz) fun o => M.bind (M.pure []) fun os => M.pure (o :: os)) fun os => M.pure (o :: os)) fun os => M.pure (o :: os)) fun os => M.pure (o :: os)) mkL) (setSl 2) }, { sub := ca_InvalidNumber_sub, i := 1, h := fun c fs => M.thn (M.bind (M.bind (M.bind (kst (.str "number")) frz) fun o => M.bind (M.bind (M.bind (M.bind (fld tabF_value "value" (.exn c fs)) fun d => opN fRepr [.v (.v d)]) frz) fun o => M.bind (M.bind (M.bind (isxM tabE sub_BeatError (.v (.v (.exn c fs)))) frz) fun o => M.bind (M.pure []) fun os => M.pure (o :: os)) fun os => M.pure (o :: os)) fun os => M.pure (o :: os)) mkL) (setSl 2) }])
    (SM.seq (M.thn (getSl 2) fun o S => .rt o S)
    SM.nil))
def F_law_told (L : LO) : FOut := (runDef (m_law_told (callL L)) 3 [.v .hole]).ret0
theorem b_law_told {f : Addr} (T : Bt mg) (is_BeatError : IsA K mg tabE "BeatError" sub_BeatError) (is_RuntimeError : IsA K mg tabE "RuntimeError" sub_RuntimeError) (is_StateError : IsA K mg tabE "StateError" sub_StateError) (fd_one : FdA K mg tabF_one "one") (fd_other : FdA K mg tabF_other "other") (fd_value : FdA K mg tabF_value "value") (ca_InvalidNumber : CaA K mg "InvalidNumber" ca_InvalidNumber_sub) (ca_NotAgreeing : CaA K mg "NotAgreeing" ca_NotAgreeing_sub) (hsys : ∃ o, base.get? sysModules = some o) (cdv : Value) (A : Around) (outer : List Env) (s : Shared) (H : Hp) (E : XK) (cm : M Opd) {k : Nat} (hk : 0 ≤ k) (hr : Room k (A.deeper (envOfC "_law_told" (defScope s_law_told) s.heap.objs.size f cdv))) (hgd : A.guards = some [])
    (hcm : ∀ (pn : List (Addr × Obj)) (xe : Value → Shared → Prop) (p1 p2 : Pos), PX ((cxOf (L2.CX P w) P w K mg base ["_law_call", "e", "_law_told_here"] "_law_told" (defScope s_law_told) f cdv A outer s H E).tr pn xe) (.Call (.Name "_law_call" p1) [] [] p2) cm) :
    SXs (cxOf (L2.CX P w) P w K mg base ["_law_call", "e", "_law_told_here"] "_law_told" (defScope s_law_told) f cdv A outer s H E) (defBody s_law_told) (m_law_told cm) :=
  (sxs_cons (sx_try rfl rfl sc_law_told.nd (fun pn xe => (sxs_cons (sx_set 2 sc_law_told.nd rfl (by first | exact Or.inl rfl | exact Or.inr rfl) (px_lst (fxs_cons (fx_of px_str) (fxs_cons (fx_of (px_listItems rfl (hcm pn xe _ _) T.list_)) fxs_nil))))
    sxs_nil)) (hdm_cons ca_NotAgreeing (sxc_set 2 sc_law_told.nd rfl (by first | exact Or.inl rfl | exact Or.inr rfl) (pxc_lst (fsc_cons (fxc_of fun a pn => (fx_of px_str)) (fsc_cons (fxc_fld fd_one.ex) (fsc_cons (fxc_fld fd_other.ex) (fsc_cons (fxc_px (pxc_and (p2 := ⟨0, 0, 0, 0⟩) (pxc_isa is_StateError T.isinstance_) (pxc_isa is_RuntimeError T.isinstance_))) fsc_nil)))))) (hdm_cons ca_InvalidNumber (sxc_set 2 sc_law_told.nd rfl (by first | exact Or.inl rfl | exact Or.inr rfl) (pxc_lst (fsc_cons (fxc_of fun a pn => (fx_of px_str)) (fsc_cons (fxc_px (pxc_repr hgd (room200 hr) hsys T.repr_ (fxc_fld fd_value.ex))) (fsc_cons (fxc_px (pxc_isa is_BeatError T.isinstance_)) fsc_nil))))) .nil)))
    (sxs_cons (sx_ret (px_var 2))
    sxs_nil))
def s_law_heads : Stmt := top 54
theorem sc_law_heads : FnScope ["_law_sheet_here", "_law_k", "_law_j", "_law_found", "_law_line", "_law_mine", "_law_yours", "_law_worths_here", "_law_worth", "_law_row_here"] ["_law_sheet_here", "_law_k", "_law_j"] (defScope s_law_heads) := ⟨rfl, rfl, rfl, by decide +kernel, rfl, by decide +kernel, by decide +kernel⟩
def m_law_heads : SM :=
  (SM.seq (M.thn (M.bind (M.bind (getSl 0) fun x => M.bind (kst (.str "rows")) fun y => op2 fIxA x y) fun x => M.bind (getSl 1) fun y => op2 fIxA x y) fun o1 => M.thn (M.bind (M.bind (getSl 0) fun x => M.bind (kst (.str "rows")) fun y => op2 fIxA x y) fun x => M.bind (getSl 2) fun y => op2 fIxA x y) fun o2 => parM 5 6 o1 o2)
    (SM.seq (M.thn (M.bind (M.bind (getSl 1) fun x => M.bind (getSl 2) fun y => cmpB eqA2 x y) fun c => if c then M.pure true else (M.bind (M.bind (getSl 5) fun x => M.bind (kst (.int 0)) fun y => op2 fIxA x y) fun x => M.bind (M.bind (getSl 6) fun x => M.bind (kst (.int 0)) fun y => op2 fIxA x y) fun y => cmpB neA2 x y)) fun b => if b then (SM.seq (M.thn (kst .non) fun o S => .rt o S)
    SM.nil) else SM.nil)
    (SM.seq (M.thn (M.bind (M.pure []) mkL) (setSl 3))
    (SM.seq (M.thn (M.bind (M.bind (M.bind (getSl 0) fun x => M.bind (kst (.str "ins")) fun y => op2 fIxA x y) frz) asSeqS) fun ds => loopM (storeD 4) (SM.seq (M.thn (M.bind (M.bind (M.bind (M.bind (M.bind (M.bind (M.bind (getSl 5) frz) fun o => M.bind (M.bind (M.bind (getSl 6) frz) fun o => M.bind (M.pure []) fun os => M.pure (o :: os)) fun os => M.pure (o :: os)) mkT) frz) asSeqS) (compM ([("_law_row_here", 9)].map (·.2)) (storeD 9) (M.bind (getSl 4) fun x => M.bind (M.bind (getSl 9) fun x => M.bind (kst (.int 1)) fun y => op2 fIxA x y) fun y => cmpB fIn x y) (M.bind (M.bind (M.bind (getSl 9) fun x => M.bind (kst (.int 1)) fun y => op2 fIxA x y) fun x => M.bind (getSl 4) fun y => op2 fIxA x y) frz))) sortSetM) (setSl 7))
    (SM.seq (M.thn (M.bind (M.bind (M.bind (getSl 7) fun o => M.bind (M.pure []) fun os => M.pure (o :: os)) (opN fLenB)) fun x => M.bind (kst (.int 1)) fun y => cmpB fGt x y) fun b => if b then (SM.seq (M.thn (kst .non) fun o S => .rt o S)
    SM.nil) else SM.nil)
    (SM.seq (extendM 3 (M.bind (M.bind (M.bind (M.bind (getSl 7) frz) asSeqS) (compM ([("_law_worth", 8)].map (·.2)) (storeD 8) (M.pure true) (M.bind (M.bind (M.bind (M.bind (getSl 4) frz) fun o => M.bind (M.bind (M.bind (getSl 8) frz) fun o => M.bind (M.pure []) fun os => M.pure (o :: os)) fun os => M.pure (o :: os)) mkT) frz))) frz))
    SM.nil))) ds)
    (SM.seq (M.thn (getSl 3) fun o S => .rt o S)
    SM.nil)))))
def f_law_heads : FSem := runDef m_law_heads 10
theorem b_law_heads {f : Addr} (T : Bt mg)  (cdv : Value) (A : Around) (outer : List Env) (s : Shared) (H : Hp) (E : XK) (hr : Room 0 (A.deeper (envOfC "_law_heads" (defScope s_law_heads) s.heap.objs.size f cdv))) (hgd : A.guards = some []) :
    SXs (cxOf (L2.CX P w) P w K mg base ["_law_sheet_here", "_law_k", "_law_j", "_law_found", "_law_line", "_law_mine", "_law_yours", "_law_worths_here", "_law_worth", "_law_row_here"] "_law_heads" (defScope s_law_heads) f cdv A outer s H E) (defBody s_law_heads) m_law_heads :=
  (sxs_cons (sx_par 5 6 rfl sc_law_heads.nd rfl rfl (by decide) rfl rfl (px_ixA (room64 hr) (px_ixA (room64 hr) (px_var 0) px_str) (px_var 1)) (px_ixA (room64 hr) (px_ixA (room64 hr) (px_var 0) px_str) (px_var 2)))
    (sxs_cons (sx_if (bx_bool (bw_or (bx_cmp (op_eqA2 (room64 hr)) prim_eqA2 (px_var 1) (px_var 2) (nomark _)) (bw_or1 (bx_cmp (op_neA2 (room64 hr)) prim_neA2 (px_ixA (room64 hr) (px_var 5) px_int) (px_ixA (room64 hr) (px_var 6) px_int) (nomark _))))) (sxs_cons (sx_ret px_non)
    sxs_nil) sxs_nil)
    (sxs_cons (sx_set 3 sc_law_heads.nd rfl (by first | exact Or.inl rfl | exact Or.inr rfl) (px_lst fxs_nil))
    (sxs_cons (sx_for rfl (ix_seqS (fx_of (px_ixA (room64 hr) (px_var 0) px_str))) (gx_name 4 sc_law_heads.nd rfl (by first | exact Or.inl rfl | exact Or.inr rfl)) (sxs_cons (sx_set 7 sc_law_heads.nd rfl (by first | exact Or.inl rfl | exact Or.inr rfl) (px_sortSet rfl (px_lc rfl sc_law_heads.nd (by exact (ix_seqS (fx_of (px_tup (fxs_cons (fx_of (px_var 5)) (fxs_cons (fx_of (px_var 6)) fxs_nil)))))) (blk_of (own := [("_law_row_here", 9)]) (by rfl)) (by decide) (fun s H C cl fp => (gx_name 9 sc_law_heads.nd rfl (by first | exact Or.inl rfl | exact Or.inr rfl))) (fun s H C cl fp => (txs_one (bx_cmp (op_inA (room64 hr)) prim_inA (px_var 4) (px_ixA (room64 hr) (px_var 9) px_int) (by with_unfolding_all rfl)))) (fun s H C cl fp => (fx_of (px_ixA (room64 hr) (px_ixA (room64 hr) (px_var 9) px_int) (px_var 4))))) T.sorted_ T.set_))
    (sxs_cons (sx_if (bx_cmp op_gt prim_gt (px_callB call_lenB prim_lenB (by rfl) T.len_ (by decide +kernel) (oxs_cons (px_var 7) oxs_nil)) px_int (nomark _)) (sxs_cons (sx_ret px_non)
    sxs_nil) sxs_nil)
    (sxs_cons (sx_extend 3 rfl (fx_of (px_lc rfl sc_law_heads.nd (by exact (ix_seqS (fx_of (px_var 7)))) (blk_of (own := [("_law_worth", 8)]) (by rfl)) (by decide) (fun s H C cl fp => (gx_name 8 sc_law_heads.nd rfl (by first | exact Or.inl rfl | exact Or.inr rfl))) (fun s H C cl fp => txs_nil) (fun s H C cl fp => (fx_of (px_tup (fxs_cons (fx_of (px_var 4)) (fxs_cons (fx_of (px_var 8)) fxs_nil))))))))
    sxs_nil))))
    (sxs_cons (sx_ret (px_var 3))
    sxs_nil)))))
def s_law_met : Stmt := top 56
theorem sc_law_met : FnScope ["_law_call", "_law_told_here", "e"] ["_law_call"] (defScope s_law_met) := ⟨rfl, rfl, rfl, by decide +kernel, rfl, by decide +kernel, by decide +kernel⟩
def m_law_met (cm : M Opd) : SM :=
  (SM.seq (M.thn (kst (.str "nothing")) (setSl 1))
    (SM.seq (tryM (SM.seq (M.thn cm fun _ => SM.nil)
    SM.nil) [{ sub := ca_InvalidNumber_sub, i := 2, h := fun c fs => M.thn (M.bind (fld tabF_value "value" (.exn c fs)) fun d => opN fRepr [.v (.v d)]) (setSl 1) }])
    (SM.seq (M.thn (getSl 1) fun o S => .rt o S)
    SM.nil)))
def F_law_met (L : LO) : FOut := (runDef (m_law_met (callL L)) 3 [.v .hole]).ret0
theorem b_law_met {f : Addr} (T : Bt mg) (fd_value : FdA K mg tabF_value "value") (ca_InvalidNumber : CaA K mg "InvalidNumber" ca_InvalidNumber_sub) (hsys : ∃ o, base.get? sysModules = some o) (cdv : Value) (A : Around) (outer : List Env) (s : Shared) (H : Hp) (E : XK) (cm : M Opd) {k : Nat} (hk : 0 ≤ k) (hr : Room k (A.deeper (envOfC "_law_met" (defScope s_law_met) s.heap.objs.size f cdv))) (hgd : A.guards = some [])
    (hcm : ∀ (pn : List (Addr × Obj)) (xe : Value → Shared → Prop) (p1 p2 : Pos), PX ((cxOf (L2.CX P w) P w K mg base ["_law_call", "_law_told_here", "e"] "_law_met" (defScope s_law_met) f cdv A outer s H E).tr pn xe) (.Call (.Name "_law_call" p1) [] [] p2) cm) :
    SXs (cxOf (L2.CX P w) P w K mg base ["_law_call", "_law_told_here", "e"] "_law_met" (defScope s_law_met) f cdv A outer s H E) (defBody s_law_met) (m_law_met cm) :=
  (sxs_cons (sx_set 1 sc_law_met.nd rfl (by first | exact Or.inl rfl | exact Or.inr rfl) px_str)
    (sxs_cons (sx_try rfl rfl sc_law_met.nd (fun pn xe => (sxs_cons (sx_expr (hcm pn xe _ _))
    sxs_nil)) (hdm_cons ca_InvalidNumber (sxc_set 1 sc_law_met.nd rfl (by first | exact Or.inl rfl | exact Or.inr rfl) (pxc_repr hgd (room200 hr) hsys T.repr_ (fxc_fld fd_value.ex))) .nil))
    (sxs_cons (sx_ret (px_var 1))
    sxs_nil)))
def s_Machine_ins : Stmt := inClass (top 39) 3
theorem sc_Machine_ins : FnScope ["self"] ["self"] (defScope s_Machine_ins) := ⟨rfl, rfl, rfl, by decide +kernel, rfl, by decide +kernel, by decide +kernel⟩
def m_Machine_ins : SM :=
  (SM.seq (M.thn (M.bind (M.bind (M.bind (getSl 0) (ifld "Machine" "_ins")) fun o => M.bind (M.pure []) fun os => M.pure (o :: os)) (opN fListOf)) fun o S => .rt o S)
    SM.nil)
def f_Machine_ins : FSem := runDef m_Machine_ins 1
theorem b_Machine_ins {f : Addr} (T : Bt mg) (ki_Machine : KI K mg "Machine" ["_ins", "_outs", "_standings", "_rows"]) (cdv : Value) (A : Around) (outer : List Env) (s : Shared) (H : Hp) (E : XK) (hr : Room 0 (A.deeper (envOfC "Machine.ins" (defScope s_Machine_ins) s.heap.objs.size f cdv))) (hgd : A.guards = some []) :
    SXs (cxOf (L2.CX P w) P w K mg base ["self"] "Machine.ins" (defScope s_Machine_ins) f cdv A outer s H E) (defBody s_Machine_ins) m_Machine_ins :=
  (sxs_cons (sx_ret (px_callTy call_list_of prim_listOf (by rfl) T.list_ (by decide +kernel) (oxs_cons (px_ifld ki_Machine (by decide) (px_var 0)) oxs_nil)))
    sxs_nil)
def s_Machine_outs : Stmt := inClass (top 39) 4
theorem sc_Machine_outs : FnScope ["self"] ["self"] (defScope s_Machine_outs) := ⟨rfl, rfl, rfl, by decide +kernel, rfl, by decide +kernel, by decide +kernel⟩
def m_Machine_outs : SM :=
  (SM.seq (M.thn (M.bind (M.bind (M.bind (getSl 0) (ifld "Machine" "_outs")) fun o => M.bind (M.pure []) fun os => M.pure (o :: os)) (opN fListOf)) fun o S => .rt o S)
    SM.nil)
def f_Machine_outs : FSem := runDef m_Machine_outs 1
theorem b_Machine_outs {f : Addr} (T : Bt mg) (ki_Machine : KI K mg "Machine" ["_ins", "_outs", "_standings", "_rows"]) (cdv : Value) (A : Around) (outer : List Env) (s : Shared) (H : Hp) (E : XK) (hr : Room 0 (A.deeper (envOfC "Machine.outs" (defScope s_Machine_outs) s.heap.objs.size f cdv))) (hgd : A.guards = some []) :
    SXs (cxOf (L2.CX P w) P w K mg base ["self"] "Machine.outs" (defScope s_Machine_outs) f cdv A outer s H E) (defBody s_Machine_outs) m_Machine_outs :=
  (sxs_cons (sx_ret (px_callTy call_list_of prim_listOf (by rfl) T.list_ (by decide +kernel) (oxs_cons (px_ifld ki_Machine (by decide) (px_var 0)) oxs_nil)))
    sxs_nil)
def s_Machine_standings : Stmt := inClass (top 39) 5
theorem sc_Machine_standings : FnScope ["self"] ["self"] (defScope s_Machine_standings) := ⟨rfl, rfl, rfl, by decide +kernel, rfl, by decide +kernel, by decide +kernel⟩
def m_Machine_standings : SM :=
  (SM.seq (M.thn (M.bind (getSl 0) (ifld "Machine" "_standings")) fun o S => .rt o S)
    SM.nil)
def f_Machine_standings : FSem := runDef m_Machine_standings 1
theorem b_Machine_standings {f : Addr} (T : Bt mg) (ki_Machine : KI K mg "Machine" ["_ins", "_outs", "_standings", "_rows"]) (cdv : Value) (A : Around) (outer : List Env) (s : Shared) (H : Hp) (E : XK) (hr : Room 0 (A.deeper (envOfC "Machine.standings" (defScope s_Machine_standings) s.heap.objs.size f cdv))) (hgd : A.guards = some []) :
    SXs (cxOf (L2.CX P w) P w K mg base ["self"] "Machine.standings" (defScope s_Machine_standings) f cdv A outer s H E) (defBody s_Machine_standings) m_Machine_standings :=
  (sxs_cons (sx_ret (px_ifld ki_Machine (by decide) (px_var 0)))
    sxs_nil)
def s_Machine_reactions : Stmt := inClass (top 39) 6
theorem sc_Machine_reactions : FnScope ["self", "standing", "takes", "gives", "goal"] ["self"] (defScope s_Machine_reactions) := ⟨rfl, rfl, rfl, by decide +kernel, rfl, by decide +kernel, by decide +kernel⟩
def m_Machine_reactions : SM :=
  (SM.seq (M.thn (M.bind (M.bind (M.bind (M.bind (getSl 0) (ifld "Machine" "_rows")) frz) asSeqS) (compM ([("standing", 1), ("takes", 2), ("gives", 3), ("goal", 4)].map (·.2)) (gTupM 4 (gConsM (storeD 1) (gConsM (storeD 2) (gConsM (storeD 3) (gConsM (storeD 4) gNilM))))) (M.pure true) (M.bind (M.bind (M.bind (M.bind (getSl 1) frz) fun o => M.bind (M.bind (M.bind (M.bind (M.bind (getSl 2) fun o => M.bind (M.pure []) fun os => M.pure (o :: os)) (opN fDictA)) frz) fun o => M.bind (M.bind (M.bind (M.bind (M.bind (getSl 3) fun o => M.bind (M.pure []) fun os => M.pure (o :: os)) (opN fDictA)) frz) fun o => M.bind (M.bind (M.bind (getSl 4) frz) fun o => M.bind (M.pure []) fun os => M.pure (o :: os)) fun os => M.pure (o :: os)) fun os => M.pure (o :: os)) fun os => M.pure (o :: os)) mkT) frz))) fun o S => .rt o S)
    SM.nil)
def f_Machine_reactions : FSem := runDef m_Machine_reactions 5
theorem b_Machine_reactions {f : Addr} (T : Bt mg) (ki_Machine : KI K mg "Machine" ["_ins", "_outs", "_standings", "_rows"]) (cdv : Value) (A : Around) (outer : List Env) (s : Shared) (H : Hp) (E : XK) (hr : Room 0 (A.deeper (envOfC "Machine.reactions" (defScope s_Machine_reactions) s.heap.objs.size f cdv))) (hgd : A.guards = some []) :
    SXs (cxOf (L2.CX P w) P w K mg base ["self", "standing", "takes", "gives", "goal"] "Machine.reactions" (defScope s_Machine_reactions) f cdv A outer s H E) (defBody s_Machine_reactions) m_Machine_reactions :=
  (sxs_cons (sx_ret (px_lc rfl sc_Machine_reactions.nd (by exact (ix_seqS (fx_of (px_ifld ki_Machine (by decide) (px_var 0))))) (blk_of (own := [("standing", 1), ("takes", 2), ("gives", 3), ("goal", 4)]) (by rfl)) (by decide) (fun s H C cl fp => (gx_tup rfl (gxs_cons (gx_name 1 sc_Machine_reactions.nd rfl (by first | exact Or.inl rfl | exact Or.inr rfl)) (gxs_cons (gx_name 2 sc_Machine_reactions.nd rfl (by first | exact Or.inl rfl | exact Or.inr rfl)) (gxs_cons (gx_name 3 sc_Machine_reactions.nd rfl (by first | exact Or.inl rfl | exact Or.inr rfl)) (gxs_cons (gx_name 4 sc_Machine_reactions.nd rfl (by first | exact Or.inl rfl | exact Or.inr rfl)) gxs_nil)))))) (fun s H C cl fp => txs_nil) (fun s H C cl fp => (fx_of (px_tup (fxs_cons (fx_of (px_var 1)) (fxs_cons (fx_of (px_callTy (call_dictA rfl) prim_dictA (by rfl) T.dict_ (by decide +kernel) (oxs_cons (px_var 2) oxs_nil))) (fxs_cons (fx_of (px_callTy (call_dictA rfl) prim_dictA (by rfl) T.dict_ (by decide +kernel) (oxs_cons (px_var 3) oxs_nil))) (fxs_cons (fx_of (px_var 4)) fxs_nil)))))))))
    sxs_nil)
def s_Machine___len__ : Stmt := inClass (top 39) 12
theorem sc_Machine___len__ : FnScope ["self"] ["self"] (defScope s_Machine___len__) := ⟨rfl, rfl, rfl, by decide +kernel, rfl, by decide +kernel, by decide +kernel⟩
def m_Machine___len__ : SM :=
  (SM.seq (M.thn (M.bind (M.bind (M.bind (getSl 0) (ifld "Machine" "_rows")) fun o => M.bind (M.pure []) fun os => M.pure (o :: os)) (opN fLenB)) fun o S => .rt o S)
    SM.nil)
def f_Machine___len__ : FSem := runDef m_Machine___len__ 1
theorem b_Machine___len__ {f : Addr} (T : Bt mg) (ki_Machine : KI K mg "Machine" ["_ins", "_outs", "_standings", "_rows"]) (cdv : Value) (A : Around) (outer : List Env) (s : Shared) (H : Hp) (E : XK) (hr : Room 0 (A.deeper (envOfC "Machine.__len__" (defScope s_Machine___len__) s.heap.objs.size f cdv))) (hgd : A.guards = some []) :
    SXs (cxOf (L2.CX P w) P w K mg base ["self"] "Machine.__len__" (defScope s_Machine___len__) f cdv A outer s H E) (defBody s_Machine___len__) m_Machine___len__ :=
  (sxs_cons (sx_ret (px_callB call_lenB prim_lenB (by rfl) T.len_ (by decide +kernel) (oxs_cons (px_ifld ki_Machine (by decide) (px_var 0)) oxs_nil)))
    sxs_nil)
def s_Machine___eq__ : Stmt := inClass (top 39) 14
theorem sc_Machine___eq__ : FnScope ["self", "other"] ["self", "other"] (defScope s_Machine___eq__) := ⟨rfl, rfl, rfl, by decide +kernel, rfl, by decide +kernel, by decide +kernel⟩
def m_Machine___eq__ : SM :=
  (SM.seq (M.thn (M.bind (M.bind (M.bind (getSl 1) (isxM tabE sub_Machine)) truthOf) fun c => if c then (M.bind (M.bind (M.bind (M.bind (getSl 0) (ifld "Machine" "_ins")) fun x => M.bind (M.bind (getSl 1) (ifld "Machine" "_ins")) fun y => op2 (rvB eqA2) x y) truthOf) fun c => if c then (M.bind (M.bind (M.bind (M.bind (getSl 0) (ifld "Machine" "_outs")) fun x => M.bind (M.bind (getSl 1) (ifld "Machine" "_outs")) fun y => op2 (rvB eqA2) x y) truthOf) fun c => if c then (M.bind (M.bind (M.bind (M.bind (getSl 0) (ifld "Machine" "_standings")) fun x => M.bind (M.bind (getSl 1) (ifld "Machine" "_standings")) fun y => op2 (rvB eqA2) x y) truthOf) fun c => if c then (M.bind (M.bind (getSl 0) (ifld "Machine" "_rows")) fun x => M.bind (M.bind (getSl 1) (ifld "Machine" "_rows")) fun y => op2 (rvB eqA2) x y) else kst (.bl false)) else kst (.bl false)) else kst (.bl false)) else kst (.bl false)) fun o S => .rt o S)
    SM.nil)
def f_Machine___eq__ : FSem := runDef m_Machine___eq__ 2
theorem b_Machine___eq__ {f : Addr} (T : Bt mg) (ki_Machine : KI K mg "Machine" ["_ins", "_outs", "_standings", "_rows"]) (is_Machine : IsA K mg tabE "Machine" sub_Machine) (cdv : Value) (A : Around) (outer : List Env) (s : Shared) (H : Hp) (E : XK) (hr : Room 0 (A.deeper (envOfC "Machine.__eq__" (defScope s_Machine___eq__) s.heap.objs.size f cdv))) (hgd : A.guards = some []) :
    SXs (cxOf (L2.CX P w) P w K mg base ["self", "other"] "Machine.__eq__" (defScope s_Machine___eq__) f cdv A outer s H E) (defBody s_Machine___eq__) m_Machine___eq__ :=
  (sxs_cons (sx_ret (px_and (px_isa is_Machine T.isinstance_ (px_var 1)) (px_and (px_cmp (op_eqA2 (room64 hr)) prim_eqA2 (px_ifld ki_Machine (by decide) (px_var 0)) (px_ifld ki_Machine (by decide) (px_var 1)) (nomark _)) (px_and (px_cmp (op_eqA2 (room64 hr)) prim_eqA2 (px_ifld ki_Machine (by decide) (px_var 0)) (px_ifld ki_Machine (by decide) (px_var 1)) (nomark _)) (px_and (px_cmp (op_eqA2 (room64 hr)) prim_eqA2 (px_ifld ki_Machine (by decide) (px_var 0)) (px_ifld ki_Machine (by decide) (px_var 1)) (nomark _)) (px_one (px_cmp (op_eqA2 (room64 hr)) prim_eqA2 (px_ifld ki_Machine (by decide) (px_var 0)) (px_ifld ki_Machine (by decide) (px_var 1)) (nomark _))))))))
    sxs_nil)
def s_is_count : Stmt := top 19
theorem sc_is_count : FnScope ["value"] ["value"] (defScope s_is_count) := ⟨rfl, rfl, rfl, by decide +kernel, rfl, by decide +kernel, by decide +kernel⟩
def m_is_count : SM :=
  (SM.seq (M.thn (M.bind (M.bind (M.bind (M.bind (M.bind (getSl 0) frz) fun o => M.bind (M.pure []) fun os => M.pure (o :: os)) (callF f_is_integer 1)) truthOf) fun c => if c then (M.bind (getSl 0) fun x => M.bind (kst (.int 0)) fun y => op2 (rvB fGe) x y) else kst (.bl false)) fun o S => .rt o S)
    SM.nil)
def f_is_count : FSem := runDef m_is_count 1
theorem b_is_count {f : Addr} (T : Bt mg) (c_is_integer : KD P w K mg base "is_integer" f_is_integer ["value"] 1) (cdv : Value) (A : Around) (outer : List Env) (s : Shared) (H : Hp) (E : XK) (hr : Room 1 (A.deeper (envOfC "is_count" (defScope s_is_count) s.heap.objs.size f cdv))) (hgd : A.guards = some []) :
    SXs (cxOf (L2.CX P w) P w K mg base ["value"] "is_count" (defScope s_is_count) f cdv A outer s H E) (defBody s_is_count) m_is_count :=
  (sxs_cons (sx_ret (px_and (px_callD c_is_integer rfl hr hgd (by decide) (by rfl) (fxs_cons (fx_of (px_var 0)) fxs_nil)) (px_one (px_cmp op_ge prim_ge (px_var 0) px_int (nomark _)))))
    sxs_nil)
def s_wrong_name : Stmt := top 33
theorem sc_wrong_name : FnScope ["names", "barred", "place", "name"] ["names", "barred"] (defScope s_wrong_name) := ⟨rfl, rfl, rfl, by decide +kernel, rfl, by decide +kernel, by decide +kernel⟩
def m_wrong_name : SM :=
  (SM.seq (M.thn (M.bind (M.bind (M.bind (getSl 0) frz) fun o => M.bind (M.pure []) fun os => M.pure (o :: os)) asEnum) fun ds => loopM (gTupM 2 (gConsM (storeD 2) (gConsM (storeD 3) gNilM))) (SM.seq (M.thn (M.bind (M.bind (M.bind (M.bind (M.bind (M.bind (getSl 3) frz) fun o => M.bind (M.pure []) fun os => M.pure (o :: os)) (callF f_is_name 1)) truthOf) fun b => M.pure (!b)) fun c => if c then M.pure true else (M.bind (M.bind (getSl 3) fun x => M.bind (M.bind (getSl 0) fun o => M.bind (M.pure none) fun l => M.bind (M.bind (M.bind (getSl 2) frz) asInt) fun u => cutM o l u) fun y => cmpB fIn x y) fun c => if c then M.pure true else (M.bind (getSl 3) fun x => M.bind (getSl 1) fun y => cmpB fIn x y))) fun b => if b then (SM.seq (M.thn (getSl 2) fun o S => .rt o S)
    SM.nil) else SM.nil)
    SM.nil) ds)
    (SM.seq (M.thn (kst .non) fun o S => .rt o S)
    SM.nil))
def f_wrong_name : FSem := runDef m_wrong_name 4
theorem b_wrong_name {f : Addr} (T : Bt mg) (c_is_name : KD P w K mg base "is_name" f_is_name ["value"] 1) (cdv : Value) (A : Around) (outer : List Env) (s : Shared) (H : Hp) (E : XK) (hr : Room 1 (A.deeper (envOfC "wrong_name" (defScope s_wrong_name) s.heap.objs.size f cdv))) (hgd : A.guards = some []) :
    SXs (cxOf (L2.CX P w) P w K mg base ["names", "barred", "place", "name"] "wrong_name" (defScope s_wrong_name) f cdv A outer s H E) (defBody s_wrong_name) m_wrong_name :=
  (sxs_cons (sx_for rfl (ix_enum (by rfl) T.enumerate_ (fxs_cons (fx_of (px_var 0)) fxs_nil)) (gx_tup rfl (gxs_cons (gx_name 2 sc_wrong_name.nd rfl (by first | exact Or.inl rfl | exact Or.inr rfl)) (gxs_cons (gx_name 3 sc_wrong_name.nd rfl (by first | exact Or.inl rfl | exact Or.inr rfl)) gxs_nil))) (sxs_cons (sx_if (bx_bool (bw_or (bx_not (bx_val (px_callD c_is_name rfl hr hgd (by decide) (by rfl) (fxs_cons (fx_of (px_var 3)) fxs_nil)))) (bw_or (bx_cmp (op_inA (room64 hr)) prim_inA (px_var 3) (px_slice (px_var 0) optx_none (optx_some (fx_of (px_var 2)))) (by with_unfolding_all rfl)) (bw_or1 (bx_cmp (op_inA (room64 hr)) prim_inA (px_var 3) (px_var 1) (by with_unfolding_all rfl)))))) (sxs_cons (sx_ret (px_var 2))
    sxs_nil) sxs_nil)
    sxs_nil))
    (sxs_cons (sx_ret px_non)
    sxs_nil))
def s_check_beside : Stmt := top 40
theorem sc_check_beside : FnScope ["one", "other", "barred", "line"] ["one", "other"] (defScope s_check_beside) := ⟨rfl, rfl, rfl, by decide +kernel, rfl, by decide +kernel, by decide +kernel⟩
def m_check_beside : SM :=
  (SM.seq (M.thn (M.bind (M.bind (M.bind (getSl 1) frz) fun d => M.bind (insOf "Machine" "ins" d) fun d => callV f_Machine_ins 1 [d]) fun x => M.bind (M.bind (M.bind (getSl 1) frz) fun d => M.bind (insOf "Machine" "outs" d) fun d => callV f_Machine_outs 1 [d]) fun y => op2 fAdd x y) (setSl 2))
    (SM.seq (M.thn (M.bind (M.bind (M.bind (M.bind (M.bind (getSl 0) frz) fun d => M.bind (insOf "Machine" "ins" d) fun d => callV f_Machine_ins 1 [d]) fun x => M.bind (M.bind (M.bind (getSl 0) frz) fun d => M.bind (insOf "Machine" "outs" d) fun d => callV f_Machine_outs 1 [d]) fun y => op2 fAdd x y) frz) asSeqS) fun ds => loopM (storeD 3) (SM.seq (M.thn (M.bind (getSl 3) fun x => M.bind (getSl 2) fun y => cmpB fIn x y) fun b => if b then (SM.seq (M.thn (M.bind (M.bind (getSl 3) frz) fun o => M.bind (M.pure []) fun os => M.pure (o :: os)) (raiseM "SharedLine" ["value"]))
    SM.nil) else SM.nil)
    SM.nil) ds)
    (SM.seq (M.thn (M.bind (M.bind (M.bind (M.bind (M.bind (M.bind (getSl 0) frz) fun d => M.bind (insOf "Machine" "ins" d) fun d => callV f_Machine_ins 1 [d]) fun o => M.bind (M.pure []) fun os => M.pure (o :: os)) (opN fLenB)) fun x => M.bind (M.bind (M.bind (M.bind (M.bind (getSl 1) frz) fun d => M.bind (insOf "Machine" "ins" d) fun d => callV f_Machine_ins 1 [d]) fun o => M.bind (M.pure []) fun os => M.pure (o :: os)) (opN fLenB)) fun y => op2 fAdd x y) fun x => M.bind (kst (.int 4)) fun y => cmpB fGt x y) fun b => if b then (SM.seq (M.thn (M.bind (M.bind (kst (.str "ins")) frz) fun o => M.bind (M.bind (M.bind (kst (.int 4)) frz) fun o => M.bind (M.pure []) fun os => M.pure (o :: os)) fun os => M.pure (o :: os)) (raiseM "TooMany" ["what", "limit"]))
    SM.nil) else SM.nil)
    (SM.seq (M.thn (M.bind (M.bind (M.bind (M.bind (M.bind (M.bind (getSl 0) frz) fun d => M.bind (insOf "Machine" "outs" d) fun d => callV f_Machine_outs 1 [d]) fun o => M.bind (M.pure []) fun os => M.pure (o :: os)) (opN fLenB)) fun x => M.bind (M.bind (M.bind (M.bind (M.bind (getSl 1) frz) fun d => M.bind (insOf "Machine" "outs" d) fun d => callV f_Machine_outs 1 [d]) fun o => M.bind (M.pure []) fun os => M.pure (o :: os)) (opN fLenB)) fun y => op2 fAdd x y) fun x => M.bind (kst (.int 3)) fun y => cmpB fGt x y) fun b => if b then (SM.seq (M.thn (M.bind (M.bind (kst (.str "outs")) frz) fun o => M.bind (M.bind (M.bind (kst (.int 3)) frz) fun o => M.bind (M.pure []) fun os => M.pure (o :: os)) fun os => M.pure (o :: os)) (raiseM "TooMany" ["what", "limit"]))
    SM.nil) else SM.nil)
    (SM.seq (M.thn (M.bind (M.bind (M.bind (M.bind (getSl 0) frz) fun d => M.bind (insOf "Machine" "standings" d) fun d => callV f_Machine_standings 1 [d]) fun x => M.bind (M.bind (M.bind (getSl 1) frz) fun d => M.bind (insOf "Machine" "standings" d) fun d => callV f_Machine_standings 1 [d]) fun y => op2 fMulB x y) fun x => M.bind (kst (.int 12)) fun y => cmpB fGt x y) fun b => if b then (SM.seq (M.thn (M.bind (M.bind (kst (.str "standings")) frz) fun o => M.bind (M.bind (M.bind (kst (.int 12)) frz) fun o => M.bind (M.pure []) fun os => M.pure (o :: os)) fun os => M.pure (o :: os)) (raiseM "TooMany" ["what", "limit"]))
    SM.nil) else SM.nil)
    (SM.seq (M.thn (M.bind (M.bind (M.bind (M.bind (M.bind (getSl 0) fun o => M.bind (M.pure []) fun os => M.pure (o :: os)) (opN fLenB)) fun x => M.bind (M.bind (M.bind (getSl 1) frz) fun d => M.bind (insOf "Machine" "standings" d) fun d => callV f_Machine_standings 1 [d]) fun y => op2 fMulB x y) fun x => M.bind (M.bind (M.bind (M.bind (getSl 1) fun o => M.bind (M.pure []) fun os => M.pure (o :: os)) (opN fLenB)) fun x => M.bind (M.bind (M.bind (getSl 0) frz) fun d => M.bind (insOf "Machine" "standings" d) fun d => callV f_Machine_standings 1 [d]) fun y => op2 fMulB x y) fun y => op2 fAdd x y) fun x => M.bind (kst (.int 40)) fun y => cmpB fGt x y) fun b => if b then (SM.seq (M.thn (M.bind (M.bind (kst (.str "reactions")) frz) fun o => M.bind (M.bind (M.bind (kst (.int 40)) frz) fun o => M.bind (M.pure []) fun os => M.pure (o :: os)) fun os => M.pure (o :: os)) (raiseM "TooMany" ["what", "limit"]))
    SM.nil) else SM.nil)
    SM.nil))))))
def f_check_beside : FSem := runDef m_check_beside 4
theorem b_check_beside {f : Addr} (T : Bt mg) (cp_Machine_ins : KP P w K mg base "Machine" "ins" f_Machine_ins ["self"] 1) (cp_Machine_outs : KP P w K mg base "Machine" "outs" f_Machine_outs ["self"] 1) (cp_Machine_standings : KP P w K mg base "Machine" "standings" f_Machine_standings ["self"] 1) (v_Machine_MOST_REACTIONS : KVal K mg "Machine" "MOST_REACTIONS" 40) (v_Machine_MOST_STANDINGS : KVal K mg "Machine" "MOST_STANDINGS" 12) (c_SharedLine : KC P w K mg base "SharedLine" ["value"]) (c_TooMany : KC P w K mg base "TooMany" ["what", "limit"]) (g_MOST_INS : KGi mg "MOST_INS" 4) (g_MOST_OUTS : KGi mg "MOST_OUTS" 3) (cdv : Value) (A : Around) (outer : List Env) (s : Shared) (H : Hp) (E : XK) (hr : Room 2 (A.deeper (envOfC "check_beside" (defScope s_check_beside) s.heap.objs.size f cdv))) (hgd : A.guards = some []) :
    SXs (cxOf (L2.CX P w) P w K mg base ["one", "other", "barred", "line"] "check_beside" (defScope s_check_beside) f cdv A outer s H E) (defBody s_check_beside) m_check_beside :=
  (sxs_cons (sx_set 2 sc_check_beside.nd rfl (by first | exact Or.inl rfl | exact Or.inr rfl) (px_op2 op_addA prim_add (px_prop cp_Machine_ins rfl hr hgd (by decide) (fx_of (px_var 1))) (px_prop cp_Machine_outs rfl hr hgd (by decide) (fx_of (px_var 1)))))
    (sxs_cons (sx_for rfl (ix_seqS (fx_of (px_op2 op_addA prim_add (px_prop cp_Machine_ins rfl hr hgd (by decide) (fx_of (px_var 0))) (px_prop cp_Machine_outs rfl hr hgd (by decide) (fx_of (px_var 0)))))) (gx_name 3 sc_check_beside.nd rfl (by first | exact Or.inl rfl | exact Or.inr rfl)) (sxs_cons (sx_if (bx_cmp (op_inA (room64 hr)) prim_inA (px_var 3) (px_var 2) (by with_unfolding_all rfl)) (sxs_cons (sx_raise rfl (c_SharedLine.knR hr hgd) (by rfl) (fxs_cons (fx_of (px_var 3)) fxs_nil))
    sxs_nil) sxs_nil)
    sxs_nil))
    (sxs_cons (sx_if (bx_cmp op_gt prim_gt (px_op2 op_addA prim_add (px_callB call_lenB prim_lenB (by rfl) T.len_ (by decide +kernel) (oxs_cons (px_prop cp_Machine_ins rfl hr hgd (by decide) (fx_of (px_var 0))) oxs_nil)) (px_callB call_lenB prim_lenB (by rfl) T.len_ (by decide +kernel) (oxs_cons (px_prop cp_Machine_ins rfl hr hgd (by decide) (fx_of (px_var 1))) oxs_nil))) (px_gi g_MOST_INS (by rfl)) (nomark _)) (sxs_cons (sx_raise rfl (c_TooMany.knR hr hgd) (by rfl) (fxs_cons (fx_of px_str) (fxs_cons (fx_of (px_gi g_MOST_INS (by rfl))) fxs_nil)))
    sxs_nil) sxs_nil)
    (sxs_cons (sx_if (bx_cmp op_gt prim_gt (px_op2 op_addA prim_add (px_callB call_lenB prim_lenB (by rfl) T.len_ (by decide +kernel) (oxs_cons (px_prop cp_Machine_outs rfl hr hgd (by decide) (fx_of (px_var 0))) oxs_nil)) (px_callB call_lenB prim_lenB (by rfl) T.len_ (by decide +kernel) (oxs_cons (px_prop cp_Machine_outs rfl hr hgd (by decide) (fx_of (px_var 1))) oxs_nil))) (px_gi g_MOST_OUTS (by rfl)) (nomark _)) (sxs_cons (sx_raise rfl (c_TooMany.knR hr hgd) (by rfl) (fxs_cons (fx_of px_str) (fxs_cons (fx_of (px_gi g_MOST_OUTS (by rfl))) fxs_nil)))
    sxs_nil) sxs_nil)
    (sxs_cons (sx_if (bx_cmp op_gt prim_gt (px_op2 op_mulB prim_mulB (px_prop cp_Machine_standings rfl hr hgd (by decide) (fx_of (px_var 0))) (px_prop cp_Machine_standings rfl hr hgd (by decide) (fx_of (px_var 1)))) (px_cval v_Machine_MOST_STANDINGS (by rfl)) (nomark _)) (sxs_cons (sx_raise rfl (c_TooMany.knR hr hgd) (by rfl) (fxs_cons (fx_of px_str) (fxs_cons (fx_of (px_cval v_Machine_MOST_STANDINGS (by rfl))) fxs_nil)))
    sxs_nil) sxs_nil)
    (sxs_cons (sx_if (bx_cmp op_gt prim_gt (px_op2 op_addA prim_add (px_op2 op_mulB prim_mulB (px_callB call_lenB prim_lenB (by rfl) T.len_ (by decide +kernel) (oxs_cons (px_var 0) oxs_nil)) (px_prop cp_Machine_standings rfl hr hgd (by decide) (fx_of (px_var 1)))) (px_op2 op_mulB prim_mulB (px_callB call_lenB prim_lenB (by rfl) T.len_ (by decide +kernel) (oxs_cons (px_var 1) oxs_nil)) (px_prop cp_Machine_standings rfl hr hgd (by decide) (fx_of (px_var 0))))) (px_cval v_Machine_MOST_REACTIONS (by rfl)) (nomark _)) (sxs_cons (sx_raise rfl (c_TooMany.knR hr hgd) (by rfl) (fxs_cons (fx_of px_str) (fxs_cons (fx_of (px_cval v_Machine_MOST_REACTIONS (by rfl))) fxs_nil)))
    sxs_nil) sxs_nil)
    sxs_nil))))))
def s_law_pick : Stmt := top 47
theorem sc_law_pick : FnScope ["_law_pot_here", "_law_some"] ["_law_pot_here", "_law_some"] (defScope s_law_pick) := ⟨rfl, rfl, rfl, by decide +kernel, rfl, by decide +kernel, by decide +kernel⟩
def m_law_pick : SM :=
  (SM.seq (M.thn (M.bind (getSl 1) fun x => M.bind (M.bind (getSl 0) fun _ => M.bind (M.bind (M.bind (M.bind (M.bind (getSl 1) fun o => M.bind (M.pure []) fun os => M.pure (o :: os)) (opN fLenB)) frz) fun o => M.bind (M.pure []) fun os => M.pure (o :: os)) (callP f_law_draw 2 0)) fun y => op2 fIxA x y) fun o S => .rt o S)
    SM.nil)
def f_law_pick : FSem := runDef m_law_pick 2
theorem b_law_pick {f : Addr} (T : Bt mg) (c_law_draw : KD P w K mg base "_law_draw" f_law_draw ["_law_pot_here", "_law_many"] 1) (cdv : Value) (A : Around) (outer : List Env) (s : Shared) (H : Hp) (E : XK) (hr : Room 1 (A.deeper (envOfC "_law_pick" (defScope s_law_pick) s.heap.objs.size f cdv))) (hgd : A.guards = some []) :
    SXs (cxOf (L2.CX P w) P w K mg base ["_law_pot_here", "_law_some"] "_law_pick" (defScope s_law_pick) f cdv A outer s H E) (defBody s_law_pick) m_law_pick :=
  (sxs_cons (sx_ret (px_ixA (room64 hr) (px_var 1) (px_callpD 0 c_law_draw rfl hr hgd (by decide) (by rfl) (px_var 0) (fxs_cons (fx_of (px_callB call_lenB prim_lenB (by rfl) T.len_ (by decide +kernel) (oxs_cons (px_var 1) oxs_nil))) fxs_nil))))
    sxs_nil)
def s_Machine___repr__ : Stmt := inClass (top 39) 15
theorem sc_Machine___repr__ : FnScope ["self"] ["self"] (defScope s_Machine___repr__) := ⟨rfl, rfl, rfl, by decide +kernel, rfl, by decide +kernel, by decide +kernel⟩
def m_Machine___repr__ : SM :=
  (SM.seq (M.thn (M.bind ((fun acc => M.bind (addS acc "Machine(") (fun acc => M.bind (M.bind (M.bind (getSl 0) frz) fun d => M.bind (insOf "Machine" "ins" d) fun d => callV f_Machine_ins 1 [d]) fun o => M.bind (reprM o) fun y => M.bind (addS acc y) (fun acc => M.bind (addS acc ", ") (fun acc => M.bind (M.bind (M.bind (getSl 0) frz) fun d => M.bind (insOf "Machine" "outs" d) fun d => callV f_Machine_outs 1 [d]) fun o => M.bind (reprM o) fun y => M.bind (addS acc y) (fun acc => M.bind (addS acc ", ") (fun acc => M.bind (M.bind (getSl 0) (ifld "Machine" "_standings")) fun o => M.bind (reprM o) fun y => M.bind (addS acc y) (fun acc => M.bind (addS acc ", ") (fun acc => M.bind (M.bind (M.bind (getSl 0) frz) fun d => M.bind (insOf "Machine" "reactions" d) fun d => callF f_Machine_reactions 1 [d]) fun o => M.bind (reprM o) fun y => M.bind (addS acc y) (fun acc => M.bind (addS acc ")") (fun acc => M.pure acc)))))))))) Str.empty) fun x => kst (.str x)) fun o S => .rt o S)
    SM.nil)
def f_Machine___repr__ : FSem := runDef m_Machine___repr__ 1
theorem b_Machine___repr__ {f : Addr} (T : Bt mg) (cp_Machine_ins : KP P w K mg base "Machine" "ins" f_Machine_ins ["self"] 1) (cp_Machine_outs : KP P w K mg base "Machine" "outs" f_Machine_outs ["self"] 1) (cm_Machine_reactions : KM P w K mg base "Machine" "reactions" f_Machine_reactions ["self"] 1) (ki_Machine : KI K mg "Machine" ["_ins", "_outs", "_standings", "_rows"]) (hsys : ∃ o, base.get? sysModules = some o) (cdv : Value) (A : Around) (outer : List Env) (s : Shared) (H : Hp) (E : XK) (hr : Room 2 (A.deeper (envOfC "Machine.__repr__" (defScope s_Machine___repr__) s.heap.objs.size f cdv))) (hgd : A.guards = some []) :
    SXs (cxOf (L2.CX P w) P w K mg base ["self"] "Machine.__repr__" (defScope s_Machine___repr__) f cdv A outer s H E) (defBody s_Machine___repr__) m_Machine___repr__ :=
  (sxs_cons (sx_ret (px_joined (m := (fun acc => M.bind (addS acc "Machine(") (fun acc => M.bind (M.bind (M.bind (getSl 0) frz) fun d => M.bind (insOf "Machine" "ins" d) fun d => callV f_Machine_ins 1 [d]) fun o => M.bind (reprM o) fun y => M.bind (addS acc y) (fun acc => M.bind (addS acc ", ") (fun acc => M.bind (M.bind (M.bind (getSl 0) frz) fun d => M.bind (insOf "Machine" "outs" d) fun d => callV f_Machine_outs 1 [d]) fun o => M.bind (reprM o) fun y => M.bind (addS acc y) (fun acc => M.bind (addS acc ", ") (fun acc => M.bind (M.bind (getSl 0) (ifld "Machine" "_standings")) fun o => M.bind (reprM o) fun y => M.bind (addS acc y) (fun acc => M.bind (addS acc ", ") (fun acc => M.bind (M.bind (M.bind (getSl 0) frz) fun d => M.bind (insOf "Machine" "reactions" d) fun d => callF f_Machine_reactions 1 [d]) fun o => M.bind (reprM o) fun y => M.bind (addS acc y) (fun acc => M.bind (addS acc ")") (fun acc => M.pure acc))))))))))) (jx_str (jx_fr hgd (room200 hr) hsys (px_prop cp_Machine_ins rfl hr hgd (by decide) (fx_of (px_var 0))) (jx_str (jx_fr hgd (room200 hr) hsys (px_prop cp_Machine_outs rfl hr hgd (by decide) (fx_of (px_var 0))) (jx_str (jx_fr hgd (room200 hr) hsys (px_ifld ki_Machine (by decide) (px_var 0)) (jx_str (jx_fr hgd (room200 hr) hsys (px_meth0 cm_Machine_reactions rfl hr hgd (by decide) (fx_of (px_var 0))) (jx_str jx_nil)))))))))))
    sxs_nil)
def s_is_below : Stmt := top 20
theorem sc_is_below : FnScope ["value", "limit"] ["value", "limit"] (defScope s_is_below) := ⟨rfl, rfl, rfl, by decide +kernel, rfl, by decide +kernel, by decide +kernel⟩
def m_is_below : SM :=
  (SM.seq (M.thn (M.bind (M.bind (M.bind (M.bind (M.bind (getSl 0) frz) fun o => M.bind (M.pure []) fun os => M.pure (o :: os)) (callF f_is_count 1)) truthOf) fun c => if c then (M.bind (getSl 0) fun x => M.bind (getSl 1) fun y => op2 (rvB fLt) x y) else kst (.bl false)) fun o S => .rt o S)
    SM.nil)
def f_is_below : FSem := runDef m_is_below 2
theorem b_is_below {f : Addr} (T : Bt mg) (c_is_count : KD P w K mg base "is_count" f_is_count ["value"] 2) (cdv : Value) (A : Around) (outer : List Env) (s : Shared) (H : Hp) (E : XK) (hr : Room 2 (A.deeper (envOfC "is_below" (defScope s_is_below) s.heap.objs.size f cdv))) (hgd : A.guards = some []) :
    SXs (cxOf (L2.CX P w) P w K mg base ["value", "limit"] "is_below" (defScope s_is_below) f cdv A outer s H E) (defBody s_is_below) m_is_below :=
  (sxs_cons (sx_ret (px_and (px_callD c_is_count rfl hr hgd (by decide) (by rfl) (fxs_cons (fx_of (px_var 0)) fxs_nil)) (px_one (px_cmp op_lt prim_lt (px_var 0) (px_var 1) (nomark _)))))
    sxs_nil)
def s_is_worth : Stmt := top 21
theorem sc_is_worth : FnScope ["value"] ["value"] (defScope s_is_worth) := ⟨rfl, rfl, rfl, by decide +kernel, rfl, by decide +kernel, by decide +kernel⟩
def m_is_worth : SM :=
  (SM.seq (M.thn (M.bind (M.bind (M.bind (M.bind (M.bind (getSl 0) frz) fun o => M.bind (M.pure []) fun os => M.pure (o :: os)) (callF f_is_count 1)) truthOf) fun c => if c then (M.bind (getSl 0) fun x => M.bind (kst (.int 9)) fun y => op2 (rvB fLe) x y) else kst (.bl false)) fun o S => .rt o S)
    SM.nil)
def f_is_worth : FSem := runDef m_is_worth 1
theorem b_is_worth {f : Addr} (T : Bt mg) (c_is_count : KD P w K mg base "is_count" f_is_count ["value"] 2) (g_MOST_WORTH : KGi mg "MOST_WORTH" 9) (cdv : Value) (A : Around) (outer : List Env) (s : Shared) (H : Hp) (E : XK) (hr : Room 2 (A.deeper (envOfC "is_worth" (defScope s_is_worth) s.heap.objs.size f cdv))) (hgd : A.guards = some []) :
    SXs (cxOf (L2.CX P w) P w K mg base ["value"] "is_worth" (defScope s_is_worth) f cdv A outer s H E) (defBody s_is_worth) m_is_worth :=
  (sxs_cons (sx_ret (px_and (px_callD c_is_count rfl hr hgd (by decide) (by rfl) (fxs_cons (fx_of (px_var 0)) fxs_nil)) (px_one (px_cmp op_leA prim_le (px_var 0) (px_gi g_MOST_WORTH (by rfl)) (nomark _)))))
    sxs_nil)
def s_check_ins : Stmt := top 34
theorem sc_check_ins : FnScope ["ins", "place"] ["ins"] (defScope s_check_ins) := ⟨rfl, rfl, rfl, by decide +kernel, rfl, by decide +kernel, by decide +kernel⟩
def m_check_ins : SM :=
  (SM.seq (M.thn (M.bind (M.bind (M.bind (M.bind (M.bind (M.bind (getSl 0) frz) fun o => M.bind (M.pure []) fun os => M.pure (o :: os)) (callF f_is_list 1)) truthOf) fun b => M.pure (!b)) fun c => if c then M.pure true else (M.bind (M.bind (M.bind (getSl 0) fun o => M.bind (M.pure []) fun os => M.pure (o :: os)) (opN fLenB)) fun x => M.bind (kst (.int 0)) fun y => cmpB eqA2 x y)) fun b => if b then (SM.seq (M.thn (M.bind (M.bind (kst .non) frz) fun o => M.bind (M.pure []) fun os => M.pure (o :: os)) (raiseM "InvalidIns" ["position"]))
    SM.nil) else SM.nil)
    (SM.seq (M.thn (M.bind (M.bind (M.bind (getSl 0) frz) fun o => M.bind (M.bind (M.bind (M.bind (M.pure []) mkL) frz) fun o => M.bind (M.pure []) fun os => M.pure (o :: os)) fun os => M.pure (o :: os)) (callF f_wrong_name 2)) (setSl 1))
    (SM.seq (M.thn (M.bind (getSl 1) fun x => M.bind (kst .non) fun y => cmpB fNotN x y) fun b => if b then (SM.seq (M.thn (M.bind (M.bind (getSl 1) frz) fun o => M.bind (M.pure []) fun os => M.pure (o :: os)) (raiseM "InvalidIns" ["position"]))
    SM.nil) else SM.nil)
    (SM.seq (M.thn (M.bind (M.bind (M.bind (getSl 0) fun o => M.bind (M.pure []) fun os => M.pure (o :: os)) (opN fLenB)) fun x => M.bind (kst (.int 4)) fun y => cmpB fGt x y) fun b => if b then (SM.seq (M.thn (M.bind (M.bind (kst (.str "ins")) frz) fun o => M.bind (M.bind (M.bind (kst (.int 4)) frz) fun o => M.bind (M.pure []) fun os => M.pure (o :: os)) fun os => M.pure (o :: os)) (raiseM "TooMany" ["what", "limit"]))
    SM.nil) else SM.nil)
    SM.nil))))
def f_check_ins : FSem := runDef m_check_ins 2
theorem b_check_ins {f : Addr} (T : Bt mg) (c_is_list : KD P w K mg base "is_list" f_is_list ["value"] 1) (c_wrong_name : KD P w K mg base "wrong_name" f_wrong_name ["names", "barred"] 2) (c_InvalidIns : KC P w K mg base "InvalidIns" ["position"]) (c_TooMany : KC P w K mg base "TooMany" ["what", "limit"]) (g_MOST_INS : KGi mg "MOST_INS" 4) (cdv : Value) (A : Around) (outer : List Env) (s : Shared) (H : Hp) (E : XK) (hr : Room 2 (A.deeper (envOfC "check_ins" (defScope s_check_ins) s.heap.objs.size f cdv))) (hgd : A.guards = some []) :
    SXs (cxOf (L2.CX P w) P w K mg base ["ins", "place"] "check_ins" (defScope s_check_ins) f cdv A outer s H E) (defBody s_check_ins) m_check_ins :=
  (sxs_cons (sx_if (bx_bool (bw_or (bx_not (bx_val (px_callD c_is_list rfl hr hgd (by decide) (by rfl) (fxs_cons (fx_of (px_var 0)) fxs_nil)))) (bw_or1 (bx_cmp (op_eqA2 (room64 hr)) prim_eqA2 (px_callB call_lenB prim_lenB (by rfl) T.len_ (by decide +kernel) (oxs_cons (px_var 0) oxs_nil)) px_int (nomark _))))) (sxs_cons (sx_raise rfl (c_InvalidIns.knR hr hgd) (by rfl) (fxs_cons (fx_of px_non) fxs_nil))
    sxs_nil) sxs_nil)
    (sxs_cons (sx_set 1 sc_check_ins.nd rfl (by first | exact Or.inl rfl | exact Or.inr rfl) (px_callD c_wrong_name rfl hr hgd (by decide) (by rfl) (fxs_cons (fx_of (px_var 0)) (fxs_cons (fx_of (px_lst fxs_nil)) fxs_nil))))
    (sxs_cons (sx_if (bx_cmp op_notN prim_notN (px_var 1) px_non (nomark _)) (sxs_cons (sx_raise rfl (c_InvalidIns.knR hr hgd) (by rfl) (fxs_cons (fx_of (px_var 1)) fxs_nil))
    sxs_nil) sxs_nil)
    (sxs_cons (sx_if (bx_cmp op_gt prim_gt (px_callB call_lenB prim_lenB (by rfl) T.len_ (by decide +kernel) (oxs_cons (px_var 0) oxs_nil)) (px_gi g_MOST_INS (by rfl)) (nomark _)) (sxs_cons (sx_raise rfl (c_TooMany.knR hr hgd) (by rfl) (fxs_cons (fx_of px_str) (fxs_cons (fx_of (px_gi g_MOST_INS (by rfl))) fxs_nil)))
    sxs_nil) sxs_nil)
    sxs_nil))))
def s_check_outs : Stmt := top 35
theorem sc_check_outs : FnScope ["ins", "outs", "place"] ["ins", "outs"] (defScope s_check_outs) := ⟨rfl, rfl, rfl, by decide +kernel, rfl, by decide +kernel, by decide +kernel⟩
def m_check_outs : SM :=
  (SM.seq (M.thn (M.bind (M.bind (M.bind (M.bind (M.bind (getSl 1) frz) fun o => M.bind (M.pure []) fun os => M.pure (o :: os)) (callF f_is_list 1)) truthOf) fun b => M.pure (!b)) fun b => if b then (SM.seq (M.thn (M.bind (M.bind (kst .non) frz) fun o => M.bind (M.pure []) fun os => M.pure (o :: os)) (raiseM "InvalidOuts" ["position"]))
    SM.nil) else SM.nil)
    (SM.seq (M.thn (M.bind (M.bind (M.bind (getSl 1) frz) fun o => M.bind (M.bind (M.bind (getSl 0) frz) fun o => M.bind (M.pure []) fun os => M.pure (o :: os)) fun os => M.pure (o :: os)) (callF f_wrong_name 2)) (setSl 2))
    (SM.seq (M.thn (M.bind (getSl 2) fun x => M.bind (kst .non) fun y => cmpB fNotN x y) fun b => if b then (SM.seq (M.thn (M.bind (M.bind (getSl 2) frz) fun o => M.bind (M.pure []) fun os => M.pure (o :: os)) (raiseM "InvalidOuts" ["position"]))
    SM.nil) else SM.nil)
    (SM.seq (M.thn (M.bind (M.bind (M.bind (getSl 1) fun o => M.bind (M.pure []) fun os => M.pure (o :: os)) (opN fLenB)) fun x => M.bind (kst (.int 3)) fun y => cmpB fGt x y) fun b => if b then (SM.seq (M.thn (M.bind (M.bind (kst (.str "outs")) frz) fun o => M.bind (M.bind (M.bind (kst (.int 3)) frz) fun o => M.bind (M.pure []) fun os => M.pure (o :: os)) fun os => M.pure (o :: os)) (raiseM "TooMany" ["what", "limit"]))
    SM.nil) else SM.nil)
    SM.nil))))
def f_check_outs : FSem := runDef m_check_outs 3
theorem b_check_outs {f : Addr} (T : Bt mg) (c_is_list : KD P w K mg base "is_list" f_is_list ["value"] 1) (c_wrong_name : KD P w K mg base "wrong_name" f_wrong_name ["names", "barred"] 2) (c_InvalidOuts : KC P w K mg base "InvalidOuts" ["position"]) (c_TooMany : KC P w K mg base "TooMany" ["what", "limit"]) (g_MOST_OUTS : KGi mg "MOST_OUTS" 3) (cdv : Value) (A : Around) (outer : List Env) (s : Shared) (H : Hp) (E : XK) (hr : Room 2 (A.deeper (envOfC "check_outs" (defScope s_check_outs) s.heap.objs.size f cdv))) (hgd : A.guards = some []) :
    SXs (cxOf (L2.CX P w) P w K mg base ["ins", "outs", "place"] "check_outs" (defScope s_check_outs) f cdv A outer s H E) (defBody s_check_outs) m_check_outs :=
  (sxs_cons (sx_if (bx_not (bx_val (px_callD c_is_list rfl hr hgd (by decide) (by rfl) (fxs_cons (fx_of (px_var 1)) fxs_nil)))) (sxs_cons (sx_raise rfl (c_InvalidOuts.knR hr hgd) (by rfl) (fxs_cons (fx_of px_non) fxs_nil))
    sxs_nil) sxs_nil)
    (sxs_cons (sx_set 2 sc_check_outs.nd rfl (by first | exact Or.inl rfl | exact Or.inr rfl) (px_callD c_wrong_name rfl hr hgd (by decide) (by rfl) (fxs_cons (fx_of (px_var 1)) (fxs_cons (fx_of (px_var 0)) fxs_nil))))
    (sxs_cons (sx_if (bx_cmp op_notN prim_notN (px_var 2) px_non (nomark _)) (sxs_cons (sx_raise rfl (c_InvalidOuts.knR hr hgd) (by rfl) (fxs_cons (fx_of (px_var 2)) fxs_nil))
    sxs_nil) sxs_nil)
    (sxs_cons (sx_if (bx_cmp op_gt prim_gt (px_callB call_lenB prim_lenB (by rfl) T.len_ (by decide +kernel) (oxs_cons (px_var 1) oxs_nil)) (px_gi g_MOST_OUTS (by rfl)) (nomark _)) (sxs_cons (sx_raise rfl (c_TooMany.knR hr hgd) (by rfl) (fxs_cons (fx_of px_str) (fxs_cons (fx_of (px_gi g_MOST_OUTS (by rfl))) fxs_nil)))
    sxs_nil) sxs_nil)
    sxs_nil))))
def s_law_names : Stmt := top 48
theorem sc_law_names : FnScope ["_law_pot_here", "_law_many", "_law_taken", "_law_turn", "_law_found", "_law_letters", "_law_word", "_law_near", "_law_k", "_law_sign", "_law_label"] ["_law_pot_here", "_law_many", "_law_taken"] (defScope s_law_names) := ⟨rfl, rfl, rfl, by decide +kernel, rfl, by decide +kernel, by decide +kernel⟩
def m_law_names : SM :=
  (SM.seq (M.thn (M.bind (M.pure []) mkL) fun o1 => M.thn (kst (.str "abcdefghijklmnopqrstuvwxyz")) fun o2 => parM 4 5 o1 o2)
    (SM.seq (M.thn (M.bind (M.bind (M.bind (getSl 1) frz) fun o => M.bind (M.pure []) fun os => M.pure (o :: os)) asRange1) fun ds => loopM (storeD 3) (SM.seq (M.thn (M.map (fun d => .v (.v d)) (M.bind (M.bind (kst (.str "")) frz) fun d => M.bind (if isStr d then M.pure d else M.stuck) fun d => M.bind (M.bind (M.bind (M.bind (M.bind (M.bind (M.bind (M.bind (M.bind (M.bind (kst (.int 1)) frz) fun o => M.bind (M.bind (M.bind (kst (.int 1)) frz) fun o => M.bind (M.bind (M.bind (kst (.int 2)) frz) fun o => M.bind (M.bind (M.bind (kst (.int 8)) frz) fun o => M.bind (M.pure []) fun os => M.pure (o :: os)) fun os => M.pure (o :: os)) fun os => M.pure (o :: os)) fun os => M.pure (o :: os)) mkL) fun x => M.bind (M.bind (getSl 0) fun _ => M.bind (M.bind (M.bind (kst (.int 4)) frz) fun o => M.bind (M.pure []) fun os => M.pure (o :: os)) (callP f_law_draw 2 0)) fun y => op2 fIxA x y) frz) fun o => M.bind (M.pure []) fun os => M.pure (o :: os)) asRange1) (compM ([("_law_k", 8)].map (·.2)) (storeD 8) (M.pure true) (M.bind (M.bind (getSl 0) fun _ => M.bind (M.bind (M.bind (getSl 5) frz) fun o => M.bind (M.pure []) fun os => M.pure (o :: os)) (callP f_law_pick 2 0)) frz))) frz) fun l => joinM d l)) (setSl 6))
    (SM.seq (M.thn (M.bind (M.bind (M.bind (M.bind (getSl 6) frz) fun o => M.bind (M.pure []) fun os => M.pure (o :: os)) mkL) fun x => M.bind (M.bind (M.bind (M.bind (getSl 5) frz) asSeqS) (compM ([("_law_sign", 9)].map (·.2)) (storeD 9) (M.pure true) (M.bind (M.bind (M.bind (getSl 6) fun o => M.bind (M.pure none) fun l => M.bind (M.bind (M.bind (kst (.int 7)) frz) asInt) fun u => cutM o l u) fun x => M.bind (getSl 9) fun y => op2 fAdd x y) frz))) fun y => op2 fAdd x y) (setSl 7))
    (SM.seq (appendM 4 (M.bind (M.bind (M.bind (M.bind (M.bind (getSl 7) frz) asSeqS) (compM ([("_law_label", 10)].map (·.2)) (storeD 10) (M.bind (M.bind (getSl 10) fun x => M.bind (getSl 4) fun y => cmpB fNotIn x y) fun c => if c then (M.bind (getSl 10) fun x => M.bind (getSl 2) fun y => cmpB fNotIn x y) else M.pure false) (M.bind (getSl 10) frz))) fun x => M.bind (kst (.int 0)) fun y => op2 fIxA x y) frz))
    SM.nil))) ds)
    (SM.seq (M.thn (getSl 4) fun o S => .rt o S)
    SM.nil)))
def f_law_names : FSem := runDef m_law_names 11
theorem b_law_names {f : Addr} (T : Bt mg) (c_law_draw : KD P w K mg base "_law_draw" f_law_draw ["_law_pot_here", "_law_many"] 1) (c_law_pick : KD P w K mg base "_law_pick" f_law_pick ["_law_pot_here", "_law_some"] 2) (cdv : Value) (A : Around) (outer : List Env) (s : Shared) (H : Hp) (E : XK) (hr : Room 2 (A.deeper (envOfC "_law_names" (defScope s_law_names) s.heap.objs.size f cdv))) (hgd : A.guards = some []) :
    SXs (cxOf (L2.CX P w) P w K mg base ["_law_pot_here", "_law_many", "_law_taken", "_law_turn", "_law_found", "_law_letters", "_law_word", "_law_near", "_law_k", "_law_sign", "_law_label"] "_law_names" (defScope s_law_names) f cdv A outer s H E) (defBody s_law_names) m_law_names :=
  (sxs_cons (sx_parT 4 5 rfl sc_law_names.nd rfl rfl (by decide) (by first | exact Or.inl rfl | exact Or.inr rfl) (by first | exact Or.inl rfl | exact Or.inr rfl) (px_lst fxs_nil) px_str)
    (sxs_cons (sx_for rfl (ix_range1 (by rfl) T.range_ (fxs_cons (fx_of (px_var 1)) fxs_nil)) (gx_name 3 sc_law_names.nd rfl (by first | exact Or.inl rfl | exact Or.inr rfl)) (sxs_cons (sx_set 6 sc_law_names.nd rfl (by first | exact Or.inl rfl | exact Or.inr rfl) (px_of (fx_join (fx_of px_str) (fx_of (px_lc rfl sc_law_names.nd (by exact (ix_range1 (by rfl) T.range_ (fxs_cons (fx_of (px_ixA (room64 hr) (px_lst (fxs_cons (fx_of px_int) (fxs_cons (fx_of px_int) (fxs_cons (fx_of px_int) (fxs_cons (fx_of px_int) fxs_nil))))) (px_callpD 0 c_law_draw rfl hr hgd (by decide) (by rfl) (px_var 0) (fxs_cons (fx_of px_int) fxs_nil)))) fxs_nil))) (blk_of (own := [("_law_k", 8)]) (by rfl)) (by decide) (fun s H C cl fp => (gx_name 8 sc_law_names.nd rfl (by first | exact Or.inl rfl | exact Or.inr rfl))) (fun s H C cl fp => txs_nil) (fun s H C cl fp => (fx_of (px_callpD 0 c_law_pick rfl hr hgd (by decide) (by rfl) (px_var 0) (fxs_cons (fx_of (px_var 5)) fxs_nil)))))))))
    (sxs_cons (sx_set 7 sc_law_names.nd rfl (by first | exact Or.inl rfl | exact Or.inr rfl) (px_op2 op_addA prim_add (px_lst (fxs_cons (fx_of (px_var 6)) fxs_nil)) (px_lc rfl sc_law_names.nd (by exact (ix_seqS (fx_of (px_var 5)))) (blk_of (own := [("_law_sign", 9)]) (by rfl)) (by decide) (fun s H C cl fp => (gx_name 9 sc_law_names.nd rfl (by first | exact Or.inl rfl | exact Or.inr rfl))) (fun s H C cl fp => txs_nil) (fun s H C cl fp => (fx_of (px_op2 op_addA prim_add (px_slice (px_var 6) optx_none (optx_some (fx_of px_int))) (px_var 9)))))))
    (sxs_cons (sx_append 4 rfl (fx_of (px_ixA (room64 hr) (px_lc rfl sc_law_names.nd (by exact (ix_seqS (fx_of (px_var 7)))) (blk_of (own := [("_law_label", 10)]) (by rfl)) (by decide) (fun s H C cl fp => (gx_name 10 sc_law_names.nd rfl (by first | exact Or.inl rfl | exact Or.inr rfl))) (fun s H C cl fp => (txs_one (bx_bool (bw_and (bx_cmp (op_notInA (room64 hr)) prim_notInA (px_var 10) (px_var 4) (by with_unfolding_all rfl)) (bw_and1 (bx_cmp (op_notInA (room64 hr)) prim_notInA (px_var 10) (px_var 2) (by with_unfolding_all rfl))))))) (fun s H C cl fp => (fx_of (px_var 10)))) px_int)))
    sxs_nil))))
    (sxs_cons (sx_ret (px_var 4))
    sxs_nil)))
def s_law_worths : Stmt := top 49
theorem sc_law_worths : FnScope ["_law_pot_here", "_law_lines", "_law_worths_here", "_law_least", "_law_some", "_law_line"] ["_law_pot_here", "_law_lines", "_law_worths_here", "_law_least"] (defScope s_law_worths) := ⟨rfl, rfl, rfl, by decide +kernel, rfl, by decide +kernel, by decide +kernel⟩
def m_law_worths : SM :=
  (SM.seq (M.thn (M.bind (M.bind (M.bind (getSl 1) frz) asSeqS) (compM ([("_law_line", 5)].map (·.2)) (storeD 5) (M.bind (M.bind (getSl 0) fun _ => M.bind (M.bind (M.bind (kst (.int 2)) frz) fun o => M.bind (M.pure []) fun os => M.pure (o :: os)) (callP f_law_draw 2 0)) fun x => M.bind (kst (.int 0)) fun y => cmpB eqA2 x y) (M.bind (getSl 5) frz))) (setSl 4))
    (SM.seq (M.thn (M.bind (M.bind (M.bind (getSl 4) fun o => M.bind (M.pure []) fun os => M.pure (o :: os)) (opN fLenB)) fun x => M.bind (getSl 3) fun y => cmpB fLt x y) fun b => if b then (SM.seq (M.thn (M.bind (M.bind (M.bind (M.bind (getSl 0) fun _ => M.bind (M.bind (M.bind (getSl 1) frz) fun o => M.bind (M.pure []) fun os => M.pure (o :: os)) (callP f_law_pick 2 0)) frz) fun o => M.bind (M.pure []) fun os => M.pure (o :: os)) mkL) (setSl 4))
    SM.nil) else SM.nil)
    (SM.seq (M.thn (M.bind (M.bind (M.bind (M.bind (M.bind (getSl 4) frz) asSeqS) (compM ([("_law_line", 5)].map (·.2)) (storeD 5) (M.pure true) (M.bind (M.bind (M.bind (M.bind (getSl 5) frz) fun o => M.bind (M.bind (M.bind (M.bind (getSl 0) fun _ => M.bind (M.bind (M.bind (getSl 2) frz) fun o => M.bind (M.pure []) fun os => M.pure (o :: os)) (callP f_law_draw 2 0)) frz) fun o => M.bind (M.pure []) fun os => M.pure (o :: os)) fun os => M.pure (o :: os)) mkT) frz))) fun o => M.bind (M.pure []) fun os => M.pure (o :: os)) (opN fDictA)) fun o S => .rt o S)
    SM.nil)))
def f_law_worths : FSem := runDef m_law_worths 6
theorem b_law_worths {f : Addr} (T : Bt mg) (c_law_draw : KD P w K mg base "_law_draw" f_law_draw ["_law_pot_here", "_law_many"] 1) (c_law_pick : KD P w K mg base "_law_pick" f_law_pick ["_law_pot_here", "_law_some"] 2) (cdv : Value) (A : Around) (outer : List Env) (s : Shared) (H : Hp) (E : XK) (hr : Room 2 (A.deeper (envOfC "_law_worths" (defScope s_law_worths) s.heap.objs.size f cdv))) (hgd : A.guards = some []) :
    SXs (cxOf (L2.CX P w) P w K mg base ["_law_pot_here", "_law_lines", "_law_worths_here", "_law_least", "_law_some", "_law_line"] "_law_worths" (defScope s_law_worths) f cdv A outer s H E) (defBody s_law_worths) m_law_worths :=
  (sxs_cons (sx_setLc 4 rfl sc_law_worths.nd rfl rfl (sw_true rfl rfl rfl (by rfl)) (by exact (ix_seqS (fx_of (px_var 1)))) (blk_of (own := [("_law_line", 5)]) (by rfl)) (by decide) (fun s H C cl fp => (gx_name 5 sc_law_worths.nd rfl (by first | exact Or.inl rfl | exact Or.inr rfl))) (fun s H C cl fp => (txs_one (bx_cmp (op_eqA2 (room64 hr)) prim_eqA2 (px_callpD 0 c_law_draw rfl hr hgd (by decide) (by rfl) (px_var 0) (fxs_cons (fx_of px_int) fxs_nil)) px_int (nomark _)))) (fun s H C cl fp => (fx_of (px_var 5))))
    (sxs_cons (sx_if (bx_cmp op_lt prim_lt (px_callB call_lenB prim_lenB (by rfl) T.len_ (by decide +kernel) (oxs_cons (px_var 4) oxs_nil)) (px_var 3) (nomark _)) (sxs_cons (sx_set 4 sc_law_worths.nd rfl (by first | exact Or.inl rfl | exact Or.inr rfl) (px_lst (fxs_cons (fx_of (px_callpD 0 c_law_pick rfl hr hgd (by decide) (by rfl) (px_var 0) (fxs_cons (fx_of (px_var 1)) fxs_nil))) fxs_nil)))
    sxs_nil) sxs_nil)
    (sxs_cons (sx_ret (px_callTy (call_dictA rfl) prim_dictA (by rfl) T.dict_ (by decide +kernel) (oxs_cons (px_lc rfl sc_law_worths.nd (by exact (ix_seqS (fx_of (px_var 4)))) (blk_of (own := [("_law_line", 5)]) (by rfl)) (by decide) (fun s H C cl fp => (gx_name 5 sc_law_worths.nd rfl (by first | exact Or.inl rfl | exact Or.inr rfl))) (fun s H C cl fp => txs_nil) (fun s H C cl fp => (fx_of (px_tup (fxs_cons (fx_of (px_var 5)) (fxs_cons (fx_of (px_callpD 0 c_law_draw rfl hr hgd (by decide) (by rfl) (px_var 0) (fxs_cons (fx_of (px_var 2)) fxs_nil))) fxs_nil)))))) oxs_nil)))
    sxs_nil)))
def s_are_worths : Stmt := top 26
theorem sc_are_worths : FnScope ["value", "lines", "line", "worth"] ["value", "lines"] (defScope s_are_worths) := ⟨rfl, rfl, rfl, by decide +kernel, rfl, by decide +kernel, by decide +kernel⟩
def m_are_worths : SM :=
  (SM.seq (M.thn (M.bind (M.bind (M.bind (getSl 0) (isiM ["dict"])) truthOf) fun b => M.pure (!b)) fun b => if b then (SM.seq (M.thn (kst (.bl false)) fun o S => .rt o S)
    SM.nil) else SM.nil)
    (SM.seq (M.thn (M.bind (M.bind (M.bind (itemsSl 0) (compM ([("line", 2), ("worth", 3)].map (·.2)) (gTupM 2 (gConsM (storeD 2) (gConsM (storeD 3) gNilM))) (M.pure true) (M.bind (M.bind (M.bind (M.bind (M.bind (M.bind (getSl 2) frz) fun o => M.bind (M.bind (M.bind (getSl 1) frz) fun o => M.bind (M.pure []) fun os => M.pure (o :: os)) fun os => M.pure (o :: os)) (callF f_is_line 2)) truthOf) fun c => if c then (M.bind (M.bind (M.bind (getSl 3) frz) fun o => M.bind (M.pure []) fun os => M.pure (o :: os)) (callF f_is_worth 1)) else kst (.bl false)) frz))) fun o => M.bind (M.pure []) fun os => M.pure (o :: os)) (opN fAll)) fun o S => .rt o S)
    SM.nil))
def f_are_worths : FSem := runDef m_are_worths 4
theorem b_are_worths {f : Addr} (T : Bt mg) (c_is_line : KD P w K mg base "is_line" f_is_line ["value", "lines"] 1) (c_is_worth : KD P w K mg base "is_worth" f_is_worth ["value"] 3) (cdv : Value) (A : Around) (outer : List Env) (s : Shared) (H : Hp) (E : XK) (hr : Room 3 (A.deeper (envOfC "are_worths" (defScope s_are_worths) s.heap.objs.size f cdv))) (hgd : A.guards = some []) :
    SXs (cxOf (L2.CX P w) P w K mg base ["value", "lines", "line", "worth"] "are_worths" (defScope s_are_worths) f cdv A outer s H E) (defBody s_are_worths) m_are_worths :=
  (sxs_cons (sx_if (bx_not (bx_val (px_isi1 (by decide) (by rfl) T.dict_ (by decide +kernel) T.isinstance_ (px_var 0)))) (sxs_cons (sx_ret px_bl)
    sxs_nil) sxs_nil)
    (sxs_cons (sx_ret (px_callB (cr_all rfl) prim_all (by rfl) T.all_ (by decide +kernel) (oxs_cons (px_lcI 0 rfl (by first | exact Or.inl rfl | exact Or.inr rfl) rfl sc_are_worths.nd (blk_of (own := [("line", 2), ("worth", 3)]) (by rfl)) (by decide) (fun s H C cl fp => (gx_tup rfl (gxs_cons (gx_name 2 sc_are_worths.nd rfl (by first | exact Or.inl rfl | exact Or.inr rfl)) (gxs_cons (gx_name 3 sc_are_worths.nd rfl (by first | exact Or.inl rfl | exact Or.inr rfl)) gxs_nil)))) (fun s H C cl fp => txs_nil) (fun s H C cl fp => (fx_of (px_and (px_callD c_is_line rfl hr hgd (by decide) (by rfl) (fxs_cons (fx_of (px_var 2)) (fxs_cons (fx_of (px_var 1)) fxs_nil))) (px_one (px_callD c_is_worth rfl hr hgd (by decide) (by rfl) (fxs_cons (fx_of (px_var 3)) fxs_nil))))))) oxs_nil)))
    sxs_nil))
def s_check_number : Stmt := top 28
theorem sc_check_number : FnScope ["machine", "number"] ["machine", "number"] (defScope s_check_number) := ⟨rfl, rfl, rfl, by decide +kernel, rfl, by decide +kernel, by decide +kernel⟩
def m_check_number : SM :=
  (SM.seq (M.thn (M.bind (M.bind (M.bind (M.bind (M.bind (getSl 1) frz) fun o => M.bind (M.bind (M.bind (M.bind (getSl 0) fun x => oneM "Machine" f_Machine___len__ goodLen fLen x) frz) fun o => M.bind (M.pure []) fun os => M.pure (o :: os)) fun os => M.pure (o :: os)) (callF f_is_below 2)) truthOf) fun b => M.pure (!b)) fun b => if b then (SM.seq (M.thn (M.bind (M.bind (getSl 1) frz) fun o => M.bind (M.pure []) fun os => M.pure (o :: os)) (raiseM "InvalidNumber" ["value"]))
    SM.nil) else SM.nil)
    SM.nil)
def f_check_number : FSem := runDef m_check_number 2
theorem b_check_number {f : Addr} (T : Bt mg) (cs_Machine___len__ : KS P w K mg base "Machine" "__len__" f_Machine___len__ ["self"] 1) (c_is_below : KD P w K mg base "is_below" f_is_below ["value", "limit"] 3) (c_InvalidNumber : KC P w K mg base "InvalidNumber" ["value"]) (cdv : Value) (A : Around) (outer : List Env) (s : Shared) (H : Hp) (E : XK) (hr : Room 3 (A.deeper (envOfC "check_number" (defScope s_check_number) s.heap.objs.size f cdv))) (hgd : A.guards = some []) :
    SXs (cxOf (L2.CX P w) P w K mg base ["machine", "number"] "check_number" (defScope s_check_number) f cdv A outer s H E) (defBody s_check_number) m_check_number :=
  (sxs_cons (sx_if (bx_not (bx_val (px_callD c_is_below rfl hr hgd (by decide) (by rfl) (fxs_cons (fx_of (px_var 1)) (fxs_cons (fx_of (px_lenO cs_Machine___len__ rfl hr hgd (by decide) call_lenA prim_len (by rfl) T.len_ (by decide +kernel) (px_var 0))) fxs_nil))))) (sxs_cons (sx_raise rfl (c_InvalidNumber.knR hr hgd) (by rfl) (fxs_cons (fx_of (px_var 1)) fxs_nil))
    sxs_nil) sxs_nil)
    sxs_nil)
def s_check_standing : Stmt := top 29
theorem sc_check_standing : FnScope ["machine", "standing"] ["machine", "standing"] (defScope s_check_standing) := ⟨rfl, rfl, rfl, by decide +kernel, rfl, by decide +kernel, by decide +kernel⟩
def m_check_standing : SM :=
  (SM.seq (M.thn (M.bind (M.bind (M.bind (M.bind (M.bind (getSl 1) frz) fun o => M.bind (M.bind (M.bind (M.bind (M.bind (getSl 0) frz) fun d => M.bind (insOf "Machine" "standings" d) fun d => callV f_Machine_standings 1 [d]) frz) fun o => M.bind (M.pure []) fun os => M.pure (o :: os)) fun os => M.pure (o :: os)) (callF f_is_below 2)) truthOf) fun b => M.pure (!b)) fun b => if b then (SM.seq (M.thn (M.bind (M.bind (getSl 1) frz) fun o => M.bind (M.pure []) fun os => M.pure (o :: os)) (raiseM "InvalidStanding" ["value"]))
    SM.nil) else SM.nil)
    SM.nil)
def f_check_standing : FSem := runDef m_check_standing 2
theorem b_check_standing {f : Addr} (T : Bt mg) (cp_Machine_standings : KP P w K mg base "Machine" "standings" f_Machine_standings ["self"] 1) (c_is_below : KD P w K mg base "is_below" f_is_below ["value", "limit"] 3) (c_InvalidStanding : KC P w K mg base "InvalidStanding" ["value"]) (cdv : Value) (A : Around) (outer : List Env) (s : Shared) (H : Hp) (E : XK) (hr : Room 3 (A.deeper (envOfC "check_standing" (defScope s_check_standing) s.heap.objs.size f cdv))) (hgd : A.guards = some []) :
    SXs (cxOf (L2.CX P w) P w K mg base ["machine", "standing"] "check_standing" (defScope s_check_standing) f cdv A outer s H E) (defBody s_check_standing) m_check_standing :=
  (sxs_cons (sx_if (bx_not (bx_val (px_callD c_is_below rfl hr hgd (by decide) (by rfl) (fxs_cons (fx_of (px_var 1)) (fxs_cons (fx_of (px_prop cp_Machine_standings rfl hr hgd (by decide) (fx_of (px_var 0)))) fxs_nil))))) (sxs_cons (sx_raise rfl (c_InvalidStanding.knR hr hgd) (by rfl) (fxs_cons (fx_of (px_var 1)) fxs_nil))
    sxs_nil) sxs_nil)
    sxs_nil)
def s_law_row : Stmt := top 51
theorem sc_law_row : FnScope ["_law_pot_here", "_law_sheet_here", "_law_worths_here", "_law_takes", "_law_gives"] ["_law_pot_here", "_law_sheet_here", "_law_worths_here"] (defScope s_law_row) := ⟨rfl, rfl, rfl, by decide +kernel, rfl, by decide +kernel, by decide +kernel⟩
def m_law_row : SM :=
  (SM.seq (M.thn (M.bind (getSl 0) fun _ => M.bind (M.bind (M.bind (M.bind (getSl 1) fun x => M.bind (kst (.str "ins")) fun y => op2 fIxA x y) frz) fun o => M.bind (M.bind (M.bind (getSl 2) frz) fun o => M.bind (M.bind (M.bind (kst (.int 1)) frz) fun o => M.bind (M.pure []) fun os => M.pure (o :: os)) fun os => M.pure (o :: os)) fun os => M.pure (o :: os)) (callP f_law_worths 4 0)) fun o1 => M.thn (M.pure (.v (.od false []))) fun o2 => parM 3 4 o1 o2)
    (SM.seq (M.thn (M.bind (M.bind (getSl 1) fun x => M.bind (kst (.str "outs")) fun y => op2 fIxA x y) fun x => M.bind (M.bind (M.pure []) mkL) fun y => cmpB neA2 x y) fun b => if b then (SM.seq (M.thn (M.bind (getSl 0) fun _ => M.bind (M.bind (M.bind (M.bind (getSl 1) fun x => M.bind (kst (.str "outs")) fun y => op2 fIxA x y) frz) fun o => M.bind (M.bind (M.bind (getSl 2) frz) fun o => M.bind (M.bind (M.bind (kst (.int 0)) frz) fun o => M.bind (M.pure []) fun os => M.pure (o :: os)) fun os => M.pure (o :: os)) fun os => M.pure (o :: os)) (callP f_law_worths 4 0)) (setSl 4))
    SM.nil) else SM.nil)
    (SM.seq (M.thn (M.bind (M.bind (M.bind (M.bind (getSl 0) fun _ => M.bind (M.bind (M.bind (M.bind (getSl 1) fun x => M.bind (kst (.str "many")) fun y => op2 fIxA x y) frz) fun o => M.bind (M.pure []) fun os => M.pure (o :: os)) (callP f_law_draw 2 0)) frz) fun o => M.bind (M.bind (M.bind (getSl 3) frz) fun o => M.bind (M.bind (M.bind (getSl 4) frz) fun o => M.bind (M.bind (M.bind (M.bind (getSl 0) fun _ => M.bind (M.bind (M.bind (M.bind (getSl 1) fun x => M.bind (kst (.str "many")) fun y => op2 fIxA x y) frz) fun o => M.bind (M.pure []) fun os => M.pure (o :: os)) (callP f_law_draw 2 0)) frz) fun o => M.bind (M.pure []) fun os => M.pure (o :: os)) fun os => M.pure (o :: os)) fun os => M.pure (o :: os)) fun os => M.pure (o :: os)) mkT) fun o S => .rt o S)
    SM.nil)))
def f_law_row : FSem := runDef m_law_row 5
theorem b_law_row {f : Addr} (T : Bt mg) (c_law_draw : KD P w K mg base "_law_draw" f_law_draw ["_law_pot_here", "_law_many"] 1) (c_law_worths : KD P w K mg base "_law_worths" f_law_worths ["_law_pot_here", "_law_lines", "_law_worths_here", "_law_least"] 3) (cdv : Value) (A : Around) (outer : List Env) (s : Shared) (H : Hp) (E : XK) (hr : Room 3 (A.deeper (envOfC "_law_row" (defScope s_law_row) s.heap.objs.size f cdv))) (hgd : A.guards = some []) :
    SXs (cxOf (L2.CX P w) P w K mg base ["_law_pot_here", "_law_sheet_here", "_law_worths_here", "_law_takes", "_law_gives"] "_law_row" (defScope s_law_row) f cdv A outer s H E) (defBody s_law_row) m_law_row :=
  (sxs_cons (sx_par 3 4 rfl sc_law_row.nd rfl rfl (by decide) rfl rfl (px_callpD 0 c_law_worths rfl hr hgd (by decide) (by rfl) (px_var 0) (fxs_cons (fx_of (px_ixA (room64 hr) (px_var 1) px_str)) (fxs_cons (fx_of (px_var 2)) (fxs_cons (fx_of px_int) fxs_nil)))) px_dict0)
    (sxs_cons (sx_if (bx_cmp (op_neA2 (room64 hr)) prim_neA2 (px_ixA (room64 hr) (px_var 1) px_str) (px_lst fxs_nil) (nomark _)) (sxs_cons (sx_set 4 sc_law_row.nd rfl (by first | exact Or.inl rfl | exact Or.inr rfl) (px_callpD 0 c_law_worths rfl hr hgd (by decide) (by rfl) (px_var 0) (fxs_cons (fx_of (px_ixA (room64 hr) (px_var 1) px_str)) (fxs_cons (fx_of (px_var 2)) (fxs_cons (fx_of px_int) fxs_nil)))))
    sxs_nil) sxs_nil)
    (sxs_cons (sx_ret (px_tup (fxs_cons (fx_of (px_callpD 0 c_law_draw rfl hr hgd (by decide) (by rfl) (px_var 0) (fxs_cons (fx_of (px_ixA (room64 hr) (px_var 1) px_str)) fxs_nil))) (fxs_cons (fx_of (px_var 3)) (fxs_cons (fx_of (px_var 4)) (fxs_cons (fx_of (px_callpD 0 c_law_draw rfl hr hgd (by decide) (by rfl) (px_var 0) (fxs_cons (fx_of (px_ixA (room64 hr) (px_var 1) px_str)) fxs_nil))) fxs_nil))))))
    sxs_nil)))
def s_packed : Stmt := top 37
theorem sc_packed : FnScope ["value", "ins", "outs", "standings", "standing", "takes", "gives", "goal"] ["value", "ins", "outs", "standings"] (defScope s_packed) := ⟨rfl, rfl, rfl, by decide +kernel, rfl, by decide +kernel, by decide +kernel⟩
def m_packed : SM :=
  (SM.seq (M.thn (M.bind (M.bind (M.bind (M.bind (M.bind (getSl 0) frz) fun o => M.bind (M.bind (M.bind (kst (.int 4)) frz) fun o => M.bind (M.pure []) fun os => M.pure (o :: os)) fun os => M.pure (o :: os)) (callF f_is_tuple 2)) truthOf) fun b => M.pure (!b)) fun b => if b then (SM.seq (M.thn (kst .non) fun o S => .rt o S)
    SM.nil) else SM.nil)
    (SM.seq (M.thn (M.bind (getSl 0) frz) (gSM (gTupM 4 (gConsM (storeD 4) (gConsM (storeD 5) (gConsM (storeD 6) (gConsM (storeD 7) gNilM)))))))
    (SM.seq (M.thn (M.bind (M.bind (M.bind (M.bind (M.bind (M.bind (getSl 4) frz) fun o => M.bind (M.bind (M.bind (getSl 3) frz) fun o => M.bind (M.pure []) fun os => M.pure (o :: os)) fun os => M.pure (o :: os)) (callF f_is_below 2)) truthOf) fun b => M.pure (!b)) fun c => if c then M.pure true else (M.bind (M.bind (M.bind (M.bind (M.bind (getSl 7) frz) fun o => M.bind (M.bind (M.bind (getSl 3) frz) fun o => M.bind (M.pure []) fun os => M.pure (o :: os)) fun os => M.pure (o :: os)) (callF f_is_below 2)) truthOf) fun b => M.pure (!b))) fun b => if b then (SM.seq (M.thn (kst .non) fun o S => .rt o S)
    SM.nil) else SM.nil)
    (SM.seq (M.thn (M.bind (M.bind (M.bind (M.bind (M.bind (M.bind (getSl 5) frz) fun o => M.bind (M.bind (M.bind (getSl 1) frz) fun o => M.bind (M.pure []) fun os => M.pure (o :: os)) fun os => M.pure (o :: os)) (callF f_are_worths 2)) truthOf) fun b => M.pure (!b)) fun c => if c then M.pure true else (M.bind (M.bind (M.bind (M.bind (getSl 5) fun o => M.bind (M.pure []) fun os => M.pure (o :: os)) (opN fLenB)) fun x => M.bind (kst (.int 0)) fun y => cmpB eqA2 x y) fun c => if c then M.pure true else (M.bind (M.bind (M.bind (M.bind (M.bind (getSl 6) frz) fun o => M.bind (M.bind (M.bind (getSl 2) frz) fun o => M.bind (M.pure []) fun os => M.pure (o :: os)) fun os => M.pure (o :: os)) (callF f_are_worths 2)) truthOf) fun b => M.pure (!b)))) fun b => if b then (SM.seq (M.thn (kst .non) fun o S => .rt o S)
    SM.nil) else SM.nil)
    (SM.seq (M.thn (M.bind (M.bind (M.bind (getSl 4) frz) fun o => M.bind (M.bind (M.bind (M.bind (M.bind (M.bind (getSl 5) frz) fun o => M.bind (M.bind (M.bind (getSl 1) frz) fun o => M.bind (M.pure []) fun os => M.pure (o :: os)) fun os => M.pure (o :: os)) (callF f_paired 2)) frz) fun o => M.bind (M.bind (M.bind (M.bind (M.bind (M.bind (getSl 6) frz) fun o => M.bind (M.bind (M.bind (getSl 2) frz) fun o => M.bind (M.pure []) fun os => M.pure (o :: os)) fun os => M.pure (o :: os)) (callF f_paired 2)) frz) fun o => M.bind (M.bind (M.bind (getSl 7) frz) fun o => M.bind (M.pure []) fun os => M.pure (o :: os)) fun os => M.pure (o :: os)) fun os => M.pure (o :: os)) fun os => M.pure (o :: os)) mkT) fun o S => .rt o S)
    SM.nil)))))
def f_packed : FSem := runDef m_packed 8
theorem b_packed {f : Addr} (T : Bt mg) (c_are_worths : KD P w K mg base "are_worths" f_are_worths ["value", "lines"] 4) (c_is_below : KD P w K mg base "is_below" f_is_below ["value", "limit"] 3) (c_is_tuple : KD P w K mg base "is_tuple" f_is_tuple ["value", "many"] 1) (c_paired : KD P w K mg base "paired" f_paired ["worths", "lines"] 1) (cdv : Value) (A : Around) (outer : List Env) (s : Shared) (H : Hp) (E : XK) (hr : Room 4 (A.deeper (envOfC "packed" (defScope s_packed) s.heap.objs.size f cdv))) (hgd : A.guards = some []) :
    SXs (cxOf (L2.CX P w) P w K mg base ["value", "ins", "outs", "standings", "standing", "takes", "gives", "goal"] "packed" (defScope s_packed) f cdv A outer s H E) (defBody s_packed) m_packed :=
  (sxs_cons (sx_if (bx_not (bx_val (px_callD c_is_tuple rfl hr hgd (by decide) (by rfl) (fxs_cons (fx_of (px_var 0)) (fxs_cons (fx_of px_int) fxs_nil))))) (sxs_cons (sx_ret px_non)
    sxs_nil) sxs_nil)
    (sxs_cons (sx_asg (fx_of (px_var 0)) (gx_tup rfl (gxs_cons (gx_name 4 sc_packed.nd rfl (by first | exact Or.inl rfl | exact Or.inr rfl)) (gxs_cons (gx_name 5 sc_packed.nd rfl (by first | exact Or.inl rfl | exact Or.inr rfl)) (gxs_cons (gx_name 6 sc_packed.nd rfl (by first | exact Or.inl rfl | exact Or.inr rfl)) (gxs_cons (gx_name 7 sc_packed.nd rfl (by first | exact Or.inl rfl | exact Or.inr rfl)) gxs_nil))))))
    (sxs_cons (sx_if (bx_bool (bw_or (bx_not (bx_val (px_callD c_is_below rfl hr hgd (by decide) (by rfl) (fxs_cons (fx_of (px_var 4)) (fxs_cons (fx_of (px_var 3)) fxs_nil))))) (bw_or1 (bx_not (bx_val (px_callD c_is_below rfl hr hgd (by decide) (by rfl) (fxs_cons (fx_of (px_var 7)) (fxs_cons (fx_of (px_var 3)) fxs_nil)))))))) (sxs_cons (sx_ret px_non)
    sxs_nil) sxs_nil)
    (sxs_cons (sx_if (bx_bool (bw_or (bx_not (bx_val (px_callD c_are_worths rfl hr hgd (by decide) (by rfl) (fxs_cons (fx_of (px_var 5)) (fxs_cons (fx_of (px_var 1)) fxs_nil))))) (bw_or (bx_cmp (op_eqA2 (room64 hr)) prim_eqA2 (px_callB call_lenB prim_lenB (by rfl) T.len_ (by decide +kernel) (oxs_cons (px_var 5) oxs_nil)) px_int (nomark _)) (bw_or1 (bx_not (bx_val (px_callD c_are_worths rfl hr hgd (by decide) (by rfl) (fxs_cons (fx_of (px_var 6)) (fxs_cons (fx_of (px_var 2)) fxs_nil))))))))) (sxs_cons (sx_ret px_non)
    sxs_nil) sxs_nil)
    (sxs_cons (sx_ret (px_tup (fxs_cons (fx_of (px_var 4)) (fxs_cons (fx_of (px_callD c_paired rfl hr hgd (by decide) (by rfl) (fxs_cons (fx_of (px_var 5)) (fxs_cons (fx_of (px_var 1)) fxs_nil)))) (fxs_cons (fx_of (px_callD c_paired rfl hr hgd (by decide) (by rfl) (fxs_cons (fx_of (px_var 6)) (fxs_cons (fx_of (px_var 2)) fxs_nil)))) (fxs_cons (fx_of (px_var 7)) fxs_nil))))))
    sxs_nil)))))
def s_law_sheet : Stmt := top 50
theorem sc_law_sheet : FnScope ["_law_pot_here", "_law_sizes", "_law_worths_here", "_law_few", "_law_labels", "_law_sheet_here", "_law_turn", "_law_row_here"] ["_law_pot_here", "_law_sizes", "_law_worths_here"] (defScope s_law_sheet) := ⟨rfl, rfl, rfl, by decide +kernel, rfl, by decide +kernel, by decide +kernel⟩
noncomputable def m_law_sheet : SM :=
  (SM.seq (M.thn (M.bind (kst (.int 1)) fun x => M.bind (M.bind (getSl 0) fun _ => M.bind (M.bind (M.bind (M.bind (getSl 1) fun x => M.bind (kst (.int 0)) fun y => op2 fIxA x y) frz) fun o => M.bind (M.pure []) fun os => M.pure (o :: os)) (callP f_law_draw 2 0)) fun y => op2 fAdd x y) (setSl 3))
    (SM.seq (M.thn (M.bind (getSl 0) fun _ => M.bind (M.bind (M.bind (M.bind (getSl 3) fun x => M.bind (M.bind (getSl 0) fun _ => M.bind (M.bind (M.bind (M.bind (M.bind (getSl 1) fun x => M.bind (kst (.int 1)) fun y => op2 fIxA x y) fun x => M.bind (kst (.int 1)) fun y => op2 fAdd x y) frz) fun o => M.bind (M.pure []) fun os => M.pure (o :: os)) (callP f_law_draw 2 0)) fun y => op2 fAdd x y) frz) fun o => M.bind (M.bind (M.bind (M.bind (M.pure []) mkL) frz) fun o => M.bind (M.pure []) fun os => M.pure (o :: os)) fun os => M.pure (o :: os)) (callP f_law_names 3 0)) (setSl 4))
    (SM.seq (sheetM 5 7 "rows" (M.bind (M.bind (kst (.str "ins")) frz) fun a => M.bind (M.bind (M.bind (getSl 4) fun o => M.bind (M.pure none) fun l => M.bind (M.bind (M.bind (getSl 3) frz) asInt) fun u => cutM o l u) frz) fun b => M.bind (M.bind (M.bind (kst (.str "outs")) frz) fun a => M.bind (M.bind (M.bind (getSl 4) fun o => M.bind (M.bind (M.bind (getSl 3) frz) asInt) fun l => M.bind (M.pure none) fun u => cutM o l u) frz) fun b => M.bind (M.bind (M.bind (kst (.str "many")) frz) fun a => M.bind (M.bind (M.bind (kst (.int 1)) fun x => M.bind (M.bind (getSl 0) fun _ => M.bind (M.bind (M.bind (M.bind (getSl 1) fun x => M.bind (kst (.int 2)) fun y => op2 fIxA x y) frz) fun o => M.bind (M.pure []) fun os => M.pure (o :: os)) (callP f_law_draw 2 0)) fun y => op2 fAdd x y) frz) fun b => M.bind (M.pure []) fun r => M.pure ((a, b) :: r)) fun r => M.pure ((a, b) :: r)) fun r => M.pure ((a, b) :: r)) (M.bind (M.bind (M.bind (M.bind (getSl 0) fun _ => M.bind (M.bind (M.bind (M.bind (M.bind (getSl 1) fun x => M.bind (kst (.int 3)) fun y => op2 fIxA x y) fun x => M.bind (kst (.int 1)) fun y => op2 fAdd x y) frz) fun o => M.bind (M.pure []) fun os => M.pure (o :: os)) (callP f_law_draw 2 0)) frz) fun o => M.bind (M.pure []) fun os => M.pure (o :: os)) asRange1) (storeD 6) (M.thn (M.bind (getSl 0) fun _ => M.bind (M.bind (M.bind (getSl 5) frz) fun o => M.bind (M.bind (M.bind (getSl 2) frz) fun o => M.bind (M.pure []) fun os => M.pure (o :: os)) fun os => M.pure (o :: os)) (callP f_law_row 3 0)) (setSl 7)))
    (SM.seq (M.thn (getSl 5) fun o S => .rt o S)
    SM.nil))))
noncomputable def f_law_sheet : FSem := runDef m_law_sheet 8
theorem b_law_sheet {f : Addr} (T : Bt mg) (c_law_draw : KD P w K mg base "_law_draw" f_law_draw ["_law_pot_here", "_law_many"] 1) (c_law_names : KD P w K mg base "_law_names" f_law_names ["_law_pot_here", "_law_many", "_law_taken"] 3) (c_law_row : KD P w K mg base "_law_row" f_law_row ["_law_pot_here", "_law_sheet_here", "_law_worths_here"] 4) (cdv : Value) (A : Around) (outer : List Env) (s : Shared) (H : Hp) (E : XK) (hr : Room 4 (A.deeper (envOfC "_law_sheet" (defScope s_law_sheet) s.heap.objs.size f cdv))) (hgd : A.guards = some []) :
    SXs (cxOf (L2.CX P w) P w K mg base ["_law_pot_here", "_law_sizes", "_law_worths_here", "_law_few", "_law_labels", "_law_sheet_here", "_law_turn", "_law_row_here"] "_law_sheet" (defScope s_law_sheet) f cdv A outer s H E) (defBody s_law_sheet) m_law_sheet :=
  (sxs_cons (sx_set 3 sc_law_sheet.nd rfl (by first | exact Or.inl rfl | exact Or.inr rfl) (px_op2 op_addA prim_add px_int (px_callpD 0 c_law_draw rfl hr hgd (by decide) (by rfl) (px_var 0) (fxs_cons (fx_of (px_ixA (room64 hr) (px_var 1) px_int)) fxs_nil))))
    (sxs_cons (sx_set 4 sc_law_sheet.nd rfl (by first | exact Or.inl rfl | exact Or.inr rfl) (px_callpD 0 c_law_names rfl hr hgd (by decide) (by rfl) (px_var 0) (fxs_cons (fx_of (px_op2 op_addA prim_add (px_var 3) (px_callpD 0 c_law_draw rfl hr hgd (by decide) (by rfl) (px_var 0) (fxs_cons (fx_of (px_op2 op_addA prim_add (px_ixA (room64 hr) (px_var 1) px_int) px_int)) fxs_nil)))) (fxs_cons (fx_of (px_lst fxs_nil)) fxs_nil))))
    (sxs_sheet 5 7 (pph_cons (fx_of px_str) (fx_of (px_slice (px_var 4) optx_none (optx_some (fx_of (px_var 3))))) (pph_cons (fx_of px_str) (fx_of (px_slice (px_var 4) (optx_some (fx_of (px_var 3))) optx_none)) (pph_cons (fx_of px_str) (fx_of (px_op2 op_addA prim_add px_int (px_callpD 0 c_law_draw rfl hr hgd (by decide) (by rfl) (px_var 0) (fxs_cons (fx_of (px_ixA (room64 hr) (px_var 1) px_int)) fxs_nil)))) pph_last))) sc_law_sheet.nd rfl (by first | exact Or.inl rfl | exact Or.inr rfl) rfl (ix_range1 (by rfl) T.range_ (fxs_cons (fx_of (px_callpD 0 c_law_draw rfl hr hgd (by decide) (by rfl) (px_var 0) (fxs_cons (fx_of (px_op2 op_addA prim_add (px_ixA (room64 hr) (px_var 1) px_int) px_int)) fxs_nil))) fxs_nil)) (gx_name 6 sc_law_sheet.nd rfl (by first | exact Or.inl rfl | exact Or.inr rfl)) (sx_set 7 sc_law_sheet.nd rfl (by first | exact Or.inl rfl | exact Or.inr rfl) (px_callpD 0 c_law_row rfl hr hgd (by decide) (by rfl) (px_var 0) (fxs_cons (fx_of (px_var 5)) (fxs_cons (fx_of (px_var 2)) fxs_nil)))) (room64 hr) (fun p => px_var 5) (fun p => px_var 7) (sxs_cons (sx_ret (px_var 5))
    sxs_nil))))
def s_Machine_at : Stmt := inClass (top 39) 7
theorem sc_Machine_at : FnScope ["self", "standing", "number", "row"] ["self", "standing"] (defScope s_Machine_at) := ⟨rfl, rfl, rfl, by decide +kernel, rfl, by decide +kernel, by decide +kernel⟩
def m_Machine_at : SM :=
  (SM.seq (M.thn (M.bind (M.bind (M.bind (getSl 0) frz) fun o => M.bind (M.bind (M.bind (getSl 1) frz) fun o => M.bind (M.pure []) fun os => M.pure (o :: os)) fun os => M.pure (o :: os)) (callF f_check_standing 2)) fun _ => SM.nil)
    (SM.seq (M.thn (M.bind (M.bind (M.bind (M.bind (M.bind (getSl 0) (ifld "Machine" "_rows")) frz) fun o => M.bind (M.pure []) fun os => M.pure (o :: os)) asEnum) (compM ([("number", 2), ("row", 3)].map (·.2)) (gTupM 2 (gConsM (storeD 2) (gConsM (storeD 3) gNilM))) (M.bind (M.bind (getSl 3) fun x => M.bind (kst (.int 0)) fun y => op2 fIxA x y) fun x => M.bind (getSl 1) fun y => cmpB eqA2 x y) (M.bind (getSl 2) frz))) fun o S => .rt o S)
    SM.nil))
def f_Machine_at : FSem := runDef m_Machine_at 4
theorem b_Machine_at {f : Addr} (T : Bt mg) (c_check_standing : KD P w K mg base "check_standing" f_check_standing ["machine", "standing"] 4) (ki_Machine : KI K mg "Machine" ["_ins", "_outs", "_standings", "_rows"]) (cdv : Value) (A : Around) (outer : List Env) (s : Shared) (H : Hp) (E : XK) (hr : Room 4 (A.deeper (envOfC "Machine.at" (defScope s_Machine_at) s.heap.objs.size f cdv))) (hgd : A.guards = some []) :
    SXs (cxOf (L2.CX P w) P w K mg base ["self", "standing", "number", "row"] "Machine.at" (defScope s_Machine_at) f cdv A outer s H E) (defBody s_Machine_at) m_Machine_at :=
  (sxs_cons (sx_expr (px_callD c_check_standing rfl hr hgd (by decide) (by rfl) (fxs_cons (fx_of (px_var 0)) (fxs_cons (fx_of (px_var 1)) fxs_nil))))
    (sxs_cons (sx_ret (px_lc rfl sc_Machine_at.nd (by exact (ix_enum (by rfl) T.enumerate_ (fxs_cons (fx_of (px_ifld ki_Machine (by decide) (px_var 0))) fxs_nil))) (blk_of (own := [("number", 2), ("row", 3)]) (by rfl)) (by decide) (fun s H C cl fp => (gx_tup rfl (gxs_cons (gx_name 2 sc_Machine_at.nd rfl (by first | exact Or.inl rfl | exact Or.inr rfl)) (gxs_cons (gx_name 3 sc_Machine_at.nd rfl (by first | exact Or.inl rfl | exact Or.inr rfl)) gxs_nil)))) (fun s H C cl fp => (txs_one (bx_cmp (op_eqA2 (room64 hr)) prim_eqA2 (px_ixA (room64 hr) (px_var 3) px_int) (px_var 1) (nomark _)))) (fun s H C cl fp => (fx_of (px_var 2)))))
    sxs_nil))
def s_Machine___getitem__ : Stmt := inClass (top 39) 10
theorem sc_Machine___getitem__ : FnScope ["self", "at", "standing", "takes", "gives", "goal"] ["self", "at"] (defScope s_Machine___getitem__) := ⟨rfl, rfl, rfl, by decide +kernel, rfl, by decide +kernel, by decide +kernel⟩
def m_Machine___getitem__ : SM :=
  (SM.seq (M.thn (M.bind (M.bind (M.bind (getSl 0) frz) fun o => M.bind (M.bind (M.bind (getSl 1) frz) fun o => M.bind (M.pure []) fun os => M.pure (o :: os)) fun os => M.pure (o :: os)) (callF f_check_number 2)) fun _ => SM.nil)
    (SM.seq (M.thn (M.bind (M.bind (M.bind (getSl 0) (ifld "Machine" "_rows")) fun x => M.bind (getSl 1) fun y => op2 fIxA x y) frz) (gSM (gTupM 4 (gConsM (storeD 2) (gConsM (storeD 3) (gConsM (storeD 4) (gConsM (storeD 5) gNilM)))))))
    (SM.seq (M.thn (M.bind (M.bind (M.bind (getSl 2) frz) fun o => M.bind (M.bind (M.bind (M.bind (M.bind (getSl 3) fun o => M.bind (M.pure []) fun os => M.pure (o :: os)) (opN fDictA)) frz) fun o => M.bind (M.bind (M.bind (M.bind (M.bind (getSl 4) fun o => M.bind (M.pure []) fun os => M.pure (o :: os)) (opN fDictA)) frz) fun o => M.bind (M.bind (M.bind (getSl 5) frz) fun o => M.bind (M.pure []) fun os => M.pure (o :: os)) fun os => M.pure (o :: os)) fun os => M.pure (o :: os)) fun os => M.pure (o :: os)) mkT) fun o S => .rt o S)
    SM.nil)))
def f_Machine___getitem__ : FSem := runDef m_Machine___getitem__ 6
theorem b_Machine___getitem__ {f : Addr} (T : Bt mg) (c_check_number : KD P w K mg base "check_number" f_check_number ["machine", "number"] 4) (ki_Machine : KI K mg "Machine" ["_ins", "_outs", "_standings", "_rows"]) (cdv : Value) (A : Around) (outer : List Env) (s : Shared) (H : Hp) (E : XK) (hr : Room 4 (A.deeper (envOfC "Machine.__getitem__" (defScope s_Machine___getitem__) s.heap.objs.size f cdv))) (hgd : A.guards = some []) :
    SXs (cxOf (L2.CX P w) P w K mg base ["self", "at", "standing", "takes", "gives", "goal"] "Machine.__getitem__" (defScope s_Machine___getitem__) f cdv A outer s H E) (defBody s_Machine___getitem__) m_Machine___getitem__ :=
  (sxs_cons (sx_expr (px_callD c_check_number rfl hr hgd (by decide) (by rfl) (fxs_cons (fx_of (px_var 0)) (fxs_cons (fx_of (px_var 1)) fxs_nil))))
    (sxs_cons (sx_asg (fx_of (px_ixA (room64 hr) (px_ifld ki_Machine (by decide) (px_var 0)) (px_var 1))) (gx_tup rfl (gxs_cons (gx_name 2 sc_Machine___getitem__.nd rfl (by first | exact Or.inl rfl | exact Or.inr rfl)) (gxs_cons (gx_name 3 sc_Machine___getitem__.nd rfl (by first | exact Or.inl rfl | exact Or.inr rfl)) (gxs_cons (gx_name 4 sc_Machine___getitem__.nd rfl (by first | exact Or.inl rfl | exact Or.inr rfl)) (gxs_cons (gx_name 5 sc_Machine___getitem__.nd rfl (by first | exact Or.inl rfl | exact Or.inr rfl)) gxs_nil))))))
    (sxs_cons (sx_ret (px_tup (fxs_cons (fx_of (px_var 2)) (fxs_cons (fx_of (px_callTy (call_dictA rfl) prim_dictA (by rfl) T.dict_ (by decide +kernel) (oxs_cons (px_var 3) oxs_nil))) (fxs_cons (fx_of (px_callTy (call_dictA rfl) prim_dictA (by rfl) T.dict_ (by decide +kernel) (oxs_cons (px_var 4) oxs_nil))) (fxs_cons (fx_of (px_var 5)) fxs_nil))))))
    sxs_nil)))
def s_packed_all : Stmt := top 38
theorem sc_packed_all : FnScope ["reactions", "ins", "outs", "standings", "limit", "rows", "place", "reaction", "row"] ["reactions", "ins", "outs", "standings", "limit"] (defScope s_packed_all) := ⟨rfl, rfl, rfl, by decide +kernel, rfl, by decide +kernel, by decide +kernel⟩
def m_packed_all : SM :=
  (SM.seq (M.thn (M.bind (M.bind (M.bind (M.bind (M.bind (getSl 0) frz) fun o => M.bind (M.pure []) fun os => M.pure (o :: os)) (callF f_is_list 1)) truthOf) fun b => M.pure (!b)) fun b => if b then (SM.seq (M.thn (M.bind (M.bind (kst .non) frz) fun o => M.bind (M.pure []) fun os => M.pure (o :: os)) (raiseM "InvalidReactions" ["position"]))
    SM.nil) else SM.nil)
    (SM.seq (M.thn (M.bind (M.pure []) mkL) (setSl 5))
    (SM.seq (M.thn (M.bind (M.bind (M.bind (getSl 0) frz) fun o => M.bind (M.pure []) fun os => M.pure (o :: os)) asEnum) fun ds => loopM (gTupM 2 (gConsM (storeD 6) (gConsM (storeD 7) gNilM))) (SM.seq (M.thn (M.bind (M.bind (M.bind (getSl 7) frz) fun o => M.bind (M.bind (M.bind (getSl 1) frz) fun o => M.bind (M.bind (M.bind (getSl 2) frz) fun o => M.bind (M.bind (M.bind (getSl 3) frz) fun o => M.bind (M.pure []) fun os => M.pure (o :: os)) fun os => M.pure (o :: os)) fun os => M.pure (o :: os)) fun os => M.pure (o :: os)) (callF f_packed 4)) (setSl 8))
    (SM.seq (M.thn (M.bind (M.bind (getSl 8) fun x => M.bind (kst .non) fun y => cmpB fIsN x y) fun c => if c then M.pure true else (M.bind (getSl 8) fun x => M.bind (getSl 5) fun y => cmpB fIn x y)) fun b => if b then (SM.seq (M.thn (M.bind (M.bind (getSl 6) frz) fun o => M.bind (M.pure []) fun os => M.pure (o :: os)) (raiseM "InvalidReactions" ["position"]))
    SM.nil) else SM.nil)
    (SM.seq (appendM 5 (M.bind (getSl 8) frz))
    SM.nil))) ds)
    (SM.seq (M.thn (M.bind (M.bind (M.bind (getSl 5) fun o => M.bind (M.pure []) fun os => M.pure (o :: os)) (opN fLenB)) fun x => M.bind (getSl 4) fun y => cmpB fGt x y) fun b => if b then (SM.seq (M.thn (M.bind (M.bind (kst (.str "reactions")) frz) fun o => M.bind (M.bind (M.bind (getSl 4) frz) fun o => M.bind (M.pure []) fun os => M.pure (o :: os)) fun os => M.pure (o :: os)) (raiseM "TooMany" ["what", "limit"]))
    SM.nil) else SM.nil)
    (SM.seq (M.thn (M.bind (M.bind (getSl 5) fun o => M.bind (M.pure []) fun os => M.pure (o :: os)) (opN fTupOf)) fun o S => .rt o S)
    SM.nil)))))
def f_packed_all : FSem := runDef m_packed_all 9
theorem b_packed_all {f : Addr} (T : Bt mg) (c_is_list : KD P w K mg base "is_list" f_is_list ["value"] 1) (c_packed : KD P w K mg base "packed" f_packed ["value", "ins", "outs", "standings"] 5) (c_InvalidReactions : KC P w K mg base "InvalidReactions" ["position"]) (c_TooMany : KC P w K mg base "TooMany" ["what", "limit"]) (cdv : Value) (A : Around) (outer : List Env) (s : Shared) (H : Hp) (E : XK) (hr : Room 5 (A.deeper (envOfC "packed_all" (defScope s_packed_all) s.heap.objs.size f cdv))) (hgd : A.guards = some []) :
    SXs (cxOf (L2.CX P w) P w K mg base ["reactions", "ins", "outs", "standings", "limit", "rows", "place", "reaction", "row"] "packed_all" (defScope s_packed_all) f cdv A outer s H E) (defBody s_packed_all) m_packed_all :=
  (sxs_cons (sx_if (bx_not (bx_val (px_callD c_is_list rfl hr hgd (by decide) (by rfl) (fxs_cons (fx_of (px_var 0)) fxs_nil)))) (sxs_cons (sx_raise rfl (c_InvalidReactions.knR hr hgd) (by rfl) (fxs_cons (fx_of px_non) fxs_nil))
    sxs_nil) sxs_nil)
    (sxs_cons (sx_set 5 sc_packed_all.nd rfl (by first | exact Or.inl rfl | exact Or.inr rfl) (px_lst fxs_nil))
    (sxs_cons (sx_for rfl (ix_enum (by rfl) T.enumerate_ (fxs_cons (fx_of (px_var 0)) fxs_nil)) (gx_tup rfl (gxs_cons (gx_name 6 sc_packed_all.nd rfl (by first | exact Or.inl rfl | exact Or.inr rfl)) (gxs_cons (gx_name 7 sc_packed_all.nd rfl (by first | exact Or.inl rfl | exact Or.inr rfl)) gxs_nil))) (sxs_cons (sx_set 8 sc_packed_all.nd rfl (by first | exact Or.inl rfl | exact Or.inr rfl) (px_callD c_packed rfl hr hgd (by decide) (by rfl) (fxs_cons (fx_of (px_var 7)) (fxs_cons (fx_of (px_var 1)) (fxs_cons (fx_of (px_var 2)) (fxs_cons (fx_of (px_var 3)) fxs_nil))))))
    (sxs_cons (sx_if (bx_bool (bw_or (bx_cmp op_isN prim_isN (px_var 8) px_non (nomark _)) (bw_or1 (bx_cmp (op_inA (room64 hr)) prim_inA (px_var 8) (px_var 5) (by with_unfolding_all rfl))))) (sxs_cons (sx_raise rfl (c_InvalidReactions.knR hr hgd) (by rfl) (fxs_cons (fx_of (px_var 6)) fxs_nil))
    sxs_nil) sxs_nil)
    (sxs_cons (sx_append 5 rfl (fx_of (px_var 8)))
    sxs_nil))))
    (sxs_cons (sx_if (bx_cmp op_gt prim_gt (px_callB call_lenB prim_lenB (by rfl) T.len_ (by decide +kernel) (oxs_cons (px_var 5) oxs_nil)) (px_var 4) (nomark _)) (sxs_cons (sx_raise rfl (c_TooMany.knR hr hgd) (by rfl) (fxs_cons (fx_of px_str) (fxs_cons (fx_of (px_var 4)) fxs_nil)))
    sxs_nil) sxs_nil)
    (sxs_cons (sx_ret (px_callTy call_tuple_of prim_tupOf (by rfl) T.tuple_ (by decide +kernel) (oxs_cons (px_var 5) oxs_nil)))
    sxs_nil)))))
def s_do_agree : Stmt := top 41
theorem sc_do_agree : FnScope ["machine", "one", "other", "standing", "takes", "_", "standing_too", "takes_too", "line", "worth"] ["machine", "one", "other"] (defScope s_do_agree) := ⟨rfl, rfl, rfl, by decide +kernel, rfl, by decide +kernel, by decide +kernel⟩
def m_do_agree : SM :=
  (SM.seq (M.thn (M.bind (M.bind (getSl 0) fun x => M.bind (getSl 1) fun y => ixM "Machine" f_Machine___getitem__ fIxA x y) frz) (gSM (gTupM 4 (gConsM (storeD 3) (gConsM (storeD 4) (gConsM (storeD 5) (gConsM (storeD 5) gNilM)))))))
    (SM.seq (M.thn (M.bind (M.bind (getSl 0) fun x => M.bind (getSl 2) fun y => ixM "Machine" f_Machine___getitem__ fIxA x y) frz) (gSM (gTupM 4 (gConsM (storeD 6) (gConsM (storeD 7) (gConsM (storeD 5) (gConsM (storeD 5) gNilM)))))))
    (SM.seq (M.thn (M.bind (M.bind (getSl 1) fun x => M.bind (getSl 2) fun y => cmpB eqA2 x y) fun c => if c then M.pure true else (M.bind (getSl 3) fun x => M.bind (getSl 6) fun y => cmpB neA2 x y)) fun b => if b then (SM.seq (M.thn (kst (.bl false)) fun o S => .rt o S)
    SM.nil) else SM.nil)
    (SM.seq (M.thn (M.bind (M.bind (M.bind (itemsSl 4) (compM ([("line", 8), ("worth", 9)].map (·.2)) (gTupM 2 (gConsM (storeD 8) (gConsM (storeD 9) gNilM))) (M.pure true) (M.bind (M.bind (M.map (fun d => .v (.v d)) (M.bind (M.bind (getSl 7) frz) fun d => M.bind (if isDct d then M.pure d else M.stuck) fun d => M.bind (M.bind (getSl 8) frz) fun k => M.bind (M.bind (getSl 9) frz) fun x => getM d k x)) fun x => M.bind (getSl 9) fun y => op2 (rvB eqA2) x y) frz))) fun o => M.bind (M.pure []) fun os => M.pure (o :: os)) (opN fAll)) fun o S => .rt o S)
    SM.nil))))
def f_do_agree : FSem := runDef m_do_agree 10
theorem b_do_agree {f : Addr} (T : Bt mg) (cs_Machine___getitem__ : KS P w K mg base "Machine" "__getitem__" f_Machine___getitem__ ["self", "at"] 5) (cdv : Value) (A : Around) (outer : List Env) (s : Shared) (H : Hp) (E : XK) (hr : Room 6 (A.deeper (envOfC "do_agree" (defScope s_do_agree) s.heap.objs.size f cdv))) (hgd : A.guards = some []) :
    SXs (cxOf (L2.CX P w) P w K mg base ["machine", "one", "other", "standing", "takes", "_", "standing_too", "takes_too", "line", "worth"] "do_agree" (defScope s_do_agree) f cdv A outer s H E) (defBody s_do_agree) m_do_agree :=
  (sxs_cons (sx_asg (fx_of (px_ixO (ix_A (room64 hr)) prim_ixA cs_Machine___getitem__ rfl hr hgd (by decide) (px_var 0) (px_var 1))) (gx_tup rfl (gxs_cons (gx_name 3 sc_do_agree.nd rfl (by first | exact Or.inl rfl | exact Or.inr rfl)) (gxs_cons (gx_name 4 sc_do_agree.nd rfl (by first | exact Or.inl rfl | exact Or.inr rfl)) (gxs_cons (gx_name 5 sc_do_agree.nd rfl (by first | exact Or.inl rfl | exact Or.inr rfl)) (gxs_cons (gx_name 5 sc_do_agree.nd rfl (by first | exact Or.inl rfl | exact Or.inr rfl)) gxs_nil))))))
    (sxs_cons (sx_asg (fx_of (px_ixO (ix_A (room64 hr)) prim_ixA cs_Machine___getitem__ rfl hr hgd (by decide) (px_var 0) (px_var 2))) (gx_tup rfl (gxs_cons (gx_name 6 sc_do_agree.nd rfl (by first | exact Or.inl rfl | exact Or.inr rfl)) (gxs_cons (gx_name 7 sc_do_agree.nd rfl (by first | exact Or.inl rfl | exact Or.inr rfl)) (gxs_cons (gx_name 5 sc_do_agree.nd rfl (by first | exact Or.inl rfl | exact Or.inr rfl)) (gxs_cons (gx_name 5 sc_do_agree.nd rfl (by first | exact Or.inl rfl | exact Or.inr rfl)) gxs_nil))))))
    (sxs_cons (sx_if (bx_bool (bw_or (bx_cmp (op_eqA2 (room64 hr)) prim_eqA2 (px_var 1) (px_var 2) (nomark _)) (bw_or1 (bx_cmp (op_neA2 (room64 hr)) prim_neA2 (px_var 3) (px_var 6) (nomark _))))) (sxs_cons (sx_ret px_bl)
    sxs_nil) sxs_nil)
    (sxs_cons (sx_ret (px_callB (cr_all rfl) prim_all (by rfl) T.all_ (by decide +kernel) (oxs_cons (px_lcI 4 rfl (by first | exact Or.inl rfl | exact Or.inr rfl) rfl sc_do_agree.nd (blk_of (own := [("line", 8), ("worth", 9)]) (by rfl)) (by decide) (fun s H C cl fp => (gx_tup rfl (gxs_cons (gx_name 8 sc_do_agree.nd rfl (by first | exact Or.inl rfl | exact Or.inr rfl)) (gxs_cons (gx_name 9 sc_do_agree.nd rfl (by first | exact Or.inl rfl | exact Or.inr rfl)) gxs_nil)))) (fun s H C cl fp => txs_nil) (fun s H C cl fp => (fx_of (px_cmp (op_eqA2 (room64 hr)) prim_eqA2 (px_of (px_get2 (room64 hr) (fx_of (px_var 7)) (fx_of (px_var 8)) (fx_of (px_var 9)))) (px_var 9) (nomark _))))) oxs_nil)))
    sxs_nil))))
def s_Machine___contains__ : Stmt := inClass (top 39) 13
theorem sc_Machine___contains__ : FnScope ["self", "x", "row"] ["self", "x"] (defScope s_Machine___contains__) := ⟨rfl, rfl, rfl, by decide +kernel, rfl, by decide +kernel, by decide +kernel⟩
def m_Machine___contains__ : SM :=
  (SM.seq (M.thn (M.bind (M.bind (M.bind (getSl 1) frz) fun o => M.bind (M.bind (M.bind (M.bind (getSl 0) (ifld "Machine" "_ins")) frz) fun o => M.bind (M.bind (M.bind (M.bind (getSl 0) (ifld "Machine" "_outs")) frz) fun o => M.bind (M.bind (M.bind (M.bind (getSl 0) (ifld "Machine" "_standings")) frz) fun o => M.bind (M.pure []) fun os => M.pure (o :: os)) fun os => M.pure (o :: os)) fun os => M.pure (o :: os)) fun os => M.pure (o :: os)) (callF f_packed 4)) (setSl 2))
    (SM.seq (M.thn (M.bind (M.bind (M.bind (getSl 2) fun x => M.bind (kst .non) fun y => op2 (rvB fNotN) x y) truthOf) fun c => if c then (M.bind (getSl 2) fun x => M.bind (M.bind (getSl 0) (ifld "Machine" "_rows")) fun y => op2 (rvB fIn) x y) else kst (.bl false)) fun o S => .rt o S)
    SM.nil))
def f_Machine___contains__ : FSem := runDef m_Machine___contains__ 3
theorem b_Machine___contains__ {f : Addr} (T : Bt mg) (c_packed : KD P w K mg base "packed" f_packed ["value", "ins", "outs", "standings"] 5) (ki_Machine : KI K mg "Machine" ["_ins", "_outs", "_standings", "_rows"]) (cdv : Value) (A : Around) (outer : List Env) (s : Shared) (H : Hp) (E : XK) (hr : Room 5 (A.deeper (envOfC "Machine.__contains__" (defScope s_Machine___contains__) s.heap.objs.size f cdv))) (hgd : A.guards = some []) :
    SXs (cxOf (L2.CX P w) P w K mg base ["self", "x", "row"] "Machine.__contains__" (defScope s_Machine___contains__) f cdv A outer s H E) (defBody s_Machine___contains__) m_Machine___contains__ :=
  (sxs_cons (sx_set 2 sc_Machine___contains__.nd rfl (by first | exact Or.inl rfl | exact Or.inr rfl) (px_callD c_packed rfl hr hgd (by decide) (by rfl) (fxs_cons (fx_of (px_var 1)) (fxs_cons (fx_of (px_ifld ki_Machine (by decide) (px_var 0))) (fxs_cons (fx_of (px_ifld ki_Machine (by decide) (px_var 0))) (fxs_cons (fx_of (px_ifld ki_Machine (by decide) (px_var 0))) fxs_nil))))))
    (sxs_cons (sx_ret (px_and (px_cmp op_notN prim_notN (px_var 2) px_non (nomark _)) (px_one (px_cmp (op_inA (room64 hr)) prim_inA (px_var 2) (px_ifld ki_Machine (by decide) (px_var 0)) (by with_unfolding_all rfl)))))
    sxs_nil))
def s_check_agreeing : Stmt := top 42
theorem sc_check_agreeing : FnScope ["machine", "one", "other"] ["machine", "one", "other"] (defScope s_check_agreeing) := ⟨rfl, rfl, rfl, by decide +kernel, rfl, by decide +kernel, by decide +kernel⟩
def m_check_agreeing : SM :=
  (SM.seq (M.thn (M.bind (M.bind (M.bind (M.bind (M.bind (getSl 0) frz) fun o => M.bind (M.bind (M.bind (getSl 1) frz) fun o => M.bind (M.bind (M.bind (getSl 2) frz) fun o => M.bind (M.pure []) fun os => M.pure (o :: os)) fun os => M.pure (o :: os)) fun os => M.pure (o :: os)) (callF f_do_agree 3)) truthOf) fun b => M.pure (!b)) fun b => if b then (SM.seq (M.thn (M.bind (M.bind (getSl 1) frz) fun o => M.bind (M.bind (M.bind (getSl 2) frz) fun o => M.bind (M.pure []) fun os => M.pure (o :: os)) fun os => M.pure (o :: os)) (raiseM "NotAgreeing" ["one", "other"]))
    SM.nil) else SM.nil)
    SM.nil)
def f_check_agreeing : FSem := runDef m_check_agreeing 3
theorem b_check_agreeing {f : Addr} (T : Bt mg) (c_do_agree : KD P w K mg base "do_agree" f_do_agree ["machine", "one", "other"] 7) (c_NotAgreeing : KC P w K mg base "NotAgreeing" ["one", "other"]) (cdv : Value) (A : Around) (outer : List Env) (s : Shared) (H : Hp) (E : XK) (hr : Room 7 (A.deeper (envOfC "check_agreeing" (defScope s_check_agreeing) s.heap.objs.size f cdv))) (hgd : A.guards = some []) :
    SXs (cxOf (L2.CX P w) P w K mg base ["machine", "one", "other"] "check_agreeing" (defScope s_check_agreeing) f cdv A outer s H E) (defBody s_check_agreeing) m_check_agreeing :=
  (sxs_cons (sx_if (bx_not (bx_val (px_callD c_do_agree rfl hr hgd (by decide) (by rfl) (fxs_cons (fx_of (px_var 0)) (fxs_cons (fx_of (px_var 1)) (fxs_cons (fx_of (px_var 2)) fxs_nil)))))) (sxs_cons (sx_raise rfl (c_NotAgreeing.knR hr hgd) (by rfl) (fxs_cons (fx_of (px_var 1)) (fxs_cons (fx_of (px_var 2)) fxs_nil)))
    sxs_nil) sxs_nil)
    sxs_nil)
def s_Machine___init__ : Stmt := inClass (top 39) 2
theorem sc_Machine___init__ : FnScope ["self", "ins", "outs", "standings", "reactions"] ["self", "ins", "outs", "standings", "reactions"] (defScope s_Machine___init__) := ⟨rfl, rfl, rfl, by decide +kernel, rfl, by decide +kernel, by decide +kernel⟩
def m_Machine___init__ : SM :=
  (SM.seq (M.thn (M.bind (M.bind (M.bind (getSl 1) frz) fun o => M.bind (M.pure []) fun os => M.pure (o :: os)) (callF f_check_ins 1)) fun _ => SM.nil)
    (SM.seq (M.thn (M.bind (M.bind (M.bind (getSl 1) frz) fun o => M.bind (M.bind (M.bind (getSl 2) frz) fun o => M.bind (M.pure []) fun os => M.pure (o :: os)) fun os => M.pure (o :: os)) (callF f_check_outs 2)) fun _ => SM.nil)
    (SM.seq (M.thn (M.bind (M.bind (M.bind (M.bind (M.bind (M.bind (getSl 3) frz) fun o => M.bind (M.pure []) fun os => M.pure (o :: os)) (callF f_is_integer 1)) truthOf) fun b => M.pure (!b)) fun c => if c then M.pure true else (M.bind (M.bind (getSl 3) fun x => M.bind (kst (.int 1)) fun y => cmpB fLt x y) fun c => if c then M.pure true else (M.bind (getSl 3) fun x => M.bind (kst (.int 12)) fun y => cmpB fGt x y))) fun b => if b then (SM.seq (M.thn (M.bind (M.bind (getSl 3) frz) fun o => M.bind (M.pure []) fun os => M.pure (o :: os)) (raiseM "InvalidStandings" ["value"]))
    SM.nil) else SM.nil)
    (SM.seq (M.thn (M.bind (M.bind (M.bind (getSl 1) fun o => M.bind (M.pure []) fun os => M.pure (o :: os)) (opN fTupOf)) frz) fun d => M.thn (getSl 0) fun _ => putSl 0 "Machine" "_ins" d)
    (SM.seq (M.thn (M.bind (M.bind (M.bind (getSl 2) fun o => M.bind (M.pure []) fun os => M.pure (o :: os)) (opN fTupOf)) frz) fun d => M.thn (getSl 0) fun _ => putSl 0 "Machine" "_outs" d)
    (SM.seq (M.thn (M.bind (getSl 3) frz) fun d => M.thn (getSl 0) fun _ => putSl 0 "Machine" "_standings" d)
    (SM.seq (M.thn (M.bind (M.bind (M.bind (M.bind (getSl 4) frz) fun o => M.bind (M.bind (M.bind (M.bind (getSl 0) (ifld "Machine" "_ins")) frz) fun o => M.bind (M.bind (M.bind (M.bind (getSl 0) (ifld "Machine" "_outs")) frz) fun o => M.bind (M.bind (M.bind (getSl 3) frz) fun o => M.bind (M.bind (M.bind (kst (.int 40)) frz) fun o => M.bind (M.pure []) fun os => M.pure (o :: os)) fun os => M.pure (o :: os)) fun os => M.pure (o :: os)) fun os => M.pure (o :: os)) fun os => M.pure (o :: os)) (callF f_packed_all 5)) frz) fun d => M.thn (getSl 0) fun _ => putSl 0 "Machine" "_rows" d)
    SM.nil)))))))
def f_Machine___init__ : FSem := runDef m_Machine___init__ 5
theorem b_Machine___init__ {f : Addr} (T : Bt mg) (c_check_ins : KD P w K mg base "check_ins" f_check_ins ["ins"] 3) (c_check_outs : KD P w K mg base "check_outs" f_check_outs ["ins", "outs"] 3) (c_is_integer : KD P w K mg base "is_integer" f_is_integer ["value"] 1) (c_packed_all : KD P w K mg base "packed_all" f_packed_all ["reactions", "ins", "outs", "standings", "limit"] 6) (ki_Machine : KI K mg "Machine" ["_ins", "_outs", "_standings", "_rows"]) (v_Machine_MOST_REACTIONS : KVal K mg "Machine" "MOST_REACTIONS" 40) (v_Machine_MOST_STANDINGS : KVal K mg "Machine" "MOST_STANDINGS" 12) (c_InvalidStandings : KC P w K mg base "InvalidStandings" ["value"]) (cdv : Value) (A : Around) (outer : List Env) (s : Shared) (H : Hp) (E : XK) (hr : Room 6 (A.deeper (envOfC "Machine.__init__" (defScope s_Machine___init__) s.heap.objs.size f cdv))) (hgd : A.guards = some []) :
    SXs (cxOf (L2.CX P w) P w K mg base ["self", "ins", "outs", "standings", "reactions"] "Machine.__init__" (defScope s_Machine___init__) f cdv A outer s H E) (defBody s_Machine___init__) m_Machine___init__ :=
  (sxs_cons (sx_expr (px_callD c_check_ins rfl hr hgd (by decide) (by rfl) (fxs_cons (fx_of (px_var 1)) fxs_nil)))
    (sxs_cons (sx_expr (px_callD c_check_outs rfl hr hgd (by decide) (by rfl) (fxs_cons (fx_of (px_var 1)) (fxs_cons (fx_of (px_var 2)) fxs_nil))))
    (sxs_cons (sx_if (bx_bool (bw_or (bx_not (bx_val (px_callD c_is_integer rfl hr hgd (by decide) (by rfl) (fxs_cons (fx_of (px_var 3)) fxs_nil)))) (bw_or (bx_cmp op_lt prim_lt (px_var 3) px_int (nomark _)) (bw_or1 (bx_cmp op_gt prim_gt (px_var 3) (px_cval v_Machine_MOST_STANDINGS (by rfl)) (nomark _)))))) (sxs_cons (sx_raise rfl (c_InvalidStandings.knR hr hgd) (by rfl) (fxs_cons (fx_of (px_var 3)) fxs_nil))
    sxs_nil) sxs_nil)
    (sxs_cons (sx_putI 0 ki_Machine (by decide) (px_var 0) (fx_of (px_callTy call_tuple_of prim_tupOf (by rfl) T.tuple_ (by decide +kernel) (oxs_cons (px_var 1) oxs_nil))))
    (sxs_cons (sx_putI 0 ki_Machine (by decide) (px_var 0) (fx_of (px_callTy call_tuple_of prim_tupOf (by rfl) T.tuple_ (by decide +kernel) (oxs_cons (px_var 2) oxs_nil))))
    (sxs_cons (sx_putI 0 ki_Machine (by decide) (px_var 0) (fx_of (px_var 3)))
    (sxs_cons (sx_putI 0 ki_Machine (by decide) (px_var 0) (fx_of (px_callD c_packed_all rfl hr hgd (by decide) (by rfl) (fxs_cons (fx_of (px_var 4)) (fxs_cons (fx_of (px_ifld ki_Machine (by decide) (px_var 0))) (fxs_cons (fx_of (px_ifld ki_Machine (by decide) (px_var 0))) (fxs_cons (fx_of (px_var 3)) (fxs_cons (fx_of (px_cval v_Machine_MOST_REACTIONS (by rfl))) fxs_nil))))))))
    sxs_nil)))))))
def s_heads : Stmt := top 43
theorem sc_heads : FnScope ["machine", "one", "other", "both", "line"] ["machine", "one", "other"] (defScope s_heads) := ⟨rfl, rfl, rfl, by decide +kernel, rfl, by decide +kernel, by decide +kernel⟩
def m_heads : SM :=
  (SM.seq (M.thn (M.bind (M.bind (M.bind (getSl 0) frz) fun o => M.bind (M.bind (M.bind (getSl 1) frz) fun o => M.bind (M.bind (M.bind (getSl 2) frz) fun o => M.bind (M.pure []) fun os => M.pure (o :: os)) fun os => M.pure (o :: os)) fun os => M.pure (o :: os)) (callF f_check_agreeing 3)) fun _ => SM.nil)
    (SM.seq (M.thn (M.bind (M.bind (M.bind (getSl 0) fun x => M.bind (getSl 1) fun y => ixM "Machine" f_Machine___getitem__ fIxA x y) fun x => M.bind (kst (.int 1)) fun y => op2 fIxA x y) fun x => M.bind (dctV x) fun k1 => M.bind (M.bind (M.bind (getSl 0) fun x => M.bind (getSl 2) fun y => ixM "Machine" f_Machine___getitem__ fIxA x y) fun x => M.bind (kst (.int 1)) fun y => op2 fIxA x y) fun y => M.bind (dctV y) fun k2 => mergeM k1 k2) (setSl 3))
    (SM.seq (M.thn (M.bind (M.bind (M.bind (M.bind (M.bind (getSl 0) frz) fun d => M.bind (insOf "Machine" "ins" d) fun d => callV f_Machine_ins 1 [d]) frz) asSeqS) (dcompM ([("line", 4)].map (·.2)) (storeD 4) (M.bind (getSl 4) fun x => M.bind (getSl 3) fun y => cmpB fIn x y) (M.bind (getSl 4) frz) (M.bind (M.bind (getSl 3) fun x => M.bind (getSl 4) fun y => op2 fIxA x y) frz))) fun o S => .rt o S)
    SM.nil)))
def f_heads : FSem := runDef m_heads 5
theorem b_heads {f : Addr} (T : Bt mg) (cs_Machine___getitem__ : KS P w K mg base "Machine" "__getitem__" f_Machine___getitem__ ["self", "at"] 5) (cp_Machine_ins : KP P w K mg base "Machine" "ins" f_Machine_ins ["self"] 1) (c_check_agreeing : KD P w K mg base "check_agreeing" f_check_agreeing ["machine", "one", "other"] 8) (cdv : Value) (A : Around) (outer : List Env) (s : Shared) (H : Hp) (E : XK) (hr : Room 8 (A.deeper (envOfC "heads" (defScope s_heads) s.heap.objs.size f cdv))) (hgd : A.guards = some []) :
    SXs (cxOf (L2.CX P w) P w K mg base ["machine", "one", "other", "both", "line"] "heads" (defScope s_heads) f cdv A outer s H E) (defBody s_heads) m_heads :=
  (sxs_cons (sx_expr (px_callD c_check_agreeing rfl hr hgd (by decide) (by rfl) (fxs_cons (fx_of (px_var 0)) (fxs_cons (fx_of (px_var 1)) (fxs_cons (fx_of (px_var 2)) fxs_nil)))))
    (sxs_cons (sx_set 3 sc_heads.nd rfl (by first | exact Or.inl rfl | exact Or.inr rfl) (px_merge (px_ixA (room64 hr) (px_ixO (ix_A (room64 hr)) prim_ixA cs_Machine___getitem__ rfl hr hgd (by decide) (px_var 0) (px_var 1)) px_int) (px_ixA (room64 hr) (px_ixO (ix_A (room64 hr)) prim_ixA cs_Machine___getitem__ rfl hr hgd (by decide) (px_var 0) (px_var 2)) px_int)))
    (sxs_cons (sx_ret (px_dc rfl sc_heads.nd (by exact (ix_seqS (fx_of (px_prop cp_Machine_ins rfl hr hgd (by decide) (fx_of (px_var 0)))))) (blk_of (own := [("line", 4)]) (by rfl)) (by decide) (fun s H C cl fp => (gx_name 4 sc_heads.nd rfl (by first | exact Or.inl rfl | exact Or.inr rfl))) (fun s H C cl fp => (txs_one (bx_cmp (op_inA (room64 hr)) prim_inA (px_var 4) (px_var 3) (by with_unfolding_all rfl)))) (fun s H C cl fp => (fx_of (px_var 4))) (fun s H C cl fp => (fx_of (px_ixA (room64 hr) (px_var 3) (px_var 4))))))
    sxs_nil)))
def s_law_rig : Stmt := top 52
theorem sc_law_rig : FnScope ["_law_sheet_here"] ["_law_sheet_here"] (defScope s_law_rig) := ⟨rfl, rfl, rfl, by decide +kernel, rfl, by decide +kernel, by decide +kernel⟩
def m_law_rig : SM :=
  (SM.seq (M.thn (M.bind (M.bind (M.bind (M.bind (getSl 0) fun x => M.bind (kst (.str "ins")) fun y => op2 fIxA x y) frz) fun o => M.bind (M.bind (M.bind (M.bind (getSl 0) fun x => M.bind (kst (.str "outs")) fun y => op2 fIxA x y) frz) fun o => M.bind (M.bind (M.bind (M.bind (getSl 0) fun x => M.bind (kst (.str "many")) fun y => op2 fIxA x y) frz) fun o => M.bind (M.bind (M.bind (M.bind (getSl 0) fun x => M.bind (kst (.str "rows")) fun y => op2 fIxA x y) frz) fun o => M.bind (M.pure []) fun os => M.pure (o :: os)) fun os => M.pure (o :: os)) fun os => M.pure (o :: os)) fun os => M.pure (o :: os)) (mkI "Machine" f_Machine___init__ 5)) fun o S => .rt o S)
    SM.nil)
def f_law_rig : FSem := runDef m_law_rig 1
theorem b_law_rig {f : Addr} (T : Bt mg) (ci_Machine___init__ : KMk P w K mg base "Machine" f_Machine___init__ ["self", "ins", "outs", "standings", "reactions"] 7) (cdv : Value) (A : Around) (outer : List Env) (s : Shared) (H : Hp) (E : XK) (hr : Room 8 (A.deeper (envOfC "_law_rig" (defScope s_law_rig) s.heap.objs.size f cdv))) (hgd : A.guards = some []) :
    SXs (cxOf (L2.CX P w) P w K mg base ["_law_sheet_here"] "_law_rig" (defScope s_law_rig) f cdv A outer s H E) (defBody s_law_rig) m_law_rig :=
  (sxs_cons (sx_ret (px_make ci_Machine___init__ rfl hr hgd (by decide) (by rfl) (fxs_cons (fx_of (px_ixA (room64 hr) (px_var 0) px_str)) (fxs_cons (fx_of (px_ixA (room64 hr) (px_var 0) px_str)) (fxs_cons (fx_of (px_ixA (room64 hr) (px_var 0) px_str)) (fxs_cons (fx_of (px_ixA (room64 hr) (px_var 0) px_str)) fxs_nil))))))
    sxs_nil)
def s_Machine___add__ : Stmt := inClass (top 39) 16
theorem sc_Machine___add__ : FnScope ["self", "other", "row"] ["self", "other"] (defScope s_Machine___add__) := ⟨rfl, rfl, rfl, by decide +kernel, rfl, by decide +kernel, by decide +kernel⟩
def m_Machine___add__ : SM :=
  (SM.seq (M.thn (M.bind (M.bind (M.bind (getSl 1) frz) fun o => M.bind (M.bind (M.bind (M.bind (getSl 0) (ifld "Machine" "_ins")) frz) fun o => M.bind (M.bind (M.bind (M.bind (getSl 0) (ifld "Machine" "_outs")) frz) fun o => M.bind (M.bind (M.bind (M.bind (getSl 0) (ifld "Machine" "_standings")) frz) fun o => M.bind (M.pure []) fun os => M.pure (o :: os)) fun os => M.pure (o :: os)) fun os => M.pure (o :: os)) fun os => M.pure (o :: os)) (callF f_packed 4)) (setSl 2))
    (SM.seq (M.thn (M.bind (M.bind (getSl 2) fun x => M.bind (kst .non) fun y => cmpB fIsN x y) fun c => if c then M.pure true else (M.bind (getSl 2) fun x => M.bind (M.bind (getSl 0) (ifld "Machine" "_rows")) fun y => cmpB fIn x y)) fun b => if b then (SM.seq (M.thn (M.bind (M.bind (getSl 1) frz) fun o => M.bind (M.pure []) fun os => M.pure (o :: os)) (raiseM "InvalidReaction" ["value"]))
    SM.nil) else SM.nil)
    (SM.seq (M.thn (M.bind (M.bind (M.bind (M.bind (getSl 0) (ifld "Machine" "_ins")) frz) fun o => M.bind (M.bind (M.bind (M.bind (getSl 0) (ifld "Machine" "_outs")) frz) fun o => M.bind (M.bind (M.bind (M.bind (getSl 0) (ifld "Machine" "_standings")) frz) fun o => M.bind (M.bind (M.bind (M.bind (M.bind (M.bind (getSl 0) frz) fun d => M.bind (insOf "Machine" "reactions" d) fun d => callF f_Machine_reactions 1 [d]) fun x => M.bind (M.bind (M.bind (M.bind (getSl 1) frz) fun o => M.bind (M.pure []) fun os => M.pure (o :: os)) mkL) fun y => op2 fAdd x y) frz) fun o => M.bind (M.pure []) fun os => M.pure (o :: os)) fun os => M.pure (o :: os)) fun os => M.pure (o :: os)) fun os => M.pure (o :: os)) (mkI "Machine" f_Machine___init__ 5)) fun o S => .rt o S)
    SM.nil)))
def f_Machine___add__ : FSem := runDef m_Machine___add__ 3
theorem b_Machine___add__ {f : Addr} (T : Bt mg) (ci_Machine___init__ : KMk P w K mg base "Machine" f_Machine___init__ ["self", "ins", "outs", "standings", "reactions"] 7) (cm_Machine_reactions : KM P w K mg base "Machine" "reactions" f_Machine_reactions ["self"] 1) (c_packed : KD P w K mg base "packed" f_packed ["value", "ins", "outs", "standings"] 5) (ki_Machine : KI K mg "Machine" ["_ins", "_outs", "_standings", "_rows"]) (c_InvalidReaction : KC P w K mg base "InvalidReaction" ["value"]) (cdv : Value) (A : Around) (outer : List Env) (s : Shared) (H : Hp) (E : XK) (hr : Room 8 (A.deeper (envOfC "Machine.__add__" (defScope s_Machine___add__) s.heap.objs.size f cdv))) (hgd : A.guards = some []) :
    SXs (cxOf (L2.CX P w) P w K mg base ["self", "other", "row"] "Machine.__add__" (defScope s_Machine___add__) f cdv A outer s H E) (defBody s_Machine___add__) m_Machine___add__ :=
  (sxs_cons (sx_set 2 sc_Machine___add__.nd rfl (by first | exact Or.inl rfl | exact Or.inr rfl) (px_callD c_packed rfl hr hgd (by decide) (by rfl) (fxs_cons (fx_of (px_var 1)) (fxs_cons (fx_of (px_ifld ki_Machine (by decide) (px_var 0))) (fxs_cons (fx_of (px_ifld ki_Machine (by decide) (px_var 0))) (fxs_cons (fx_of (px_ifld ki_Machine (by decide) (px_var 0))) fxs_nil))))))
    (sxs_cons (sx_if (bx_bool (bw_or (bx_cmp op_isN prim_isN (px_var 2) px_non (nomark _)) (bw_or1 (bx_cmp (op_inA (room64 hr)) prim_inA (px_var 2) (px_ifld ki_Machine (by decide) (px_var 0)) (by with_unfolding_all rfl))))) (sxs_cons (sx_raise rfl (c_InvalidReaction.knR hr hgd) (by rfl) (fxs_cons (fx_of (px_var 1)) fxs_nil))
    sxs_nil) sxs_nil)
    (sxs_cons (sx_ret (px_make ci_Machine___init__ rfl hr hgd (by decide) (by rfl) (fxs_cons (fx_of (px_ifld ki_Machine (by decide) (px_var 0))) (fxs_cons (fx_of (px_ifld ki_Machine (by decide) (px_var 0))) (fxs_cons (fx_of (px_ifld ki_Machine (by decide) (px_var 0))) (fxs_cons (fx_of (px_op2 op_addA prim_add (px_meth0 cm_Machine_reactions rfl hr hgd (by decide) (fx_of (px_var 0))) (px_lst (fxs_cons (fx_of (px_var 1)) fxs_nil)))) fxs_nil))))))
    sxs_nil)))
def s_Machine___sub__ : Stmt := inClass (top 39) 17
theorem sc_Machine___sub__ : FnScope ["self", "other", "rows"] ["self", "other"] (defScope s_Machine___sub__) := ⟨rfl, rfl, rfl, by decide +kernel, rfl, by decide +kernel, by decide +kernel⟩
def m_Machine___sub__ : SM :=
  (SM.seq (M.thn (M.bind (M.bind (M.bind (getSl 0) frz) fun o => M.bind (M.bind (M.bind (getSl 1) frz) fun o => M.bind (M.pure []) fun os => M.pure (o :: os)) fun os => M.pure (o :: os)) (callF f_check_number 2)) fun _ => SM.nil)
    (SM.seq (M.thn (M.bind (M.bind (getSl 0) frz) fun d => M.bind (insOf "Machine" "reactions" d) fun d => callF f_Machine_reactions 1 [d]) (setSl 2))
    (SM.seq (M.thn (M.bind (M.bind (M.bind (M.bind (getSl 0) (ifld "Machine" "_ins")) frz) fun o => M.bind (M.bind (M.bind (M.bind (getSl 0) (ifld "Machine" "_outs")) frz) fun o => M.bind (M.bind (M.bind (M.bind (getSl 0) (ifld "Machine" "_standings")) frz) fun o => M.bind (M.bind (M.bind (M.bind (M.bind (getSl 2) fun o => M.bind (M.pure none) fun l => M.bind (M.bind (M.bind (getSl 1) frz) asInt) fun u => cutM o l u) fun x => M.bind (M.bind (getSl 2) fun o => M.bind (M.bind (M.bind (M.bind (getSl 1) fun x => M.bind (kst (.int 1)) fun y => op2 fAdd x y) frz) asInt) fun l => M.bind (M.pure none) fun u => cutM o l u) fun y => op2 fAdd x y) frz) fun o => M.bind (M.pure []) fun os => M.pure (o :: os)) fun os => M.pure (o :: os)) fun os => M.pure (o :: os)) fun os => M.pure (o :: os)) (mkI "Machine" f_Machine___init__ 5)) fun o S => .rt o S)
    SM.nil)))
def f_Machine___sub__ : FSem := runDef m_Machine___sub__ 3
theorem b_Machine___sub__ {f : Addr} (T : Bt mg) (ci_Machine___init__ : KMk P w K mg base "Machine" f_Machine___init__ ["self", "ins", "outs", "standings", "reactions"] 7) (cm_Machine_reactions : KM P w K mg base "Machine" "reactions" f_Machine_reactions ["self"] 1) (c_check_number : KD P w K mg base "check_number" f_check_number ["machine", "number"] 4) (ki_Machine : KI K mg "Machine" ["_ins", "_outs", "_standings", "_rows"]) (cdv : Value) (A : Around) (outer : List Env) (s : Shared) (H : Hp) (E : XK) (hr : Room 8 (A.deeper (envOfC "Machine.__sub__" (defScope s_Machine___sub__) s.heap.objs.size f cdv))) (hgd : A.guards = some []) :
    SXs (cxOf (L2.CX P w) P w K mg base ["self", "other", "rows"] "Machine.__sub__" (defScope s_Machine___sub__) f cdv A outer s H E) (defBody s_Machine___sub__) m_Machine___sub__ :=
  (sxs_cons (sx_expr (px_callD c_check_number rfl hr hgd (by decide) (by rfl) (fxs_cons (fx_of (px_var 0)) (fxs_cons (fx_of (px_var 1)) fxs_nil))))
    (sxs_cons (sx_set 2 sc_Machine___sub__.nd rfl (by first | exact Or.inl rfl | exact Or.inr rfl) (px_meth0 cm_Machine_reactions rfl hr hgd (by decide) (fx_of (px_var 0))))
    (sxs_cons (sx_ret (px_make ci_Machine___init__ rfl hr hgd (by decide) (by rfl) (fxs_cons (fx_of (px_ifld ki_Machine (by decide) (px_var 0))) (fxs_cons (fx_of (px_ifld ki_Machine (by decide) (px_var 0))) (fxs_cons (fx_of (px_ifld ki_Machine (by decide) (px_var 0))) (fxs_cons (fx_of (px_op2 op_addA prim_add (px_slice (px_var 2) optx_none (optx_some (fx_of (px_var 1)))) (px_slice (px_var 2) (optx_some (fx_of (px_op2 op_addA prim_add (px_var 1) px_int))) optx_none))) fxs_nil))))))
    sxs_nil)))
def s_law_two_right : Stmt := top 55
theorem sc_law_two_right : FnScope ["_law_sheet_here", "_law_rig_here", "_law_k", "_law_j", "_law_due", "_law_told_here", "_law_found", "_law_both"] ["_law_sheet_here", "_law_rig_here", "_law_k", "_law_j"] (defScope s_law_two_right) := ⟨rfl, rfl, rfl, by decide +kernel, rfl, by decide +kernel, by decide +kernel⟩
def m_law_two_right : SM :=
  (SM.seq (M.thn (M.bind (M.bind (M.bind (getSl 0) frz) fun o => M.bind (M.bind (M.bind (getSl 2) frz) fun o => M.bind (M.bind (M.bind (getSl 3) frz) fun o => M.bind (M.pure []) fun os => M.pure (o :: os)) fun os => M.pure (o :: os)) fun os => M.pure (o :: os)) (callF f_law_heads 3)) (setSl 4))
    (SM.seq (M.thn (M.bind (M.bind (M.bind (M.bind (M.bind (M.bind (getSl 1) frz) fun o => M.bind (M.bind (M.bind (getSl 2) frz) fun o => M.bind (M.bind (M.bind (getSl 3) frz) fun o => M.bind (M.pure []) fun os => M.pure (o :: os)) fun os => M.pure (o :: os)) fun os => M.pure (o :: os)) (callF f_do_agree 3)) frz) fun o => M.bind (M.bind (M.bind (M.bind (M.bind (M.bind (getSl 3) frz) fun o => M.bind (M.bind (M.bind (getSl 2) frz) fun o => M.bind (M.bind (M.bind (getSl 1) frz) fun o => M.bind (M.pure []) fun os => M.pure (o :: os)) fun os => M.pure (o :: os)) fun os => M.pure (o :: os)) fun ds => fun S => if ds.length = (["other", "one", "machine"] : List Str).length then callF f_do_agree 3 (gp [2, 1, 0] ds) S else .stuck) frz) fun o => M.bind (M.bind (M.bind (M.bind (M.bind (M.bind (getSl 1) frz) fun o => M.bind (M.bind (M.bind (getSl 3) frz) fun o => M.bind (M.bind (M.bind (getSl 2) frz) fun o => M.bind (M.pure []) fun os => M.pure (o :: os)) fun os => M.pure (o :: os)) fun os => M.pure (o :: os)) (callF f_do_agree 3)) frz) fun o => M.bind (M.pure []) fun os => M.pure (o :: os)) fun os => M.pure (o :: os)) fun os => M.pure (o :: os)) mkL) (setSl 5))
    (SM.seq (M.thn (M.bind (M.bind (M.bind (getSl 5) fun o => M.bind (M.pure []) fun os => M.pure (o :: os)) (opN fRepr)) fun x => M.bind (M.bind (M.bind (M.bind (M.bind (M.bind (M.bind (M.bind (getSl 4) fun x => M.bind (kst .non) fun y => op2 (rvB fNotN) x y) frz) fun o => M.bind (M.pure []) fun os => M.pure (o :: os)) mkL) fun x => M.bind (kst (.int 3)) fun y => op2 fMulB x y) fun o => M.bind (M.pure []) fun os => M.pure (o :: os)) (opN fRepr)) fun y => cmpB neA2 x y) fun b => if b then (SM.seq (M.thn (kst (.bl false)) fun o S => .rt o S)
    SM.nil) else SM.nil)
    (SM.seq (M.thn (M.bind (getSl 4) fun x => M.bind (kst .non) fun y => cmpB fIsN x y) fun b => if b then (SM.seq (M.thn (M.bind (lamM F_law_told (M.bind (M.bind (M.bind (getSl 1) frz) fun o => M.bind (M.bind (M.bind (getSl 2) frz) fun o => M.bind (M.bind (M.bind (getSl 3) frz) fun o => M.bind (M.pure []) fun os => M.pure (o :: os)) fun os => M.pure (o :: os)) fun os => M.pure (o :: os)) (callF f_heads 3))) fun x => M.bind (M.bind (M.bind (M.bind (kst (.str "apart")) frz) fun o => M.bind (M.bind (M.bind (getSl 2) frz) fun o => M.bind (M.bind (M.bind (getSl 3) frz) fun o => M.bind (M.bind (M.bind (kst (.bl true)) frz) fun o => M.bind (M.pure []) fun os => M.pure (o :: os)) fun os => M.pure (o :: os)) fun os => M.pure (o :: os)) fun os => M.pure (o :: os)) mkL) fun y => op2 (rvB eqA2) x y) fun o S => .rt o S)
    SM.nil) else SM.nil)
    (SM.seq (M.thn (M.bind (M.bind (M.bind (getSl 1) frz) fun o => M.bind (M.bind (M.bind (getSl 2) frz) fun o => M.bind (M.bind (M.bind (getSl 3) frz) fun o => M.bind (M.pure []) fun os => M.pure (o :: os)) fun os => M.pure (o :: os)) fun os => M.pure (o :: os)) (callF f_heads 3)) (setSl 6))
    (SM.seq (clearM 6)
    (SM.seq (M.thn (M.bind (M.bind (M.bind (lamM F_law_told (M.bind (M.bind (M.bind (getSl 1) frz) fun o => M.bind (M.bind (M.bind (getSl 2) frz) fun o => M.bind (M.bind (M.bind (getSl 3) frz) fun o => M.bind (M.pure []) fun os => M.pure (o :: os)) fun os => M.pure (o :: os)) fun os => M.pure (o :: os)) (callF f_heads 3))) frz) fun o => M.bind (M.pure []) fun os => M.pure (o :: os)) mkL) (setSl 7))
    (SM.seq (appendM 7 (M.bind (lamM F_law_told (M.bind (M.bind (M.bind (getSl 3) frz) fun o => M.bind (M.bind (M.bind (getSl 2) frz) fun o => M.bind (M.bind (M.bind (getSl 1) frz) fun o => M.bind (M.pure []) fun os => M.pure (o :: os)) fun os => M.pure (o :: os)) fun os => M.pure (o :: os)) fun ds => fun S => if ds.length = (["other", "one", "machine"] : List Str).length then callF f_heads 3 (gp [2, 1, 0] ds) S else .stuck)) frz))
    (SM.seq (appendM 7 (M.bind (lamM F_law_told (M.bind (M.bind (M.bind (getSl 1) frz) fun o => M.bind (M.bind (M.bind (getSl 3) frz) fun o => M.bind (M.bind (M.bind (getSl 2) frz) fun o => M.bind (M.pure []) fun os => M.pure (o :: os)) fun os => M.pure (o :: os)) fun os => M.pure (o :: os)) (callF f_heads 3))) frz))
    (SM.seq (M.thn (M.bind (getSl 7) fun x => M.bind (M.bind (M.bind (M.bind (M.bind (M.bind (M.bind (M.bind (kst (.str "told")) frz) fun o => M.bind (M.bind (M.bind (getSl 4) frz) fun o => M.bind (M.pure []) fun os => M.pure (o :: os)) fun os => M.pure (o :: os)) mkL) frz) fun o => M.bind (M.pure []) fun os => M.pure (o :: os)) mkL) fun x => M.bind (kst (.int 3)) fun y => op2 fMulB x y) fun y => op2 (rvB eqA2) x y) fun o S => .rt o S)
    SM.nil))))))))))
def f_law_two_right : FSem := runDef m_law_two_right 8
theorem b_law_two_right {f : Addr} (T : Bt mg) (kl_law_told : ∀ k, 0 ≤ k → KL P w K mg base "_law_told" F_law_told k) {cdv : Value} (lc : LamC K mg base cdv "_law_two_right") (c_law_heads : KD P w K mg base "_law_heads" f_law_heads ["_law_sheet_here", "_law_k", "_law_j"] 1) (c_do_agree : KD P w K mg base "do_agree" f_do_agree ["machine", "one", "other"] 7) (c_heads : KD P w K mg base "heads" f_heads ["machine", "one", "other"] 9) (kk_heads_210 : KDK P w K mg base "heads" f_heads ["machine", "one", "other"] 9 ["other", "one", "machine"] [2, 1, 0]) (kk_do_agree_210 : KDK P w K mg base "do_agree" f_do_agree ["machine", "one", "other"] 7 ["other", "one", "machine"] [2, 1, 0]) (hsys : ∃ o, base.get? sysModules = some o) (A : Around) (outer : List Env) (s : Shared) (H : Hp) (E : XK) (hr : Room 11 (A.deeper (envOfC "_law_two_right" (defScope s_law_two_right) s.heap.objs.size f cdv))) (hgd : A.guards = some []) :
    SXs (cxOf (L2.CX P w) P w K mg base ["_law_sheet_here", "_law_rig_here", "_law_k", "_law_j", "_law_due", "_law_told_here", "_law_found", "_law_both"] "_law_two_right" (defScope s_law_two_right) f cdv A outer s H E) (defBody s_law_two_right) m_law_two_right :=
  (sxs_cons (sx_set 4 sc_law_two_right.nd rfl (by first | exact Or.inl rfl | exact Or.inr rfl) (px_callD c_law_heads rfl hr hgd (by decide) (by rfl) (fxs_cons (fx_of (px_var 0)) (fxs_cons (fx_of (px_var 2)) (fxs_cons (fx_of (px_var 3)) fxs_nil)))))
    (sxs_cons (sx_set 5 sc_law_two_right.nd rfl (by first | exact Or.inl rfl | exact Or.inr rfl) (px_lst (fxs_cons (fx_of (px_callD c_do_agree rfl hr hgd (by decide) (by rfl) (fxs_cons (fx_of (px_var 1)) (fxs_cons (fx_of (px_var 2)) (fxs_cons (fx_of (px_var 3)) fxs_nil))))) (fxs_cons (fx_of (px_callKD kk_do_agree_210 rfl hr hgd (by decide) (by rfl) (fks_cons (fx_of (px_var 3)) (fks_cons (fx_of (px_var 2)) (fks_cons (fx_of (px_var 1)) fks_nil))))) (fxs_cons (fx_of (px_callD c_do_agree rfl hr hgd (by decide) (by rfl) (fxs_cons (fx_of (px_var 1)) (fxs_cons (fx_of (px_var 3)) (fxs_cons (fx_of (px_var 2)) fxs_nil))))) fxs_nil)))))
    (sxs_cons (sx_if (bx_cmp (op_neA2 (room64 hr)) prim_neA2 (px_callB (call_repr hgd (room200 hr) hsys) prim_repr (by rfl) T.repr_ (by decide +kernel) (oxs_cons (px_var 5) oxs_nil)) (px_callB (call_repr hgd (room200 hr) hsys) prim_repr (by rfl) T.repr_ (by decide +kernel) (oxs_cons (px_op2 op_mulB prim_mulB (px_lst (fxs_cons (fx_of (px_cmp op_notN prim_notN (px_var 4) px_non (nomark _))) fxs_nil)) px_int) oxs_nil)) (nomark _)) (sxs_cons (sx_ret px_bl)
    sxs_nil) sxs_nil)
    (sxs_cons (sx_if (bx_cmp op_isN prim_isN (px_var 4) px_non (nomark _)) (sxs_cons (sx_ret (px_cmp (op_eqA2 (room64 hr)) prim_eqA2 (px_lam (kl_law_told 9 (by decide)) hr (by decide) hgd (by rfl) lc rfl rfl (LamX.lamS_by (by rfl)) rfl (fun _ _ _ _ _ => rfl) (by exact fun f c' A outer s H E hr hgd => (px_callD c_heads rfl hr hgd (by decide) (by rfl) (fxs_cons (fx_of (px_var 1)) (fxs_cons (fx_of (px_var 2)) (fxs_cons (fx_of (px_var 3)) fxs_nil)))))) (px_lst (fxs_cons (fx_of px_str) (fxs_cons (fx_of (px_var 2)) (fxs_cons (fx_of (px_var 3)) (fxs_cons (fx_of px_bl) fxs_nil))))) (nomark _)))
    sxs_nil) sxs_nil)
    (sxs_cons (sx_set 6 sc_law_two_right.nd rfl (by first | exact Or.inl rfl | exact Or.inr rfl) (px_callD c_heads rfl hr hgd (by decide) (by rfl) (fxs_cons (fx_of (px_var 1)) (fxs_cons (fx_of (px_var 2)) (fxs_cons (fx_of (px_var 3)) fxs_nil)))))
    (sxs_cons (sx_clear 6 rfl)
    (sxs_cons (sx_set 7 sc_law_two_right.nd rfl (by first | exact Or.inl rfl | exact Or.inr rfl) (px_lst (fxs_cons (fx_of (px_lam (kl_law_told 9 (by decide)) hr (by decide) hgd (by rfl) lc rfl rfl (LamX.lamS_by (by rfl)) rfl (fun _ _ _ _ _ => rfl) (by exact fun f c' A outer s H E hr hgd => (px_callD c_heads rfl hr hgd (by decide) (by rfl) (fxs_cons (fx_of (px_var 1)) (fxs_cons (fx_of (px_var 2)) (fxs_cons (fx_of (px_var 3)) fxs_nil))))))) fxs_nil)))
    (sxs_cons (sx_append 7 rfl (fx_of (px_lam (kl_law_told 9 (by decide)) hr (by decide) hgd (by rfl) lc rfl rfl (LamX.lamS_by (by rfl)) rfl (fun _ _ _ _ _ => rfl) (by exact fun f c' A outer s H E hr hgd => (px_callKD kk_heads_210 rfl hr hgd (by decide) (by rfl) (fks_cons (fx_of (px_var 3)) (fks_cons (fx_of (px_var 2)) (fks_cons (fx_of (px_var 1)) fks_nil))))))))
    (sxs_cons (sx_append 7 rfl (fx_of (px_lam (kl_law_told 9 (by decide)) hr (by decide) hgd (by rfl) lc rfl rfl (LamX.lamS_by (by rfl)) rfl (fun _ _ _ _ _ => rfl) (by exact fun f c' A outer s H E hr hgd => (px_callD c_heads rfl hr hgd (by decide) (by rfl) (fxs_cons (fx_of (px_var 1)) (fxs_cons (fx_of (px_var 3)) (fxs_cons (fx_of (px_var 2)) fxs_nil))))))))
    (sxs_cons (sx_ret (px_cmp (op_eqA2 (room64 hr)) prim_eqA2 (px_var 7) (px_op2 op_mulB prim_mulB (px_lst (fxs_cons (fx_of (px_lst (fxs_cons (fx_of px_str) (fxs_cons (fx_of (px_var 4)) fxs_nil)))) fxs_nil)) px_int) (nomark _)))
    sxs_nil))))))))))
def s_law_wrong_right : Stmt := top 57
theorem sc_law_wrong_right : FnScope ["_law_pot_here", "_law_rig_here", "_law_many", "_law_odd", "_law_also", "_law_pairs", "_law_k", "_law_j", "_law_due", "_law_told_here"] ["_law_pot_here", "_law_rig_here"] (defScope s_law_wrong_right) := ⟨rfl, rfl, rfl, by decide +kernel, rfl, by decide +kernel, by decide +kernel⟩
def m_law_wrong_right : SM :=
  (SM.seq (M.thn (M.bind (getSl 1) fun x => oneM "Machine" f_Machine___len__ goodLen fLen x) (setSl 2))
    (SM.seq (M.thn (M.bind (M.bind (M.bind (M.bind (M.bind (getSl 2) frz) fun o => M.bind (M.bind (M.bind (M.bind (getSl 2) fun x => M.bind (kst (.int 1)) fun y => op2 fAdd x y) frz) fun o => M.bind (M.bind (M.bind (M.bind (kst (.int 1)) fNeg) frz) fun o => M.bind (M.bind (M.bind (kst (.bl true)) frz) fun o => M.bind (M.bind (M.bind (kst (.bl false)) frz) fun o => M.bind (M.bind (M.bind (kst .non) frz) fun o => M.bind (M.bind (M.bind (kst (.str "0")) frz) fun o => M.bind (M.bind (M.bind (kst (.str "")) frz) fun o => M.bind (M.bind (M.bind (M.bind (M.bind (M.bind (kst (.int 0)) frz) fun o => M.bind (M.pure []) fun os => M.pure (o :: os)) mkL) frz) fun o => M.bind (M.bind (M.bind (M.bind (M.bind (M.bind (kst (.int 0)) frz) fun o => M.bind (M.pure []) fun os => M.pure (o :: os)) mkT) frz) fun o => M.bind (M.bind (M.bind (M.pure (.v (.od false []))) frz) fun o => M.bind (M.bind (M.bind (M.bind (kst (.int 10)) fun x => M.bind (kst (.int 29)) fun y => op2 fPow x y) frz) fun o => M.bind (M.pure []) fun os => M.pure (o :: os)) fun os => M.pure (o :: os)) fun os => M.pure (o :: os)) fun os => M.pure (o :: os)) fun os => M.pure (o :: os)) fun os => M.pure (o :: os)) fun os => M.pure (o :: os)) fun os => M.pure (o :: os)) fun os => M.pure (o :: os)) fun os => M.pure (o :: os)) fun os => M.pure (o :: os)) fun os => M.pure (o :: os)) mkL) frz) asSeqS) fun ds => loopM (storeD 3) (SM.seq (M.thn (M.bind (getSl 0) fun _ => M.bind (M.bind (M.bind (M.bind (M.bind (M.bind (kst .non) frz) fun o => M.bind (M.bind (M.bind (getSl 2) frz) fun o => M.bind (M.bind (M.bind (M.bind (kst (.int 5)) fNeg) frz) fun o => M.bind (M.bind (M.bind (kst (.str "x")) frz) fun o => M.bind (M.pure []) fun os => M.pure (o :: os)) fun os => M.pure (o :: os)) fun os => M.pure (o :: os)) fun os => M.pure (o :: os)) mkL) frz) fun o => M.bind (M.pure []) fun os => M.pure (o :: os)) (callP f_law_pick 2 0)) (setSl 4))
    (SM.seq (M.thn (M.bind (M.bind (M.bind (M.bind (M.bind (M.bind (getSl 3) frz) fun o => M.bind (M.bind (M.bind (getSl 4) frz) fun o => M.bind (M.bind (M.bind (getSl 3) frz) fun o => M.bind (M.pure []) fun os => M.pure (o :: os)) fun os => M.pure (o :: os)) fun os => M.pure (o :: os)) mkT) frz) fun o => M.bind (M.bind (M.bind (M.bind (M.bind (M.bind (getSl 3) frz) fun o => M.bind (M.bind (M.bind (getSl 3) frz) fun o => M.bind (M.bind (M.bind (getSl 3) frz) fun o => M.bind (M.pure []) fun os => M.pure (o :: os)) fun os => M.pure (o :: os)) fun os => M.pure (o :: os)) mkT) frz) fun o => M.bind (M.pure []) fun os => M.pure (o :: os)) fun os => M.pure (o :: os)) mkL) (setSl 5))
    (SM.seq (M.thn (M.bind (getSl 2) fun x => M.bind (kst (.int 0)) fun y => cmpB fGt x y) fun b => if b then (SM.seq (M.thn (M.bind (getSl 5) fun x => M.bind (M.bind (M.bind (M.bind (M.bind (M.bind (M.bind (getSl 3) frz) fun o => M.bind (M.bind (M.bind (M.bind (getSl 0) fun _ => M.bind (M.bind (M.bind (getSl 2) frz) fun o => M.bind (M.pure []) fun os => M.pure (o :: os)) (callP f_law_draw 2 0)) frz) fun o => M.bind (M.bind (M.bind (getSl 3) frz) fun o => M.bind (M.pure []) fun os => M.pure (o :: os)) fun os => M.pure (o :: os)) fun os => M.pure (o :: os)) mkT) frz) fun o => M.bind (M.bind (M.bind (M.bind (M.bind (M.bind (M.bind (getSl 0) fun _ => M.bind (M.bind (M.bind (getSl 2) frz) fun o => M.bind (M.pure []) fun os => M.pure (o :: os)) (callP f_law_draw 2 0)) frz) fun o => M.bind (M.bind (M.bind (getSl 3) frz) fun o => M.bind (M.bind (M.bind (getSl 3) frz) fun o => M.bind (M.pure []) fun os => M.pure (o :: os)) fun os => M.pure (o :: os)) fun os => M.pure (o :: os)) mkT) frz) fun o => M.bind (M.pure []) fun os => M.pure (o :: os)) fun os => M.pure (o :: os)) mkL) fun y => op2 fAdd x y) (setSl 5))
    SM.nil) else SM.nil)
    (SM.seq (M.thn (M.bind (M.bind (getSl 5) frz) asSeqS) fun ds => loopM (gTupM 3 (gConsM (storeD 6) (gConsM (storeD 7) (gConsM (storeD 8) gNilM)))) (SM.seq (M.thn (M.bind (M.bind (M.bind (lamM F_law_met (M.bind (M.bind (M.bind (getSl 1) frz) fun o => M.bind (M.bind (M.bind (getSl 6) frz) fun o => M.bind (M.bind (M.bind (getSl 7) frz) fun o => M.bind (M.pure []) fun os => M.pure (o :: os)) fun os => M.pure (o :: os)) fun os => M.pure (o :: os)) (callF f_do_agree 3))) frz) fun o => M.bind (M.pure []) fun os => M.pure (o :: os)) mkL) (setSl 9))
    (SM.seq (appendM 9 (M.bind (lamM F_law_met (M.bind (M.bind (M.bind (getSl 1) frz) fun o => M.bind (M.bind (M.bind (getSl 6) frz) fun o => M.bind (M.bind (M.bind (getSl 7) frz) fun o => M.bind (M.pure []) fun os => M.pure (o :: os)) fun os => M.pure (o :: os)) fun os => M.pure (o :: os)) (callF f_heads 3))) frz))
    (SM.seq (appendM 9 (M.bind (lamM F_law_met (M.bind (M.bind (M.bind (getSl 7) frz) fun o => M.bind (M.bind (M.bind (getSl 6) frz) fun o => M.bind (M.bind (M.bind (getSl 1) frz) fun o => M.bind (M.pure []) fun os => M.pure (o :: os)) fun os => M.pure (o :: os)) fun os => M.pure (o :: os)) fun ds => fun S => if ds.length = (["other", "one", "machine"] : List Str).length then callF f_heads 3 (gp [2, 1, 0] ds) S else .stuck)) frz))
    (SM.seq (M.thn (M.bind (getSl 9) fun x => M.bind (M.bind (M.bind (M.bind (M.bind (M.bind (M.bind (getSl 8) fun o => M.bind (M.pure []) fun os => M.pure (o :: os)) (opN fRepr)) frz) fun o => M.bind (M.pure []) fun os => M.pure (o :: os)) mkL) fun x => M.bind (kst (.int 3)) fun y => op2 fMulB x y) fun y => cmpB neA2 x y) fun b => if b then (SM.seq (M.thn (kst (.bl false)) fun o S => .rt o S)
    SM.nil) else SM.nil)
    SM.nil)))) ds)
    SM.nil)))) ds)
    (SM.seq (M.thn (kst (.bl true)) fun o S => .rt o S)
    SM.nil)))
def f_law_wrong_right : FSem := runDef m_law_wrong_right 10
theorem b_law_wrong_right {f : Addr} (T : Bt mg) (kl_law_met : ∀ k, 0 ≤ k → KL P w K mg base "_law_met" F_law_met k) {cdv : Value} (lc : LamC K mg base cdv "_law_wrong_right") (cs_Machine___len__ : KS P w K mg base "Machine" "__len__" f_Machine___len__ ["self"] 1) (c_law_draw : KD P w K mg base "_law_draw" f_law_draw ["_law_pot_here", "_law_many"] 1) (c_law_pick : KD P w K mg base "_law_pick" f_law_pick ["_law_pot_here", "_law_some"] 2) (c_do_agree : KD P w K mg base "do_agree" f_do_agree ["machine", "one", "other"] 7) (c_heads : KD P w K mg base "heads" f_heads ["machine", "one", "other"] 9) (kk_heads_210 : KDK P w K mg base "heads" f_heads ["machine", "one", "other"] 9 ["other", "one", "machine"] [2, 1, 0]) (hsys : ∃ o, base.get? sysModules = some o) (A : Around) (outer : List Env) (s : Shared) (H : Hp) (E : XK) (hr : Room 11 (A.deeper (envOfC "_law_wrong_right" (defScope s_law_wrong_right) s.heap.objs.size f cdv))) (hgd : A.guards = some []) :
    SXs (cxOf (L2.CX P w) P w K mg base ["_law_pot_here", "_law_rig_here", "_law_many", "_law_odd", "_law_also", "_law_pairs", "_law_k", "_law_j", "_law_due", "_law_told_here"] "_law_wrong_right" (defScope s_law_wrong_right) f cdv A outer s H E) (defBody s_law_wrong_right) m_law_wrong_right :=
  (sxs_cons (sx_set 2 sc_law_wrong_right.nd rfl (by first | exact Or.inl rfl | exact Or.inr rfl) (px_lenO cs_Machine___len__ rfl hr hgd (by decide) call_lenA prim_len (by rfl) T.len_ (by decide +kernel) (px_var 1)))
    (sxs_cons (sx_for rfl (ix_seqS (fx_of (px_lst (fxs_cons (fx_of (px_var 2)) (fxs_cons (fx_of (px_op2 op_addA prim_add (px_var 2) px_int)) (fxs_cons (fx_of (px_neg px_int)) (fxs_cons (fx_of px_bl) (fxs_cons (fx_of px_bl) (fxs_cons (fx_of px_non) (fxs_cons (fx_of px_str) (fxs_cons (fx_of px_str) (fxs_cons (fx_of (px_lst (fxs_cons (fx_of px_int) fxs_nil))) (fxs_cons (fx_of (px_tup (fxs_cons (fx_of px_int) fxs_nil))) (fxs_cons (fx_of px_dict0) (fxs_cons (fx_of (px_op2 op_pow prim_pow px_int px_int)) fxs_nil))))))))))))))) (gx_name 3 sc_law_wrong_right.nd rfl (by first | exact Or.inl rfl | exact Or.inr rfl)) (sxs_cons (sx_set 4 sc_law_wrong_right.nd rfl (by first | exact Or.inl rfl | exact Or.inr rfl) (px_callpD 0 c_law_pick rfl hr hgd (by decide) (by rfl) (px_var 0) (fxs_cons (fx_of (px_lst (fxs_cons (fx_of px_non) (fxs_cons (fx_of (px_var 2)) (fxs_cons (fx_of (px_neg px_int)) (fxs_cons (fx_of px_str) fxs_nil)))))) fxs_nil)))
    (sxs_cons (sx_set 5 sc_law_wrong_right.nd rfl (by first | exact Or.inl rfl | exact Or.inr rfl) (px_lst (fxs_cons (fx_of (px_tup (fxs_cons (fx_of (px_var 3)) (fxs_cons (fx_of (px_var 4)) (fxs_cons (fx_of (px_var 3)) fxs_nil))))) (fxs_cons (fx_of (px_tup (fxs_cons (fx_of (px_var 3)) (fxs_cons (fx_of (px_var 3)) (fxs_cons (fx_of (px_var 3)) fxs_nil))))) fxs_nil))))
    (sxs_cons (sx_if (bx_cmp op_gt prim_gt (px_var 2) px_int (nomark _)) (sxs_cons (sx_set 5 sc_law_wrong_right.nd rfl (by first | exact Or.inl rfl | exact Or.inr rfl) (px_op2 op_addA prim_add (px_var 5) (px_lst (fxs_cons (fx_of (px_tup (fxs_cons (fx_of (px_var 3)) (fxs_cons (fx_of (px_callpD 0 c_law_draw rfl hr hgd (by decide) (by rfl) (px_var 0) (fxs_cons (fx_of (px_var 2)) fxs_nil))) (fxs_cons (fx_of (px_var 3)) fxs_nil))))) (fxs_cons (fx_of (px_tup (fxs_cons (fx_of (px_callpD 0 c_law_draw rfl hr hgd (by decide) (by rfl) (px_var 0) (fxs_cons (fx_of (px_var 2)) fxs_nil))) (fxs_cons (fx_of (px_var 3)) (fxs_cons (fx_of (px_var 3)) fxs_nil))))) fxs_nil)))))
    sxs_nil) sxs_nil)
    (sxs_cons (sx_for rfl (ix_seqS (fx_of (px_var 5))) (gx_tup rfl (gxs_cons (gx_name 6 sc_law_wrong_right.nd rfl (by first | exact Or.inl rfl | exact Or.inr rfl)) (gxs_cons (gx_name 7 sc_law_wrong_right.nd rfl (by first | exact Or.inl rfl | exact Or.inr rfl)) (gxs_cons (gx_name 8 sc_law_wrong_right.nd rfl (by first | exact Or.inl rfl | exact Or.inr rfl)) gxs_nil)))) (sxs_cons (sx_set 9 sc_law_wrong_right.nd rfl (by first | exact Or.inl rfl | exact Or.inr rfl) (px_lst (fxs_cons (fx_of (px_lam (kl_law_met 9 (by decide)) hr (by decide) hgd (by rfl) lc rfl rfl (LamX.lamS_by (by rfl)) rfl (fun _ _ _ _ _ => rfl) (by exact fun f c' A outer s H E hr hgd => (px_callD c_do_agree rfl hr hgd (by decide) (by rfl) (fxs_cons (fx_of (px_var 1)) (fxs_cons (fx_of (px_var 6)) (fxs_cons (fx_of (px_var 7)) fxs_nil))))))) fxs_nil)))
    (sxs_cons (sx_append 9 rfl (fx_of (px_lam (kl_law_met 9 (by decide)) hr (by decide) hgd (by rfl) lc rfl rfl (LamX.lamS_by (by rfl)) rfl (fun _ _ _ _ _ => rfl) (by exact fun f c' A outer s H E hr hgd => (px_callD c_heads rfl hr hgd (by decide) (by rfl) (fxs_cons (fx_of (px_var 1)) (fxs_cons (fx_of (px_var 6)) (fxs_cons (fx_of (px_var 7)) fxs_nil))))))))
    (sxs_cons (sx_append 9 rfl (fx_of (px_lam (kl_law_met 9 (by decide)) hr (by decide) hgd (by rfl) lc rfl rfl (LamX.lamS_by (by rfl)) rfl (fun _ _ _ _ _ => rfl) (by exact fun f c' A outer s H E hr hgd => (px_callKD kk_heads_210 rfl hr hgd (by decide) (by rfl) (fks_cons (fx_of (px_var 7)) (fks_cons (fx_of (px_var 6)) (fks_cons (fx_of (px_var 1)) fks_nil))))))))
    (sxs_cons (sx_if (bx_cmp (op_neA2 (room64 hr)) prim_neA2 (px_var 9) (px_op2 op_mulB prim_mulB (px_lst (fxs_cons (fx_of (px_callB (call_repr hgd (room200 hr) hsys) prim_repr (by rfl) T.repr_ (by decide +kernel) (oxs_cons (px_var 8) oxs_nil))) fxs_nil)) px_int) (nomark _)) (sxs_cons (sx_ret px_bl)
    sxs_nil) sxs_nil)
    sxs_nil)))))
    sxs_nil)))))
    (sxs_cons (sx_ret px_bl)
    sxs_nil)))
def s_law_right : Stmt := top 58
theorem sc_law_right : FnScope ["_law_pot_here", "_law_sheet_here", "_law_rig_here", "_law_kept", "_law_k", "_law_j"] ["_law_pot_here"] (defScope s_law_right) := ⟨rfl, rfl, rfl, by decide +kernel, rfl, by decide +kernel, by decide +kernel⟩
noncomputable def m_law_right : SM :=
  (SM.seq (M.thn (M.bind (getSl 0) fun _ => M.bind (M.bind (M.bind (M.bind (M.bind (M.bind (kst (.int 4)) frz) fun o => M.bind (M.bind (M.bind (kst (.int 2)) frz) fun o => M.bind (M.bind (M.bind (kst (.int 2)) frz) fun o => M.bind (M.bind (M.bind (kst (.int 14)) frz) fun o => M.bind (M.pure []) fun os => M.pure (o :: os)) fun os => M.pure (o :: os)) fun os => M.pure (o :: os)) fun os => M.pure (o :: os)) mkT) frz) fun o => M.bind (M.bind (M.bind (kst (.int 2)) frz) fun o => M.bind (M.pure []) fun os => M.pure (o :: os)) fun os => M.pure (o :: os)) (callP f_law_sheet 3 0)) (setSl 1))
    (SM.seq (M.thn (M.bind (M.bind (M.bind (M.bind (getSl 1) frz) fun o => M.bind (M.pure []) fun os => M.pure (o :: os)) (callF f_law_rig 1)) frz) (gSM (storeD 2)))
    (SM.seq (M.thn (M.bind (getSl 2) fun x => oneM "Machine" f_Machine___repr__ goodStr fRepr x) (setSl 3))
    (SM.seq (M.thn (M.bind (M.bind (M.bind (M.bind (M.bind (M.bind (getSl 1) fun x => M.bind (kst (.str "rows")) fun y => op2 fIxA x y) fun o => M.bind (M.pure []) fun os => M.pure (o :: os)) (opN fLenB)) frz) fun o => M.bind (M.pure []) fun os => M.pure (o :: os)) asRange1) fun ds => loopM (storeD 4) (SM.seq (M.thn (M.bind (M.bind (M.bind (M.bind (M.bind (M.bind (M.bind (M.bind (M.bind (M.bind (M.bind (getSl 1) fun x => M.bind (kst (.str "rows")) fun y => op2 fIxA x y) fun o => M.bind (M.pure []) fun os => M.pure (o :: os)) (opN fLenB)) frz) fun o => M.bind (M.pure []) fun os => M.pure (o :: os)) asRange1) (compM ([("_law_j", 5)].map (·.2)) (storeD 5) (M.pure true) (M.bind (M.bind (M.bind (M.bind (getSl 1) frz) fun o => M.bind (M.bind (M.bind (getSl 2) frz) fun o => M.bind (M.bind (M.bind (getSl 4) frz) fun o => M.bind (M.bind (M.bind (getSl 5) frz) fun o => M.bind (M.pure []) fun os => M.pure (o :: os)) fun os => M.pure (o :: os)) fun os => M.pure (o :: os)) fun os => M.pure (o :: os)) (callF f_law_two_right 4)) frz))) fun o => M.bind (M.pure []) fun os => M.pure (o :: os)) (opN fAll)) truthOf) fun b => M.pure (!b)) fun b => if b then (SM.seq (M.thn (kst (.bl false)) fun o S => .rt o S)
    SM.nil) else SM.nil)
    SM.nil) ds)
    (SM.seq (M.thn (M.bind (M.bind (M.bind (getSl 0) fun _ => M.bind (M.bind (M.bind (getSl 2) frz) fun o => M.bind (M.pure []) fun os => M.pure (o :: os)) (callP f_law_wrong_right 2 0)) truthOf) fun c => if c then (M.bind (M.bind (getSl 2) fun x => oneM "Machine" f_Machine___repr__ goodStr fRepr x) fun x => M.bind (getSl 3) fun y => op2 (rvB eqA2) x y) else kst (.bl false)) fun o S => .rt o S)
    SM.nil)))))
noncomputable def f_law_right : FSem := runDef m_law_right 6
theorem b_law_right {f : Addr} (T : Bt mg) (cs_Machine___repr__ : KS P w K mg base "Machine" "__repr__" f_Machine___repr__ ["self"] 3) (c_law_rig : KD P w K mg base "_law_rig" f_law_rig ["_law_sheet_here"] 9) (c_law_sheet : KD P w K mg base "_law_sheet" f_law_sheet ["_law_pot_here", "_law_sizes", "_law_worths_here"] 5) (c_law_two_right : KD P w K mg base "_law_two_right" f_law_two_right ["_law_sheet_here", "_law_rig_here", "_law_k", "_law_j"] 12) (c_law_wrong_right : KD P w K mg base "_law_wrong_right" f_law_wrong_right ["_law_pot_here", "_law_rig_here"] 12) (hsys : ∃ o, base.get? sysModules = some o) (cdv : Value) (A : Around) (outer : List Env) (s : Shared) (H : Hp) (E : XK) (hr : Room 12 (A.deeper (envOfC "_law_right" (defScope s_law_right) s.heap.objs.size f cdv))) (hgd : A.guards = some []) :
    SXs (cxOf (L2.CX P w) P w K mg base ["_law_pot_here", "_law_sheet_here", "_law_rig_here", "_law_kept", "_law_k", "_law_j"] "_law_right" (defScope s_law_right) f cdv A outer s H E) (defBody s_law_right) m_law_right :=
  (sxs_cons (sx_set 1 sc_law_right.nd rfl (by first | exact Or.inl rfl | exact Or.inr rfl) (px_callpD 0 c_law_sheet rfl hr hgd (by decide) (by rfl) (px_var 0) (fxs_cons (fx_of (px_tup (fxs_cons (fx_of px_int) (fxs_cons (fx_of px_int) (fxs_cons (fx_of px_int) (fxs_cons (fx_of px_int) fxs_nil)))))) (fxs_cons (fx_of px_int) fxs_nil))))
    (sxs_cons (sx_asg (fx_of (px_callD c_law_rig rfl hr hgd (by decide) (by rfl) (fxs_cons (fx_of (px_var 1)) fxs_nil))) (gx_name 2 sc_law_right.nd rfl (by first | exact Or.inl rfl | exact Or.inr rfl)))
    (sxs_cons (sx_set 3 sc_law_right.nd rfl (by first | exact Or.inl rfl | exact Or.inr rfl) (px_reprO cs_Machine___repr__ rfl hr hgd (by decide) (call_repr hgd (room200 hr) hsys) prim_repr (by rfl) T.repr_ (by decide +kernel) (px_var 2)))
    (sxs_cons (sx_for rfl (ix_range1 (by rfl) T.range_ (fxs_cons (fx_of (px_callB call_lenB prim_lenB (by rfl) T.len_ (by decide +kernel) (oxs_cons (px_ixA (room64 hr) (px_var 1) px_str) oxs_nil))) fxs_nil)) (gx_name 4 sc_law_right.nd rfl (by first | exact Or.inl rfl | exact Or.inr rfl)) (sxs_cons (sx_if (bx_not (bx_val (px_callB (cr_all rfl) prim_all (by rfl) T.all_ (by decide +kernel) (oxs_cons (px_lc rfl sc_law_right.nd (by exact (ix_range1 (by rfl) T.range_ (fxs_cons (fx_of (px_callB call_lenB prim_lenB (by rfl) T.len_ (by decide +kernel) (oxs_cons (px_ixA (room64 hr) (px_var 1) px_str) oxs_nil))) fxs_nil))) (blk_of (own := [("_law_j", 5)]) (by rfl)) (by decide) (fun s H C cl fp => (gx_name 5 sc_law_right.nd rfl (by first | exact Or.inl rfl | exact Or.inr rfl))) (fun s H C cl fp => txs_nil) (fun s H C cl fp => (fx_of (px_callD c_law_two_right rfl hr hgd (by decide) (by rfl) (fxs_cons (fx_of (px_var 1)) (fxs_cons (fx_of (px_var 2)) (fxs_cons (fx_of (px_var 4)) (fxs_cons (fx_of (px_var 5)) fxs_nil)))))))) oxs_nil)))) (sxs_cons (sx_ret px_bl)
    sxs_nil) sxs_nil)
    sxs_nil))
    (sxs_cons (sx_ret (px_and (px_callpD 0 c_law_wrong_right rfl hr hgd (by decide) (by rfl) (px_var 0) (fxs_cons (fx_of (px_var 2)) fxs_nil)) (px_one (px_cmp (op_eqA2 (room64 hr)) prim_eqA2 (px_reprO cs_Machine___repr__ rfl hr hgd (by decide) (call_repr hgd (room200 hr) hsys) prim_repr (by rfl) T.repr_ (by decide +kernel) (px_var 2)) (px_var 3) (nomark _)))))
    sxs_nil)))))
def s_law : Stmt := top 59
theorem sc_law : FnScope ["_law_script", "_law_k"] ["_law_script"] (defScope s_law) := ⟨rfl, rfl, rfl, by decide +kernel, rfl, by decide +kernel, by decide +kernel⟩
noncomputable def m_law : SM :=
  (SM.seq (M.thn (M.bind (M.bind (M.bind (M.bind (M.bind (M.bind (M.bind (M.bind (kst (.int 1)) fun o => M.bind (M.bind (M.bind (M.bind (M.bind (M.bind (getSl 0) fun o => M.bind (M.pure []) fun os => M.pure (o :: os)) (opN fLenB)) fun o => M.bind (M.bind (kst (.int 4)) fun o => M.bind (M.pure []) fun os => M.pure (o :: os)) fun os => M.pure (o :: os)) (opN fMin)) fun o => M.bind (M.pure []) fun os => M.pure (o :: os)) fun os => M.pure (o :: os)) (opN fMax)) frz) fun o => M.bind (M.pure []) fun os => M.pure (o :: os)) asRange1) (compM ([("_law_k", 1)].map (·.2)) (storeD 1) (M.pure true) (M.bind (M.bind (M.bind (M.bind (M.bind (getSl 0) frz) fun o => M.bind (M.bind (M.bind (getSl 1) frz) fun o => M.bind (M.pure []) fun os => M.pure (o :: os)) fun os => M.pure (o :: os)) (callF f_law_pot 2)) fun o => M.bind (M.pure []) (callO f_law_right 1 o)) frz))) fun o => M.bind (M.pure []) fun os => M.pure (o :: os)) (opN fAll)) fun o S => .rt o S)
    SM.nil)
noncomputable def f_law : FSem := runDef m_law 2
theorem b_law {f : Addr} (T : Bt mg) (c_law_pot : KD P w K mg base "_law_pot" f_law_pot ["_law_script", "_law_k"] 1) (c_law_right : KD P w K mg base "_law_right" f_law_right ["_law_pot_here"] 13) (cdv : Value) (A : Around) (outer : List Env) (s : Shared) (H : Hp) (E : XK) (hr : Room 13 (A.deeper (envOfC "law" (defScope s_law) s.heap.objs.size f cdv))) (hgd : A.guards = some []) :
    SXs (cxOf (L2.CX P w) P w K mg base ["_law_script", "_law_k"] "law" (defScope s_law) f cdv A outer s H E) (defBody s_law) m_law :=
  (sxs_cons (sx_ret (px_callB (cr_all rfl) prim_all (by rfl) T.all_ (by decide +kernel) (oxs_cons (px_lc rfl sc_law.nd (by exact (ix_range1 (by rfl) T.range_ (fxs_cons (fx_of (px_callB (call_max2 rfl) prim_max (by rfl) T.max_ (by decide +kernel) (oxs_cons px_int (oxs_cons (px_callB (call_min2 rfl) prim_min (by rfl) T.min_ (by decide +kernel) (oxs_cons (px_callB call_lenB prim_lenB (by rfl) T.len_ (by decide +kernel) (oxs_cons (px_var 0) oxs_nil)) (oxs_cons px_int oxs_nil))) oxs_nil)))) fxs_nil))) (blk_of (own := [("_law_k", 1)]) (by rfl)) (by decide) (fun s H C cl fp => (gx_name 1 sc_law.nd rfl (by first | exact Or.inl rfl | exact Or.inr rfl))) (fun s H C cl fp => txs_nil) (fun s H C cl fp => (fx_of (px_calloD c_law_right rfl hr hgd (by decide) (by rfl) (px_callD c_law_pot rfl hr hgd (by decide) (by rfl) (fxs_cons (fx_of (px_var 0)) (fxs_cons (fx_of (px_var 1)) fxs_nil))) fxs_nil)))) oxs_nil)))
    sxs_nil)
end
end Law
set_option maxHeartbeats 1000000
namespace Law
open PySem PySem.Spec PyProof.Rows L2 Lb
theorem is_integer_int (i : Int) : f_is_integer [.v (.int i)] = .ret (.v (.bl true)) [.v (.int i)] := by kernel_rfl
theorem is_count_int (i : Int) : f_is_count [.v (.int i)] = .ret (.v (.bl (decide (0 ≤ i)))) [.v (.int i)] := by
  simp [f_is_count, m_is_count, is_integer_int]
theorem is_below_int (i n : Int) : f_is_below [.v (.int i), .v (.int n)] = .ret (.v (.bl (decide (0 ≤ i ∧ i < n)))) [.v (.int i), .v (.int n)] := by
  by_cases h : 0 ≤ i
  · simp [f_is_below, m_is_below, is_count_int, h]
  · simp [f_is_below, m_is_below, is_count_int, h]
theorem is_worth_int (i : Int) : f_is_worth [.v (.int i)] = .ret (.v (.bl (decide (0 ≤ i ∧ i ≤ 9)))) [.v (.int i)] := by
  by_cases h : 0 ≤ i
  · simp [f_is_worth, m_is_worth, is_count_int, h]
  · simp [f_is_worth, m_is_worth, is_count_int, h]
/-- a name: one to eight letters -/
def Nm (x : Str) : Prop := 1 ≤ x.length ∧ x.length ≤ 8 ∧ ∀ c ∈ x.cps.toList, 97 ≤ c ∧ c ≤ 122
theorem strA : ("a" : Str) = ⟨#[97]⟩ := by decide
theorem strZ : ("z" : Str) = ⟨#[122]⟩ := by decide
theorem le_sign {c d : Nat} : fLe (.str ⟨#[c]⟩) (.str ⟨#[d]⟩) = some (decide (c ≤ d)) := by
  show some (!decide ([d] < [c])) = _
  have : ([d] < [c]) ↔ d < c := by
    constructor
    · intro h
      cases h with
      | rel h => exact h
      | cons h => cases h
    · intro h; exact List.Lex.rel h
  simp only [this, Option.some.injEq]
  by_cases h : c ≤ d
  · simp [h]
  · simp [h]; omega
theorem is_name_ok {x : Str} (h : Nm x) : f_is_name [.v (.str x)] = .ret (.v (.bl true)) [.v (.str x)] := by
  obtain ⟨h1, h2, h3⟩ := h
  have hz : x.length ≤ sizeLine := by rw [sizeLine_eq]; omega
  simp [f_is_name, m_is_name, fLenB_str hz, show ¬ ((x.length : Int) < 1) by omega, show ¬ ((8 : Int) < x.length) by omega]
  rw [compM_map (fun _ => .bl true) (fun d hd => ?_) (by simpa [signsDV, Str.length] using hz) rfl]
  · simp [fAll_true, wipeS, restS]
  · obtain ⟨c, hc, rfl⟩ := List.mem_map.mp hd
    obtain ⟨h4, h5⟩ := h3 c hc
    simp [CStep, wipeS, strA, strZ, le_sign, h4, h5]
/-! ### lists of texts -/
theorem flEq_str (x y : Str) : flEq (.str x) (.str y) = some (decide (x = y)) := by
  show some (x == y) = _
  rfl
theorem flAll_strs (L : List Str) : flAll (L.map DV.str) = true := by
  unfold flAll
  rw [List.all_eq_true]
  intro d hd
  obtain ⟨x, _, rfl⟩ := List.mem_map.mp hd
  rfl
theorem any_strs (x : Str) (L : List Str) : ((L.map DV.str).any fun z => (flEq z (.str x)).getD false) = decide (x ∈ L) := by
  rw [List.any_map]
  induction L with
  | nil => simp
  | cons y L ih =>
    simp only [List.any_cons, Function.comp_apply, flEq_str, Option.getD_some, List.mem_cons]
    rw [ih]
    by_cases h : y = x
    · simp [h]
    · simp [h, Ne.symm h]
theorem fIn_strs (x : Str) (L : List Str) : fIn (.str x) (.lst (L.map DV.str)) = some (decide (x ∈ L)) := by
  show (if ((flV (.str x)).isSome && flAll (L.map DV.str)) = true then some _ else _) = _
  rw [flAll_strs, any_strs]; rfl
theorem fIn_strsT (x : Str) (L : List Str) : fIn (.str x) (.tup (L.map DV.str)) = some (decide (x ∈ L)) := by
  show (if ((flV (.str x)).isSome && flAll (L.map DV.str)) = true then some _ else _) = _
  rw [flAll_strs, any_strs]; rfl
theorem fNotIn_strs (x : Str) (L : List Str) : fNotIn (.str x) (.lst (L.map DV.str)) = some (decide (x ∉ L)) := by
  show (fIn _ _).map not = _
  rw [fIn_strs]; simp
theorem take_map_str (L : List Str) (n : Nat) : (L.map DV.str).take n = (L.take n).map DV.str := by simp
theorem cut_head (L : List Str) (n : Nat) (h : n ≤ L.length) : fCut (.lst (L.map DV.str)) none (some (n : Int)) = some (.ol false ((L.take n).map DV.str)) := by
  show some (RV.ol false (Lb.cutD _ _ _)) = _
  unfold Lb.cutD
  rw [HT.sIx_none, HT.sIx_nat, List.drop_zero, List.length_map, Nat.min_eq_left h, Nat.sub_zero, take_map_str]
theorem cut_tail (L : List Str) (n : Nat) (h : n ≤ L.length) : fCut (.lst (L.map DV.str)) (some (n : Int)) none = some (.ol false ((L.drop n).map DV.str)) := by
  show some (RV.ol false (Lb.cutD _ _ _)) = _
  unfold Lb.cutD
  rw [HT.sIx_none, HT.sIx_nat, List.length_map, Nat.min_eq_left h, ← List.map_drop, List.take_of_length_le (by simp)]
theorem mem_enum {L : List DV} {d : DV} (h : d ∈ enumDV L) : ∃ i x, L[i]? = some x ∧ d = .tup [.int (i : Nat), x] := by
  unfold enumDV at h
  obtain ⟨⟨x, i⟩, hp, rfl⟩ := List.mem_map.mp h
  exact ⟨i, x, List.mem_zipIdx_iff_getElem?.mp hp, rfl⟩
theorem wrong_name_ok {L B : List Str} (h : ∀ x ∈ L, Nm x) (nd : L.Nodup) (hb : ∀ x ∈ L, x ∉ B) : f_wrong_name [.v (.lst (L.map .str)), .v (.lst (B.map .str))] = .ret (.v .non) [.v (.lst (L.map .str)), .v (.lst (B.map .str))] := by
  simp [f_wrong_name, m_wrong_name]
  generalize hc : loopM _ _ _ _ = o
  obtain ⟨S', rfl, a, b, ha, hb, rfl⟩ := loop_same hc (fun S => ∃ a b : Option RV, (a.map RV.isPin).getD false = false ∧ (b.map RV.isPin).getD false = false ∧ S = [some (.v (.lst (L.map .str))), some (.v (.lst (B.map .str))), a, b]) (by
    rintro d hd S ⟨a, b, ha, hb', rfl⟩
    obtain ⟨i, x, hx, rfl⟩ := mem_enum hd
    rw [List.getElem?_map, Option.map_eq_some_iff] at hx
    obtain ⟨x, hx, rfl⟩ := hx
    have hm : x ∈ L := List.mem_of_getElem? hx
    have hi : i < L.length := (List.getElem?_eq_some_iff.mp hx).1
    have ht : x ∉ L.take i := by
      intro z
      obtain ⟨j, hj, e⟩ := List.mem_iff_getElem.mp z
      rw [List.length_take] at hj
      rw [List.getElem_take] at e
      have e2 : L[i] = x := (List.getElem?_eq_some_iff.mp hx).2
      have := (List.getElem_inj nd).mp (e.trans e2.symm)
      omega
    refine ⟨_, _, by simp [ha, hb']; rfl, ?_, some (.v (.int i)), some (.v (.str x)), rfl, rfl, rfl⟩
    simp [-List.map_take, is_name_ok (h x hm), cut_head L i (Nat.le_of_lt hi), fIn_strs, ht, hb x hm]) ⟨none, none, rfl, rfl, rfl⟩
  simp
end Law
set_option maxHeartbeats 1000000
namespace Law
open PySem PySem.Spec PyProof.Rows L2 Lb
/-! ### check_ins, check_outs -/
theorem is_list_lst (l : List DV) : f_is_list [.v (.lst l)] = .ret (.v (.bl true)) [.v (.lst l)] := by kernel_rfl
theorem check_ins_ok {L : List Str} (h : ∀ x ∈ L, Nm x) (nd : L.Nodup) (h1 : 1 ≤ L.length) (h4 : L.length ≤ 4) : f_check_ins [.v (.lst (L.map .str))] = .ret (.v .non) [.v (.lst (L.map .str))] := by
  have e : f_wrong_name [.v (.lst (L.map .str)), .v (.lst [])] = .ret (.v .non) [.v (.lst (L.map .str)), .v (.lst [])] := wrong_name_ok (B := []) h nd (by simp)
  have e0 : ¬ L = [] := by intro z; simp [z] at h1
  have e4 : ¬ ((4 : Int) < L.length) := by omega
  simp [f_check_ins, m_check_ins, is_list_lst, e, e0, e4]
theorem check_outs_ok {L B : List Str} (h : ∀ x ∈ L, Nm x) (nd : L.Nodup) (hb : ∀ x ∈ L, x ∉ B) (h3 : L.length ≤ 3) : f_check_outs [.v (.lst (B.map .str)), .v (.lst (L.map .str))] = .ret (.v .non) [.v (.lst (B.map .str)), .v (.lst (L.map .str))] := by
  have e := wrong_name_ok h nd hb
  have e3 : ¬ ((3 : Int) < L.length) := by omega
  simp [f_check_outs, m_check_outs, is_list_lst, e, e3]
/-! ### worths on lines -/
abbrev Ws := List (Str × Nat)
def dK (t : Ws) : List (Key × DV) := t.map fun p => (.inr p.1, .int (p.2 : Nat))
def dP (t : Ws) : List DV := t.map fun p => .tup [.str p.1, .int (p.2 : Nat)]
def lk (l : Str) (t : Ws) : Option Nat := (t.find? fun p => decide (p.1 = l)).map (·.2)
structure GoodW (L : List Str) (t : Ws) : Prop where
  sub : (t.map (·.1)).Sublist L
  le : ∀ p ∈ t, p.2 ≤ 9
theorem items_dK (t : Ws) : itemsDV (dK t) = dP t := by simp [itemsDV, dK, dP, kD]
theorem look_dK (l : Str) (t : Ws) : lookK (.inr l) (dK t) = (lk l t).map fun n => DV.int (n : Nat) := by
  unfold lookK lk dK
  induction t with
  | nil => rfl
  | cons p t ih =>
    simp only [List.map_cons, List.find?_cons]
    by_cases h : p.1 = l
    · simp [h]
    · simp only [Sum.inr.injEq, h, decide_false]
      exact ih
theorem lk_isSome (l : Str) (t : Ws) : (lk l t).isSome = decide (l ∈ t.map (·.1)) := by
  unfold lk
  induction t with
  | nil => rfl
  | cons p t ih =>
    simp only [List.map_cons, List.find?_cons]
    by_cases h : p.1 = l
    · simp [h]
    · simp only [h, decide_false, List.mem_cons, Ne.symm h, false_or]
      exact ih
theorem lk_none {l : Str} {t : Ws} (h : l ∉ t.map (·.1)) : lk l t = none := by
  have := lk_isSome l t
  rw [decide_eq_false h] at this
  simpa using this
theorem fIn_dK (l : Str) (t : Ws) : fIn (.str l) (.dct (dK t)) = some (lk l t).isSome := by
  show some (lookK (.inr l) (dK t)).isSome = _
  rw [look_dK]; simp
theorem fIx_dK (l : Str) (t : Ws) : fIxA (.dct (dK t)) (.str l) = (lk l t).map fun n => RV.v (.int (n : Nat)) := by
  show (lookK (.inr l) (dK t)).map RV.v = _
  rw [look_dK]; simp [Function.comp_def]
theorem fm_congr {α β : Type} {f g : α → Option β} : ∀ {L : List α}, (∀ x ∈ L, f x = g x) → L.filterMap f = L.filterMap g
  | [], _ => rfl
  | x :: L, h => by
    rw [List.filterMap_cons, List.filterMap_cons, h x List.mem_cons_self, fm_congr fun y hy => h y (List.mem_cons_of_mem _ hy)]
/-- told line by line, they are themselves -/
theorem by_lines : ∀ {L : List Str} {t : Ws}, (t.map (·.1)).Sublist L → L.Nodup → (L.filterMap fun l => (lk l t).map fun n => (l, n)) = t
  | [], t, h, _ => by
    cases t with
    | nil => rfl
    | cons p t => simp at h
  | l :: L, [], _, _ => by simp [lk]
  | l :: L, p :: t, h, nd => by
    have hl := (List.nodup_cons.mp nd).1
    have nd' := (List.nodup_cons.mp nd).2
    simp only [List.map_cons] at h
    by_cases e : p.1 = l
    · have h' : (t.map (·.1)).Sublist L := by
        rw [e] at h
        exact (List.cons_sublist_cons).mp h
      have ih := by_lines h' nd'
      rw [List.filterMap_cons]
      have e1 : lk l (p :: t) = some p.2 := by simp [lk, e]
      rw [e1]
      simp only [Option.map_some]
      have e2 : (L.filterMap fun x => (lk x (p :: t)).map fun n => (x, n)) = L.filterMap fun x => (lk x t).map fun n => (x, n) := by
        apply fm_congr
        intro x hx
        have : ¬ p.1 = x := fun z => hl (by rw [← e, z]; exact hx)
        simp [lk, this]
      rw [e2, ih]
      cases p; simp at e; simp [e]
    · have h' : ((p :: t).map (·.1)).Sublist L := by
        cases h with
        | cons _ h => exact h
        | cons_cons _ h => exact absurd rfl e
      have ih := by_lines h' nd'
      rw [List.filterMap_cons]
      have e1 : lk l (p :: t) = none := lk_none fun z => hl (h'.subset z)
      rw [e1]
      simpa using ih
theorem is_line_ok {l : Str} {L : List Str} : f_is_line [.v (.str l), .v (.tup (L.map .str))] = .ret (.v (.bl (decide (l ∈ L)))) [.v (.str l), .v (.tup (L.map .str))] := by
  simp [f_is_line, m_is_line, fIn_strsT]
theorem are_worths_ok {L : List Str} {t : Ws} (h : GoodW L t) (hl : t.length ≤ 100) : f_are_worths [.v (.dct (dK t)), .v (.tup (L.map .str))] = .ret (.v (.bl true)) [.v (.dct (dK t)), .v (.tup (L.map .str))] := by
  simp [f_are_worths, m_are_worths, items_dK]
  rw [compM_map (fun _ => .bl true) (fun d hd => ?_) (by simp [dP, sizeLine_eq]; omega) rfl]
  · simp [fAll_true, wipeS, restS]
  · obtain ⟨p, hp, rfl⟩ := List.mem_map.mp hd
    have h1 : p.1 ∈ L := h.sub.subset (List.mem_map_of_mem hp)
    have h2 : (p.2 : Int) ≤ 9 := by have := h.le p hp; omega
    simp [CStep, wipeS, is_line_ok, h1, is_worth_int, h2]
theorem fm_str {β : Type} (L : List Str) (f : DV → Option β) : (L.map DV.str).filterMap f = L.filterMap fun l => f (.str l) := by
  rw [List.filterMap_map]; rfl
theorem paired_ok {L : List Str} {t : Ws} (h : (t.map (·.1)).Sublist L) (nd : L.Nodup) (hl : L.length ≤ 100) : f_paired [.v (.dct (dK t)), .v (.tup (L.map .str))] = .ret (.v (.tuf (dP t))) [.v (.dct (dK t)), .v (.tup (L.map .str))] := by
  simp [f_paired, m_paired]
  rw [compM_pure (fun d => match d with | .str l => (lk l t).map fun n => DV.tup [.str l, .int (n : Nat)] | _ => none) (fun d hd => ?_) (by simp [sizeLine_eq]; omega) rfl]
  · simp [wipeS, restS, fm_str]
    have e := by_lines h nd
    conv => rhs; rw [← e]
    simp [dP, List.map_filterMap, Option.map_map, Function.comp_def]
  · obtain ⟨l, hl, rfl⟩ := List.mem_map.mp hd
    cases e : lk l t with
    | none => simp [CStep, wipeS, fIn_dK, e]
    | some n => simp [CStep, wipeS, fIn_dK, fIx_dK, e, sizeLine_eq]
end Law
set_option maxHeartbeats 1000000
namespace Law
open PySem PySem.Spec PyProof.Rows L2 Lb
structure Row where
  s : Nat
  t : Ws
  g : Ws
  d : Nat
  deriving DecidableEq
def Row.D (r : Row) : DV := .tup [.int (r.s : Nat), .dct (dK r.t), .dct (dK r.g), .int (r.d : Nat)]
def Row.P (r : Row) : DV := .tup [.int (r.s : Nat), .tuf (dP r.t), .tuf (dP r.g), .int (r.d : Nat)]
structure GoodR (I O : List Str) (m : Nat) (r : Row) : Prop where
  s : r.s < m
  d : r.d < m
  t : GoodW I r.t
  t0 : r.t ≠ []
  g : GoodW O r.g
theorem GoodW.len {L : List Str} {t : Ws} (h : GoodW L t) : t.length ≤ L.length := by simpa using h.sub.length_le
theorem is_tuple4 (a b c d : DV) : f_is_tuple [.v (.tup [a, b, c, d]), .v (.int 4)] = .ret (.v (.bl true)) [.v (.tup [a, b, c, d]), .v (.int 4)] := by kernel_rfl
theorem packed_ok {I O : List Str} {m : Nat} {r : Row} (h : GoodR I O m r) (ni : I.Nodup) (no : O.Nodup) (hi : I.length ≤ 100) (ho : O.length ≤ 100) :
    f_packed [.v r.D, .v (.tup (I.map .str)), .v (.tup (O.map .str)), .v (.int (m : Nat))] = .ret (.v r.P) [.v r.D, .v (.tup (I.map .str)), .v (.tup (O.map .str)), .v (.int (m : Nat))] := by
  have h1 : (r.s : Int) < m := by have := h.s; omega
  have h2 : (r.d : Int) < m := by have := h.d; omega
  have h3 : ¬ dK r.t = [] := by intro z; exact h.t0 (List.map_eq_nil_iff.mp z)
  have l1 := h.t.len
  have l2 := h.g.len
  simp [f_packed, m_packed, Row.D, Row.P, is_tuple4, is_below_int, h1, h2, are_worths_ok h.t (by omega), are_worths_ok h.g (by omega), h3, paired_ok h.t.sub ni hi, paired_ok h.g.sub no ho, sizeLine_eq]
/-! ### rows compared -/
theorem eqT_int (n : Nat) (i j : Int) : eqT n (.int i) (.int j) = some (decide (i = j)) := by
  cases n <;> (show some (eqV (.int i) (.int j)) = _; rw [eqV_int])
theorem eqT_str (n : Nat) (x y : Str) : eqT n (.str x) (.str y) = some (decide (x = y)) := by
  cases n <;> exact flEq_str x y
theorem eq_dP (n : Nat) : ∀ (t t' : Ws), ∃ l, zipO (eqT (n + 1)) (dP t) (dP t') = some l ∧ (l.all id && decide (t.length = t'.length)) = decide (t = t')
  | [], [] => ⟨[], rfl, by decide⟩
  | [], p :: t' => ⟨[], rfl, by simp⟩
  | p :: t, [] => ⟨[], rfl, by simp⟩
  | p :: t, q :: t' => by
    obtain ⟨l, e, h⟩ := eq_dP n t t'
    have e1 : eqT (n + 1) (DV.tup [.str p.1, .int (p.2 : Nat)]) (DV.tup [.str q.1, .int (q.2 : Nat)]) = some (decide (p = q)) := by
      simp only [Lb.eqT, zipO, eqT_str, eqT_int, Option.map_some, List.all_cons, List.all_nil, id, List.length_cons, List.length_nil, decide_true, Bool.and_true]
      obtain ⟨a, b⟩ := p
      obtain ⟨c, d⟩ := q
      simp [Int.ofNat_inj]
    refine ⟨decide (p = q) :: l, ?_, ?_⟩
    · simp only [dP, List.map_cons, zipO] at e ⊢
      rw [e1, e]
    · simp only [List.all_cons, id, List.length_cons, Nat.add_right_cancel_iff, List.cons.injEq]
      rw [Bool.and_assoc, h]
      simp
theorem eqT_P (r r' : Row) : eqT 40 r.P r'.P = some (decide (r = r')) := by
  obtain ⟨l1, e1, h1⟩ := eq_dP 37 r.t r'.t
  obtain ⟨l2, e2, h2⟩ := eq_dP 37 r.g r'.g
  have t1 : eqT 39 (.tuf (dP r.t)) (.tuf (dP r'.t)) = some (decide (r.t = r'.t)) := by
    show (zipO (eqT 38) _ _).map _ = _
    rw [e1]; simp only [Option.map_some, dP, List.length_map]; rw [h1]
  have t2 : eqT 39 (.tuf (dP r.g)) (.tuf (dP r'.g)) = some (decide (r.g = r'.g)) := by
    show (zipO (eqT 38) _ _).map _ = _
    rw [e2]; simp only [Option.map_some, dP, List.length_map]; rw [h2]
  show (zipO (eqT 39) [_, _, _, _] [_, _, _, _]).map _ = _
  simp only [zipO, eqT_int, t1, t2, Option.map_some, List.all_cons, List.all_nil, id, List.length_cons, List.length_nil, decide_true, Bool.and_true]
  obtain ⟨a, b, c, d⟩ := r
  obtain ⟨a', b', c', d'⟩ := r'
  simp [Bool.and_assoc, Int.ofNat_inj]
theorem inL_of {α : Type} {enc : α → DV} {x : α} {f : α → Bool} : ∀ {l : List α}, (∀ y ∈ l, eqT 40 (enc y) (enc x) = some (f y)) → inL (enc x) (l.map enc) = some (l.any f) := fun {l} h => by
  unfold inL
  have : zipO (eqT 40) (l.map enc) (List.replicate (l.map enc).length (enc x)) = some (l.map f) := by
    induction l with
    | nil => rfl
    | cons y l ih =>
      simp only [List.map_cons, List.length_cons, List.replicate_succ, zipO]
      rw [h y List.mem_cons_self, ih fun z hz => h z (List.mem_cons_of_mem _ hz)]
  rw [this]
  simp [List.any_map]
theorem fIn_P (r : Row) (rs : List Row) : fIn r.P (.lst (rs.map Row.P)) = some (decide (r ∈ rs)) := by
  show inL r.P (rs.map Row.P) = _
  rw [inL_of (enc := Row.P) (x := r) (f := fun y => decide (y = r)) fun y _ => eqT_P y r]
  congr 1
  induction rs with
  | nil => simp
  | cons y rs ih =>
    rw [List.any_cons, ih]
    by_cases e : y = r
    · simp [e]
    · simp [e, Ne.symm e]
/-! ### all of them packed -/
theorem packed_all_ok {I O : List Str} {m : Nat} {rs : List Row} (h : ∀ r ∈ rs, GoodR I O m r) (nd : rs.Nodup) (ni : I.Nodup) (no : O.Nodup) (hi : I.length ≤ 100) (ho : O.length ≤ 100) (h4 : rs.length ≤ 40) :
    f_packed_all [.v (.lst (rs.map Row.D)), .v (.tup (I.map .str)), .v (.tup (O.map .str)), .v (.int (m : Nat)), .v (.int 40)] = .ret (.v (.tup (rs.map Row.P))) [.v (.lst (rs.map Row.D)), .v (.tup (I.map .str)), .v (.tup (O.map .str)), .v (.int (m : Nat)), .v (.int 40)] := by
  simp [f_packed_all, m_packed_all, is_list_lst, sizeLine_eq]
  generalize hc : loopM _ _ _ _ = o
  obtain ⟨S', rfl, a, b, c, ha, hb, hcc, rfl⟩ := loop_ok hc (fun i S => ∃ a b c : Option RV, (a.map RV.isPin).getD false = false ∧ (b.map RV.isPin).getD false = false ∧ (c.map RV.isPin).getD false = false ∧
      S = [some (.v (.lst (rs.map Row.D))), some (.v (.tup (I.map .str))), some (.v (.tup (O.map .str))), some (.v (.int (m : Nat))), some (.v (.int 40)), some (.ol false ((rs.take i).map Row.P)), a, b, c]) (by
    rintro i d hd S ⟨a, b, c, ha, hb, hcc, rfl⟩
    obtain ⟨x, hx, rfl⟩ := enum_get hd
    rw [List.getElem?_map, Option.map_eq_some_iff] at hx
    obtain ⟨r, hr, rfl⟩ := hx
    have hm : r ∈ rs := List.mem_of_getElem? hr
    have hlt : i < rs.length := (List.getElem?_eq_some_iff.mp hr).1
    have hg : rs[i] = r := (List.getElem?_eq_some_iff.mp hr).2
    have ht : r ∉ rs.take i := by
      intro z
      obtain ⟨j, hj, e⟩ := List.mem_iff_getElem.mp z
      rw [List.length_take] at hj
      rw [List.getElem_take] at e
      have := (List.getElem_inj nd).mp (e.trans hg.symm)
      omega
    have htk : rs.take (i + 1) = rs.take i ++ [r] := by
      rw [List.take_succ_eq_append_getElem hlt, hg]
    have e1 := packed_ok (h r hm) ni no hi ho
    have e2 : isHole r.P = false := rfl
    have e3 : fIsN r.P .non = some false := rfl
    have e4 : i < 16777216 := by omega
    have e5 : min i rs.length < 16777216 := by omega
    refine ⟨_, _, by simp [-List.map_take, ha, hb]; rfl, ?_, some (.v (.int i)), some (.v r.D), some (.v r.P), rfl, rfl, rfl, rfl⟩
    rw [htk, List.map_append]
    simp [-List.map_take, e1, e3, fIn_P, ht, hcc, sizeLine_eq, e5]) ⟨none, none, none, rfl, rfl, rfl, rfl⟩
  have e6 : ¬ ((40 : Int) < rs.length) := by omega
  simp [enumDV, List.length_zipIdx, e6]
end Law
set_option maxHeartbeats 1000000
namespace Law
open PySem PySem.Spec PyProof.Rows L2 Lb
def mach (I O : List Str) (m : Nat) (rs : List Row) : DV := .ins "Machine" [("_ins", .tup (I.map .str)), ("_outs", .tup (O.map .str)), ("_standings", .int (m : Nat)), ("_rows", .tup (rs.map Row.P))]
section
variable {a b c d : DV}
abbrev f1 (a : DV) : List (Str × DV) := [("_ins", a)]
abbrev f2 (a b : DV) : List (Str × DV) := [("_ins", a), ("_outs", b)]
abbrev f3 (a b c : DV) : List (Str × DV) := [("_ins", a), ("_outs", b), ("_standings", c)]
abbrev f4 (a b c d : DV) : List (Str × DV) := [("_ins", a), ("_outs", b), ("_standings", c), ("_rows", d)]
theorem pg1 : putG "_ins" a [] = f1 a := rfl
theorem pg2 : putG "_outs" b (f1 a) = f2 a b := by kernel_rfl
theorem pg3 : putG "_standings" c (f2 a b) = f3 a b c := by kernel_rfl
theorem pg4 : putG "_rows" d (f3 a b c) = f4 a b c d := by kernel_rfl
theorem lu1 : List.lookup ("_ins" : Str) (f3 a b c) = some a := by kernel_rfl
theorem lu2 : List.lookup ("_outs" : Str) (f3 a b c) = some b := by kernel_rfl
theorem lu3 : List.lookup ("_ins" : Str) (f4 a b c d) = some a := by kernel_rfl
theorem lu4 : List.lookup ("_outs" : Str) (f4 a b c d) = some b := by kernel_rfl
theorem lu5 : List.lookup ("_standings" : Str) (f4 a b c d) = some c := by kernel_rfl
theorem lu6 : List.lookup ("_rows" : Str) (f4 a b c d) = some d := by kernel_rfl
theorem lu7 : List.lookup ("ins" : Str) (f4 a b c d) = none := by kernel_rfl
theorem lu8 : List.lookup ("outs" : Str) (f4 a b c d) = none := by kernel_rfl
theorem lu9 : List.lookup ("reactions" : Str) (f4 a b c d) = none := by kernel_rfl
end
/-- what a machine is made of -/
structure GoodM (I O : List Str) (m : Nat) (rs : List Row) : Prop where
  i1 : 1 ≤ I.length
  i4 : I.length ≤ 4
  o3 : O.length ≤ 3
  nI : ∀ x ∈ I, Nm x
  nO : ∀ x ∈ O, Nm x
  dI : I.Nodup
  dO : O.Nodup
  dj : ∀ x ∈ O, x ∉ I
  m1 : 1 ≤ m
  m12 : m ≤ 12
  ok : ∀ r ∈ rs, GoodR I O m r
  nd : rs.Nodup
  r40 : rs.length ≤ 40
theorem init_ok {I O : List Str} {m : Nat} {rs : List Row} (h : GoodM I O m rs) :
    f_Machine___init__ [.oi true "Machine" [], .v (.lst (I.map .str)), .v (.lst (O.map .str)), .v (.int (m : Nat)), .v (.lst (rs.map Row.D))] =
    .ret (.v .non) [.oi true "Machine" [("_ins", .tup (I.map .str)), ("_outs", .tup (O.map .str)), ("_standings", .int (m : Nat)), ("_rows", .tup (rs.map Row.P))], .v (.lst (I.map .str)), .v (.lst (O.map .str)), .v (.int (m : Nat)), .v (.lst (rs.map Row.D))] := by
  have e1 := check_ins_ok h.nI h.dI h.i1 h.i4
  have e2 := check_outs_ok h.nO h.dO h.dj h.o3
  have e3 := packed_all_ok h.ok h.nd h.dI h.dO (by have := h.i4; omega) (by have := h.o3; omega) h.r40
  have m1 : ¬ ((m : Int) < 1) := by have := h.m1; omega
  have m2 : ¬ ((12 : Int) < m) := by have := h.m12; omega
  simp [f_Machine___init__, m_Machine___init__, e1, e2, e3, is_integer_int, m1, m2, pg1, pg2, pg3, pg4, lu1, lu2]
theorem len_ok {I O : List Str} {m : Nat} {rs : List Row} : f_Machine___len__ [.v (mach I O m rs)] = .ret (.v (.int (rs.length : Nat))) [.v (mach I O m rs)] := by
  simp [f_Machine___len__, m_Machine___len__, mach, lu6]
section
variable {I O : List Str} {m : Nat} {rs : List Row}
theorem goodLen_len (h : rs.length ≤ 40) : goodLen (.int (rs.length : Nat)) = true := by
  unfold goodLen
  rw [Bool.and_eq_true]
  exact ⟨decide_eq_true (by omega), decide_eq_true (by omega)⟩
theorem check_number_gen {gs : List (Str × DV)} {n : Nat} (e : ∀ (o : Opd) (S : Sl), isIns o S = true → dataOf o S = some (.ins "Machine" gs) → oneM "Machine" f_Machine___len__ goodLen fLen o S = Out.ok (Opd.v (RV.v (DV.int (n : Nat)))) S)
    {i : Int} (h : 0 ≤ i ∧ i < n) : f_check_number [.v (.ins "Machine" gs), .v (.int i)] = .ret (.v .non) [.v (.ins "Machine" gs), .v (.int i)] := by
  simp [f_check_number, m_check_number, e, is_below_int, h]
theorem len_e (h4 : rs.length ≤ 40) : ∀ (o : Opd) (S : Sl), isIns o S = true → dataOf o S = some (mach I O m rs) → oneM "Machine" f_Machine___len__ goodLen fLen o S = Out.ok (Opd.v (RV.v (DV.int (rs.length : Nat)))) S :=
  fun o S => oneM_of (F := fLen) (o := o) (S := S) (len_ok (I := I) (O := O) (m := m) (rs := rs)) (goodLen_len h4)
theorem check_number_ok (h4 : rs.length ≤ 40) {i : Int} (h : 0 ≤ i ∧ i < rs.length) : f_check_number [.v (mach I O m rs), .v (.int i)] = .ret (.v .non) [.v (mach I O m rs), .v (.int i)] :=
  check_number_gen (len_e h4) h
theorem atI_row (rs : List Row) {i : Nat} {r : Row} (h : rs[i]? = some r) : fIxA (.tup (rs.map Row.P)) (.int (i : Nat)) = some (.v r.P) := by
  show (L2.atI (rs.map Row.P) (i : Int)).map RV.v = _
  have hl : i < rs.length := (List.getElem?_eq_some_iff.mp h).1
  have e : ixN (rs.map Row.P).length (i : Int) = some i := by
    unfold ixN
    rw [if_pos (by omega), if_pos (by rw [List.length_map]; omega)]; simp
  unfold L2.atI
  rw [e]
  simp [h]
theorem merge_nodup : ∀ (ps acc : List (Key × DV)), (acc.map (·.1) ++ ps.map (·.1)).Nodup → mergeD acc ps = acc ++ ps
  | [], acc, _ => by simp [mergeD]
  | p :: ps, acc, h => by
    have hp : putD acc p.1 p.2 = acc ++ [p] := by
      unfold putD
      have : ¬ (acc.any fun kv => decide (kv.1 = p.1)) = true := by
        rw [List.any_eq_true]
        rintro ⟨kv, hk, e⟩
        have e := of_decide_eq_true e
        have := (List.nodup_append.mp h).2.2 kv.1 (List.mem_map_of_mem hk) p.1 (by simp)
        exact this e
      rw [if_neg this]
    show mergeD (putD acc p.1 p.2) ps = _
    rw [hp, merge_nodup ps (acc ++ [p]) (by simpa using h)]
    simp
theorem pairs_dP (t : Ws) : pairsDV (dP t) = some (dK t) := by
  induction t with
  | nil => rfl
  | cons p t ih =>
    show (match pairDV (.tup [.str p.1, .int (p.2 : Nat)]), pairsDV (dP t) with
      | some p, some ps => some (p :: ps)
      | _, _ => none) = _
    rw [ih]
    rfl
theorem keys_nodup {L : List Str} {t : Ws} (h : (t.map (·.1)).Sublist L) (nd : L.Nodup) : ((dK t).map (·.1)).Nodup := by
  have h1 : (t.map (·.1)).Nodup := h.nodup nd
  have : (dK t).map (·.1) = (t.map (·.1)).map Sum.inr := by simp [dK, Function.comp_def]
  rw [this]
  exact List.Pairwise.map _ (fun a b hab z => hab (Sum.inr.inj z)) h1
theorem dict_tuf {L : List Str} {t : Ws} (h : (t.map (·.1)).Sublist L) (nd : L.Nodup) : fDictA [.tuf (dP t)] = some (.od false (dK t)) := by
  show (pairsDV (dP t)).map _ = _
  rw [pairs_dP]
  simp only [Option.map_some]
  rw [merge_nodup _ [] (by simpa using keys_nodup h nd)]
  simp
theorem getitem_gen {gs : List (Str × DV)} {rd : DV} {i : Int} {s d : Int} {t g : List DV} {t' g' : List (Key × DV)} (e : f_check_number [.v (.ins "Machine" gs), .v (.int i)] = .ret (.v .non) [.v (.ins "Machine" gs), .v (.int i)])
    (l : List.lookup ("_rows" : Str) gs = some rd) (e2 : fIxA rd (.int i) = some (.v (.tup [.int s, .tuf t, .tuf g, .int d]))) (d1 : fDictA [.tuf t] = some (.od false t')) (d2 : fDictA [.tuf g] = some (.od false g')) :
    f_Machine___getitem__ [.v (.ins "Machine" gs), .v (.int i)] = .ret (.v (.tup [.int s, .dct t', .dct g', .int d])) [.v (.ins "Machine" gs), .v (.int i)] := by
  simp [f_Machine___getitem__, m_Machine___getitem__, e, l, e2, d1, d2, sizeLine_eq]
theorem getitem_ok (g : GoodM I O m rs) {i : Nat} {r : Row} (h : rs[i]? = some r) : f_Machine___getitem__ [.v (mach I O m rs), .v (.int (i : Nat))] = .ret (.v r.D) [.v (mach I O m rs), .v (.int (i : Nat))] := by
  have hl : i < rs.length := (List.getElem?_eq_some_iff.mp h).1
  have hr := g.ok r (List.mem_of_getElem? h)
  exact getitem_gen (check_number_ok (I := I) (O := O) (m := m) g.r40 (i := i) ⟨by omega, by omega⟩) lu6 (atI_row rs h) (dict_tuf hr.t.sub g.dI) (dict_tuf hr.g.sub g.dO)
end
end Law
set_option maxHeartbeats 1000000
namespace Law
open PySem PySem.Spec PyProof.Rows L2 Lb
/-- the rows agree -/
def Ag (r r' : Row) : Bool := decide (r.s = r'.s) && r.t.all fun p => decide ((lk p.1 r'.t).getD p.2 = p.2)
theorem ixM_of {f : FSem} {F : DV → DV → Option RV} {x y : Opd} {S : Sl} {gs : List (Str × DV)} {i d : DV} {outs : List RV} (hf : f [.v (.ins "Machine" gs), .v i] = .ret (.v d) outs) (hi : isIns x S = true) (hx : dataOf x S = some (.ins "Machine" gs)) (hy : dataOf y S = some i) :
    ixM "Machine" f F x y S = .ok (.v (.v d)) S := by
  unfold ixM
  rw [if_pos hi, hx, hy]
  dsimp only
  rw [if_pos rfl]
  unfold callF
  simp only [List.map_cons, List.map_nil, List.length_cons, List.length_nil, Nat.zero_add, if_true]
  rw [hf]
  rfl
theorem ixM_exc {f : FSem} {F : DV → DV → Option RV} {x y : Opd} {S : Sl} {gs : List (Str × DV)} {i : DV} {c : Str} {fs : List (Str × DV)} {outs : List RV} (hf : f [.v (.ins "Machine" gs), .v i] = .exc c fs outs) (hi : isIns x S = true) (hx : dataOf x S = some (.ins "Machine" gs)) (hy : dataOf y S = some i) :
    ixM "Machine" f F x y S = .exc c fs S := by
  unfold ixM
  rw [if_pos hi, hx, hy]
  dsimp only
  rw [if_pos rfl]
  unfold callF
  simp only [List.map_cons, List.map_nil, List.length_cons, List.length_nil, Nat.zero_add, if_true]
  rw [hf]
theorem neDV_int (i j : Int) : neDV (.int i) (.int j) = some (decide (i ≠ j)) := by
  have e : PyData.eqv (.int i) (.int j) = decide (i = j) := by
    show (i == j) = _
    rfl
  show (eqPy (.int i) (.int j)).map not = _
  have : eqPy (.int i) (.int j) = some (PyData.eqv (.int i) (.int j)) := rfl
  rw [this, e]; simp
@[simp] theorem neA2_int (i j : Int) : neA2 (.int i) (.int j) = some (decide (i ≠ j)) := by
  show orO (neDV (.int i) (.int j)) _ = _
  rw [neDV_int]; rfl
@[simp] theorem getM_str (kvs : List (Key × DV)) (l : Str) (x : DV) : getM (.dct kvs) (.str l) x = M.pure ((lookK (.inr l) kvs).getD x) := rfl
section
variable {gs : List (Str × DV)}
theorem do_agree_gen {k j : Nat} {r r' : Row} (e1 : f_Machine___getitem__ [.v (.ins "Machine" gs), .v (.int (k : Nat))] = .ret (.v r.D) [.v (.ins "Machine" gs), .v (.int (k : Nat))])
    (e2 : f_Machine___getitem__ [.v (.ins "Machine" gs), .v (.int (j : Nat))] = .ret (.v r'.D) [.v (.ins "Machine" gs), .v (.int (j : Nat))]) (hl : r.t.length ≤ 100) :
    f_do_agree [.v (.ins "Machine" gs), .v (.int (k : Nat)), .v (.int (j : Nat))] = .ret (.v (.bl (decide (k ≠ j) && Ag r r'))) [.v (.ins "Machine" gs), .v (.int (k : Nat)), .v (.int (j : Nat))] := by
  simp [f_do_agree, m_do_agree, e1, e2, Row.D]
  by_cases hk : k = j
  · subst hk
    simp
  · have hk' : ¬ ((k : Int) = (j : Int)) := by omega
    by_cases hs : r.s = r'.s
    · simp [hk, hk', hs, items_dK]
      rw [compM_map (fun d => match d with | .tup [.str l, .int n] => .bl (decide (((lk l r'.t).map fun m => ((m : Nat) : Int)).getD n = n)) | _ => .non) (fun d hd => ?_) (by simp [dP, sizeLine_eq]; omega) rfl]
      · have ef : fAll [.lst ((dP r.t).map fun d => match d with | .tup [.str l, .int n] => DV.bl (decide (((lk l r'.t).map fun m => ((m : Nat) : Int)).getD n = n)) | _ => .non)] = some (.v (.bl (r.t.all fun p => decide ((lk p.1 r'.t).getD p.2 = p.2)))) := by
          have : ∀ t : Ws, boolsDV ((dP t).map fun d => match d with | .tup [.str l, .int n] => DV.bl (decide (((lk l r'.t).map fun m => ((m : Nat) : Int)).getD n = n)) | _ => .non) = some (t.map fun p => decide ((lk p.1 r'.t).getD p.2 = p.2)) := by
            intro t
            induction t with
            | nil => rfl
            | cons p t ih =>
              simp only [dP, List.map_cons, boolsDV] at ih ⊢
              rw [ih]
              cases e : lk p.1 r'.t <;> simp [Int.ofNat_inj]
          show (boolsDV _).map _ = _
          rw [this]
          simp [List.all_map, Function.comp_def]
        simp only [ev_dvs_cons, ev_dvs_nil, dvOf_v, rv_dv_ol, ef]
        simp [wipeS, restS, Ag, hs]
      · obtain ⟨p, hp, rfl⟩ := List.mem_map.mp hd
        simp [CStep, wipeS, isDct, look_dK]
    · have hs' : ¬ ((r.s : Int) = (r'.s : Int)) := by omega
      simp [hk, hk', hs, hs', Ag]
end
section
variable {I O : List Str} {m : Nat} {rs : List Row} {k j : Nat} {r r' : Row}
theorem do_agree_ok (g : GoodM I O m rs) (h : rs[k]? = some r) (h' : rs[j]? = some r') : f_do_agree [.v (mach I O m rs), .v (.int (k : Nat)), .v (.int (j : Nat))] = .ret (.v (.bl (decide (k ≠ j) && Ag r r'))) [.v (mach I O m rs), .v (.int (k : Nat)), .v (.int (j : Nat))] :=
  do_agree_gen (getitem_ok g h) (getitem_ok g h') (by have := (g.ok r (List.mem_of_getElem? h)).t.len; have := g.i4; omega)
end
end Law
set_option maxHeartbeats 1000000
namespace Law
open PySem PySem.Spec PyProof.Rows L2 Lb
@[simp ↓] theorem ev_raiseM' (c : Str) (fs : List Str) (ds : List DV) (S : Sl) : raiseM c fs ds S = (if ds.length = fs.length then .exc c (fs.zip ds).reverse S else .stuck) := rfl
def DStep (vs : List Nat) (g : GM) (t : M Bool) (k e : M DV) (S0 : Sl) (d : DV) : Option (Key × DV) → Prop
  | none => ∃ S1 S2, g d S0 = some S1 ∧ t S1 = .ok false S2 ∧ wipeS S2 vs = S0
  | some p => ∃ S1 S2 S3 S4 ky, g d S0 = some S1 ∧ t S1 = .ok true S2 ∧ k S2 = .ok ky S3 ∧ e S3 = .ok p.2 S4 ∧ keyDV ky = some p.1 ∧ wipeS S4 vs = S0
theorem put_new {acc : List (Key × DV)} {k : Key} {v : DV} (h : k ∉ acc.map (·.1)) : putD acc k v = acc ++ [(k, v)] := by
  unfold putD
  have : ¬ (acc.any fun kv => decide (kv.1 = k)) = true := by
    rw [List.any_eq_true]
    rintro ⟨kv, hk, e⟩
    exact h (by rw [← of_decide_eq_true e]; exact List.mem_map_of_mem hk)
  rw [if_neg this]
theorem dcompL_pure {vs : List Nat} {g : GM} {t : M Bool} {k e : M DV} {S0 : Sl} (f : DV → Option (Key × DV)) : ∀ (ds : List DV) (acc : List (Key × DV)), (∀ d ∈ ds, DStep vs g t k e S0 d (f d)) → acc.length + ds.length ≤ sizeLine → ((acc ++ ds.filterMap f).map (·.1)).Nodup → dcompL vs g t k e ds acc S0 = some (acc ++ ds.filterMap f, S0)
  | [], acc, _, _, _ => by simp [dcompL]
  | d :: ds, acc, h, hl, nd => by
    have hd := h d List.mem_cons_self
    have ht : ∀ x ∈ ds, DStep vs g t k e S0 x (f x) := fun x hx => h x (List.mem_cons_of_mem _ hx)
    simp only [List.length_cons] at hl
    cases hf : f d with
    | none =>
      rw [hf] at hd
      obtain ⟨S1, S2, e1, e2, e3⟩ := hd
      rw [List.filterMap_cons, hf] at nd ⊢
      unfold dcompL
      rw [e1]; dsimp only; rw [e2]; dsimp only
      rw [e3, dcompL_pure f ds acc ht (by omega) nd]
    | some y =>
      rw [hf] at hd
      obtain ⟨S1, S2, S3, S4, ky, e1, e2, e3, e4, e5, e6⟩ := hd
      rw [List.filterMap_cons, hf] at nd ⊢
      unfold dcompL
      rw [e1]; dsimp only; rw [e2]; dsimp only; rw [e3]; dsimp only; rw [e4]; dsimp only; rw [e5]; dsimp only
      have hn : y.1 ∉ acc.map (·.1) := by
        intro z
        rw [List.map_append] at nd
        exact (List.nodup_append.mp nd).2.2 _ z y.1 (by simp) rfl
      rw [if_pos (by omega), e6, put_new hn, dcompL_pure f ds (acc ++ [(y.1, y.2)]) ht (by simp; omega) (by simpa using nd), List.append_assoc]
      rfl
theorem dcompM_pure {vs : List Nat} {g : GM} {t : M Bool} {k e : M DV} {ds : List DV} {S : Sl} (f : DV → Option (Key × DV)) (h : ∀ d ∈ ds, DStep vs g t k e (wipeS S vs) d (f d)) (hl : ds.length ≤ sizeLine) (nd : ((ds.filterMap f).map (·.1)).Nodup) (hn : noOwn S vs = true) :
    dcompM vs g t k e ds S = .ok (.v (.od false (ds.filterMap f))) (restS S (wipeS S vs) vs) := by
  unfold dcompM
  rw [if_pos hn, dcompL_pure f ds [] h (by simpa using hl) (by simpa using nd)]
  rfl
/-! ### {**a, **b} -/
theorem look_put (acc : List (Key × DV)) (k k' : Key) (v : DV) : lookK k (putD acc k' v) = if k' = k then some v else lookK k acc := by
  unfold putD
  split
  · rename_i h
    unfold lookK
    induction acc with
    | nil => simp at h
    | cons p acc ih =>
      simp only [List.map_cons, List.find?_cons]
      by_cases e : p.1 = k'
      · simp only [e, if_true]
        by_cases e2 : k' = k
        · simp [e2]
        · simp only [e2, decide_false, if_false]
          clear ih h
          induction acc with
          | nil => rfl
          | cons q acc ih2 =>
            simp only [List.map_cons, List.find?_cons]
            by_cases e3 : q.1 = k'
            · simp only [e3, if_true, e2, decide_false]; exact ih2
            · simp only [e3, if_false]
              by_cases e4 : q.1 = k
              · simp [e4]
              · simp only [e4, decide_false]; exact ih2
      · simp only [e, if_false]
        have h' : (acc.any fun kv => decide (kv.1 = k')) = true := by simpa [e] using h
        by_cases e2 : p.1 = k
        · have : ¬ k' = k := fun z => e (e2.trans z.symm)
          simp [e2, this]
        · simp only [e2, decide_false]; exact ih h'
  · rename_i h
    unfold lookK
    rw [List.find?_append]
    by_cases e : k' = k
    · subst e
      have : (acc.find? fun p => decide (p.1 = k')) = none := by
        rw [List.find?_eq_none]
        intro p hp z
        exact h (List.any_eq_true.mpr ⟨p, hp, z⟩)
      simp [this]
    · simp [e]
theorem look_merge : ∀ {t : Ws} {acc : List (Key × DV)} (l : Str), (t.map (·.1)).Nodup → lookK (.inr l) (mergeD acc (dK t)) = ((lk l t).map fun n => DV.int (n : Nat)).or (lookK (.inr l) acc)
  | [], acc, l, _ => by simp [mergeD, dK, lk]
  | p :: t, acc, l, nd => by
    have n1 := (List.nodup_cons.mp nd).1
    have n2 := (List.nodup_cons.mp nd).2
    show lookK (.inr l) (mergeD (putD acc (.inr p.1) (.int (p.2 : Nat))) (dK t)) = _
    rw [look_merge l n2, look_put]
    by_cases e : p.1 = l
    · have h1 : lk l t = none := lk_none (by rw [← e]; exact n1)
      have h2 : lk l (p :: t) = some p.2 := by simp [lk, e]
      rw [h1, h2]
      simp [e]
    · have : ¬ (Sum.inr p.1 : Key) = Sum.inr l := fun z => e (Sum.inr.inj z)
      simp [this, lk, e]
theorem look_both {t t' : Ws} (h : (t.map (·.1)).Nodup) (h' : (t'.map (·.1)).Nodup) (l : Str) : lookK (.inr l) (mergeD (mergeD [] (dK t)) (dK t')) = ((lk l t').or (lk l t)).map fun n => DV.int (n : Nat) := by
  rw [look_merge l h', look_merge l h]
  cases lk l t' <;> cases lk l t <;> simp [lookK]
/-- the heads of two rows -/
def Hd (I : List Str) (t t' : Ws) : Ws := I.filterMap fun l => ((lk l t').or (lk l t)).map fun n => (l, n)
theorem hd_sub (I : List Str) (t t' : Ws) : ((Hd I t t').map (·.1)).Sublist I := by
  unfold Hd
  induction I with
  | nil => simp
  | cons l I ih =>
    rw [List.filterMap_cons]
    cases (lk l t').or (lk l t) with
    | none => exact .cons _ ih
    | some n => exact .cons_cons _ ih
@[simp] theorem fIn_dct (kvs : List (Key × DV)) (l : Str) : fIn (.str l) (.dct kvs) = some (lookK (.inr l) kvs).isSome := rfl
@[simp] theorem fIx_dct (kvs : List (Key × DV)) (l : Str) : fIxA (.dct kvs) (.str l) = (lookK (.inr l) kvs).map RV.v := rfl
@[simp] theorem fIx_t0 (a b c d : DV) : fIxA (.tup [a, b, c, d]) (.int 0) = some (.v a) := rfl
@[simp] theorem fIx_t1 (a b c d : DV) : fIxA (.tup [a, b, c, d]) (.int 1) = some (.v b) := rfl
section
variable {gs : List (Str × DV)}
theorem check_agreeing_gen {k j : Int} {b : Bool} (e : f_do_agree [.v (.ins "Machine" gs), .v (.int k), .v (.int j)] = .ret (.v (.bl b)) [.v (.ins "Machine" gs), .v (.int k), .v (.int j)]) :
    f_check_agreeing [.v (.ins "Machine" gs), .v (.int k), .v (.int j)] = if b then .ret (.v .non) [.v (.ins "Machine" gs), .v (.int k), .v (.int j)] else .exc "NotAgreeing" [("other", .int j), ("one", .int k)] [.v (.ins "Machine" gs), .v (.int k), .v (.int j)] := by
  cases b <;> simp [f_check_agreeing, m_check_agreeing, e]
theorem ins_gen {L : List DV} (l : List.lookup ("_ins" : Str) gs = some (.tup L)) : f_Machine_ins [.v (.ins "Machine" gs)] = .ret (.ol false L) [.v (.ins "Machine" gs)] := by
  simp [f_Machine_ins, m_Machine_ins, l]
theorem outs_gen {L : List DV} (l : List.lookup ("_outs" : Str) gs = some (.tup L)) : f_Machine_outs [.v (.ins "Machine" gs)] = .ret (.ol false L) [.v (.ins "Machine" gs)] := by
  simp [f_Machine_outs, m_Machine_outs, l]
theorem heads_gen {k j : Nat} {r r' : Row} {I : List Str} (e0 : f_check_agreeing [.v (.ins "Machine" gs), .v (.int (k : Nat)), .v (.int (j : Nat))] = .ret (.v .non) [.v (.ins "Machine" gs), .v (.int (k : Nat)), .v (.int (j : Nat))])
    (e1 : f_Machine___getitem__ [.v (.ins "Machine" gs), .v (.int (k : Nat))] = .ret (.v r.D) [.v (.ins "Machine" gs), .v (.int (k : Nat))])
    (e2 : f_Machine___getitem__ [.v (.ins "Machine" gs), .v (.int (j : Nat))] = .ret (.v r'.D) [.v (.ins "Machine" gs), .v (.int (j : Nat))])
    (l1 : List.lookup ("_ins" : Str) gs = some (.tup (I.map .str))) (l2 : List.lookup ("ins" : Str) gs = none) (hl : r.t.length ≤ 100) (hl' : r'.t.length ≤ 100) (hI : I.length ≤ 100) (nd : (r.t.map (·.1)).Nodup) (nd' : (r'.t.map (·.1)).Nodup) (ni : I.Nodup) :
    f_heads [.v (.ins "Machine" gs), .v (.int (k : Nat)), .v (.int (j : Nat))] = .ret (.od false (dK (Hd I r.t r'.t))) [.v (.ins "Machine" gs), .v (.int (k : Nat)), .v (.int (j : Nat))] := by
  have e3 := ins_gen l1
  have hs : (dK r.t).length + (dK r'.t).length ≤ 16777216 := by simp [dK]; omega
  simp [f_heads, m_heads, e0, e1, e2, e3, Row.D, insOf, l2, sizeLine_eq, hs]
  rw [dcompM_pure (fun d => match d with | .str l => ((lk l r'.t).or (lk l r.t)).map fun n => ((.inr l : Key), DV.int (n : Nat)) | _ => none) (fun d hd => ?_) (by simp [sizeLine_eq]; omega) ?_ rfl]
  · simp [wipeS, restS, fm_str, dK, Hd, List.map_filterMap, Option.map_map, Function.comp_def]
  · have := (hd_sub I r.t r'.t).nodup ni
    rw [fm_str]
    have e : (I.filterMap fun l => ((lk l r'.t).or (lk l r.t)).map fun n => ((.inr l : Key), DV.int (n : Nat))).map (·.1) = ((Hd I r.t r'.t).map (·.1)).map Sum.inr := by
      simp [Hd, List.map_filterMap, Option.map_map, Function.comp_def]
    rw [e]
    exact List.Pairwise.map _ (fun a b hab z => hab (Sum.inr.inj z)) this
  · obtain ⟨l, hl, rfl⟩ := List.mem_map.mp hd
    have eb := look_both nd nd' l
    cases e : (lk l r'.t).or (lk l r.t) with
    | none => rw [e] at eb; simp [DStep, wipeS, eb, e]
    | some n =>
      rw [e] at eb
      simp [DStep, wipeS, eb, e]
      refine ⟨_, _, _, ⟨rfl, rfl⟩, (by simp [eb]; rfl), rfl, by simp⟩
end
end Law
set_option maxHeartbeats 1000000
namespace Law
open PySem PySem.Spec PyProof.Rows L2 Lb
def Pot (p : List DV) : Prop := ∃ a b : Int, p = [.int a, .int b]
def nxt (b : Int) : Int := (b * 39373 + 16661) % 2147483629
theorem nxt_small (b : Int) : smallI (nxt b) = true := by
  have h1 : 0 ≤ nxt b := Int.emod_nonneg _ (by decide)
  have h2 : nxt b < 2147483629 := Int.emod_lt_of_pos _ (by decide)
  unfold smallI
  exact decide_eq_true (by omega)
theorem mulL {b : Int} : fMulB (.int b) (.int 39373) = some (.v (.int (b * 39373))) := by
  show (if smallI b || smallI 39373 then _ else _) = _
  rw [show smallI 39373 = true from by decide, Bool.or_true]; rfl
theorem mulS {b : Int} (h : smallI b = true) : fMulB (.int b) (.int b) = some (.v (.int (b * b))) := by
  show (if smallI b || smallI b then _ else _) = _
  rw [h]; rfl
theorem modI {a : Int} {b : Int} (h : 0 < b) : fMod (.int a) (.int b) = some (.v (.int (a % b))) := by
  show (if 0 < b then _ else _) = _
  rw [if_pos h]
theorem divI {a : Int} : fDiv (.int a) (.int 13) = some (.v (.int (a / 13))) := rfl
theorem dmI {a n : Int} (h : 0 < n) (h2 : n < 1073741824) : fDivmod [.int a, .int n] = some (.v (.tup [.int (a / n), .int (a % n)])) := by
  show (if 0 < n ∧ n < 1073741824 then _ else _) = _
  rw [if_pos ⟨h, h2⟩]
theorem ix20 {x y : DV} : fIxA (.lst [x, y]) (.int 0) = some (.v x) := rfl
theorem ix21 {x y : DV} : fIxA (.lst [x, y]) (.int 1) = some (.v y) := rfl
theorem ixN20 : ixN 2 0 = some 0 := rfl
theorem ixN21 : ixN 2 1 = some 1 := rfl
theorem draw_pos {a b n : Int} (h : 0 < a) (h1 : 0 < n) (h2 : n < 1073741824) : f_law_draw [.ol true [.int a, .int b], .v (.int n)] = .ret (.v (.int (a % n))) [.ol true [.int (a / n), .int b], .v (.int n)] := by
  simp [f_law_draw, m_law_draw, ix20, h, dmI h1 h2, ixN20]
theorem draw_no {a b n : Int} (h : ¬ 0 < a) (h1 : 0 < n) : f_law_draw [.ol true [.int a, .int b], .v (.int n)] = .ret (.v (.int (nxt b * nxt b % 2147483549 / 13 % n))) [.ol true [.int a, .int (nxt b)], .v (.int n)] := by
  have e : (b * 39373 + 16661) % 2147483629 = nxt b := rfl
  simp [f_law_draw, m_law_draw, ix20, ix21, h, ixN20, ixN21, mulL, modI, e, mulS (nxt_small b), divI, modI h1]
theorem draw_ok {p : List DV} (hp : Pot p) {n : Int} (h1 : 0 < n) (h2 : n < 1073741824) : ∃ (r : Nat) (p' : List DV), (r : Int) < n ∧ Pot p' ∧ f_law_draw [.ol true p, .v (.int n)] = .ret (.v (.int (r : Nat))) [.ol true p', .v (.int n)] := by
  obtain ⟨a, b, rfl⟩ := hp
  by_cases h : 0 < a
  · refine ⟨(a % n).toNat, _, ?_, ⟨a / n, b, rfl⟩, ?_⟩
    · rw [Int.toNat_of_nonneg (Int.emod_nonneg _ (by omega))]; exact Int.emod_lt_of_pos _ h1
    · rw [draw_pos h h1 h2, Int.toNat_of_nonneg (Int.emod_nonneg _ (by omega))]
  · refine ⟨(nxt b * nxt b % 2147483549 / 13 % n).toNat, _, ?_, ⟨a, nxt b, rfl⟩, ?_⟩
    · rw [Int.toNat_of_nonneg (Int.emod_nonneg _ (by omega))]; exact Int.emod_lt_of_pos _ h1
    · rw [draw_no h h1, Int.toNat_of_nonneg (Int.emod_nonneg _ (by omega))]
theorem ixL {L : List DV} {r : Nat} (h : r < L.length) : fIxA (.lst L) (.int (r : Nat)) = some (.v L[r]) := by
  have e : ixN L.length (r : Int) = some r := by
    unfold ixN
    rw [if_pos (by omega), if_pos (by omega)]; simp
  show (L2.atI L (r : Int)).map RV.v = _
  unfold L2.atI
  rw [e]; simp [h]
theorem ixStr {x : Str} {r : Nat} (h : r < x.length) (hl : x.length ≤ sizeLine) : fIxA (.str x) (.int (r : Nat)) = some (.v (.str ⟨#[x.cps[r]'h]⟩)) := by
  have e : ixN x.cps.toList.length (r : Int) = some r := by
    have : r < x.cps.toList.length := by rw [Array.length_toList]; exact h
    unfold ixN
    rw [if_pos (by omega), if_pos (by omega)]; simp
  show (if x.length ≤ sizeLine then (L2.atI x.cps.toList (r : Int)).map (fun c => RV.v (.str ⟨#[c]⟩)) else none) = _
  rw [if_pos hl]
  unfold L2.atI
  rw [e]
  have h' : r < x.cps.size := h
  simp [h']
  rfl
theorem pick_ok {p : List DV} (hp : Pot p) {L : List DV} (h1 : 0 < L.length) (h2 : L.length < 1073741824) : ∃ d ∈ L, ∃ p' : List DV, Pot p' ∧ f_law_pick [.ol true p, .v (.lst L)] = .ret (.v d) [.ol true p', .v (.lst L)] := by
  obtain ⟨r, p', hr, hp', e⟩ := draw_ok hp (n := (L.length : Nat)) (by omega) (by omega)
  have hl : r < L.length := by omega
  refine ⟨L[r], List.getElem_mem hl, p', hp', ?_⟩
  simp [f_law_pick, m_law_pick, e, ixL hl]
theorem pick_str {p : List DV} (hp : Pot p) {x : Str} (h1 : 0 < x.length) (h2 : x.length < 1000000) : ∃ (c : Nat) (p' : List DV), c ∈ x.cps.toList ∧ Pot p' ∧ f_law_pick [.ol true p, .v (.str x)] = .ret (.v (.str ⟨#[c]⟩)) [.ol true p', .v (.str x)] := by
  obtain ⟨r, p', hr, hp', e⟩ := draw_ok hp (n := (x.length : Nat)) (by omega) (by omega)
  have hl : r < x.length := by omega
  have hz : x.length ≤ sizeLine := by rw [sizeLine_eq]; omega
  refine ⟨x.cps[r]'hl, p', by rw [Array.mem_toList_iff]; exact Array.getElem_mem hl, hp', ?_⟩
  simp [f_law_pick, m_law_pick, fLenB_str hz, e, ixStr hl hz]
end Law
set_option maxHeartbeats 2000000
namespace Law
open PySem PySem.Spec PyProof.Rows L2 Lb
theorem nodup_len {α : Type} [DecidableEq α] : ∀ {A B : List α}, A.Nodup → (∀ x ∈ A, x ∈ B) → A.length ≤ B.length
  | [], _, _, _ => Nat.zero_le _
  | x :: A, B, nd, h => by
    have n1 := (List.nodup_cons.mp nd).1
    have n2 := (List.nodup_cons.mp nd).2
    have hx := h x List.mem_cons_self
    have : A.length ≤ (B.erase x).length := nodup_len n2 fun y hy => by
      have hne : y ≠ x := fun z => n1 (by rw [← z]; exact hy)
      exact (List.mem_erase_of_ne hne).mpr (h y (List.mem_cons_of_mem _ hy))
    rw [List.length_erase_of_mem hx] at this
    have := List.length_pos_of_mem hx
    simp only [List.length_cons]; omega
theorem pigeon {α : Type} [DecidableEq α] {A B : List α} (nd : A.Nodup) (h : B.length < A.length) : ∃ x ∈ A, x ∉ B := by
  apply Classical.byContradiction
  intro z
  have : ∀ x ∈ A, x ∈ B := fun x hx => Classical.byContradiction fun hn => z ⟨x, hx, hn⟩
  have := nodup_len nd this
  omega
def abc : Str := "abcdefghijklmnopqrstuvwxyz"
theorem abc_cps : abc.cps.toList = List.range' 97 26 := by decide
theorem abc_len : abc.length = 26 := by decide
abbrev one (c : Nat) : Str := ⟨#[c]⟩
theorem abc_signs : signsDV abc = (List.range' 97 26).map fun c => DV.str (one c) := by unfold signsDV; rw [abc_cps]
theorem str_ext {x y : Str} (h : x.cps.toList = y.cps.toList) : x = y := by
  obtain ⟨a⟩ := x
  obtain ⟨b⟩ := y
  congr 1
  exact Array.toList_inj.mp h
theorem app_cps (x y : Str) : (x ++ y).cps.toList = x.cps.toList ++ y.cps.toList := by
  show (x.cps ++ y.cps).toList = _
  simp
theorem len_cps (x : Str) : x.length = x.cps.toList.length := by rw [Array.length_toList]; rfl
theorem join_one : ∀ (cs : List Nat), (Txt.join ("" : Str) (cs.map one)).cps.toList = cs := fun cs => by
  have je : ∀ l : List Str, Txt.join ("" : Str) l = Str.join ("" : Str) l := fun l => StrLaws.glued_eq_join _ l
  rw [je]
  have e0 : ("" : Str).cps.toList = [] := by decide
  match cs with
  | [] => rfl
  | [c] => rfl
  | c :: d :: cs =>
    show ((one c ++ ("" : Str)) ++ Str.join "" ((d :: cs).map one)).cps.toList = _
    have := join_one (d :: cs)
    rw [je] at this
    rw [app_cps, app_cps, this, e0]
    simp
theorem strs_one (cs : List Nat) : strsDV (cs.map fun c => DV.str (one c)) = some (cs.map one) := by
  induction cs with
  | nil => rfl
  | cons c cs ih =>
    show (strsDV (cs.map fun c => DV.str (one c))).map _ = _
    rw [ih]; rfl
/-- near names -/
def nearN (w : Str) : List Str := w :: (List.range' 97 26).map fun c => cutS w none (some 7) ++ one c
theorem cut7 (w : Str) : (cutS w none (some 7)).cps.toList = w.cps.toList.take (min 7 w.length) := by
  unfold cutS
  rw [HT.sIx_none]
  have : HT.sIx w.length w.length (some 7) = min 7 w.length := HT.sIx_nat w.length w.length 7
  rw [this]; simp
theorem near_nm {w : Str} (h : Nm w) : ∀ x ∈ nearN w, Nm x := fun x hx => by
  rcases List.mem_cons.mp hx with rfl | hx
  · exact h
  · obtain ⟨c, hc, rfl⟩ := List.mem_map.mp hx
    obtain ⟨h1, h2, h3⟩ := h
    have hc := List.mem_range'_1.mp hc
    have e : (cutS w none (some 7) ++ one c).cps.toList = w.cps.toList.take (min 7 w.length) ++ [c] := by rw [app_cps, cut7]
    refine ⟨?_, ?_, fun d hd => ?_⟩
    · rw [len_cps, e]; simp
    · rw [len_cps, e, List.length_append, List.length_take]; simp; omega
    · rw [e] at hd
      rcases List.mem_append.mp hd with z | z
      · exact h3 d (List.mem_of_mem_take z)
      · obtain rfl := List.mem_singleton.mp z
        omega
theorem near_some {w : Str} {B : List Str} (h : B.length ≤ 25) : ∃ x ∈ nearN w, x ∉ B := by
  have nd : ((List.range' 97 26).map fun c => cutS w none (some 7) ++ one c).Nodup := by
    refine List.Pairwise.map _ (fun a b hab z => hab ?_) (List.nodup_range' (s := 97) (n := 26))
    have := congrArg (fun x : Str => x.cps.toList) z
    simp only [app_cps] at this
    have := List.append_cancel_left this
    simpa using this
  obtain ⟨x, hx, hn⟩ := pigeon nd (B := B) (by simp; omega)
  exact ⟨x, List.mem_cons_of_mem _ hx, hn⟩
/-- the letters of a word -/
theorem cone {P : DV → Option DV → Prop} (hP : ∀ d o, P d o → ∃ c, 97 ≤ c ∧ c ≤ 122 ∧ o = some (.str (one c))) : ∀ {ds ys : List DV}, CRel P ds ys → ∃ cs : List Nat, ys = cs.map (fun c => DV.str (one c)) ∧ cs.length = ds.length ∧ ∀ c ∈ cs, 97 ≤ c ∧ c ≤ 122
  | _, _, .nil => ⟨[], rfl, rfl, by simp⟩
  | _, _, .skip p _ => by obtain ⟨c, _, _, e⟩ := hP _ _ p; cases e
  | _, _, .take p q => by
    obtain ⟨c, h1, h2, e⟩ := hP _ _ p
    obtain ⟨cs, rfl, h3, h4⟩ := cone hP q
    cases e
    exact ⟨c :: cs, rfl, by simp [h3], by simp [h1, h2]; exact h4⟩
theorem len_four {r : Nat} (h : (r : Int) < 4) : ∃ m : Nat, 1 ≤ m ∧ m ≤ 8 ∧ fIxA (.lst [.int 1, .int 1, .int 2, .int 8]) (.int (r : Nat)) = some (.v (.int (m : Nat))) := by
  have : r = 0 ∨ r = 1 ∨ r = 2 ∨ r = 3 := by omega
  rcases this with rfl | rfl | rfl | rfl
  · exact ⟨1, by omega, by omega, rfl⟩
  · exact ⟨1, by omega, by omega, rfl⟩
  · exact ⟨2, by omega, by omega, rfl⟩
  · exact ⟨8, by omega, by omega, rfl⟩
theorem asRange_int (j : Int) : asRange1 [.int j] = M.of (if okR j = true then some (rangeDV 0 j.toNat) else none) := rfl
theorem okR_nat {m : Nat} (h : m ≤ 100000) : okR (m : Nat) = true := by
  unfold okR
  exact decide_eq_true (by omega)
theorem asRange_nat {m : Nat} (h : m ≤ 100000) : asRange1 [.int (m : Nat)] = M.pure (rangeDV 0 m) := by
  rw [asRange_int, okR_nat h, if_pos rfl, Int.toNat_natCast]
  rfl
theorem range_len (m : Nat) : (rangeDV 0 m).length = m := by simp [rangeDV]
theorem fAdd_lst (xs ys : List DV) : fAdd (.lst xs) (.lst ys) = if xs.length + ys.length ≤ sizeLine then some (.ol false (xs ++ ys)) else none := rfl
theorem fAdd_str (a b : Str) : fAdd (.str a) (.str b) = if a.length + b.length ≤ sizeLine then some (.v (.str (a ++ b))) else none := rfl
theorem names_ok {p : List DV} (hp : Pot p) (n : Nat) (T : List Str) (h : n + T.length ≤ 25) : ∃ (L : List Str) (p' : List DV), L.length = n ∧ (∀ x ∈ L, Nm x) ∧ L.Nodup ∧ (∀ x ∈ L, x ∉ T) ∧ Pot p' ∧
    f_law_names [.ol true p, .v (.int (n : Nat)), .v (.lst (T.map .str))] = .ret (.ol false (L.map .str)) [.ol true p', .v (.int (n : Nat)), .v (.lst (T.map .str))] := by
  simp [f_law_names, m_law_names, sizeLine_eq, asRange_nat (show n ≤ 100000 by omega)]
  generalize hc : loopM _ _ _ _ = o
  obtain ⟨S', rfl, L, p', a3, a6, a7, g1, g2, g3, g4, g5, g6, g7, g8, rfl⟩ := loop_ok hc (fun i S => ∃ (L : List Str) (p : List DV) (a3 a6 a7 : Option RV), L.length = i ∧ (∀ x ∈ L, Nm x) ∧ L.Nodup ∧ (∀ x ∈ L, x ∉ T) ∧ Pot p ∧ (a3.map RV.isPin).getD false = false ∧ (a6.map RV.isPin).getD false = false ∧ (a7.map RV.isPin).getD false = false ∧
    S = [some (.ol true p), some (.v (.int (n : Nat))), some (.v (.lst (T.map .str))), a3, some (.ol false (L.map .str)), some (.v (.str abc)), a6, a7, none, none, none]) (by
    rintro i d hd S ⟨L, p, a3, a6, a7, g1, g2, g3, g4, g5, g6, g7, g8, rfl⟩
    have hi : i < n := by have := (List.getElem?_eq_some_iff.mp hd).1; simpa [rangeDV] using this
    obtain ⟨r, p1, hr, hp1, e1⟩ := draw_ok g5 (n := 4) (by decide) (by decide)
    obtain ⟨m, m1, m8, em⟩ := len_four hr
    refine ⟨[some (.ol true p), some (.v (.int (n : Nat))), some (.v (.lst (T.map .str))), some (.v d), some (.ol false (L.map .str)), some (.v (.str abc)), a6, a7, none, none, none], ?_⟩
    simp [g6, e1, em, isStr, sizeLine_eq, asRange_nat (show m ≤ 100000 by omega)]
    generalize hw : compM _ _ _ _ _ _ = ow
    have eabc : 0 < abc.length ∧ abc.length < 1000000 := by rw [abc_len]; omega
    obtain ⟨ys, S1, rfl, ⟨p2, hp2, rfl⟩, cr⟩ := comp_rel hw (fun S => ∃ p, Pot p ∧ S = [some (.ol true p), some (.v (.int (n : Nat))), some (.v (.lst (T.map .str))), some (.v d), some (.ol false (L.map .str)), some (.v (.str abc)), a6, a7, none, none, none])
      (fun _ o => ∃ c, 97 ≤ c ∧ c ≤ 122 ∧ o = some (.str (one c))) (by
        rintro x hx S ⟨q, hq, rfl⟩
        obtain ⟨c, q', hc1, hq', e⟩ := pick_str hq eabc.1 eabc.2
        rw [abc_cps, List.mem_range'_1] at hc1
        refine ⟨[some (.ol true q), some (.v (.int (n : Nat))), some (.v (.lst (T.map .str))), some (.v d), some (.ol false (L.map .str)), some (.v (.str abc)), a6, a7, some (.v x), none, none], by simp, .inr ⟨[some (.ol true q), some (.v (.int (n : Nat))), some (.v (.lst (T.map .str))), some (.v d), some (.ol false (L.map .str)), some (.v (.str abc)), a6, a7, some (.v x), none, none], [some (.ol true q'), some (.v (.int (n : Nat))), some (.v (.lst (T.map .str))), some (.v d), some (.ol false (L.map .str)), some (.v (.str abc)), a6, a7, some (.v x), none, none], .str (one c), by simp, ?_, ⟨q', hq', by simp [wipeS]⟩, c, by omega, by omega, rfl⟩⟩
        simp [e]) ⟨p1, hp1, by simp [wipeS]⟩ (by rw [range_len, sizeLine_eq]; omega) rfl
    obtain ⟨cs, rfl, hcl, hcs⟩ := cone (fun _ _ h => h) cr
    rw [range_len] at hcl
    have ej : ((cs.map one).map (fun x : Str => x.length)).sum + (cs.map one).length * ("" : Str).length ≤ 16777216 := by
      have : (cs.map one).map (fun x : Str => x.length) = List.replicate cs.length 1 := by
        rw [List.map_map, List.eq_replicate_iff]
        exact ⟨by simp, fun b hb => by obtain ⟨c, _, rfl⟩ := List.mem_map.mp hb; rfl⟩
      have e0 : ("" : Str).length = 0 := by decide
      rw [this, e0]; simp; omega
    have ejoin : joinM (.str "") (.lst (cs.map fun c => DV.str (one c))) = M.pure (.str (Txt.join ("" : Str) (cs.map one))) := by
      show (match strsDV (cs.map fun c => DV.str (one c)) with
        | some ys => if (ys.map (fun x : Str => x.length)).sum + ys.length * ("" : Str).length ≤ 16777216 then M.pure (DV.str (Txt.join "" ys)) else M.stuck
        | none => M.stuck) = _
      rw [strs_one]
      exact if_pos ej
    generalize hwd : Txt.join ("" : Str) (cs.map one) = w at ejoin
    have wcps : w.cps.toList = cs := by rw [← hwd]; exact join_one cs
    have wn : Nm w := by
      refine ⟨?_, ?_, ?_⟩
      · rw [len_cps, wcps]; omega
      · rw [len_cps, wcps]; omega
      · rw [wcps]; exact hcs
    simp [ejoin, restS, g7, sizeLine_eq]
    have lw : (cutS w none (some 7)).length ≤ 7 := by rw [len_cps, cut7, List.length_take]; omega
    have wz : w.length ≤ 16777216 := by have := wn.2.1; omega
    have ecut : fCut (.str w) none (some 7) = some (.v (.str (cutS w none (some 7)))) := by
      show (if w.length ≤ sizeLine then some (RV.v (.str (cutS w none (some 7)))) else none) = _
      rw [sizeLine_eq, if_pos wz]
    have eadd : ∀ c : Nat, fAdd (.str (cutS w none (some 7))) (.str (one c)) = some (.v (.str (cutS w none (some 7) ++ one c))) := fun c => by
      have : (one c).length = 1 := rfl
      rw [fAdd_str, if_pos (by rw [sizeLine_eq, this]; omega)]
    rw [compM_map (fun d => match d with | .str s => .str (cutS w none (some 7) ++ s) | _ => .non) (fun x hx => by
      rw [abc_signs] at hx
      obtain ⟨c, _, rfl⟩ := List.mem_map.mp hx
      simp [CStep, wipeS, ecut, eadd]) (by rw [abc_signs, sizeLine_eq]; simp) rfl]
    have enear : fAdd (.lst [.str w]) (.lst ((signsDV abc).map (fun d => match d with | .str s => .str (cutS w none (some 7) ++ s) | _ => .non))) = some (.ol false ((nearN w).map .str)) := by
      rw [abc_signs, List.map_map, fAdd_lst, if_pos (by rw [sizeLine_eq]; simp)]
      simp [nearN, Function.comp_def]
    simp only [dvOf_v, rv_dv_ol, enear]
    have nl : (nearN w).length = 27 := by simp [nearN]
    simp [wipeS, restS, g8]
    rw [compM_pure (fun d => match d with | DV.str x => if x ∉ L ∧ x ∉ T then some (DV.str x) else none | _ => none) (fun x hx => by
      obtain ⟨y, hy, rfl⟩ := List.mem_map.mp hx
      by_cases z1 : y ∈ L
      · simp [CStep, wipeS, fNotIn_strs, z1]
      · by_cases z2 : y ∈ T
        · simp [CStep, wipeS, fNotIn_strs, z1, z2]
        · simp [CStep, wipeS, fNotIn_strs, z1, z2]) (by rw [List.length_map, nl, sizeLine_eq]; omega) rfl]
    have ef : ((nearN w).map DV.str).filterMap (fun d => match d with | DV.str x => if x ∉ L ∧ x ∉ T then some (DV.str x) else none | _ => none) = ((nearN w).filter fun x => decide (x ∉ L ∧ x ∉ T)).map DV.str := by
      rw [fm_str]
      generalize nearN w = N
      induction N with
      | nil => rfl
      | cons y N ih =>
        rw [List.filterMap_cons, List.filter_cons]
        dsimp only at ih ⊢
        by_cases z : y ∉ L ∧ y ∉ T
        · rw [if_pos z, decide_eq_true z]; exact congrArg (DV.str y :: ·) ih
        · rw [if_neg z, decide_eq_false z]; exact ih
    rw [ef]
    obtain ⟨x0, hx0, hx1⟩ := near_some (w := w) (B := L ++ T) (by rw [List.length_append]; omega)
    have hmem : x0 ∈ (nearN w).filter fun x => decide (x ∉ L ∧ x ∉ T) := by
      rw [List.mem_filter]
      refine ⟨hx0, decide_eq_true ⟨fun z => hx1 (List.mem_append_left _ z), fun z => hx1 (List.mem_append_right _ z)⟩⟩
    cases eR : (nearN w).filter fun x => decide (x ∉ L ∧ x ∉ T) with
    | nil => rw [eR] at hmem; cases hmem
    | cons y R =>
      have hy : y ∈ (nearN w).filter fun x => decide (x ∉ L ∧ x ∉ T) := by rw [eR]; exact List.mem_cons_self
      obtain ⟨hy1, hy2⟩ := List.mem_filter.mp hy
      obtain ⟨hy3, hy4⟩ := of_decide_eq_true hy2
      have eix : fIxA (.lst (.str y :: R.map .str)) (.int 0) = some (.v (.str y)) := ixL (L := .str y :: R.map .str) (r := 0) (by simp)
      have g9 : L.length < 16777216 := by omega
      simp [wipeS, restS, eix, sizeLine_eq, g9]
      refine ⟨L ++ [y], by simp [g1], ?_, ?_, ?_, p2, hp2, _, ?_, _, ?_, _, ?_, rfl, rfl, by simp, rfl, rfl⟩
      · intro x hx
        rcases List.mem_append.mp hx with z | z
        · exact g2 x z
        · rw [List.mem_singleton.mp z]; exact near_nm wn y hy1
      · exact List.nodup_append.mpr ⟨g3, by simp, fun a ha b hb z => hy3 (by rw [← List.mem_singleton.mp hb, ← z]; exact ha)⟩
      · intro x hx
        rcases List.mem_append.mp hx with z | z
        · exact g4 x z
        · rw [List.mem_singleton.mp z]; exact hy4
      · rfl
      · rfl
      · rfl) ⟨[], p, none, none, none, rfl, by simp, .nil, by simp, hp, rfl, rfl, rfl, rfl⟩
  refine ⟨L, by rw [g1]; exact range_len n, g2, g3, g4, p', g5, ?_⟩
  simp
end Law
set_option maxHeartbeats 2000000
namespace Law
open PySem PySem.Spec PyProof.Rows L2 Lb
theorem csub {P : DV → Option DV → Prop} (hP : ∀ d o, P d o → o = none ∨ o = some d) : ∀ {L : List Str} {ys : List DV}, CRel P (L.map .str) ys → ∃ ss : List Str, ys = ss.map .str ∧ ss.Sublist L
  | [], _, .nil => ⟨[], rfl, .slnil⟩
  | l :: L, _, .skip p q => by
    obtain ⟨ss, e, h⟩ := csub hP q
    exact ⟨ss, e, .cons _ h⟩
  | l :: L, _, .take p q => by
    obtain ⟨ss, e, h⟩ := csub hP q
    rcases hP _ _ p with z | z
    · cases z
    · cases z; exact ⟨l :: ss, by rw [e]; rfl, .cons_cons _ h⟩
theorem cpair {W : Nat} : ∀ {L : List Str} {ys : List DV}, CRel (fun d o => ∃ l n : _, d = .str l ∧ n < W ∧ o = some (.tup [.str l, .int (n : Nat)])) (L.map .str) ys → ∃ t : Ws, ys = dP t ∧ t.map (·.1) = L ∧ ∀ p ∈ t, p.2 < W
  | [], _, .nil => ⟨[], rfl, rfl, by simp⟩
  | l :: L, _, .skip p q => by obtain ⟨_, _, _, _, z⟩ := p; cases z
  | l :: L, _, .take p q => by
    obtain ⟨t, e, h, hw⟩ := cpair q
    obtain ⟨l', n, e1, hn, e2⟩ := p
    cases e1; cases e2
    exact ⟨(l, n) :: t, by rw [e]; rfl, by simp [h], by simp [hn]; exact fun a b hb => hw (a, b) hb⟩
theorem worths_ok {p : List DV} (hp : Pot p) {L : List Str} (nd : L.Nodup) (h1 : 1 ≤ L.length) (h2 : L.length ≤ 100) {W least : Nat} (w1 : 1 ≤ W) (w2 : W ≤ 1000) (l1 : least ≤ 1) :
    ∃ (t : Ws) (p' : List DV), (t.map (·.1)).Sublist L ∧ (∀ q ∈ t, q.2 < W) ∧ least ≤ t.length ∧ Pot p' ∧
      f_law_worths [.ol true p, .v (.lst (L.map .str)), .v (.int (W : Nat)), .v (.int (least : Nat))] = .ret (.od false (dK t)) [.ol true p', .v (.lst (L.map .str)), .v (.int (W : Nat)), .v (.int (least : Nat))] := by
  simp [f_law_worths, m_law_worths, sizeLine_eq]
  generalize hw : compM _ _ _ _ _ _ = ow
  obtain ⟨ys, S1, rfl, ⟨p2, hp2, rfl⟩, cr⟩ := comp_rel hw (fun S => ∃ p, Pot p ∧ S = [some (.ol true p), some (.v (.lst (L.map .str))), some (.v (.int (W : Nat))), some (.v (.int (least : Nat))), none, none])
    (fun d o => o = none ∨ o = some d) (by
      rintro x hx S ⟨q, hq, rfl⟩
      obtain ⟨r, q', hr, hq', e⟩ := draw_ok hq (n := 2) (by decide) (by decide)
      refine ⟨[some (.ol true q), some (.v (.lst (L.map .str))), some (.v (.int (W : Nat))), some (.v (.int (least : Nat))), none, some (.v x)], by simp, ?_⟩
      by_cases hr0 : r = 0
      · subst hr0
        refine .inr ⟨[some (.ol true q'), some (.v (.lst (L.map .str))), some (.v (.int (W : Nat))), some (.v (.int (least : Nat))), none, some (.v x)], [some (.ol true q'), some (.v (.lst (L.map .str))), some (.v (.int (W : Nat))), some (.v (.int (least : Nat))), none, some (.v x)], x, ?_, ?_, ⟨q', hq', by simp [wipeS]⟩, .inr rfl⟩
        · simp [e]
        · simp
      · have : ¬ ((r : Int) = 0) := by omega
        refine .inl ⟨[some (.ol true q'), some (.v (.lst (L.map .str))), some (.v (.int (W : Nat))), some (.v (.int (least : Nat))), none, some (.v x)], ?_, ⟨q', hq', by simp [wipeS]⟩, .inl rfl⟩
        simp [e, hr0]) ⟨p, hp, by simp [wipeS]⟩ (by rw [List.length_map, sizeLine_eq]; omega) rfl
  obtain ⟨ss, rfl, hs⟩ := csub (fun _ _ h => h) cr
  have hsl := hs.length_le
  simp [restS]
  generalize hst : (if ss.length < least then _ else _ : SOut) = o2
  obtain ⟨s2, p3, k1, k2, k3, rfl⟩ : ∃ (s2 : List Str) (p3 : List DV), s2.Sublist L ∧ least ≤ s2.length ∧ Pot p3 ∧ o2 = .nx [some (.ol true p3), some (.v (.lst (L.map .str))), some (.v (.int (W : Nat))), some (.v (.int (least : Nat))), some (.ol false (s2.map .str)), none] := by
    subst hst
    by_cases z : ss.length < least
    · obtain ⟨d, hd, p3, hp3, e⟩ := pick_ok hp2 (L := L.map .str) (by rw [List.length_map]; omega) (by rw [List.length_map]; omega)
      obtain ⟨l, hl, rfl⟩ := List.mem_map.mp hd
      refine ⟨[l], p3, List.singleton_sublist.mpr hl, by simp; omega, hp3, ?_⟩
      simp [z, e]
    · refine ⟨ss, p2, hs, by omega, hp2, ?_⟩
      simp [z]
  have k5 := k1.length_le
  simp
  generalize hw2 : compM _ _ _ _ _ _ = ow2
  obtain ⟨ys, S1, rfl, ⟨p4, hp4, rfl⟩, cr2⟩ := comp_rel hw2 (fun S => ∃ p, Pot p ∧ S = [some (.ol true p), some (.v (.lst (L.map .str))), some (.v (.int (W : Nat))), some (.v (.int (least : Nat))), some (.v (.lst (s2.map .str))), none])
    (fun d o => ∃ l n : _, d = .str l ∧ n < W ∧ o = some (.tup [.str l, .int (n : Nat)])) (by
      rintro x hx S ⟨q, hq, rfl⟩
      obtain ⟨l, hl, rfl⟩ := List.mem_map.mp hx
      obtain ⟨r, q', hr, hq', e⟩ := draw_ok hq (n := (W : Nat)) (by omega) (by omega)
      refine ⟨[some (.ol true q), some (.v (.lst (L.map .str))), some (.v (.int (W : Nat))), some (.v (.int (least : Nat))), some (.v (.lst (s2.map .str))), some (.v (.str l))], by simp, .inr ⟨[some (.ol true q), some (.v (.lst (L.map .str))), some (.v (.int (W : Nat))), some (.v (.int (least : Nat))), some (.v (.lst (s2.map .str))), some (.v (.str l))], [some (.ol true q'), some (.v (.lst (L.map .str))), some (.v (.int (W : Nat))), some (.v (.int (least : Nat))), some (.v (.lst (s2.map .str))), some (.v (.str l))], .tup [.str l, .int (r : Nat)], by simp, ?_, ⟨q', hq', by simp [wipeS]⟩, l, r, rfl, by omega, rfl⟩⟩
      simp [e, sizeLine_eq]) ⟨p3, k3, by simp [wipeS]⟩ (by rw [List.length_map, sizeLine_eq]; omega) rfl
  obtain ⟨t, rfl, ht, hlt⟩ := cpair cr2
  have hsub : (t.map (·.1)).Sublist L := by rw [ht]; exact k1
  refine ⟨t, hsub, fun a b h => hlt (a, b) h, ?_, p4, hp4, ?_⟩
  · have : t.length = s2.length := by rw [← ht]; simp
    rw [this]; exact k2
  · have ed : fDictA [.lst (dP t)] = some (.od false (dK t)) := by
      show (pairsDV (dP t)).map _ = _
      rw [pairs_dP]
      simp only [Option.map_some]
      rw [merge_nodup _ [] (by simpa using keys_nodup hsub nd)]
      simp
    simp [restS, ed]
/-! ### a row -/
def shD (I O : List Str) (m : Nat) (R : DV) : DV := .dct [(.inr "ins", .lst (I.map .str)), (.inr "outs", .lst (O.map .str)), (.inr "many", .int (m : Nat)), (.inr "rows", R)]
section
variable {I O : List Str} {m : Nat} {R : DV}
theorem sh_ins : fIxA (shD I O m R) (.str "ins") = some (.v (.lst (I.map .str))) := by kernel_rfl
theorem sh_outs : fIxA (shD I O m R) (.str "outs") = some (.v (.lst (O.map .str))) := by kernel_rfl
theorem sh_many : fIxA (shD I O m R) (.str "many") = some (.v (.int (m : Nat))) := by kernel_rfl
theorem sh_rows : fIxA (shD I O m R) (.str "rows") = some (.v R) := by kernel_rfl
end
end Law
set_option maxHeartbeats 2000000
namespace Law
open PySem PySem.Spec PyProof.Rows L2 Lb
theorem ne_nil (L : List Str) : neA2 (.lst (L.map .str)) (.lst []) = some (decide (L ≠ [])) := by
  cases L with
  | nil => kernel_rfl
  | cons x L =>
    have hp : ∃ ps, toPys (L.map DV.str) = some ps := by
      induction L with
      | nil => exact ⟨[], rfl⟩
      | cons y L ih =>
        obtain ⟨ps, e⟩ := ih
        exact ⟨.str y :: ps, by show (match toPy (.str y), toPys (L.map DV.str) with | some p, some ps => some (p :: ps) | _, _ => none) = _; rw [e]; rfl⟩
    obtain ⟨ps, e⟩ := hp
    have e2 : toPy (.lst ((x :: L).map DV.str)) = some (.list (.str x :: ps)) := by
      show (match toPy (.str x), toPys (L.map DV.str) with | some p, some ps => some (p :: ps) | _, _ => none).map PyData.list = _
      rw [e]; rfl
    have e3 : toPy (.lst []) = some (.list []) := rfl
    have key : eqPy (.lst ((x :: L).map DV.str)) (.lst []) = some false ∨ eqPy (.lst ((x :: L).map DV.str)) (.lst []) = none := by
      unfold eqPy
      rw [e2, e3]
      dsimp only
      split
      · exact .inl rfl
      · exact .inr rfl
    show orO ((eqPy (.lst ((x :: L).map DV.str)) (.lst [])).map not) (neFl _ _) = _
    rcases key with k | k <;> rw [k] <;> rfl
structure GoodB (I O : List Str) (m : Nat) : Prop where
  i1 : 1 ≤ I.length
  i4 : I.length ≤ 100
  o3 : O.length ≤ 100
  dI : I.Nodup
  dO : O.Nodup
  m1 : 1 ≤ m
  m12 : m ≤ 100000
section
variable {I O : List Str} {m : Nat}
theorem row_ok {p : List DV} (hp : Pot p) (g : GoodB I O m) {W : Nat} (w1 : 1 ≤ W) (w2 : W ≤ 10) :
    ∃ (r : Row) (p' : List DV), GoodR I O m r ∧ Pot p' ∧ ∀ R : DV, f_law_row [.ol true p, .v (shD I O m R), .v (.int (W : Nat))] = .ret (.v r.D) [.ol true p', .v (shD I O m R), .v (.int (W : Nat))] := by
  obtain ⟨t, p1, t1, t2, t3, hp1, e1⟩ := worths_ok hp g.dI g.i1 g.i4 (W := W) (least := 1) w1 (by omega) (by omega)
  have ht0 : t ≠ [] := by intro z; rw [z] at t3; simp at t3
  have hm : (0 : Int) < (m : Nat) := by have := g.m1; omega
  have hm2 : ((m : Nat) : Int) < 1073741824 := by have := g.m12; omega
  by_cases hO : O = []
  · subst hO
    obtain ⟨s, p2, s1, hp2, e2⟩ := draw_ok hp1 hm hm2
    obtain ⟨d, p3, d1, hp3, e3⟩ := draw_ok hp2 hm hm2
    refine ⟨⟨s, t, [], d⟩, p3, ⟨by show s < m; omega, by show d < m; omega, ⟨t1, fun q hq => by have := t2 q hq; omega⟩, ht0, ⟨by simp, by simp⟩⟩, hp3, fun R => ?_⟩
    have ne := ne_nil []
    have so := sh_outs (I := I) (O := []) (m := m) (R := R)
    simp only [List.map_nil] at so ne
    have e1' : f_law_worths [RV.ol true p, RV.v (DV.lst (List.map DV.str I)), RV.v (DV.int (W : Nat)), RV.v (DV.int 1)] = _ := e1
    simp [f_law_row, m_law_row, sh_ins, so, sh_many, e1', ne, e2, e3, sizeLine_eq, Row.D, dK]
  · obtain ⟨u, p2, u1, u2, _, hp2, e2⟩ := worths_ok hp1 g.dO (by have := List.length_pos_iff.mpr hO; omega) g.o3 (W := W) (least := 0) w1 (by omega) (by omega)
    obtain ⟨s, p3, s1, hp3, e3⟩ := draw_ok hp2 hm hm2
    obtain ⟨d, p4, d1, hp4, e4⟩ := draw_ok hp3 hm hm2
    refine ⟨⟨s, t, u, d⟩, p4, ⟨by show s < m; omega, by show d < m; omega, ⟨t1, fun q hq => by have := t2 q hq; omega⟩, ht0, ⟨u1, fun q hq => by have := u2 q hq; omega⟩⟩, hp4, fun R => ?_⟩
    have e1' : f_law_worths [RV.ol true p, RV.v (DV.lst (List.map DV.str I)), RV.v (DV.int (W : Nat)), RV.v (DV.int 1)] = _ := e1
    have e2' : f_law_worths [RV.ol true p1, RV.v (DV.lst (List.map DV.str O)), RV.v (DV.int (W : Nat)), RV.v (DV.int 0)] = _ := e2
    simp [f_law_row, m_law_row, sh_ins, sh_outs, sh_many, e1', ne_nil, hO, e2', e3, e4, sizeLine_eq, Row.D]
end
end Law
set_option maxHeartbeats 2000000
namespace Law
open PySem PySem.Spec PyProof.Rows L2 Lb
theorem lk_self {t : Ws} (nd : (t.map (·.1)).Nodup) : ∀ p ∈ t, lk p.1 t = some p.2 := by
  induction t with
  | nil => simp
  | cons q t ih =>
    intro p hp
    have n1 := (List.nodup_cons.mp nd).1
    have n2 := (List.nodup_cons.mp nd).2
    rcases List.mem_cons.mp hp with rfl | hp
    · simp [lk]
    · have : ¬ q.1 = p.1 := fun z => n1 (by show q.1 ∈ _; rw [z]; exact List.mem_map_of_mem hp)
      have := ih n2 p hp
      unfold lk at this ⊢
      rw [List.find?_cons]
      simp [*]
theorem dctO_dK (n : Nat) (t' : Ws) : ∀ t : Ws, dctO (eqT n) (dK t') (dK t) = some (t.map fun p => match lk p.1 t' with | none => false | some k => decide (p.2 = k))
  | [] => rfl
  | p :: t => by
    show (match lookK (.inr p.1) (dK t') with
      | none => (dctO (eqT n) (dK t') (dK t)).map (false :: ·)
      | some d' => match eqT n (.int (p.2 : Nat)) d', dctO (eqT n) (dK t') (dK t) with
        | some b, some l => some (b :: l)
        | _, _ => none) = _
    rw [look_dK, dctO_dK n t' t]
    cases e : lk p.1 t' with
    | none => simp [e]
    | some k => simp [e, eqT_int, Int.ofNat_inj]
theorem eqT_dK (n : Nat) (t t' : Ws) : ∃ b, eqT (n + 1) (.dct (dK t)) (.dct (dK t')) = some b ∧ (t = t' → (t.map (·.1)).Nodup → b = true) := by
  refine ⟨_, by show (dctO (eqT n) (dK t') (dK t)).map _ = _; rw [dctO_dK]; rfl, fun e nd => ?_⟩
  subst e
  simp only [decide_true, Bool.true_and, List.all_map, List.all_eq_true, Function.comp_apply, id]
  intro p hp
  rw [lk_self nd p hp]
  simp
theorem eqT_D (r r' : Row) : ∃ b, eqT 40 r.D r'.D = some b ∧ (r = r' → (r.t.map (·.1)).Nodup → (r.g.map (·.1)).Nodup → b = true) := by
  obtain ⟨b1, e1, h1⟩ := eqT_dK 38 r.t r'.t
  obtain ⟨b2, e2, h2⟩ := eqT_dK 38 r.g r'.g
  refine ⟨_, by show (zipO (eqT 39) [_, _, _, _] [_, _, _, _]).map _ = _; simp only [zipO, eqT_int, e1, e2]; rfl, fun e n1 n2 => ?_⟩
  subst e
  rw [h1 rfl n1, h2 rfl n2]
  simp
/-- a row that is there already is found -/
theorem notIn_D (r : Row) (rs : List Row) : ∃ b, fNotIn r.D (.lst (rs.map Row.D)) = some b ∧ (b = true → (r.t.map (·.1)).Nodup → (r.g.map (·.1)).Nodup → r ∉ rs) := by
  refine ⟨!(rs.any fun y => (eqT_D y r).choose), ?_, ?_⟩
  · show (fIn _ _).map not = _
    have : fIn r.D (.lst (rs.map Row.D)) = inL r.D (rs.map Row.D) := rfl
    rw [this, inL_of (enc := Row.D) (x := r) (f := fun y => (eqT_D y r).choose) fun y _ => (eqT_D y r).choose_spec.1]
    rfl
  · intro hb n1 n2 hm
    have : (rs.any fun y => (eqT_D y r).choose) = false := by simpa using hb
    rw [List.any_eq_false] at this
    exact this r hm ((eqT_D r r).choose_spec.2 rfl n1 n2)
section
variable {i r : Nat} {k0 : Str} {m : M (List (DV × DV))} {mi : M (List DV)} {g : GM} {ma : SM} {b : Addr} {S S1 S2 S3 S4 : Sl} {ps : List (DV × DV)} {d : DV} {ds acc : List DV} {kvs : List (Key × DV)}
theorem sheetB_ok (h1 : m S = .ok ps S1) (h2 : shDisp k0 b ps = some d) (h3 : stores i (.v d) S1 = .nx S2) (h4 : mi S2 = .ok ds S3) (h5 : sheetL i r k0 g ma b ds [] S3 = some (acc, S4)) (h6 : S4[i]? = some (some (.v (.dct kvs)))) :
    sheetB i r k0 m mi g ma b S = .nx (S4.set i (some (.v (.dct (kvs.map fun kv => (kv.1, fillD b acc kv.2)))))) := by
  unfold sheetB
  rw [h1]; dsimp only; rw [h2]; dsimp only; rw [h3]; dsimp only; rw [h4]; dsimp only; rw [h5]; dsimp only; rw [h6]
end
theorem shDisp_eq (b : Addr) (x y z : DV) : shDisp "rows" b [(.str "ins", x), (.str "outs", y), (.str "many", z)] = some (.dct [(.inr "ins", x), (.inr "outs", y), (.inr "many", z), (.inr "rows", .loc b)]) := by kernel_rfl
section
variable {I O : List Str} {m : Nat}
theorem sheet_loop (gb : GoodB I O m) {W : Nat} (w1 : 1 ≤ W) (w2 : W ≤ 10) {z few lab : RV} {ma : SM}
    (hma : ∀ (b : Addr) (p p' : List DV) (a6 a7 : Option RV) (r : Row), (a7.map RV.isPin).getD false = false → f_law_row [.ol true p, .v (shD I O m (.loc b)), .v (.int (W : Nat))] = .ret (.v r.D) [.ol true p', .v (shD I O m (.loc b)), .v (.int (W : Nat))] →
      ma [some (.ol true p), some z, some (.v (.int (W : Nat))), some few, some lab, some (.v (shD I O m (.loc b))), a6, a7] = .nx [some (.ol true p'), some z, some (.v (.int (W : Nat))), some few, some lab, some (.v (shD I O m (.loc b))), a6, some (.v r.D)]) :
    ∀ (ds : List DV) (rs : List Row) (p : List DV) (a6 a7 : Option RV), Pot p → (a6.map RV.isPin).getD false = false → (a7.map RV.isPin).getD false = false → (∀ r ∈ rs, GoodR I O m r) → rs.Nodup → rs.length + ds.length ≤ 1000 →
    ∃ (rs' : List Row) (p' : List DV) (a6' a7' : Option RV), Pot p' ∧ (∀ r ∈ rs', GoodR I O m r) ∧ rs'.Nodup ∧ rs'.length ≤ rs.length + ds.length ∧ ∀ b : Addr,
      sheetL 5 7 "rows" (storeD 6) ma b ds (rs.map Row.D) [some (.ol true p), some z, some (.v (.int (W : Nat))), some few, some lab, some (.v (shD I O m (.loc b))), a6, a7] =
      some (rs'.map Row.D, [some (.ol true p'), some z, some (.v (.int (W : Nat))), some few, some lab, some (.v (shD I O m (.loc b))), a6', a7'])
  | [], rs, p, a6, a7, hp, h6, h7, hg, nd, hl => ⟨rs, p, a6, a7, hp, hg, nd, by simp, fun b => rfl⟩
  | d :: ds, rs, p, a6, a7, hp, h6, h7, hg, nd, hl => by
    simp only [List.length_cons] at hl
    obtain ⟨r, p1, gr, hp1, er⟩ := row_ok hp gb w1 w2
    obtain ⟨c, ec, hc⟩ := notIn_D r rs
    have n1 : (r.t.map (·.1)).Nodup := gr.t.sub.nodup gb.dI
    have n2 : (r.g.map (·.1)).Nodup := gr.g.sub.nodup gb.dO
    have at5 : ∀ b : Addr, ∀ (S : Sl), S[5]? = some (some (.v (shD I O m (.loc b)))) → shAt 5 "rows" b S = true := fun b S h => by
      unfold shAt
      rw [h]
      dsimp only
      rw [sh_rows]
      simp
    have step : ∀ b : Addr, sheetL 5 7 "rows" (storeD 6) ma b (d :: ds) (rs.map Row.D) [some (.ol true p), some z, some (.v (.int (W : Nat))), some few, some lab, some (.v (shD I O m (.loc b))), a6, a7] =
        (if c = true then sheetL 5 7 "rows" (storeD 6) ma b ds (rs.map Row.D ++ [r.D]) [some (.ol true p1), some z, some (.v (.int (W : Nat))), some few, some lab, some (.v (shD I O m (.loc b))), some (.v d), some (.v r.D)]
          else sheetL 5 7 "rows" (storeD 6) ma b ds (rs.map Row.D) [some (.ol true p1), some z, some (.v (.int (W : Nat))), some few, some lab, some (.v (shD I O m (.loc b))), some (.v d), some (.v r.D)]) := fun b => by
      have e1 : storeD 6 d [some (.ol true p), some z, some (.v (.int (W : Nat))), some few, some lab, some (.v (shD I O m (.loc b))), a6, a7] = some [some (.ol true p), some z, some (.v (.int (W : Nat))), some few, some lab, some (.v (shD I O m (.loc b))), some (.v d), a7] := by
        simp [h6]
      have e2 := hma b p p1 (some (.v d)) a7 r h7 (er (.loc b))
      conv => lhs; unfold sheetL
      rw [e1]; dsimp only; rw [e2]; dsimp only
      rw [if_pos (at5 b _ rfl)]
      simp only [List.getElem?_cons_succ, List.getElem?_cons_zero]
      rw [ec]
      have hlt : (rs.map Row.D).length < sizeLine := by rw [List.length_map, sizeLine_eq]; omega
      cases c
      · simp
      · simp only [if_true]; rw [if_pos hlt]
    cases c with
    | false =>
      obtain ⟨rs', p', a6', a7', h1, h2, h3, h4, h5⟩ := sheet_loop gb w1 w2 hma ds rs p1 (some (.v d)) (some (.v r.D)) hp1 rfl rfl hg nd (by omega)
      refine ⟨rs', p', a6', a7', h1, h2, h3, by simp only [List.length_cons]; omega, fun b => ?_⟩
      rw [step b, if_neg (by decide)]
      exact h5 b
    | true =>
      have hni := hc rfl n1 n2
      obtain ⟨rs', p', a6', a7', h1, h2, h3, h4, h5⟩ := sheet_loop gb w1 w2 hma ds (rs ++ [r]) p1 (some (.v d)) (some (.v r.D)) hp1 rfl rfl (fun x hx => by
        rcases List.mem_append.mp hx with y | y
        · exact hg x y
        · rw [List.mem_singleton.mp y]; exact gr) (List.nodup_append.mpr ⟨nd, by simp, fun a ha b hb y => hni (by rw [← List.mem_singleton.mp hb, ← y]; exact ha)⟩) (by simp; omega)
      refine ⟨rs', p', a6', a7', h1, h2, h3, by simp only [List.length_append, List.length_cons, List.length_nil] at h4 ⊢; omega, fun b => ?_⟩
      rw [step b, if_pos rfl]
      have := h5 b
      rw [List.map_append] at this
      exact this
end
end Law
set_option maxHeartbeats 2000000
namespace Law
open PySem PySem.Spec PyProof.Rows L2 Lb
theorem ev_sheetB_seq {i r : Nat} {k0 : Str} {m : M (List (DV × DV))} {mi : M (List DV)} {g : GM} {ma k : SM} {S S' : Sl} (h : ∀ b, sheetB i r k0 m mi g ma b S = .nx S') : sheetM i r k0 m mi g ma S = .nx S' := sheetM_eq h
theorem tup4_0 (a b c d : DV) : fIxA (.tup [a, b, c, d]) (.int 2) = some (.v c) := rfl
theorem tup4_3 (a b c d : DV) : fIxA (.tup [a, b, c, d]) (.int 3) = some (.v d) := rfl
theorem sheet_ok {p : List DV} (hp : Pot p) {a b c d W : Nat} (a1 : 1 ≤ a) (ab : a + b ≤ 25) (c1 : 1 ≤ c) (c2 : c ≤ 1000) (d2 : d ≤ 900) (w1 : 1 ≤ W) (w2 : W ≤ 10) :
    ∃ (I O : List Str) (m : Nat) (rs : List Row) (p' : List DV), 1 ≤ I.length ∧ I.length ≤ a ∧ O.length ≤ b ∧ (∀ x ∈ I, Nm x) ∧ (∀ x ∈ O, Nm x) ∧ I.Nodup ∧ O.Nodup ∧ (∀ x ∈ O, x ∉ I) ∧ 1 ≤ m ∧ m ≤ c ∧ (∀ r ∈ rs, GoodR I O m r) ∧ rs.Nodup ∧ rs.length ≤ d ∧ Pot p' ∧
      f_law_sheet [.ol true p, .v (.tup [.int (a : Nat), .int (b : Nat), .int (c : Nat), .int (d : Nat)]), .v (.int (W : Nat))] = .ret (.v (shD I O m (.lst (rs.map Row.D)))) [.ol true p', .v (.tup [.int (a : Nat), .int (b : Nat), .int (c : Nat), .int (d : Nat)]), .v (.int (W : Nat))] := by
  obtain ⟨r1, p1, k1, hp1, e1⟩ := draw_ok hp (n := (a : Nat)) (by omega) (by omega)
  obtain ⟨r2, p2, k2, hp2, e2⟩ := draw_ok hp1 (n := ((b : Nat) : Int) + 1) (by omega) (by omega)
  obtain ⟨n1, hn1⟩ : ∃ n, n = 1 + r1 := ⟨_, rfl⟩
  obtain ⟨n2, hn2⟩ : ∃ n, n = n1 + r2 := ⟨_, rfl⟩
  obtain ⟨L, p3, l1, l2, l3, _, hp3, e3⟩ := names_ok hp2 n2 [] (by simp; omega)
  obtain ⟨r3, p4, k3, hp4, e4⟩ := draw_ok hp3 (n := (c : Nat)) (by omega) (by omega)
  obtain ⟨r4, p5, k4, hp5, e5⟩ := draw_ok hp4 (n := ((d : Nat) : Int) + 1) (by omega) (by omega)
  obtain ⟨m1, hm1⟩ : ∃ n, n = 1 + r3 := ⟨_, rfl⟩
  have eI : (L.take n1).length = n1 := by rw [List.length_take]; omega
  have eO : (L.drop n1).length = r2 := by rw [List.length_drop]; omega
  have gb : GoodB (L.take n1) (L.drop n1) m1 := ⟨by omega, by omega, by omega, (List.take_sublist _ _).nodup l3, (List.drop_sublist _ _).nodup l3, by omega, by omega⟩
  have dj : ∀ x ∈ L.drop n1, x ∉ L.take n1 := fun x hx hy => by
    rw [← List.take_append_drop n1 L] at l3
    exact (List.nodup_append.mp l3).2.2 x hy x hx rfl
  have hc1 := cut_head L n1 (by omega)
  have hc2 := cut_tail L n1 (by omega)
  have x1 : (1 : Int) + (r1 : Nat) = ((n1 : Nat) : Int) := by omega
  have x2 : ((n1 : Nat) : Int) + (r2 : Nat) = ((n2 : Nat) : Int) := by omega
  have x3 : (1 : Int) + (r3 : Nat) = ((m1 : Nat) : Int) := by omega
  have e3' : f_law_names [RV.ol true p2, RV.v (DV.int (n2 : Nat)), RV.v (DV.lst [])] = _ := e3
  obtain ⟨rs, p6, a6, a7, hp6, g1, g2, g3, g4⟩ := sheet_loop gb w1 w2 (z := .v (.tup [.int (a : Nat), .int (b : Nat), .int (c : Nat), .int (d : Nat)])) (few := .v (.int ((n1 : Nat) : Int))) (lab := .ol false (L.map .str))
    (ma := (M.thn (M.bind (getSl 0) fun _ => M.bind (M.bind (M.bind (getSl 5) frz) fun o => M.bind (M.bind (M.bind (getSl 2) frz) fun o => M.bind (M.pure []) fun os => M.pure (o :: os)) fun os => M.pure (o :: os)) (callP f_law_row 3 0)) (setSl 7)))
    (fun b p p' a6 a7 r h7 e => by simp [e, h7]) (rangeDV 0 r4) [] p5 none none hp5 rfl rfl (by simp) .nil (by simp [rangeDV]; omega)
  have rl : (rangeDV 0 r4).length = r4 := range_len r4
  rw [rl] at g3
  have hrun : ∀ bb : Addr, sheetB 5 7 "rows" _ _ (storeD 6) _ bb [some (.ol true p3), some (.v (.tup [.int (a : Nat), .int (b : Nat), .int (c : Nat), .int (d : Nat)])), some (.v (.int (W : Nat))), some (.v (.int ((n1 : Nat) : Int))), some (.ol false (L.map .str)), none, none, none] = .nx [some (.ol true p6), some (.v (.tup [.int (a : Nat), .int (b : Nat), .int (c : Nat), .int (d : Nat)])), some (.v (.int (W : Nat))), some (.v (.int ((n1 : Nat) : Int))), some (.ol false (L.map .str)), some (.v (shD (L.take n1) (L.drop n1) m1 (.lst (rs.map Row.D)))), a6, a7] := fun bb => by
    refine (sheetB_ok (m := (M.bind (M.bind (kst (.str "ins")) frz) fun a => M.bind (M.bind (M.bind (getSl 4) fun o => M.bind (M.pure none) fun l => M.bind (M.bind (M.bind (getSl 3) frz) asInt) fun u => cutM o l u) frz) fun b => M.bind (M.bind (M.bind (kst (.str "outs")) frz) fun a => M.bind (M.bind (M.bind (getSl 4) fun o => M.bind (M.bind (M.bind (getSl 3) frz) asInt) fun l => M.bind (M.pure none) fun u => cutM o l u) frz) fun b => M.bind (M.bind (M.bind (kst (.str "many")) frz) fun a => M.bind (M.bind (M.bind (kst (.int 1)) fun x => M.bind (M.bind (getSl 0) fun _ => M.bind (M.bind (M.bind (M.bind (getSl 1) fun x => M.bind (kst (.int 2)) fun y => op2 fIxA x y) frz) fun o => M.bind (M.pure []) fun os => M.pure (o :: os)) (callP f_law_draw 2 0)) fun y => op2 fAdd x y) frz) fun b => M.bind (M.pure []) fun r => M.pure ((a, b) :: r)) fun r => M.pure ((a, b) :: r)) fun r => M.pure ((a, b) :: r)))
      (mi := (M.bind (M.bind (M.bind (M.bind (getSl 0) fun _ => M.bind (M.bind (M.bind (M.bind (M.bind (getSl 1) fun x => M.bind (kst (.int 3)) fun y => op2 fIxA x y) fun x => M.bind (kst (.int 1)) fun y => op2 fAdd x y) frz) fun o => M.bind (M.pure []) fun os => M.pure (o :: os)) (callP f_law_draw 2 0)) frz) fun o => M.bind (M.pure []) fun os => M.pure (o :: os)) asRange1))
      (S1 := [some (.ol true p4), some (.v (.tup [.int (a : Nat), .int (b : Nat), .int (c : Nat), .int (d : Nat)])), some (.v (.int (W : Nat))), some (.v (.int ((n1 : Nat) : Int))), some (.ol false (L.map .str)), none, none, none])
      (ps := [(.str "ins", .lst ((L.take n1).map .str)), (.str "outs", .lst ((L.drop n1).map .str)), (.str "many", .int ((m1 : Nat) : Int))])
      (S2 := [some (.ol true p4), some (.v (.tup [.int (a : Nat), .int (b : Nat), .int (c : Nat), .int (d : Nat)])), some (.v (.int (W : Nat))), some (.v (.int ((n1 : Nat) : Int))), some (.ol false (L.map .str)), some (.v (shD (L.take n1) (L.drop n1) m1 (.loc bb))), none, none])
      (S3 := [some (.ol true p5), some (.v (.tup [.int (a : Nat), .int (b : Nat), .int (c : Nat), .int (d : Nat)])), some (.v (.int (W : Nat))), some (.v (.int ((n1 : Nat) : Int))), some (.ol false (L.map .str)), some (.v (shD (L.take n1) (L.drop n1) m1 (.loc bb))), none, none])
      ?_ (shDisp_eq bb _ _ _) ?_ ?_ (g4 bb) rfl).trans ?_
    · simp [-List.map_take, -List.map_drop, hc1, hc2, tup4_0, e4, x3]
    · simp [-List.map_take, -List.map_drop, shD]
    · have ear := asRange_nat (show r4 ≤ 100000 by omega)
      generalize shD (L.take n1) (L.drop n1) m1 (.loc bb) = sd
      simp [tup4_3, e5, ear]
    · simp [-List.map_take, -List.map_drop, shD, fillD]
  refine ⟨L.take n1, L.drop n1, m1, rs, p6, by omega, by omega, by omega, fun x hx => l2 x (List.mem_of_mem_take hx), fun x hx => l2 x (List.mem_of_mem_drop hx), gb.dI, gb.dO, dj, by omega, by omega, g1, g2, by simp at g3; omega, hp6, ?_⟩
  have hM := sheetM_eq hrun
  have ix0 : ∀ x y z w : DV, fIxA (.tup [x, y, z, w]) (.int 0) = some (.v x) := fun _ _ _ _ => rfl
  simp [-List.map_take, -List.map_drop, f_law_sheet, m_law_sheet, e1, e2, e3', x1, x2, sizeLine_eq, hM]
end Law
set_option maxHeartbeats 2000000
namespace Law
open PySem PySem.Spec PyProof.Rows L2 Lb
section
variable {I O : List Str} {m : Nat} {rs : List Row}
theorem rig_gen {I O : List Str} {m : Nat} {R : DV} {gs : List (Str × DV)} {outs : List RV} (e : f_Machine___init__ [.oi true "Machine" [], .v (.lst (I.map .str)), .v (.lst (O.map .str)), .v (.int (m : Nat)), .v R] = .ret (.v .non) (.oi true "Machine" gs :: outs)) :
    f_law_rig [.v (shD I O m R)] = .ret (.oi false "Machine" gs) [.v (shD I O m R)] := by
  simp [f_law_rig, m_law_rig, sh_ins, sh_outs, sh_many, sh_rows, e]
theorem rig_ok (g : GoodM I O m rs) : ∃ gs, mach I O m rs = .ins "Machine" gs ∧ f_law_rig [.v (shD I O m (.lst (rs.map Row.D)))] = .ret (.oi false "Machine" gs) [.v (shD I O m (.lst (rs.map Row.D)))] :=
  ⟨_, rfl, rig_gen (init_ok g)⟩
/-! ### repr of a machine -/
theorem reactions_gen {gs : List (Str × DV)} (l : List.lookup ("_rows" : Str) gs = some (.tup (rs.map Row.P))) (hl : rs.length ≤ 40) (ht : ∀ r ∈ rs, fDictA [.tuf (dP r.t)] = some (.od false (dK r.t)) ∧ fDictA [.tuf (dP r.g)] = some (.od false (dK r.g))) :
    f_Machine_reactions [.v (.ins "Machine" gs)] = .ret (.ol false (rs.map Row.D)) [.v (.ins "Machine" gs)] := by
  simp [f_Machine_reactions, m_Machine_reactions, l]
  rw [compM_map (fun d => match d with | .tup [s, .tuf t, .tuf g, d] => .tup [s, (match fDictA [.tuf t] with | some (.od _ l) => .dct l | _ => .non), (match fDictA [.tuf g] with | some (.od _ l) => .dct l | _ => .non), d] | _ => .non) (fun d hd => by
    obtain ⟨r, hr, rfl⟩ := List.mem_map.mp hd
    obtain ⟨h1, h2⟩ := ht r hr
    simp [CStep, wipeS, Row.P, h1, h2, sizeLine_eq]) (by rw [List.length_map, sizeLine_eq]; omega) rfl]
  have e : (rs.map Row.P).map (fun d => match d with | .tup [s, .tuf t, .tuf g, d] => .tup [s, (match fDictA [.tuf t] with | some (.od _ l) => .dct l | _ => .non), (match fDictA [.tuf g] with | some (.od _ l) => .dct l | _ => .non), d] | _ => DV.non) = rs.map Row.D := by
    rw [List.map_map]
    apply List.map_congr_left
    intro r hr
    obtain ⟨h1, h2⟩ := ht r hr
    simp [Row.P, Row.D, h1, h2]
  rw [e]
  simp [wipeS, restS]
theorem reactions_ok (g : GoodM I O m rs) : f_Machine_reactions [.v (mach I O m rs)] = .ret (.ol false (rs.map Row.D)) [.v (mach I O m rs)] :=
  reactions_gen lu6 g.r40 fun r hr => ⟨dict_tuf (g.ok r hr).t.sub g.dI, dict_tuf (g.ok r hr).g.sub g.dO⟩
theorem nm_sz {x : Str} (h : Nm x) : Sz 82 0 (.str x) := sz_str (m := 8) h.2.1 fun c hc => by have := h.2.2 c hc; omega
theorem names_sz {L : List Str} (h : ∀ x ∈ L, Nm x) (hl : L.length ≤ 4) : Sz 400 1 (.lst (L.map .str)) :=
  (sz_lst (m := 4) (fun d hd => by obtain ⟨x, hx, rfl⟩ := List.mem_map.mp hd; exact nm_sz (h x hx)) (by simpa using hl)).mono (by omega) (by omega)
theorem ws_sz {L : List Str} {t : Ws} (h : GoodW L t) (hn : ∀ x ∈ L, Nm x) (hl : L.length ≤ 4) : Sz 700 1 (.dct (dK t)) :=
  (sz_dct (n := 82) (k := 0) (m := 4) (fun q hq => by
    obtain ⟨p, hp, rfl⟩ := List.mem_map.mp hq
    have h1 : p.1 ∈ L := h.sub.subset (List.mem_map_of_mem hp)
    have h2 := h.le p hp
    exact ⟨nm_sz (hn _ h1), (sz_int (i := (p.2 : Nat)) (by omega) (by omega)).mono (by omega) (by omega)⟩) (by have := h.len; simp [dK]; omega)).mono (by omega) (by omega)
theorem row_sz (g : GoodM I O m rs) {r : Row} (hr : r ∈ rs) : Sz 3000 2 r.D := by
  have h := g.ok r hr
  refine (sz_tup (n := 700) (k := 1) (m := 4) (fun d hd => ?_) (by simp)).mono (by omega) (by omega)
  simp only [List.mem_cons, List.not_mem_nil, or_false] at hd
  have h1 := h.s
  have h2 := h.d
  have h3 := g.m12
  rcases hd with rfl | rfl | rfl | rfl
  · exact (sz_int (by omega) (by omega)).mono (by omega) (by omega)
  · exact ws_sz h.t g.nI g.i4
  · exact ws_sz h.g g.nO (by have := g.o3; omega)
  · exact (sz_int (by omega) (by omega)).mono (by omega) (by omega)
theorem rows_sz (g : GoodM I O m rs) : Sz 130000 3 (.lst (rs.map Row.D)) :=
  (sz_lst (n := 3000) (k := 2) (m := 40) (fun d hd => by obtain ⟨r, hr, rfl⟩ := List.mem_map.mp hd; exact row_sz g hr) (by simpa using g.r40)).mono (by omega) (by omega)
theorem addS_ok {acc y : Str} (S : Sl) {n : Nat} (h : acc.length + y.length ≤ n) (hn : n ≤ 16777216) : addS acc y S = .ok (acc ++ y) S := by
  unfold addS
  rw [if_pos (by rw [strLen_append, sizeLine_eq]; omega)]
theorem repr_gen {gs : List (Str × DV)} {z1 z2 z3 z4 : Str} {L1 L2 L4 : List DV} {m : Int} (a1 : List.lookup ("ins" : Str) gs = none) (a2 : List.lookup ("outs" : Str) gs = none) (a3 : List.lookup ("reactions" : Str) gs = none)
    (b1 : f_Machine_ins [.v (.ins "Machine" gs)] = .ret (.ol false L1) [.v (.ins "Machine" gs)]) (b2 : f_Machine_outs [.v (.ins "Machine" gs)] = .ret (.ol false L2) [.v (.ins "Machine" gs)]) (b3 : List.lookup ("_standings" : Str) gs = some (.int m)) (b4 : f_Machine_reactions [.v (.ins "Machine" gs)] = .ret (.ol false L4) [.v (.ins "Machine" gs)])
    (c1 : ∀ (o : Opd) (S : Sl), o.dv S = some (.lst L1) → reprM o S = .ok z1 S) (c2 : ∀ (o : Opd) (S : Sl), o.dv S = some (.lst L2) → reprM o S = .ok z2 S) (c3 : ∀ (o : Opd) (S : Sl), o.dv S = some (.int m) → reprM o S = .ok z3 S) (c4 : ∀ (o : Opd) (S : Sl), o.dv S = some (.lst L4) → reprM o S = .ok z4 S)
    (d1 : z1.length ≤ 1000) (d2 : z2.length ≤ 1000) (d3 : z3.length ≤ 1000) (d4 : z4.length ≤ 1000000) : ∃ z, f_Machine___repr__ [.v (.ins "Machine" gs)] = .ret (.v (.str z)) [.v (.ins "Machine" gs)] := by
  have k1 : ("Machine(" : Str).length = 8 := by decide
  have k2 : (", " : Str).length = 2 := by decide
  have k3 : (")" : Str).length = 1 := by decide
  have k0 : Str.empty.length = 0 := rfl
  have ad : ∀ (acc y : Str) (S : Sl), (acc ++ y).length ≤ 16777216 → addS acc y S = .ok (acc ++ y) S := fun acc y S h => by
    unfold addS; rw [sizeLine_eq, if_pos h]
  have h0 : ∀ S : Sl, addS Str.empty ("Machine(" : Str) S = .ok (Str.empty ++ ("Machine(" : Str)) S := fun S => ad _ _ S (by simp only [strLen_append, k0, k1, k2, k3]; omega)
  have h1 : ∀ S : Sl, addS (Str.empty ++ ("Machine(" : Str)) z1 S = .ok ((Str.empty ++ ("Machine(" : Str)) ++ z1) S := fun S => ad _ _ S (by simp only [strLen_append, k0, k1, k2, k3]; omega)
  have h2 : ∀ S : Sl, addS ((Str.empty ++ ("Machine(" : Str)) ++ z1) (", " : Str) S = .ok (((Str.empty ++ ("Machine(" : Str)) ++ z1) ++ (", " : Str)) S := fun S => ad _ _ S (by simp only [strLen_append, k0, k1, k2, k3]; omega)
  have h3 : ∀ S : Sl, addS (((Str.empty ++ ("Machine(" : Str)) ++ z1) ++ (", " : Str)) z2 S = .ok ((((Str.empty ++ ("Machine(" : Str)) ++ z1) ++ (", " : Str)) ++ z2) S := fun S => ad _ _ S (by simp only [strLen_append, k0, k1, k2, k3]; omega)
  have h4 : ∀ S : Sl, addS ((((Str.empty ++ ("Machine(" : Str)) ++ z1) ++ (", " : Str)) ++ z2) (", " : Str) S = .ok (((((Str.empty ++ ("Machine(" : Str)) ++ z1) ++ (", " : Str)) ++ z2) ++ (", " : Str)) S := fun S => ad _ _ S (by simp only [strLen_append, k0, k1, k2, k3]; omega)
  have h5 : ∀ S : Sl, addS (((((Str.empty ++ ("Machine(" : Str)) ++ z1) ++ (", " : Str)) ++ z2) ++ (", " : Str)) z3 S = .ok ((((((Str.empty ++ ("Machine(" : Str)) ++ z1) ++ (", " : Str)) ++ z2) ++ (", " : Str)) ++ z3) S := fun S => ad _ _ S (by simp only [strLen_append, k0, k1, k2, k3]; omega)
  have h6 : ∀ S : Sl, addS ((((((Str.empty ++ ("Machine(" : Str)) ++ z1) ++ (", " : Str)) ++ z2) ++ (", " : Str)) ++ z3) (", " : Str) S = .ok (((((((Str.empty ++ ("Machine(" : Str)) ++ z1) ++ (", " : Str)) ++ z2) ++ (", " : Str)) ++ z3) ++ (", " : Str)) S := fun S => ad _ _ S (by simp only [strLen_append, k0, k1, k2, k3]; omega)
  have h7 : ∀ S : Sl, addS (((((((Str.empty ++ ("Machine(" : Str)) ++ z1) ++ (", " : Str)) ++ z2) ++ (", " : Str)) ++ z3) ++ (", " : Str)) z4 S = .ok ((((((((Str.empty ++ ("Machine(" : Str)) ++ z1) ++ (", " : Str)) ++ z2) ++ (", " : Str)) ++ z3) ++ (", " : Str)) ++ z4) S := fun S => ad _ _ S (by simp only [strLen_append, k0, k1, k2, k3]; omega)
  have h8 : ∀ S : Sl, addS ((((((((Str.empty ++ ("Machine(" : Str)) ++ z1) ++ (", " : Str)) ++ z2) ++ (", " : Str)) ++ z3) ++ (", " : Str)) ++ z4) (")" : Str) S = .ok (((((((((Str.empty ++ ("Machine(" : Str)) ++ z1) ++ (", " : Str)) ++ z2) ++ (", " : Str)) ++ z3) ++ (", " : Str)) ++ z4) ++ (")" : Str)) S := fun S => ad _ _ S (by simp only [strLen_append, k0, k1, k2, k3]; omega)
  have e1 : ∀ S : Sl, reprM (.v (.ol false L1)) S = .ok z1 S := fun S => c1 _ S rfl
  have e2 : ∀ S : Sl, reprM (.v (.ol false L2)) S = .ok z2 S := fun S => c2 _ S rfl
  have e3 : ∀ S : Sl, reprM (.v (.v (.int m))) S = .ok z3 S := fun S => c3 _ S rfl
  have e4 : ∀ S : Sl, reprM (.v (.ol false L4)) S = .ok z4 S := fun S => c4 _ S rfl
  clear c1 c2 c3 c4 ad
  simp [f_Machine___repr__, m_Machine___repr__, insOf, a1, a2, a3, b1, b2, b3, b4, e1, e2, e3, e4, h0, h1, h2, h3, h4, h5, h6, h7, h8]
theorem mrepr_ok (g : GoodM I O m rs) : ∃ z, f_Machine___repr__ [.v (mach I O m rs)] = .ret (.v (.str z)) [.v (mach I O m rs)] := by
  obtain ⟨z1, d1, _, c1⟩ := (names_sz g.nI g.i4).repr (by omega) (by omega)
  obtain ⟨z2, d2, _, c2⟩ := (names_sz g.nO (by have := g.o3; omega)).repr (by omega) (by omega)
  obtain ⟨z3, d3, _, c3⟩ := (sz_int (i := (m : Nat)) (by omega) (by have := g.m12; omega)).repr (by omega) (by omega)
  obtain ⟨z4, d4, _, c4⟩ := (rows_sz g).repr (by omega) (by omega)
  exact repr_gen lu7 lu8 lu9 (ins_gen lu3) (outs_gen lu4) lu5 (reactions_ok g) c1 c2 c3 c4 (by omega) (by omega) (by omega) (by omega)
theorem mrepr_e (g : GoodM I O m rs) : ∃ z, ∀ (o : Opd) (S : Sl), isIns o S = true → dataOf o S = some (mach I O m rs) → oneM "Machine" f_Machine___repr__ goodStr fRepr o S = .ok (.v (.v (.str z))) S := by
  obtain ⟨z, e⟩ := mrepr_ok g
  exact ⟨z, fun o S => oneM_of (F := fRepr) (o := o) (S := S) e rfl⟩
end
end Law
set_option maxHeartbeats 2000000
namespace Law
open PySem PySem.Spec PyProof.Rows L2 Lb
theorem loop_ret {g : GM} {body : SM} : ∀ {ds : List DV} {S : Sl} (I : Nat → Sl → Prop) (bad : DV → Prop) (R : Opd → Sl → Prop) (k : Nat), (∀ (i : Nat) (d : DV), ds[i]? = some d → ∀ S, I (k + i) S → ∃ S1, g d S = some S1 ∧ ((¬ bad d ∧ ∃ S2, body S1 = .nx S2 ∧ I (k + i + 1) S2) ∨ (bad d ∧ ∃ r S2, body S1 = .rt r S2 ∧ R r S2))) → I k S →
    ((∀ d ∈ ds, ¬ bad d) ∧ ∃ S', loopM g body ds S = .nx S' ∧ I (k + ds.length) S') ∨ ((∃ d ∈ ds, bad d) ∧ ∃ r S', loopM g body ds S = .rt r S' ∧ R r S')
  | [], S, I, bad, R, k, _, hS => .inl ⟨by simp, S, rfl, by simpa using hS⟩
  | d :: ds, S, I, bad, R, k, h, hS => by
    obtain ⟨S1, e1, z⟩ := h 0 d rfl S hS
    rcases z with ⟨nb, S2, e2, i2⟩ | ⟨b, r, S2, e2, h2⟩
    · have := loop_ret (g := g) (body := body) (ds := ds) (S := S2) I bad R (k + 1) (fun i d hd S hI => by
        have := h (i + 1) d (by simpa using hd) S (by rw [show k + (i + 1) = k + 1 + i by omega]; exact hI)
        rw [show k + (i + 1) + 1 = k + 1 + i + 1 by omega] at this
        exact this) i2
      have ee : loopM g body (d :: ds) S = loopM g body ds S2 := by
        conv => lhs; unfold loopM
        rw [e1]; dsimp only; rw [e2]
      rw [ee]
      rcases this with ⟨h1, S', h3, h4⟩ | ⟨⟨x, hx, hb⟩, h3⟩
      · refine .inl ⟨fun x hx => ?_, S', h3, by rw [List.length_cons, show k + (ds.length + 1) = k + 1 + ds.length by omega]; exact h4⟩
        rcases List.mem_cons.mp hx with rfl | hx
        · exact nb
        · exact h1 x hx
      · exact .inr ⟨⟨x, List.mem_cons_of_mem _ hx, hb⟩, h3⟩
    · refine .inr ⟨⟨d, List.mem_cons_self, b⟩, r, S2, ?_, h2⟩
      conv => lhs; unfold loopM
      rw [e1]; dsimp only; rw [e2]
theorem loop_rt {g : GM} {body : SM} {ds : List DV} {S : Sl} {o : SOut} (hc : loopM g body ds S = o) (I : Nat → Sl → Prop) (bad : DV → Prop) (R : Opd → Sl → Prop) (h : ∀ (i : Nat) (d : DV), ds[i]? = some d → ∀ S, I i S → ∃ S1, g d S = some S1 ∧ ((¬ bad d ∧ ∃ S2, body S1 = .nx S2 ∧ I (i + 1) S2) ∨ (bad d ∧ ∃ r S2, body S1 = .rt r S2 ∧ R r S2))) (hS : I 0 S) :
    ((∀ d ∈ ds, ¬ bad d) ∧ ∃ S', o = .nx S' ∧ I ds.length S') ∨ ((∃ d ∈ ds, bad d) ∧ ∃ r S', o = .rt r S' ∧ R r S') := by
  subst hc
  have := loop_ret (g := g) (body := body) (ds := ds) I bad R 0 (fun i d hd S hI => by simpa using h i d hd S (by simpa using hI)) hS
  simpa using this
/-- the line is taken by both, with unlike worths -/
def Bad (t t' : Ws) (l : Str) : Prop := ∃ a b, lk l t = some a ∧ lk l t' = some b ∧ a ≠ b
theorem ag_iff {I : List Str} {r r' : Row} (h : (r.t.map (·.1)).Sublist I) (nd : I.Nodup) : Ag r r' = true ↔ r.s = r'.s ∧ ∀ l ∈ I, ¬ Bad r.t r'.t l := by
  unfold Ag
  rw [Bool.and_eq_true, decide_eq_true_eq, List.all_eq_true]
  have n1 := h.nodup nd
  refine and_congr_right fun _ => ⟨fun k l hl ⟨a, b, e1, e2, ne⟩ => ?_, fun k p hp => ?_⟩
  · unfold lk at e1
    obtain ⟨p, hp, e3⟩ := Option.map_eq_some_iff.mp e1
    have h1 := List.mem_of_find?_eq_some hp
    have h2 : p.1 = l := of_decide_eq_true (List.find?_some (p := fun p : Str × Nat => decide (p.1 = l)) hp)
    have := of_decide_eq_true (k p h1)
    rw [h2, e2, Option.getD_some] at this
    exact ne (by rw [← e3, this])
  · apply decide_eq_true
    cases e : lk p.1 r'.t with
    | none => rfl
    | some b =>
      rw [Option.getD_some]
      apply Classical.byContradiction
      intro ne
      exact k p.1 (h.subset (List.mem_map_of_mem hp)) ⟨p.2, b, lk_self n1 p hp, e, fun z => ne z.symm⟩
/-- what two rows give on a line -/
def two (a b : Option Nat) : List DV := (a.map fun n => DV.int (n : Nat)).toList ++ (b.map fun n => DV.int (n : Nat)).toList
theorem sort_good {a b : Option Nat} (h : ∀ x y, a = some x → b = some y → x = y) (S : Sl) : sortSetM (.v (.ol false (two a b))) S = .ok (.v (.ol false ((b.or a).map fun n => DV.int (n : Nat)).toList)) S := by
  cases a with
  | none => cases b <;> simp [two, intsDV, sortU, insU]
  | some a =>
    cases b with
    | none => simp [two, intsDV, sortU, insU]
    | some b =>
      have := h a b rfl rfl
      subst this
      simp [two, intsDV, sortU, insU]
theorem sort_bad {a b : Nat} (h : a ≠ b) : ∃ L : List DV, L.length = 2 ∧ ∀ S : Sl, sortSetM (.v (.ol false (two (some a) (some b)))) S = .ok (.v (.ol false L)) S := by
  have hne : ¬ ((a : Int) = (b : Int)) := by omega
  by_cases z : (a : Int) < (b : Int)
  · exact ⟨[.int (a : Nat), .int (b : Nat)], rfl, fun S => by simp [two, intsDV, sortU, insU, hne, z]⟩
  · exact ⟨[.int (b : Nat), .int (a : Nat)], rfl, fun S => by simp [two, intsDV, sortU, insU, hne, z]⟩
theorem ix_rowD (rs : List Row) {k : Nat} {r : Row} (h : rs[k]? = some r) : fIxA (.lst (rs.map Row.D)) (.int (k : Nat)) = some (.v r.D) := by
  have hl : k < rs.length := (List.getElem?_eq_some_iff.mp h).1
  have := ixL (L := rs.map Row.D) (r := k) (by simpa using hl)
  rw [this]
  simp [(List.getElem?_eq_some_iff.mp h).2]
theorem hd_snoc (I : List Str) (t t' : Ws) {i : Nat} {l : Str} (h : I[i]? = some l) : Hd (I.take (i + 1)) t t' = Hd (I.take i) t t' ++ (((lk l t').or (lk l t)).map fun n => (l, n)).toList := by
  have hl : i < I.length := (List.getElem?_eq_some_iff.mp h).1
  have e : I.take (i + 1) = I.take i ++ [l] := by rw [List.take_succ_eq_append_getElem hl, (List.getElem?_eq_some_iff.mp h).2]
  unfold Hd
  rw [e, List.filterMap_append]
  cases he : (lk l t').or (lk l t) <;> simp [List.filterMap_cons, he]
theorem law_heads_ok {I O : List Str} {m : Nat} {rs : List Row} (g : GoodM I O m rs) {k j : Nat} {r r' : Row} (hk : rs[k]? = some r) (hj : rs[j]? = some r') :
    f_law_heads [.v (shD I O m (.lst (rs.map Row.D))), .v (.int (k : Nat)), .v (.int (j : Nat))] = .ret (if k ≠ j ∧ Ag r r' = true then .ol false (dP (Hd I r.t r'.t)) else .v .non) [.v (shD I O m (.lst (rs.map Row.D))), .v (.int (k : Nat)), .v (.int (j : Nat))] := by
  have x1 := ix_rowD rs hk
  have x2 := ix_rowD rs hj
  have gr := g.ok r (List.mem_of_getElem? hk)
  have gr' := g.ok r' (List.mem_of_getElem? hj)
  have z0 : ∀ q : Row, fIxA q.D (.int 0) = some (.v (.int (q.s : Nat))) := fun q => rfl
  have z1 : ∀ q : Row, fIxA q.D (.int 1) = some (.v (.dct (dK q.t))) := fun q => rfl
  by_cases hkj : k = j
  · subst hkj
    simp [f_law_heads, m_law_heads, sh_rows, sh_ins, x1, x2, z0]
  · have hkj' : ¬ ((k : Int) = (j : Int)) := by omega
    by_cases hs : r.s = r'.s
    · simp [f_law_heads, m_law_heads, sh_rows, sh_ins, x1, x2, z0, hkj, hkj', hs, sizeLine_eq]
      generalize hc : loopM _ _ _ _ = o
      have lp := loop_rt hc (fun i S => ∃ a4 a7 : Option RV, (a4.map RV.isPin).getD false = false ∧ (a7.map RV.isPin).getD false = false ∧ S = [some (.v (shD I O m (.lst (rs.map Row.D)))), some (.v (.int (k : Nat))), some (.v (.int (j : Nat))), some (.ol false (dP (Hd (I.take i) r.t r'.t))), a4, some (.v r.D), some (.v r'.D), a7, none, none])
        (fun d => ∃ l, d = .str l ∧ Bad r.t r'.t l) (fun o S => o = .v (.v .non)) (by
          rintro i d hd S ⟨a4, a7, h4, h7, rfl⟩
          rw [List.getElem?_map, Option.map_eq_some_iff] at hd
          obtain ⟨l, hl, rfl⟩ := hd
          refine ⟨[some (.v (shD I O m (.lst (rs.map Row.D)))), some (.v (.int (k : Nat))), some (.v (.int (j : Nat))), some (.ol false (dP (Hd (I.take i) r.t r'.t))), some (.v (.str l)), some (.v r.D), some (.v r'.D), a7, none, none], by simp [-List.map_take, h4], ?_⟩
          have ecomp : ([r.D, r'.D].filterMap fun d => match d with | .tup [_, .dct x, _, _] => lookK (.inr l) x | _ => none) = two (lk l r.t) (lk l r'.t) := by
            simp only [List.filterMap_cons, List.filterMap_nil, Row.D, look_dK]
            cases lk l r.t <;> cases lk l r'.t <;> rfl
          by_cases hb : Bad r.t r'.t l
          · refine .inr ⟨⟨l, rfl, hb⟩, ?_⟩
            obtain ⟨a, b, e1, e2, ne⟩ := hb
            obtain ⟨L, hL, es⟩ := sort_bad ne
            rw [e1, e2] at ecomp
            simp [-List.map_take, -ev_sortSetM, sizeLine_eq, h7]
            rw [compM_pure (fun d => match d with | .tup [_, .dct x, _, _] => lookK (.inr l) x | _ => none) (fun d hd => by
              rcases List.mem_cons.mp hd with rfl | hd
              · simp [CStep, wipeS, z1, look_dK, Row.D, e1]
              · obtain rfl := List.mem_singleton.mp hd
                simp [CStep, wipeS, z1, look_dK, Row.D, e2]) (by simp [sizeLine_eq]) rfl, ecomp]
            simp [-List.map_take, -ev_sortSetM, wipeS, restS, es, hL, h7]
          · refine .inl ⟨fun ⟨l', e, h⟩ => hb (by cases e; exact h), ?_⟩
            have hsame : ∀ x y, lk l r.t = some x → lk l r'.t = some y → x = y := fun x y h1 h2 => Classical.byContradiction fun ne => hb ⟨x, y, h1, h2, ne⟩
            have es := sort_good hsame
            simp [-List.map_take, -ev_sortSetM, sizeLine_eq, h7]
            rw [compM_pure (fun d => match d with | .tup [_, .dct x, _, _] => lookK (.inr l) x | _ => none) (fun d hd => by
              rcases List.mem_cons.mp hd with rfl | hd
              · cases e1 : lk l r.t <;> simp [CStep, wipeS, z1, look_dK, Row.D, e1]
              · obtain rfl := List.mem_singleton.mp hd
                cases e2 : lk l r'.t <;> simp [CStep, wipeS, z1, look_dK, Row.D, e2]) (by simp [sizeLine_eq]) rfl, ecomp]
            simp [-List.map_take, -ev_sortSetM, wipeS, restS, es, h7]
            have hlen : (Hd (I.take i) r.t r'.t).length ≤ 4 := by
              have := (hd_sub (I.take i) r.t r'.t).length_le
              rw [List.length_map] at this
              have h2 := List.length_take_le' i I
              have := g.i4
              omega
            have hl1 : (Hd (I.take i) r.t r'.t).length ≤ 16777216 := by omega
            have hl2 : (Hd (I.take i) r.t r'.t).length ≤ 16777215 := by omega
            have hsn := hd_snoc I r.t r'.t hl
            cases hw : (lk l r'.t).or (lk l r.t) with
            | none =>
              rw [hw] at hsn
              simp only [Option.map_none, Option.toList_none, List.append_nil] at hsn
              simp [-List.map_take]
              rw [compM_map (fun d => .tup [.str l, d]) (by simp) (by simp) rfl]
              simp [-List.map_take, wipeS, restS, sizeLine_eq, dP, hsn, hl1]
            | some n =>
              rw [hw] at hsn
              simp only [Option.map_some, Option.toList_some] at hsn
              simp [-List.map_take]
              rw [compM_map (fun d => .tup [.str l, d]) (fun d hd => by
                obtain rfl := List.mem_singleton.mp hd
                simp [CStep, wipeS, sizeLine_eq]) (by simp [sizeLine_eq]) rfl]
              simp [-List.map_take, wipeS, restS, sizeLine_eq, dP, hsn, hl2]) ⟨none, none, rfl, rfl, rfl⟩
      have hag := ag_iff (r := r) (r' := r') gr.t.sub g.dI
      rcases lp with ⟨h1, S', rfl, a4, a7, _, _, rfl⟩ | ⟨⟨d, hd, l, rfl, hb⟩, q, S', rfl, rfl⟩
      · have : Ag r r' = true := hag.mpr ⟨hs, fun l hl hb => h1 (.str l) (List.mem_map_of_mem hl) ⟨l, rfl, hb⟩⟩
        simp [this, List.take_of_length_le]
      · have : ¬ Ag r r' = true := fun z => (hag.mp z).2 l (by obtain ⟨l', h1, h2⟩ := List.mem_map.mp hd; cases h2; exact h1) hb
        simp [this]
    · have hs' : ¬ ((r.s : Int) = (r'.s : Int)) := by omega
      have : ¬ Ag r r' = true := fun z => hs (of_decide_eq_true (Bool.and_eq_true_iff.mp z).1)
      simp [f_law_heads, m_law_heads, sh_rows, sh_ins, x1, x2, z0, hkj, hkj', hs, hs', this]
end Law
namespace Law
open PySem PySem.Spec PyProof.Rows L2 Lb
theorem told_val (l : List (Key × DV)) : F_law_told (.val (.od false l)) = .ret (.ol false [.str "told", .lst (itemsDV l)]) [] := by kernel_rfl
theorem told_apart (k j : Int) : F_law_told (.exc "NotAgreeing" [("other", .int j), ("one", .int k)]) = .ret (.ol false [.str "apart", .int k, .int j, .bl true]) [] := by kernel_rfl
theorem met_num {d : DV} {z : Str} (h : fRepr [d] = some (.v (.str z))) : F_law_met (.exc "InvalidNumber" [("value", d)]) = .ret (.v (.str z)) [] := by
  have e1 : ca_InvalidNumber_sub "InvalidNumber" = some true := by kernel_rfl
  have e2 : fld tabF_value "value" (.exn "InvalidNumber" [("value", d)]) = M.pure d := by kernel_rfl
  simp [F_law_met, m_law_met, callL, catchM, e1, e2, isFree, endH, h, FOut.ret0]
theorem bad_symm {t t' : Ws} {l : Str} (h : Bad t t' l) : Bad t' t l := by
  obtain ⟨a, b, h1, h2, h3⟩ := h
  exact ⟨b, a, h2, h1, fun z => h3 z.symm⟩
theorem ag_symm {I : List Str} {r r' : Row} (h : (r.t.map (·.1)).Sublist I) (h' : (r'.t.map (·.1)).Sublist I) (nd : I.Nodup) : Ag r' r = Ag r r' := by
  rw [Bool.eq_iff_iff, ag_iff h nd, ag_iff h' nd]
  constructor
  · rintro ⟨a, b⟩; exact ⟨a.symm, fun l hl z => b l hl (bad_symm z)⟩
  · rintro ⟨a, b⟩; exact ⟨a.symm, fun l hl z => b l hl (bad_symm z)⟩
theorem hd_symm {I : List Str} {t t' : Ws} (h : ∀ l ∈ I, ¬ Bad t t' l) : Hd I t' t = Hd I t t' := by
  unfold Hd
  apply fm_congr
  intro l hl
  have := h l hl
  cases e1 : lk l t with
  | none => cases e2 : lk l t' <;> rfl
  | some a =>
    cases e2 : lk l t' with
    | none => rfl
    | some b =>
      have : a = b := Classical.byContradiction fun ne => this ⟨a, b, e1, e2, ne⟩
      subst this
      rfl
theorem ne_str (z : Str) : neA2 (.str z) (.str z) = some false := by
  show orO ((some (z == z)).map not) _ = _
  rw [beq_self_eq_true]; rfl
theorem mul3 (d : DV) : fMulB (.lst [d]) (.int 3) = some (.ol false [d, d, d]) := by kernel_rfl
theorem eqA2_lst {xs ys : List DV} {b : Bool} (h : eqT 40 (.lst xs) (.lst ys) = some b) : eqA2 (.lst xs) (.lst ys) = some b := by
  have e1 : flEq (.lst xs) (.lst ys) = none := rfl
  have e2 : eqTC (.lst xs) (.lst ys) = some b := by
    unfold eqTC
    rw [if_pos (show cont (.lst xs) = true from rfl)]
    exact h
  unfold eqA2
  rw [e1, e2]
  rfl
theorem apart_eq (k j : Int) : eqA2 (.lst [.str "apart", .int k, .int j, .bl true]) (.lst [.str "apart", .int k, .int j, .bl true]) = some true := eqA2_lst (by
    show (if 4 = 4 then (zipO (eqT 39) [_, _, _, _] [_, _, _, _]).map _ else _) = _
    have eb : eqT 39 (.bl true) (.bl true) = some true := by kernel_rfl
    simp only [zipO, eqT_int, eqT_str, eb]
    simp)
theorem dP_self (n : Nat) (t : Ws) : eqT (n + 2) (.lst (dP t)) (.lst (dP t)) = some true := by
  obtain ⟨l, e, h⟩ := eq_dP n t t
  show (if (dP t).length = (dP t).length then (zipO (eqT (n + 1)) _ _).map _ else _) = _
  rw [if_pos rfl, e]
  simp only [decide_true, Bool.and_true] at h
  rw [Option.map_some, h]
theorem told3_eq (t : Ws) : eqA2 (.lst [.lst [.str "told", .lst (dP t)], .lst [.str "told", .lst (dP t)], .lst [.str "told", .lst (dP t)]]) (.lst [.lst [.str "told", .lst (dP t)], .lst [.str "told", .lst (dP t)], .lst [.str "told", .lst (dP t)]]) = some true := by
  have e0 : eqT 39 (.lst [.str "told", .lst (dP t)]) (.lst [.str "told", .lst (dP t)]) = some true := by
    show (if 2 = 2 then (zipO (eqT 38) [_, _] [_, _]).map _ else _) = _
    simp only [zipO, eqT_str, dP_self 36 t]
    simp
  refine eqA2_lst ?_
  show (if 3 = 3 then (zipO (eqT 39) [_, _, _] [_, _, _]).map _ else _) = _
  simp only [zipO, e0]
  simp
section
variable {sh : DV} {gs : List (Str × DV)} {k j : Nat}
theorem reprs3 (b : Bool) : ∃ z, fRepr [.lst [.bl b, .bl b, .bl b]] = some (.v (.str z)) := by
  obtain ⟨z, _, e, _⟩ := (sz_lst (n := 5) (k := 0) (m := 3) (L := [.bl b, .bl b, .bl b]) (fun d hd => by
    simp only [List.mem_cons, List.not_mem_nil, or_false] at hd
    rcases hd with rfl | rfl | rfl <;> exact sz_bl b) (by simp)).repr (by omega) (by omega)
  exact ⟨z, e⟩
/-- rows that do not agree -/
theorem two_apart (e0 : f_law_heads [.v sh, .v (.int (k : Nat)), .v (.int (j : Nat))] = .ret (.v .non) [.v sh, .v (.int (k : Nat)), .v (.int (j : Nat))])
    (e1 : f_do_agree [.v (.ins "Machine" gs), .v (.int (k : Nat)), .v (.int (j : Nat))] = .ret (.v (.bl false)) [.v (.ins "Machine" gs), .v (.int (k : Nat)), .v (.int (j : Nat))])
    (e2 : f_do_agree [.v (.ins "Machine" gs), .v (.int (j : Nat)), .v (.int (k : Nat))] = .ret (.v (.bl false)) [.v (.ins "Machine" gs), .v (.int (j : Nat)), .v (.int (k : Nat))])
    (e3 : f_heads [.v (.ins "Machine" gs), .v (.int (k : Nat)), .v (.int (j : Nat))] = .exc "NotAgreeing" [("other", .int (j : Nat)), ("one", .int (k : Nat))] [.v (.ins "Machine" gs), .v (.int (k : Nat)), .v (.int (j : Nat))]) :
    f_law_two_right [.v sh, .v (.ins "Machine" gs), .v (.int (k : Nat)), .v (.int (j : Nat))] = .ret (.v (.bl true)) [.v sh, .v (.ins "Machine" gs), .v (.int (k : Nat)), .v (.int (j : Nat))] := by
  obtain ⟨z, ez⟩ := reprs3 false
  simp [f_law_two_right, m_law_two_right, e0, e1, e2, gp, sizeLine_eq, ez, mul3, ne_str, runL, onlyD, dataS, dataO, e3, told_apart, apart_eq]
theorem two_told {t : Ws} (e0 : f_law_heads [.v sh, .v (.int (k : Nat)), .v (.int (j : Nat))] = .ret (.ol false (dP t)) [.v sh, .v (.int (k : Nat)), .v (.int (j : Nat))])
    (e1 : f_do_agree [.v (.ins "Machine" gs), .v (.int (k : Nat)), .v (.int (j : Nat))] = .ret (.v (.bl true)) [.v (.ins "Machine" gs), .v (.int (k : Nat)), .v (.int (j : Nat))])
    (e2 : f_do_agree [.v (.ins "Machine" gs), .v (.int (j : Nat)), .v (.int (k : Nat))] = .ret (.v (.bl true)) [.v (.ins "Machine" gs), .v (.int (j : Nat)), .v (.int (k : Nat))])
    (e3 : f_heads [.v (.ins "Machine" gs), .v (.int (k : Nat)), .v (.int (j : Nat))] = .ret (.od false (dK t)) [.v (.ins "Machine" gs), .v (.int (k : Nat)), .v (.int (j : Nat))])
    (e4 : f_heads [.v (.ins "Machine" gs), .v (.int (j : Nat)), .v (.int (k : Nat))] = .ret (.od false (dK t)) [.v (.ins "Machine" gs), .v (.int (j : Nat)), .v (.int (k : Nat))]) :
    f_law_two_right [.v sh, .v (.ins "Machine" gs), .v (.int (k : Nat)), .v (.int (j : Nat))] = .ret (.v (.bl true)) [.v sh, .v (.ins "Machine" gs), .v (.int (k : Nat)), .v (.int (j : Nat))] := by
  obtain ⟨z, ez⟩ := reprs3 true
  simp [f_law_two_right, m_law_two_right, e0, e1, e2, gp, sizeLine_eq, ez, mul3, ne_str, runL, onlyD, dataS, dataO, e3, e4, told_val, items_dK, told3_eq]
end
end Law
namespace Law
open PySem PySem.Spec PyProof.Rows L2 Lb
section
variable {I O : List Str} {m : Nat} {rs : List Row} {k j : Nat} {r r' : Row}
theorem check_agreeing_ok (g : GoodM I O m rs) (hk : rs[k]? = some r) (hj : rs[j]? = some r') {b : Bool} (hb : (decide (k ≠ j) && Ag r r') = b) :
    f_check_agreeing [.v (mach I O m rs), .v (.int (k : Nat)), .v (.int (j : Nat))] = if b then .ret (.v .non) [.v (mach I O m rs), .v (.int (k : Nat)), .v (.int (j : Nat))] else .exc "NotAgreeing" [("other", .int (j : Nat)), ("one", .int (k : Nat))] [.v (mach I O m rs), .v (.int (k : Nat)), .v (.int (j : Nat))] := by
  subst hb
  exact check_agreeing_gen (do_agree_ok g hk hj)
theorem heads_ok (g : GoodM I O m rs) (hk : rs[k]? = some r) (hj : rs[j]? = some r') (hb : (decide (k ≠ j) && Ag r r') = true) :
    f_heads [.v (mach I O m rs), .v (.int (k : Nat)), .v (.int (j : Nat))] = .ret (.od false (dK (Hd I r.t r'.t))) [.v (mach I O m rs), .v (.int (k : Nat)), .v (.int (j : Nat))] := by
  have gr := g.ok r (List.mem_of_getElem? hk)
  have gr' := g.ok r' (List.mem_of_getElem? hj)
  have h4 := g.i4
  exact heads_gen (check_agreeing_ok g hk hj hb) (getitem_ok g hk) (getitem_ok g hj) lu3 lu7 (by have := gr.t.len; omega) (by have := gr'.t.len; omega) (by omega) (gr.t.sub.nodup g.dI) (gr'.t.sub.nodup g.dI) g.dI
theorem heads_exc_gen {gs : List (Str × DV)} {x y : DV} {c : Str} {fs : List (Str × DV)} {outs : List RV} (e : f_check_agreeing [.v (.ins "Machine" gs), .v x, .v y] = .exc c fs outs) : f_heads [.v (.ins "Machine" gs), .v x, .v y] = .exc c fs [.v (.ins "Machine" gs), .v x, .v y] := by
  simp [f_heads, m_heads, e]
theorem two_right_ok (g : GoodM I O m rs) (hk : rs[k]? = some r) (hj : rs[j]? = some r') :
    f_law_two_right [.v (shD I O m (.lst (rs.map Row.D))), .v (mach I O m rs), .v (.int (k : Nat)), .v (.int (j : Nat))] = .ret (.v (.bl true)) [.v (shD I O m (.lst (rs.map Row.D))), .v (mach I O m rs), .v (.int (k : Nat)), .v (.int (j : Nat))] := by
  have gr := g.ok r (List.mem_of_getElem? hk)
  have gr' := g.ok r' (List.mem_of_getElem? hj)
  have hs : (decide (j ≠ k) && Ag r' r) = (decide (k ≠ j) && Ag r r') := by
    rw [ag_symm gr.t.sub gr'.t.sub g.dI]
    congr 1
    exact decide_eq_decide.mpr ⟨Ne.symm, Ne.symm⟩
  have e0 := law_heads_ok g hk hj
  have e1 := do_agree_ok g hk hj
  have e2 := do_agree_ok g hj hk
  rw [hs] at e2
  cases hb : (decide (k ≠ j) && Ag r r') with
  | false =>
    rw [hb] at e1 e2
    have hn : ¬ (k ≠ j ∧ Ag r r' = true) := by
      rintro ⟨a, b⟩
      rw [decide_eq_true a, b] at hb
      cases hb
    rw [if_neg hn] at e0
    exact two_apart e0 e1 e2 (heads_exc_gen (check_agreeing_ok g hk hj hb))
  | true =>
    rw [hb] at e1 e2
    have hb2 := Bool.and_eq_true_iff.mp hb
    rw [if_pos ⟨of_decide_eq_true hb2.1, hb2.2⟩] at e0
    have h2 := (ag_iff gr.t.sub g.dI).mp hb2.2
    have e4 := heads_ok g hj hk (by rw [hs]; exact hb)
    rw [hd_symm h2.2] at e4
    exact two_told e0 e1 e2 (heads_ok g hk hj hb) e4
end
/-! ### wrong numbers -/
def OddV (n : Nat) (x : DV) : Prop := f_is_below [.v x, .v (.int (n : Nat))] = .ret (.v (.bl false)) [.v x, .v (.int (n : Nat))] ∧ ∃ z, fRepr [x] = some (.v (.str z))
theorem odd_int {n : Nat} {i : Int} (h : ¬ (0 ≤ i ∧ i < n)) {z : Str} (hz : fRepr [.int i] = some (.v (.str z))) : OddV n (.int i) :=
  ⟨by rw [is_below_int, decide_eq_false h], z, hz⟩
theorem odd_not {n : Nat} {x : DV} (h : f_is_integer [.v x] = .ret (.v (.bl false)) [.v x]) {z : Str} (hz : fRepr [x] = some (.v (.str z))) : OddV n x := by
  refine ⟨?_, z, hz⟩
  have e : f_is_count [.v x] = .ret (.v (.bl false)) [.v x] := by
    simp [f_is_count, m_is_count, h]
  simp [f_is_below, m_is_below, e]
theorem odds {n : Nat} (h4 : n ≤ 40) : ∀ d ∈ [DV.int (n : Nat), .int ((n : Nat) + 1), .int (-1), .bl true, .bl false, .non, .str "0", .str "", .lst [.int 0], .tup [.int 0], .dct [], .int 100000000000000000000000000000], OddV n d := by
  intro d hd
  simp only [List.mem_cons, List.not_mem_nil, or_false] at hd
  rcases hd with rfl | rfl | rfl | rfl | rfl | rfl | rfl | rfl | rfl | rfl | rfl | rfl
  · obtain ⟨z, _, e, _⟩ := (sz_int (i := (n : Nat)) (by omega) (by omega)).repr (by omega) (by omega)
    exact odd_int (by omega) e
  · obtain ⟨z, _, e, _⟩ := (sz_int (i := (n : Nat) + 1) (by omega) (by omega)).repr (by omega) (by omega)
    exact odd_int (by omega) e
  · exact odd_int (z := PyData.shown (.int (-1))) (by omega) (by kernel_rfl)
  · exact odd_not (z := PyData.shown (.bool true)) (by kernel_rfl) (by kernel_rfl)
  · exact odd_not (z := PyData.shown (.bool false)) (by kernel_rfl) (by kernel_rfl)
  · exact odd_not (z := PyData.shown .none) (by kernel_rfl) (by kernel_rfl)
  · exact odd_not (z := PyData.shown (.str "0")) (by kernel_rfl) (by kernel_rfl)
  · exact odd_not (z := PyData.shown (.str "")) (by kernel_rfl) (by kernel_rfl)
  · exact odd_not (z := PyData.shown (.list [.int 0])) (by kernel_rfl) (by kernel_rfl)
  · exact odd_not (z := PyData.shown (.tuple [.int 0])) (by kernel_rfl) (by kernel_rfl)
  · exact odd_not (z := PyData.shown (.dict [])) (by kernel_rfl) (by kernel_rfl)
  · exact odd_int (z := PyData.shown (.int 100000000000000000000000000000)) (by omega) (by kernel_rfl)
section
variable {gs : List (Str × DV)} {n : Nat} {x y : DV}
theorem check_number_exc (e : ∀ (o : Opd) (S : Sl), isIns o S = true → dataOf o S = some (.ins "Machine" gs) → oneM "Machine" f_Machine___len__ goodLen fLen o S = Out.ok (Opd.v (RV.v (DV.int (n : Nat)))) S) (h : OddV n x) :
    f_check_number [.v (.ins "Machine" gs), .v x] = .exc "InvalidNumber" [("value", x)] [.v (.ins "Machine" gs), .v x] := by
  simp [f_check_number, m_check_number, e, h.1]
theorem getitem_exc (e : f_check_number [.v (.ins "Machine" gs), .v x] = .exc "InvalidNumber" [("value", x)] [.v (.ins "Machine" gs), .v x]) : f_Machine___getitem__ [.v (.ins "Machine" gs), .v x] = .exc "InvalidNumber" [("value", x)] [.v (.ins "Machine" gs), .v x] := by
  simp [f_Machine___getitem__, m_Machine___getitem__, e]
theorem do_agree_exc1 (e : f_Machine___getitem__ [.v (.ins "Machine" gs), .v x] = .exc "InvalidNumber" [("value", x)] [.v (.ins "Machine" gs), .v x]) : f_do_agree [.v (.ins "Machine" gs), .v x, .v y] = .exc "InvalidNumber" [("value", x)] [.v (.ins "Machine" gs), .v x, .v y] := by
  simp [f_do_agree, m_do_agree, e]
theorem do_agree_exc2 {r : Row} (e1 : f_Machine___getitem__ [.v (.ins "Machine" gs), .v x] = .ret (.v r.D) [.v (.ins "Machine" gs), .v x]) (e : f_Machine___getitem__ [.v (.ins "Machine" gs), .v y] = .exc "InvalidNumber" [("value", y)] [.v (.ins "Machine" gs), .v y]) :
    f_do_agree [.v (.ins "Machine" gs), .v x, .v y] = .exc "InvalidNumber" [("value", y)] [.v (.ins "Machine" gs), .v x, .v y] := by
  simp [f_do_agree, m_do_agree, e1, e, Row.D]
theorem check_agreeing_exc {c : Str} {fs : List (Str × DV)} {outs : List RV} (e : f_do_agree [.v (.ins "Machine" gs), .v x, .v y] = .exc c fs outs) : f_check_agreeing [.v (.ins "Machine" gs), .v x, .v y] = .exc c fs [.v (.ins "Machine" gs), .v x, .v y] := by
  simp [f_check_agreeing, m_check_agreeing, e]
end
theorem ne3 (z : Str) : neA2 (.lst [.str z, .str z, .str z]) (.lst [.str z, .str z, .str z]) = some false := by
  have e1 : toPy (.lst [.str z, .str z, .str z]) = some (.list [.str z, .str z, .str z]) := rfl
  have key : eqPy (.lst [.str z, .str z, .str z]) (.lst [.str z, .str z, .str z]) = some true ∨ eqPy (.lst [.str z, .str z, .str z]) (.lst [.str z, .str z, .str z]) = none := by
    unfold eqPy
    rw [e1]
    dsimp only
    split
    · left; simp [PyData.eqv, PyData.eqvAll]
    · exact .inr rfl
  have e2 : neFl (.lst [.str z, .str z, .str z]) (.lst [.str z, .str z, .str z]) = some false := by
    simp [neFl, zipO, flEq_str]
  show orO ((eqPy (.lst [.str z, .str z, .str z]) (.lst [.str z, .str z, .str z])).map not) (neFl _ _) = _
  rw [e2]
  rcases key with k | k <;> rw [k] <;> rfl
/-- a pair of numbers that is wrong, and what is told of it -/
def WrP (gs : List (Str × DV)) (d : DV) : Prop := ∃ x y w z, d = .tup [x, y, w] ∧ fRepr [w] = some (.v (.str z)) ∧ f_do_agree [.v (.ins "Machine" gs), .v x, .v y] = .exc "InvalidNumber" [("value", w)] [.v (.ins "Machine" gs), .v x, .v y] ∧ f_heads [.v (.ins "Machine" gs), .v x, .v y] = .exc "InvalidNumber" [("value", w)] [.v (.ins "Machine" gs), .v x, .v y]
theorem wrong_gen {gs : List (Str × DV)} {n : Nat} (h4 : n ≤ 40) (e : ∀ (o : Opd) (S : Sl), isIns o S = true → dataOf o S = some (.ins "Machine" gs) → oneM "Machine" f_Machine___len__ goodLen fLen o S = Out.ok (Opd.v (RV.v (DV.int (n : Nat)))) S)
    (w1 : ∀ x y, OddV n x → WrP gs (.tup [x, y, x])) (w2 : ∀ (k : Nat) y, k < n → OddV n y → WrP gs (.tup [.int (k : Nat), y, y])) {p : List DV} (hp : Pot p) :
    ∃ p', Pot p' ∧ f_law_wrong_right [.ol true p, .v (.ins "Machine" gs)] = .ret (.v (.bl true)) [.ol true p', .v (.ins "Machine" gs)] := by
  have epow : fPow (.int 10) (.int 29) = some (.v (.int 100000000000000000000000000000)) := by kernel_rfl
  simp [f_law_wrong_right, m_law_wrong_right, e, sizeLine_eq, epow, fNeg]
  have hodds := odds h4
  generalize hc : loopM _ _ _ _ = o
  obtain ⟨S', rfl, p', b3, b4, b5, b6, b7, b8, b9, hp', _, _, _, _, _, _, _, rfl⟩ := loop_same hc (fun S => ∃ (p : List DV) (a3 a4 a5 a6 a7 a8 a9 : Option RV), Pot p ∧ (a3.map RV.isPin).getD false = false ∧ (a4.map RV.isPin).getD false = false ∧ (a5.map RV.isPin).getD false = false ∧ (a6.map RV.isPin).getD false = false ∧ (a7.map RV.isPin).getD false = false ∧ (a8.map RV.isPin).getD false = false ∧ (a9.map RV.isPin).getD false = false ∧
    S = [some (.ol true p), some (.v (.ins "Machine" gs)), some (.v (.int (n : Nat))), a3, a4, a5, a6, a7, a8, a9]) (by
    rintro d hd S ⟨p, a3, a4, a5, a6, a7, a8, a9, hp, h3, h4', h5, h6, h7, h8, h9, rfl⟩
    have od := hodds d hd
    refine ⟨[some (.ol true p), some (.v (.ins "Machine" gs)), some (.v (.int (n : Nat))), some (.v d), a4, a5, a6, a7, a8, a9], ?_⟩
    obtain ⟨al, _, p1, hp1, e1⟩ := pick_ok hp (L := [.non, .int (n : Nat), .int (-5), .str "x"]) (by simp) (by simp)
    simp [h3, e1, h4', h5, sizeLine_eq]
    generalize hst : (if 0 < n then _ else _ : SOut) = o2
    obtain ⟨PL, p3, hp3, hPL, hl, rfl⟩ : ∃ (PL : List DV) (p3 : List DV), Pot p3 ∧ (∀ q ∈ PL, WrP gs q) ∧ PL.length ≤ 4 ∧ o2 = .nx [some (.ol true p3), some (.v (.ins "Machine" gs)), some (.v (.int (n : Nat))), some (.v d), some (.v al), some (.ol false PL), a6, a7, a8, a9] := by
      subst hst
      by_cases hn : 0 < n
      · obtain ⟨r1, p2, k1, hp2, e2⟩ := draw_ok hp1 (n := (n : Nat)) (by omega) (by omega)
        obtain ⟨r2, p3, k2, hp3, e3⟩ := draw_ok hp2 (n := (n : Nat)) (by omega) (by omega)
        refine ⟨[.tup [d, al, d], .tup [d, d, d], .tup [d, .int (r1 : Nat), d], .tup [.int (r2 : Nat), d, d]], p3, hp3, fun q hq => ?_, by simp, ?_⟩
        · simp only [List.mem_cons, List.not_mem_nil, or_false] at hq
          rcases hq with rfl | rfl | rfl | rfl
          · exact w1 d al od
          · exact w1 d d od
          · exact w1 d _ od
          · exact w2 r2 d (by omega) od
        · simp [hn, e2, e3, fAdd_lst, sizeLine_eq]
      · refine ⟨[.tup [d, al, d], .tup [d, d, d]], p1, hp1, fun q hq => ?_, by simp, ?_⟩
        · simp only [List.mem_cons, List.not_mem_nil, or_false] at hq
          rcases hq with rfl | rfl
          · exact w1 d al od
          · exact w1 d d od
        · simp [hn]
    simp
    generalize hc2 : loopM _ _ _ _ = o3
    obtain ⟨S3, rfl, c6, c7, c8, c9, g6, g7, g8, g9, rfl⟩ := loop_same hc2 (fun S => ∃ a6 a7 a8 a9 : Option RV, (a6.map RV.isPin).getD false = false ∧ (a7.map RV.isPin).getD false = false ∧ (a8.map RV.isPin).getD false = false ∧ (a9.map RV.isPin).getD false = false ∧
      S = [some (.ol true p3), some (.v (.ins "Machine" gs)), some (.v (.int (n : Nat))), some (.v d), some (.v al), some (.v (.lst PL)), a6, a7, a8, a9]) (by
      rintro q hq S ⟨a6, a7, a8, a9, g6, g7, g8, g9, rfl⟩
      obtain ⟨x, y, w, z, rfl, ez, ed, eh⟩ := hPL q hq
      have em := met_num ez
      refine ⟨[some (.ol true p3), some (.v (.ins "Machine" gs)), some (.v (.int (n : Nat))), some (.v d), some (.v al), some (.v (.lst PL)), some (.v x), some (.v y), some (.v w), a9], ?_⟩
      simp [g6, g7, g8, g9, runL, onlyD, dataS, dataO, ed, eh, em, gp, sizeLine_eq, ez, mul3, ne3]
      exact ⟨some (.v x), rfl, some (.v y), rfl, some (.v w), rfl, some (.ol false [.str z, .str z, .str z]), rfl, rfl, rfl, rfl, rfl⟩) ⟨a6, a7, a8, a9, h6, h7, h8, h9, rfl⟩
    simp
    exact ⟨p3, hp3, some (.v d), rfl, some (.v al), rfl, some (.v (.lst PL)), rfl, c6, g6, c7, g7, c8, g8, c9, g9, rfl, rfl, rfl, rfl, rfl, rfl, rfl, rfl⟩) ⟨p, none, none, none, none, none, none, none, hp, rfl, rfl, rfl, rfl, rfl, rfl, rfl, rfl⟩
  refine ⟨p', hp', ?_⟩
  simp
theorem wrong_ok {I O : List Str} {m : Nat} {rs : List Row} (g : GoodM I O m rs) {p : List DV} (hp : Pot p) : ∃ p', Pot p' ∧ f_law_wrong_right [.ol true p, .v (mach I O m rs)] = .ret (.v (.bl true)) [.ol true p', .v (mach I O m rs)] := by
  have e := len_e (I := I) (O := O) (m := m) (rs := rs) g.r40
  refine wrong_gen (n := rs.length) g.r40 e (fun x y od => ?_) (fun k y hk od => ?_) hp
  · have c := getitem_exc (check_number_exc e od)
    have d := do_agree_exc1 (y := y) c
    obtain ⟨z, ez⟩ := od.2
    exact ⟨x, y, x, z, rfl, ez, d, heads_exc_gen (check_agreeing_exc d)⟩
  · have c := getitem_exc (check_number_exc e od)
    have hr : rs[k]? = some rs[k] := List.getElem?_eq_getElem hk
    have d := do_agree_exc2 (getitem_ok g hr) c
    obtain ⟨z, ez⟩ := od.2
    exact ⟨_, y, y, z, rfl, ez, d, heads_exc_gen (check_agreeing_exc d)⟩
end Law
namespace Law
open PySem PySem.Spec PyProof.Rows L2 Lb
theorem eq_str (z : Str) : eqA2 (.str z) (.str z) = some true := by
  show some (z == z) = _
  rw [beq_self_eq_true]
theorem right_gen {I O : List Str} {m : Nat} {rs : List Row} {gs : List (Str × DV)} {p0 p1 p2 : List DV} {z : Str} (h40 : rs.length ≤ 40)
    (e1 : f_law_sheet [.ol true p0, .v (.tup [.int 4, .int 2, .int 2, .int 14]), .v (.int 2)] = .ret (.v (shD I O m (.lst (rs.map Row.D)))) [.ol true p1, .v (.tup [.int 4, .int 2, .int 2, .int 14]), .v (.int 2)])
    (e2 : f_law_rig [.v (shD I O m (.lst (rs.map Row.D)))] = .ret (.oi false "Machine" gs) [.v (shD I O m (.lst (rs.map Row.D)))])
    (e3 : ∀ (o : Opd) (S : Sl), isIns o S = true → dataOf o S = some (.ins "Machine" gs) → oneM "Machine" f_Machine___repr__ goodStr fRepr o S = .ok (.v (.v (.str z))) S)
    (e4 : ∀ k j : Nat, k < rs.length → j < rs.length → f_law_two_right [.v (shD I O m (.lst (rs.map Row.D))), .v (.ins "Machine" gs), .v (.int (k : Nat)), .v (.int (j : Nat))] = .ret (.v (.bl true)) [.v (shD I O m (.lst (rs.map Row.D))), .v (.ins "Machine" gs), .v (.int (k : Nat)), .v (.int (j : Nat))])
    (e5 : f_law_wrong_right [.ol true p1, .v (.ins "Machine" gs)] = .ret (.v (.bl true)) [.ol true p2, .v (.ins "Machine" gs)]) :
    f_law_right [.ol true p0] = .ret (.v (.bl true)) [.ol true p2] := by
  have ear := asRange_nat (show rs.length ≤ 100000 by omega)
  simp [f_law_right, m_law_right, e1, e2, e3, sh_rows, sizeLine_eq, ear]
  generalize hc : loopM _ _ _ _ = o
  obtain ⟨S', rfl, a4, h4, rfl⟩ := loop_same hc (fun S => ∃ a4 : Option RV, (a4.map RV.isPin).getD false = false ∧ S = [some (.ol true p1), some (.v (shD I O m (.lst (rs.map Row.D)))), some (.v (.ins "Machine" gs)), some (.v (.str z)), a4, none]) (by
    rintro d hd S ⟨a4, h4, rfl⟩
    obtain ⟨k, hk, rfl⟩ : ∃ k : Nat, k < rs.length ∧ d = .int (k : Nat) := by
      obtain ⟨k, hk, rfl⟩ := List.mem_map.mp hd
      exact ⟨k, List.mem_range.mp hk, by simp⟩
    refine ⟨[some (.ol true p1), some (.v (shD I O m (.lst (rs.map Row.D)))), some (.v (.ins "Machine" gs)), some (.v (.str z)), some (.v (.int (k : Nat))), none], ?_⟩
    simp [h4, sh_rows, ear]
    rw [compM_map (fun _ => .bl true) (fun d hd => by
      obtain ⟨j, hj, rfl⟩ : ∃ j : Nat, j < rs.length ∧ d = .int (j : Nat) := by
        obtain ⟨j, hj, rfl⟩ := List.mem_map.mp hd
        exact ⟨j, List.mem_range.mp hj, by simp⟩
      simp [CStep, wipeS, e4 k j hk hj]) (by rw [range_len, sizeLine_eq]; omega) rfl]
    simp [wipeS, restS, fAll_true]) ⟨none, rfl, rfl⟩
  simp [e5, e3, eq_str]
theorem right_ok {p : List DV} (hp : Pot p) : ∃ p', f_law_right [.ol true p] = .ret (.v (.bl true)) [.ol true p'] := by
  obtain ⟨I, O, m, rs, p1, i1, i4, o2, nI, nO, dI, dO, dj, m1, m2, ok, nd, r14, hp1, e1⟩ := sheet_ok hp (a := 4) (b := 2) (c := 2) (d := 14) (W := 2) (by omega) (by omega) (by omega) (by omega) (by omega) (by omega) (by omega)
  have g : GoodM I O m rs := ⟨i1, i4, by omega, nI, nO, dI, dO, dj, m1, by omega, ok, nd, by omega⟩
  obtain ⟨gs, eg, e2⟩ := rig_ok g
  obtain ⟨z, e3⟩ := mrepr_e g
  obtain ⟨p2, hp2, e5⟩ := wrong_ok g hp1
  have e4 : ∀ k j : Nat, k < rs.length → j < rs.length → f_law_two_right [.v (shD I O m (.lst (rs.map Row.D))), .v (mach I O m rs), .v (.int (k : Nat)), .v (.int (j : Nat))] = .ret (.v (.bl true)) [.v (shD I O m (.lst (rs.map Row.D))), .v (mach I O m rs), .v (.int (k : Nat)), .v (.int (j : Nat))] :=
    fun k j hk hj => two_right_ok g (List.getElem?_eq_getElem hk) (List.getElem?_eq_getElem hj)
  rw [eg] at e3 e4 e5
  exact ⟨p2, right_gen (by omega) e1 e2 e3 e4 e5⟩
/-! ### the law -/
theorem ix_scr (ns : List Int) {k : Nat} (h : k < ns.length) : fIxA (.scr ns) (.int (k : Nat)) = some (.v (.int ns[k])) := by
  have e : ixN ns.length (k : Int) = some k := by
    unfold ixN
    rw [if_pos (by omega), if_pos (by omega)]; simp
  show (L2.atI ns (k : Int)).map (fun n => RV.v (.int n)) = _
  unfold L2.atI
  rw [e]; simp [h]
theorem mul_small {a b : Int} (h : (smallI a || smallI b) = true) : fMulB (.int a) (.int b) = some (.v (.int (a * b))) := by
  show (if smallI a || smallI b then some (RV.v (.int (a * b))) else none) = _
  rw [h]; rfl
theorem pot_ok (ns : List Int) {k : Nat} (h : k < 4) : ∃ p, Pot p ∧ f_law_pot [.v (.scr ns), .v (.int (k : Nat))] = .ret (.ol false p) [.v (.scr ns), .v (.int (k : Nat))] := by
  have hp : fPow (.int 10) (.int 18) = some (.v (.int 1000000000000000000)) := by kernel_rfl
  have hm : ∀ a b : Int, fMax [.int a, .int b] = some (.v (.int (if b > a then b else a))) := fun _ _ => rfl
  have m1 : ∀ b : Int, fMulB (.int 53) (.int b) = some (.v (.int (53 * b))) := fun b => mul_small (by rw [show smallI 53 = true from by decide, Bool.true_or])
  have m2 : ∀ b : Int, fMulB (.int 60091) (.int b) = some (.v (.int (60091 * b))) := fun b => mul_small (by rw [show smallI 60091 = true from by decide, Bool.true_or])
  have m3 : ∀ b : Int, fMulB (.int b) (.int 48271) = some (.v (.int (b * 48271))) := fun b => mul_small (by rw [show smallI 48271 = true from by decide, Bool.or_true])
  have d1 : ∀ a : Int, fMod (.int a) (.int 2147483579) = some (.v (.int (a % 2147483579))) := fun a => modI (by decide)
  have d2 : ∀ a : Int, fMod (.int a) (.int 2147483563) = some (.v (.int (a % 2147483563))) := fun a => modI (by decide)
  suffices h : ∃ a b : Int, f_law_pot [.v (.scr ns), .v (.int (k : Nat))] = .ret (.ol false [.int a, .int b]) [.v (.scr ns), .v (.int (k : Nat))] by
    obtain ⟨a, b, e⟩ := h
    exact ⟨_, ⟨a, b, rfl⟩, e⟩
  by_cases hk : k < ns.length
  · have hk' : (k : Int) < ns.length := by omega
    simp [f_law_pot, m_law_pot, hk', hk, ix_scr ns hk, hp, hm, m2, m3, d1, d2, sizeLine_eq]
  · have hk' : ¬ ((k : Int) < ns.length) := by omega
    simp [f_law_pot, m_law_pot, hk', hk, hp, hm, m1, m2, m3, d1, d2, sizeLine_eq]
theorem pure_law (ns : List Int) (_ : ns.length ≤ 63) : ∃ outs, f_law [.v (.scr ns)] = .ret (.v (.bl true)) outs := by
  have hn : ∀ a b : Int, fMin [.int a, .int b] = some (.v (.int (if b < a then b else a))) := fun _ _ => rfl
  have hm : ∀ a b : Int, fMax [.int a, .int b] = some (.v (.int (if b > a then b else a))) := fun _ _ => rfl
  refine ⟨[.v (.scr ns)], ?_⟩
  obtain ⟨c, c4, ec⟩ : ∃ c : Nat, c ≤ 4 ∧ (if (if (4 : Int) < (ns.length : Nat) then (4 : Int) else (ns.length : Nat)) > 1 then (if (4 : Int) < (ns.length : Nat) then (4 : Int) else (ns.length : Nat)) else 1) = ((c : Nat) : Int) := by
    by_cases h1 : (4 : Int) < (ns.length : Nat)
    · exact ⟨4, by omega, by rw [if_pos h1]; rfl⟩
    · rw [if_neg h1]
      by_cases h2 : ((ns.length : Nat) : Int) > 1
      · exact ⟨ns.length, by omega, by rw [if_pos h2]⟩
      · exact ⟨1, by omega, by rw [if_neg h2]; rfl⟩
  have e1 : fMax [.int 1, .int (if (4 : Int) < (ns.length : Nat) then (4 : Int) else (ns.length : Nat))] = some (.v (.int ((c : Nat) : Int))) := by rw [hm, ec]
  have ear := asRange_nat (show c ≤ 100000 by omega)
  simp [f_law, m_law, hn, e1, ear]
  rw [compM_map (fun _ => .bl true) (fun d hd => by
    obtain ⟨k, hk, rfl⟩ : ∃ k : Nat, k < c ∧ d = .int (k : Nat) := by
      obtain ⟨k, hk, rfl⟩ := List.mem_map.mp hd
      exact ⟨k, List.mem_range.mp hk, by simp⟩
    obtain ⟨p, hp, ep⟩ := pot_ok ns (k := k) (by omega)
    obtain ⟨p', er⟩ := right_ok hp
    simp [CStep, wipeS, ep, er]) (by rw [range_len, sizeLine_eq]; omega) rfl]
  simp [wipeS, restS, fAll_true]
end Law
namespace Law
open PySem PySem.Spec PyProof.Rows L2 Lb
theorem fld_two (tab : List Str) (n : Str) (d : DV) : (∃ v, fld tab n d = M.pure v) ∨ fld tab n d = M.stuck := by
  unfold fld
  split
  · split
    · rename_i c fs _
      cases fs.lookup n with
      | none => exact .inr rfl
      | some v => exact .inl ⟨v, rfl⟩
    · exact .inr rfl
  · exact .inr rfl
@[simp ↓] theorem ev_stuck {α : Type} (S : Sl) : (M.stuck : M α) S = .stuck := rfl
section
variable (f c' : Addr) (q : Str) (σ : Sg) (Sd : List (Option DV)) (mb : M Opd)
theorem callM_at {S : Sl} (h : S[0]? = some (some (.v (.clo f c' q σ Sd)))) : callM 0 f c' q σ mb S = callL (runL mb Sd) S := by
  unfold callM
  rw [h]
  simp
@[simp] theorem callL_val (r : RV) (S : Sl) : callL (.val r) S = .ok (.v r) S := rfl
@[simp] theorem callL_exc (c : Str) (fs : List (Str × DV)) (S : Sl) : callL (.exc c fs) S = .exc c fs S := rfl
@[simp] theorem callL_stuck (S : Sl) : callL .stuck S = .stuck := rfl
theorem hF_law_met : (runDef (m_law_met (callM 0 f c' q σ mb)) 3 [.v (.clo f c' q σ Sd)]).ret0 = F_law_met (runL mb Sd) := by
  simp [F_law_met, m_law_met, callM_at]
  cases runL mb Sd with
  | stuck => rfl
  | val r => simp [FOut.ret0]
  | exc c fs =>
    simp [catchM, isFree, endH]
    cases ca_InvalidNumber_sub c with
    | none => rfl
    | some b =>
      cases b
      · simp [catchM, FOut.ret0]
      · rcases fld_two tabF_value "value" (.exn c fs) with ⟨v, e⟩ | e
        · simp [e]
          cases fRepr [v] with
          | none => rfl
          | some r => by_cases hp : r.isPin = true <;> simp [hp, FOut.ret0]
        · simp [e, FOut.ret0]
theorem hF_law_told : (runDef (m_law_told (callM 0 f c' q σ mb)) 3 [.v (.clo f c' q σ Sd)]).ret0 = F_law_told (runL mb Sd) := by
  simp [F_law_told, m_law_told, callM_at]
  cases runL mb Sd with
  | stuck => rfl
  | val r => cases r <;> simp [FOut.ret0, sizeLine_eq]
  | exc c fs =>
    simp [catchM, isFree, endH]
    cases ca_NotAgreeing_sub c with
    | none => rfl
    | some b =>
      cases b
      · simp [catchM]
        cases ca_InvalidNumber_sub c with
        | none => rfl
        | some b =>
          cases b
          · simp [catchM, FOut.ret0]
          · rcases fld_two tabF_value "value" (.exn c fs) with ⟨v, e⟩ | e
            · simp [e]
              cases fRepr [v] with
              | none => rfl
              | some r =>
                simp [sizeLine_eq]
                by_cases ht : c ∈ tabE <;> simp [ht, FOut.ret0]
            · simp [e, FOut.ret0]
      · rcases fld_two tabF_one "one" (.exn c fs) with ⟨v, e⟩ | e
        · rcases fld_two tabF_other "other" (.exn c fs) with ⟨v2, e2⟩ | e2
          · simp [e, e2, sizeLine_eq]
            by_cases ht : c ∈ tabE <;> simp [ht, FOut.ret0]
            by_cases hs : sub_StateError c = true <;> simp [hs, FOut.ret0]
          · simp [e, e2, FOut.ret0]
        · simp [e, FOut.ret0]
end
end Law
namespace Law
section
open PySem PySem.Spec PyProof.Rows L2 Lb
def sx_InvalidIns : Stmt := inClass (top 3) 0
theorem scx_InvalidIns : FnScope ["self", "position"] ["self", "position"] (defScope sx_InvalidIns) := ⟨rfl, rfl, rfl, by decide +kernel, rfl, by decide +kernel, by decide +kernel⟩
theorem kc_InvalidIns {P : Program} {w : World} {K : PySem.W.Frag} {mg : Mg} {base h : Heap} (KX : K.In h) (G : h.Ns mainGlobals mg) (e : ExcK K "InvalidIns" "InvalidIns.__init__" sx_InvalidIns "ValueError.__new__" [.type "ValueError", .type "Exception", .type "BaseException", .type "object"] ["position"]) : KC P w K mg base "InvalidIns" ["position"] :=
  kc_of KX G e PySem.F.excBase_ValueError PySem.F.store_ValueError (ps := ["self", "position"]) rfl (by decide) (fun F => init1 F scx_InvalidIns rfl fun _ _ _ _ _ _ => pss_one (ps_xst (pv 0) (pv 1)))
    (fun _ _ _ _ _ _ us hl => match us, hl with | [_, _], _ => rfl) (fun _ _ _ _ _ _ u ws hl => match ws, hl with | [_], _ => rfl) (fun _ _ _ _ _ _ u ws hl => match ws, hl with | [_], _ => rfl)
def sx_InvalidOuts : Stmt := inClass (top 4) 0
theorem scx_InvalidOuts : FnScope ["self", "position"] ["self", "position"] (defScope sx_InvalidOuts) := ⟨rfl, rfl, rfl, by decide +kernel, rfl, by decide +kernel, by decide +kernel⟩
theorem kc_InvalidOuts {P : Program} {w : World} {K : PySem.W.Frag} {mg : Mg} {base h : Heap} (KX : K.In h) (G : h.Ns mainGlobals mg) (e : ExcK K "InvalidOuts" "InvalidOuts.__init__" sx_InvalidOuts "ValueError.__new__" [.type "ValueError", .type "Exception", .type "BaseException", .type "object"] ["position"]) : KC P w K mg base "InvalidOuts" ["position"] :=
  kc_of KX G e PySem.F.excBase_ValueError PySem.F.store_ValueError (ps := ["self", "position"]) rfl (by decide) (fun F => init1 F scx_InvalidOuts rfl fun _ _ _ _ _ _ => pss_one (ps_xst (pv 0) (pv 1)))
    (fun _ _ _ _ _ _ us hl => match us, hl with | [_, _], _ => rfl) (fun _ _ _ _ _ _ u ws hl => match ws, hl with | [_], _ => rfl) (fun _ _ _ _ _ _ u ws hl => match ws, hl with | [_], _ => rfl)
def sx_InvalidStandings : Stmt := inClass (top 5) 0
theorem scx_InvalidStandings : FnScope ["self", "value"] ["self", "value"] (defScope sx_InvalidStandings) := ⟨rfl, rfl, rfl, by decide +kernel, rfl, by decide +kernel, by decide +kernel⟩
theorem kc_InvalidStandings {P : Program} {w : World} {K : PySem.W.Frag} {mg : Mg} {base h : Heap} (KX : K.In h) (G : h.Ns mainGlobals mg) (e : ExcK K "InvalidStandings" "InvalidStandings.__init__" sx_InvalidStandings "ValueError.__new__" [.type "ValueError", .type "Exception", .type "BaseException", .type "object"] ["value"]) : KC P w K mg base "InvalidStandings" ["value"] :=
  kc_of KX G e PySem.F.excBase_ValueError PySem.F.store_ValueError (ps := ["self", "value"]) rfl (by decide) (fun F => init1 F scx_InvalidStandings rfl fun _ _ _ _ _ _ => pss_one (ps_xst (pv 0) (pv 1)))
    (fun _ _ _ _ _ _ us hl => match us, hl with | [_, _], _ => rfl) (fun _ _ _ _ _ _ u ws hl => match ws, hl with | [_], _ => rfl) (fun _ _ _ _ _ _ u ws hl => match ws, hl with | [_], _ => rfl)
def sx_InvalidReactions : Stmt := inClass (top 6) 0
theorem scx_InvalidReactions : FnScope ["self", "position"] ["self", "position"] (defScope sx_InvalidReactions) := ⟨rfl, rfl, rfl, by decide +kernel, rfl, by decide +kernel, by decide +kernel⟩
theorem kc_InvalidReactions {P : Program} {w : World} {K : PySem.W.Frag} {mg : Mg} {base h : Heap} (KX : K.In h) (G : h.Ns mainGlobals mg) (e : ExcK K "InvalidReactions" "InvalidReactions.__init__" sx_InvalidReactions "ValueError.__new__" [.type "ValueError", .type "Exception", .type "BaseException", .type "object"] ["position"]) : KC P w K mg base "InvalidReactions" ["position"] :=
  kc_of KX G e PySem.F.excBase_ValueError PySem.F.store_ValueError (ps := ["self", "position"]) rfl (by decide) (fun F => init1 F scx_InvalidReactions rfl fun _ _ _ _ _ _ => pss_one (ps_xst (pv 0) (pv 1)))
    (fun _ _ _ _ _ _ us hl => match us, hl with | [_, _], _ => rfl) (fun _ _ _ _ _ _ u ws hl => match ws, hl with | [_], _ => rfl) (fun _ _ _ _ _ _ u ws hl => match ws, hl with | [_], _ => rfl)
def sx_InvalidNumber : Stmt := inClass (top 8) 0
theorem scx_InvalidNumber : FnScope ["self", "value"] ["self", "value"] (defScope sx_InvalidNumber) := ⟨rfl, rfl, rfl, by decide +kernel, rfl, by decide +kernel, by decide +kernel⟩
theorem kc_InvalidNumber {P : Program} {w : World} {K : PySem.W.Frag} {mg : Mg} {base h : Heap} (KX : K.In h) (G : h.Ns mainGlobals mg) (e : ExcK K "InvalidNumber" "InvalidNumber.__init__" sx_InvalidNumber "ValueError.__new__" [.type "ValueError", .type "Exception", .type "BaseException", .type "object"] ["value"]) : KC P w K mg base "InvalidNumber" ["value"] :=
  kc_of KX G e PySem.F.excBase_ValueError PySem.F.store_ValueError (ps := ["self", "value"]) rfl (by decide) (fun F => init1 F scx_InvalidNumber rfl fun _ _ _ _ _ _ => pss_one (ps_xst (pv 0) (pv 1)))
    (fun _ _ _ _ _ _ us hl => match us, hl with | [_, _], _ => rfl) (fun _ _ _ _ _ _ u ws hl => match ws, hl with | [_], _ => rfl) (fun _ _ _ _ _ _ u ws hl => match ws, hl with | [_], _ => rfl)
def sx_NotAgreeing : Stmt := inClass (top 12) 0
theorem scx_NotAgreeing : FnScope ["self", "one", "other"] ["self", "one", "other"] (defScope sx_NotAgreeing) := ⟨rfl, rfl, rfl, by decide +kernel, rfl, by decide +kernel, by decide +kernel⟩
theorem kc_NotAgreeing {P : Program} {w : World} {K : PySem.W.Frag} {mg : Mg} {base h : Heap} (KX : K.In h) (G : h.Ns mainGlobals mg) (e : ExcK K "NotAgreeing" "NotAgreeing.__init__" sx_NotAgreeing "RuntimeError.__new__" [.type "RuntimeError", .type "Exception", .type "BaseException", .type "object"] ["one", "other"]) : KC P w K mg base "NotAgreeing" ["one", "other"] :=
  kc_of KX G e PySem.F.excBase_RuntimeError PySem.F.store_RuntimeError (ps := ["self", "one", "other"]) rfl (by decide) (fun F => init2 F scx_NotAgreeing rfl fun _ _ _ _ _ _ => pss_cons (ps_xst (pv 0) (pv 1)) (pss_one (ps_xst (pv 0) (pv 2))))
    (fun _ _ _ _ _ _ us hl => match us, hl with | [_, _, _], _ => rfl) (fun _ _ _ _ _ _ u ws hl => match ws, hl with | [_, _], _ => rfl) (fun _ _ _ _ _ _ u ws hl => match ws, hl with | [_, _], _ => rfl)
def sx_TooMany : Stmt := inClass (top 14) 0
theorem scx_TooMany : FnScope ["self", "what", "limit"] ["self", "what", "limit"] (defScope sx_TooMany) := ⟨rfl, rfl, rfl, by decide +kernel, rfl, by decide +kernel, by decide +kernel⟩
theorem kc_TooMany {P : Program} {w : World} {K : PySem.W.Frag} {mg : Mg} {base h : Heap} (KX : K.In h) (G : h.Ns mainGlobals mg) (e : ExcK K "TooMany" "TooMany.__init__" sx_TooMany "ArithmeticError.__new__" [.type "ArithmeticError", .type "Exception", .type "BaseException", .type "object"] ["what", "limit"]) : KC P w K mg base "TooMany" ["what", "limit"] :=
  kc_of KX G e PySem.F.excBase_ArithmeticError PySem.F.store_ArithmeticError (ps := ["self", "what", "limit"]) rfl (by decide) (fun F => init2 F scx_TooMany rfl fun _ _ _ _ _ _ => pss_cons (ps_xst (pv 0) (pv 1)) (pss_one (ps_xst (pv 0) (pv 2))))
    (fun _ _ _ _ _ _ us hl => match us, hl with | [_, _, _], _ => rfl) (fun _ _ _ _ _ _ u ws hl => match ws, hl with | [_, _], _ => rfl) (fun _ _ _ _ _ _ u ws hl => match ws, hl with | [_, _], _ => rfl)
def hb0_0 (K : PySem.W.Frag) : List Bool := [
  excAllB K tabE,
  noLst K,
  tabsB K,
  He.eqO (PySem.W.nsIn K mainGlobals "divmod") (some none),
  He.eqO (PySem.W.nsIn K mainGlobals "int") (some none),
  He.eqO (PySem.W.nsIn K mainGlobals "max") (some none),
  He.eqO (PySem.W.nsIn K mainGlobals "min") (some none),
  He.eqO (PySem.W.nsIn K mainGlobals "abs") (some none),
  He.eqO (PySem.W.nsIn K mainGlobals "len") (some none),
  He.eqO (PySem.W.nsIn K mainGlobals "any") (some none),
  He.eqO (PySem.W.nsIn K mainGlobals "all") (some none),
  He.eqO (PySem.W.nsIn K mainGlobals "repr") (some none)]
def hb0_1 (K : PySem.W.Frag) : List Bool := [
  He.eqO (PySem.W.nsIn K mainGlobals "isinstance") (some none),
  He.eqO (PySem.W.nsIn K mainGlobals "range") (some none),
  He.eqO (PySem.W.nsIn K mainGlobals "enumerate") (some none),
  He.eqO (PySem.W.nsIn K mainGlobals "zip") (some none),
  He.eqO (PySem.W.nsIn K mainGlobals "list") (some none),
  He.eqO (PySem.W.nsIn K mainGlobals "tuple") (some none),
  He.eqO (PySem.W.nsIn K mainGlobals "dict") (some none)]
def hbs0 (K : PySem.W.Frag) : List Bool := hb0_0 K ++ hb0_1 K
def hB0 (K : PySem.W.Frag) : Bool := (hbs0 K).all fun z => z
def hb1_0 (K : PySem.W.Frag) : List Bool := [
  He.eqO (PySem.W.nsIn K mainGlobals "set") (some none),
  He.eqO (PySem.W.nsIn K mainGlobals "sorted") (some none),
  He.eqO (PySem.W.nsIn K mainGlobals "bool") (some none),
  He.eqO (PySem.W.nsIn K mainGlobals "str") (some none),
  excB K "InvalidIns" "ValueError.__new__" [.type "ValueError", .type "Exception", .type "BaseException", .type "object"] ["position"],
  excB K "InvalidOuts" "ValueError.__new__" [.type "ValueError", .type "Exception", .type "BaseException", .type "object"] ["position"],
  excB K "InvalidStandings" "ValueError.__new__" [.type "ValueError", .type "Exception", .type "BaseException", .type "object"] ["value"],
  excB K "InvalidReactions" "ValueError.__new__" [.type "ValueError", .type "Exception", .type "BaseException", .type "object"] ["position"],
  excB K "InvalidNumber" "ValueError.__new__" [.type "ValueError", .type "Exception", .type "BaseException", .type "object"] ["value"],
  excB K "NotAgreeing" "RuntimeError.__new__" [.type "RuntimeError", .type "Exception", .type "BaseException", .type "object"] ["one", "other"],
  excB K "TooMany" "ArithmeticError.__new__" [.type "ArithmeticError", .type "Exception", .type "BaseException", .type "object"] ["what", "limit"],
  kitOwnB K tabE "BeatError" sub_BeatError]
def hb1_1 (K : PySem.W.Frag) : List Bool := [
  kitBltB K tabE "RuntimeError" sub_RuntimeError,
  He.eqO (PySem.W.nsIn K mainGlobals "RuntimeError") (some none),
  kitOwnB K tabE "StateError" sub_StateError,
  caB K tabE "InvalidNumber" [("InvalidNumber" : Str)],
  caB K tabE "NotAgreeing" [("NotAgreeing" : Str)],
  fdB K tabF_one "one",
  fdB K tabF_other "other"]
def hbs1 (K : PySem.W.Frag) : List Bool := hb1_0 K ++ hb1_1 K
def hB1 (K : PySem.W.Frag) : Bool := (hbs1 K).all fun z => z
def hb2_0 (K : PySem.W.Frag) : List Bool := [
  fdB K tabF_value "value",
  (He.Fa.glo "Machine").ok K,
  (He.Fa.cls "Machine").ok K,
  ([("_ins" : Str), ("_outs" : Str), ("_standings" : Str), ("_rows" : Str)] : List Str).all fun f => (He.Fa.noat "Machine" f).ok K,
  cvalB K "Machine" "MOST_REACTIONS" 40,
  cvalB K "Machine" "MOST_STANDINGS" 12,
  (He.Fa.int "MOST_INS" 4).ok K,
  (He.Fa.int "MOST_LETTERS" 8).ok K,
  (He.Fa.int "MOST_OUTS" 3).ok K,
  (He.Fa.int "MOST_WORTH" 9).ok K,
  propB K "Machine" "ins",
  propB K "Machine" "outs"]
def hb2_1 (K : PySem.W.Frag) : List Bool := [
  (He.Fa.meth "Machine" "reactions").ok K,
  specB K "Machine" "__len__",
  specB K "Machine" "__repr__",
  specB K "Machine" "__getitem__",
  (He.Fa.mkr "Machine").ok K,
  lamB K "_law_two_right",
  lamB K "_law_wrong_right"]
def hbs2 (K : PySem.W.Frag) : List Bool := hb2_0 K ++ hb2_1 K
def hB2 (K : PySem.W.Frag) : Bool := (hbs2 K).all fun z => z
def hn0 : List PySem.Str := [
  ("_wall" : PySem.Str),
  ("BeatError" : PySem.Str),
  ("InvalidIns" : PySem.Str),
  ("InvalidOuts" : PySem.Str),
  ("InvalidStandings" : PySem.Str),
  ("InvalidReactions" : PySem.Str),
  ("InvalidReaction" : PySem.Str),
  ("InvalidNumber" : PySem.Str),
  ("InvalidStanding" : PySem.Str),
  ("StateError" : PySem.Str),
  ("SharedLine" : PySem.Str),
  ("NotAgreeing" : PySem.Str)]
def hn1 : List PySem.Str := [
  ("LimitError" : PySem.Str),
  ("TooMany" : PySem.Str),
  ("MOST_LETTERS" : PySem.Str),
  ("MOST_WORTH" : PySem.Str),
  ("is_integer" : PySem.Str),
  ("is_count" : PySem.Str),
  ("is_below" : PySem.Str),
  ("is_worth" : PySem.Str),
  ("is_name" : PySem.Str),
  ("is_list" : PySem.Str),
  ("is_tuple" : PySem.Str),
  ("is_line" : PySem.Str)]
def hn2 : List PySem.Str := [
  ("are_worths" : PySem.Str),
  ("check_number" : PySem.Str),
  ("check_standing" : PySem.Str),
  ("MOST_INS" : PySem.Str),
  ("MOST_OUTS" : PySem.Str),
  ("wrong_name" : PySem.Str),
  ("check_ins" : PySem.Str),
  ("check_outs" : PySem.Str),
  ("paired" : PySem.Str),
  ("packed" : PySem.Str),
  ("packed_all" : PySem.Str),
  ("Machine" : PySem.Str)]
def hn3 : List PySem.Str := [
  ("check_beside" : PySem.Str),
  ("do_agree" : PySem.Str),
  ("check_agreeing" : PySem.Str),
  ("heads" : PySem.Str),
  ("_law_pot" : PySem.Str),
  ("_law_draw" : PySem.Str),
  ("_law_pick" : PySem.Str),
  ("_law_names" : PySem.Str),
  ("_law_worths" : PySem.Str),
  ("_law_sheet" : PySem.Str),
  ("_law_row" : PySem.Str),
  ("_law_rig" : PySem.Str)]
def hn4 : List PySem.Str := [
  ("_law_told" : PySem.Str),
  ("_law_heads" : PySem.Str),
  ("_law_two_right" : PySem.Str),
  ("_law_met" : PySem.Str),
  ("_law_wrong_right" : PySem.Str),
  ("_law_right" : PySem.Str)]
def loose : List PySem.Str := hn0 ++ hn1 ++ hn2 ++ hn3 ++ hn4
def hf0_0 : List FnQ := [
  fnQ "InvalidIns" (.meth "__init__") "__init__" "InvalidIns.__init__" sx_InvalidIns,
  fnQ "InvalidOuts" (.meth "__init__") "__init__" "InvalidOuts.__init__" sx_InvalidOuts,
  fnQ "InvalidStandings" (.meth "__init__") "__init__" "InvalidStandings.__init__" sx_InvalidStandings,
  fnQ "InvalidReactions" (.meth "__init__") "__init__" "InvalidReactions.__init__" sx_InvalidReactions,
  fnQ "InvalidNumber" (.meth "__init__") "__init__" "InvalidNumber.__init__" sx_InvalidNumber,
  fnQ "NotAgreeing" (.meth "__init__") "__init__" "NotAgreeing.__init__" sx_NotAgreeing,
  fnQ "TooMany" (.meth "__init__") "__init__" "TooMany.__init__" sx_TooMany,
  fnQ "is_integer" .self "is_integer" "is_integer" s_is_integer,
  fnQ "is_name" .self "is_name" "is_name" s_is_name,
  fnQ "is_list" .self "is_list" "is_list" s_is_list,
  fnQ "is_tuple" .self "is_tuple" "is_tuple" s_is_tuple,
  fnQ "is_line" .self "is_line" "is_line" s_is_line]
def hf0_1 : List FnQ := [
  fnQ "paired" .self "paired" "paired" s_paired,
  fnQ "_law_pot" .self "_law_pot" "_law_pot" s_law_pot,
  fnQ "_law_draw" .self "_law_draw" "_law_draw" s_law_draw,
  fnQ "_law_told" .self "_law_told" "_law_told" s_law_told]
def fns0 : List FnQ := hf0_0 ++ hf0_1
def hf1_0 : List FnQ := [
  fnQ "_law_heads" .self "_law_heads" "_law_heads" s_law_heads,
  fnQ "_law_met" .self "_law_met" "_law_met" s_law_met,
  fnQ "Machine" (.prop "ins") "ins" "Machine.ins" s_Machine_ins,
  fnQ "Machine" (.prop "outs") "outs" "Machine.outs" s_Machine_outs,
  fnQ "Machine" (.meth "reactions") "reactions" "Machine.reactions" s_Machine_reactions,
  fnQ "Machine" (.meth "__len__") "__len__" "Machine.__len__" s_Machine___len__,
  fnQ "is_count" .self "is_count" "is_count" s_is_count,
  fnQ "wrong_name" .self "wrong_name" "wrong_name" s_wrong_name,
  fnQ "_law_pick" .self "_law_pick" "_law_pick" s_law_pick,
  fnQ "Machine" (.meth "__repr__") "__repr__" "Machine.__repr__" s_Machine___repr__,
  fnQ "is_below" .self "is_below" "is_below" s_is_below,
  fnQ "is_worth" .self "is_worth" "is_worth" s_is_worth]
def hf1_1 : List FnQ := [
  fnQ "check_ins" .self "check_ins" "check_ins" s_check_ins,
  fnQ "check_outs" .self "check_outs" "check_outs" s_check_outs,
  fnQ "_law_names" .self "_law_names" "_law_names" s_law_names,
  fnQ "_law_worths" .self "_law_worths" "_law_worths" s_law_worths]
def fns1 : List FnQ := hf1_0 ++ hf1_1
def hf2_0 : List FnQ := [
  fnQ "are_worths" .self "are_worths" "are_worths" s_are_worths,
  fnQ "check_number" .self "check_number" "check_number" s_check_number,
  fnQ "_law_row" .self "_law_row" "_law_row" s_law_row,
  fnQ "packed" .self "packed" "packed" s_packed,
  fnQ "_law_sheet" .self "_law_sheet" "_law_sheet" s_law_sheet,
  fnQ "Machine" (.meth "__getitem__") "__getitem__" "Machine.__getitem__" s_Machine___getitem__,
  fnQ "packed_all" .self "packed_all" "packed_all" s_packed_all,
  fnQ "do_agree" .self "do_agree" "do_agree" s_do_agree,
  fnQ "check_agreeing" .self "check_agreeing" "check_agreeing" s_check_agreeing,
  fnQ "Machine" (.meth "__init__") "__init__" "Machine.__init__" s_Machine___init__,
  fnQ "heads" .self "heads" "heads" s_heads,
  fnQ "_law_rig" .self "_law_rig" "_law_rig" s_law_rig]
def hf2_1 : List FnQ := [
  fnQ "_law_two_right" .self "_law_two_right" "_law_two_right" s_law_two_right,
  fnQ "_law_wrong_right" .self "_law_wrong_right" "_law_wrong_right" s_law_wrong_right,
  fnQ "_law_right" .self "_law_right" "_law_right" s_law_right,
  fnQ "law" .self "law" "law" s_law]
def fns2 : List FnQ := hf2_0 ++ hf2_1
def ads : List Addr := mainGlobals :: cStatics :: List.range' 11 1289
def hB : PySem.W.Frag → Bool := (fun K => hB0 K && (fun K => hB1 K && hB2 K) K)
def fns : List FnQ := (fns0 ++ (fns1 ++ fns2))
abbrev R : PySem.W.OpenRow := PySem.W.OpenLaw.row PySem.Challenge.rw_loosebeats_k15_whole_reactions_that_agre
def qv : Program := PySem.W.view R.prog [59]
abbrev hk : PySem.W.Hook := hookQ ads hB fns
def ob (s : PySem.W.SharedT) : AlQ := lookA ads hB fns (HandSHeadRun.getT s)
theorem ob_eq (s : PySem.W.SharedT) : ob s = hk.obs s.abs := lookA_eq (HandSHeadRun.getT_eq s)
theorem the_law {P : Program} {w : World} {K : PySem.W.Frag} {mg : Mg} {h : Heap} (KX : K.In h) (G : h.Ns mainGlobals mg) (c : SaysQ hB fns K) {fa : Addr} (hfa : mg "law" = some (.ref fa)) :
    ∃ fd : FuncData, (∀ (s : Shared) (u : Value), BindsTo s fd ⟨[u], []⟩ [("_law_script", u)]) ∧ ∀ base : Heap, K.In base → base.Ns mainGlobals mg → (∃ o, base.get? sysModules = some o) → (∀ p ∈ tblsOf K, base.BuiltinsAt mg p.1 ∧ mainGlobals ≠ p.1) → FnG P w K mg base (L2.CX P w) 14 fa fd ["_law_script"] (spM K mg f_law 1) := by
  obtain ⟨f, fd, hn, FL⟩ := c.defk 47 (x := "law") rfl
  have e := hfa.symm.trans (PySem.W.mg_of KX G hn)
  cases e
  refine ⟨fd, fun s u => ?_, fun base KB GB hsys hbt => ?_⟩
  · obtain ⟨oc, od, kV, doc, pm, an, cdv, ct, osl, rfl, lk, hcd⟩ := FL.ex
    exact .of_eq rfl
  obtain ⟨t0, u0⟩ := He.ba c.truth
  obtain ⟨t1, u1⟩ := He.ba u0
  have t2 := u1
  have T : Bt mg := ⟨PySem.W.mg_none_of KX G (He.eqO_ok (all_at t0 3 rfl)), PySem.W.mg_none_of KX G (He.eqO_ok (all_at t0 4 rfl)), PySem.W.mg_none_of KX G (He.eqO_ok (all_at t0 5 rfl)), PySem.W.mg_none_of KX G (He.eqO_ok (all_at t0 6 rfl)), PySem.W.mg_none_of KX G (He.eqO_ok (all_at t0 7 rfl)), PySem.W.mg_none_of KX G (He.eqO_ok (all_at t0 8 rfl)), PySem.W.mg_none_of KX G (He.eqO_ok (all_at t0 9 rfl)), PySem.W.mg_none_of KX G (He.eqO_ok (all_at t0 10 rfl)), PySem.W.mg_none_of KX G (He.eqO_ok (all_at t0 11 rfl)), PySem.W.mg_none_of KX G (He.eqO_ok (all_at t0 12 rfl)), PySem.W.mg_none_of KX G (He.eqO_ok (all_at t0 13 rfl)), PySem.W.mg_none_of KX G (He.eqO_ok (all_at t0 14 rfl)), PySem.W.mg_none_of KX G (He.eqO_ok (all_at t0 15 rfl)), PySem.W.mg_none_of KX G (He.eqO_ok (all_at t0 16 rfl)), PySem.W.mg_none_of KX G (He.eqO_ok (all_at t0 17 rfl)), PySem.W.mg_none_of KX G (He.eqO_ok (all_at t0 18 rfl)), PySem.W.mg_none_of KX G (He.eqO_ok (all_at t1 0 rfl)), PySem.W.mg_none_of KX G (He.eqO_ok (all_at t1 1 rfl)), PySem.W.mg_none_of KX G (He.eqO_ok (all_at t1 2 rfl)), PySem.W.mg_none_of KX G (He.eqO_ok (all_at t1 3 rfl))⟩
  have c_InvalidIns : KC P w K mg base "InvalidIns" ["position"] := kc_InvalidIns KX G (c.exck 0 (all_at t1 4 rfl) rfl)
  have c_InvalidOuts : KC P w K mg base "InvalidOuts" ["position"] := kc_InvalidOuts KX G (c.exck 1 (all_at t1 5 rfl) rfl)
  have c_InvalidStandings : KC P w K mg base "InvalidStandings" ["value"] := kc_InvalidStandings KX G (c.exck 2 (all_at t1 6 rfl) rfl)
  have c_InvalidReactions : KC P w K mg base "InvalidReactions" ["position"] := kc_InvalidReactions KX G (c.exck 3 (all_at t1 7 rfl) rfl)
  have c_InvalidNumber : KC P w K mg base "InvalidNumber" ["value"] := kc_InvalidNumber KX G (c.exck 4 (all_at t1 8 rfl) rfl)
  have c_NotAgreeing : KC P w K mg base "NotAgreeing" ["one", "other"] := kc_NotAgreeing KX G (c.exck 5 (all_at t1 9 rfl) rfl)
  have c_TooMany : KC P w K mg base "TooMany" ["what", "limit"] := kc_TooMany KX G (c.exck 6 (all_at t1 10 rfl) rfl)
  have is_BeatError : IsA K mg tabE "BeatError" sub_BeatError := isa_own KX G (isOwnB_of (all_at t0 0 rfl) (all_at t1 11 rfl))
  have is_RuntimeError : IsA K mg tabE "RuntimeError" sub_RuntimeError := isa_blt KX G (isBltB_of (all_at t0 0 rfl) (all_at t1 12 rfl)) (He.eqO_ok (all_at t1 13 rfl)) (by decide +kernel)
  have is_StateError : IsA K mg tabE "StateError" sub_StateError := isa_own KX G (isOwnB_of (all_at t0 0 rfl) (all_at t1 14 rfl))
  have ca_InvalidNumber : CaA K mg "InvalidNumber" ca_InvalidNumber_sub := ca_of KX G (all_at t1 15 rfl)
  have ca_NotAgreeing : CaA K mg "NotAgreeing" ca_NotAgreeing_sub := ca_of KX G (all_at t1 16 rfl)
  have fd_one : FdA K mg tabF_one "one" := fd_of KX G (all_at t1 17 rfl)
  have fd_other : FdA K mg tabF_other "other" := fd_of KX G (all_at t1 18 rfl)
  have fd_value : FdA K mg tabF_value "value" := fd_of KX G (all_at t2 0 rfl)
  have ki_Machine : KI K mg "Machine" ["_ins", "_outs", "_standings", "_rows"] := ki_of KX G (all_at t2 1 rfl) (all_at t2 2 rfl) (all_at t2 3 rfl)
  have v_Machine_MOST_REACTIONS : KVal K mg "Machine" "MOST_REACTIONS" 40 := kval_of KX G (all_at t2 1 rfl) (all_at t2 4 rfl)
  have v_Machine_MOST_STANDINGS : KVal K mg "Machine" "MOST_STANDINGS" 12 := kval_of KX G (all_at t2 1 rfl) (all_at t2 5 rfl)
  have g_MOST_INS : KGi mg "MOST_INS" 4 := kgi_of KX G (all_at t2 6 rfl)
  have g_MOST_LETTERS : KGi mg "MOST_LETTERS" 8 := kgi_of KX G (all_at t2 7 rfl)
  have g_MOST_OUTS : KGi mg "MOST_OUTS" 3 := kgi_of KX G (all_at t2 8 rfl)
  have g_MOST_WORTH : KGi mg "MOST_WORTH" 9 := kgi_of KX G (all_at t2 9 rfl)
  have c_is_integer : KD P w K mg base "is_integer" f_is_integer ["value"] 1 := by
    obtain ⟨f, fd, hn, F⟩ := c.defk 7 rfl
    exact kd_mk F sc_is_integer (PySem.W.mg_of KX G hn) (F.binds fun _ _ _ _ _ _ us hl => match us, hl with | [_], _ => rfl) (fun cdv A outer s H E hr hgd => b_is_integer T cdv A outer s H E hr hgd)
  have c_is_name : KD P w K mg base "is_name" f_is_name ["value"] 1 := by
    obtain ⟨f, fd, hn, F⟩ := c.defk 8 rfl
    exact kd_mk F sc_is_name (PySem.W.mg_of KX G hn) (F.binds fun _ _ _ _ _ _ us hl => match us, hl with | [_], _ => rfl) (fun cdv A outer s H E hr hgd => b_is_name T g_MOST_LETTERS cdv A outer s H E hr hgd)
  have c_is_list : KD P w K mg base "is_list" f_is_list ["value"] 1 := by
    obtain ⟨f, fd, hn, F⟩ := c.defk 9 rfl
    exact kd_mk F sc_is_list (PySem.W.mg_of KX G hn) (F.binds fun _ _ _ _ _ _ us hl => match us, hl with | [_], _ => rfl) (fun cdv A outer s H E hr hgd => b_is_list T cdv A outer s H E hr hgd)
  have c_is_tuple : KD P w K mg base "is_tuple" f_is_tuple ["value", "many"] 1 := by
    obtain ⟨f, fd, hn, F⟩ := c.defk 10 rfl
    exact kd_mk F sc_is_tuple (PySem.W.mg_of KX G hn) (F.binds fun _ _ _ _ _ _ us hl => match us, hl with | [_, _], _ => rfl) (fun cdv A outer s H E hr hgd => b_is_tuple T cdv A outer s H E hr hgd)
  have c_is_line : KD P w K mg base "is_line" f_is_line ["value", "lines"] 1 := by
    obtain ⟨f, fd, hn, F⟩ := c.defk 11 rfl
    exact kd_mk F sc_is_line (PySem.W.mg_of KX G hn) (F.binds fun _ _ _ _ _ _ us hl => match us, hl with | [_, _], _ => rfl) (fun cdv A outer s H E hr hgd => b_is_line T cdv A outer s H E hr hgd)
  have c_paired : KD P w K mg base "paired" f_paired ["worths", "lines"] 1 := by
    obtain ⟨f, fd, hn, F⟩ := c.defk 12 rfl
    exact kd_mk F sc_paired (PySem.W.mg_of KX G hn) (F.binds fun _ _ _ _ _ _ us hl => match us, hl with | [_, _], _ => rfl) (fun cdv A outer s H E hr hgd => b_paired T cdv A outer s H E hr hgd)
  have c_law_pot : KD P w K mg base "_law_pot" f_law_pot ["_law_script", "_law_k"] 1 := by
    obtain ⟨f, fd, hn, F⟩ := c.defk 13 rfl
    exact kd_mk F sc_law_pot (PySem.W.mg_of KX G hn) (F.binds fun _ _ _ _ _ _ us hl => match us, hl with | [_, _], _ => rfl) (fun cdv A outer s H E hr hgd => b_law_pot T cdv A outer s H E hr hgd)
  have c_law_draw : KD P w K mg base "_law_draw" f_law_draw ["_law_pot_here", "_law_many"] 1 := by
    obtain ⟨f, fd, hn, F⟩ := c.defk 14 rfl
    exact kd_mk F sc_law_draw (PySem.W.mg_of KX G hn) (F.binds fun _ _ _ _ _ _ us hl => match us, hl with | [_, _], _ => rfl) (fun cdv A outer s H E hr hgd => b_law_draw T cdv A outer s H E hr hgd)
  have kl_law_told : ∀ k, 0 ≤ k → KL P w K mg base "_law_told" F_law_told k := fun k hk => by
    obtain ⟨f, fd, hn, F⟩ := c.defk 15 rfl
    exact kl_of F sc_law_told (PySem.W.mg_of KX G hn) (F.binds fun _ _ _ _ _ _ us hl => match us, hl with | [_], _ => rfl) rfl (by first | exact Or.inl rfl | exact Or.inr (Or.inl rfl)) (by decide) (by decide) (fun cdv A outer s H E cm hr hgd hcm => b_law_told T is_BeatError is_RuntimeError is_StateError fd_one fd_other fd_value ca_InvalidNumber ca_NotAgreeing hsys cdv A outer s H E cm hk hr hgd hcm) hF_law_told
  have c_law_heads : KD P w K mg base "_law_heads" f_law_heads ["_law_sheet_here", "_law_k", "_law_j"] 1 := by
    obtain ⟨f, fd, hn, F⟩ := c.defk 16 rfl
    exact kd_mk F sc_law_heads (PySem.W.mg_of KX G hn) (F.binds fun _ _ _ _ _ _ us hl => match us, hl with | [_, _, _], _ => rfl) (fun cdv A outer s H E hr hgd => b_law_heads T cdv A outer s H E hr hgd)
  have kl_law_met : ∀ k, 0 ≤ k → KL P w K mg base "_law_met" F_law_met k := fun k hk => by
    obtain ⟨f, fd, hn, F⟩ := c.defk 17 rfl
    exact kl_of F sc_law_met (PySem.W.mg_of KX G hn) (F.binds fun _ _ _ _ _ _ us hl => match us, hl with | [_], _ => rfl) rfl (by first | exact Or.inl rfl | exact Or.inr (Or.inl rfl)) (by decide) (by decide) (fun cdv A outer s H E cm hr hgd hcm => b_law_met T fd_value ca_InvalidNumber hsys cdv A outer s H E cm hk hr hgd hcm) hF_law_met
  have cp_Machine_ins : KP P w K mg base "Machine" "ins" f_Machine_ins ["self"] 1 := by
    obtain ⟨fd, F⟩ := c.fun_ 18 (x := "Machine") (w := .prop "ins") rfl
    exact kp_of KX G (all_at t2 1 rfl) (all_at t2 2 rfl) (all_at t2 10 rfl) (fn_mk F sc_Machine_ins (fun cdv A outer s H E hr hgd => b_Machine_ins T ki_Machine cdv A outer s H E hr hgd)) (F.binds fun _ _ _ _ _ _ us hl => match us, hl with | [_], _ => rfl)
  have cp_Machine_outs : KP P w K mg base "Machine" "outs" f_Machine_outs ["self"] 1 := by
    obtain ⟨fd, F⟩ := c.fun_ 19 (x := "Machine") (w := .prop "outs") rfl
    exact kp_of KX G (all_at t2 1 rfl) (all_at t2 2 rfl) (all_at t2 11 rfl) (fn_mk F sc_Machine_outs (fun cdv A outer s H E hr hgd => b_Machine_outs T ki_Machine cdv A outer s H E hr hgd)) (F.binds fun _ _ _ _ _ _ us hl => match us, hl with | [_], _ => rfl)
  have cm_Machine_reactions : KM P w K mg base "Machine" "reactions" f_Machine_reactions ["self"] 1 := by
    obtain ⟨fd, F⟩ := c.fun_ 20 (x := "Machine") (w := .meth "reactions") rfl
    exact km_of KX G (all_at t2 1 rfl) (all_at t2 2 rfl) (all_at t2 12 rfl) (fn_mk F sc_Machine_reactions (fun cdv A outer s H E hr hgd => b_Machine_reactions T ki_Machine cdv A outer s H E hr hgd)) (F.binds fun _ _ _ _ _ _ us hl => match us, hl with | [_], _ => rfl)
  have cs_Machine___len__ : KS P w K mg base "Machine" "__len__" f_Machine___len__ ["self"] 1 := by
    obtain ⟨fd, F⟩ := c.fun_ 21 (x := "Machine") (w := .meth "__len__") rfl
    exact ks_of KX G (all_at t2 1 rfl) (all_at t2 2 rfl) (all_at t2 13 rfl) (fn_mk F sc_Machine___len__ (fun cdv A outer s H E hr hgd => b_Machine___len__ T ki_Machine cdv A outer s H E hr hgd)) (F.binds fun _ _ _ _ _ _ us hl => match us, hl with | [_], _ => rfl)
  have c_is_count : KD P w K mg base "is_count" f_is_count ["value"] 2 := by
    obtain ⟨f, fd, hn, F⟩ := c.defk 22 rfl
    exact kd_mk F sc_is_count (PySem.W.mg_of KX G hn) (F.binds fun _ _ _ _ _ _ us hl => match us, hl with | [_], _ => rfl) (fun cdv A outer s H E hr hgd => b_is_count T c_is_integer cdv A outer s H E hr hgd)
  have c_wrong_name : KD P w K mg base "wrong_name" f_wrong_name ["names", "barred"] 2 := by
    obtain ⟨f, fd, hn, F⟩ := c.defk 23 rfl
    exact kd_mk F sc_wrong_name (PySem.W.mg_of KX G hn) (F.binds fun _ _ _ _ _ _ us hl => match us, hl with | [_, _], _ => rfl) (fun cdv A outer s H E hr hgd => b_wrong_name T c_is_name cdv A outer s H E hr hgd)
  have c_law_pick : KD P w K mg base "_law_pick" f_law_pick ["_law_pot_here", "_law_some"] 2 := by
    obtain ⟨f, fd, hn, F⟩ := c.defk 24 rfl
    exact kd_mk F sc_law_pick (PySem.W.mg_of KX G hn) (F.binds fun _ _ _ _ _ _ us hl => match us, hl with | [_, _], _ => rfl) (fun cdv A outer s H E hr hgd => b_law_pick T c_law_draw cdv A outer s H E hr hgd)
  have cs_Machine___repr__ : KS P w K mg base "Machine" "__repr__" f_Machine___repr__ ["self"] 3 := by
    obtain ⟨fd, F⟩ := c.fun_ 25 (x := "Machine") (w := .meth "__repr__") rfl
    exact ks_of KX G (all_at t2 1 rfl) (all_at t2 2 rfl) (all_at t2 14 rfl) (fn_mk F sc_Machine___repr__ (fun cdv A outer s H E hr hgd => b_Machine___repr__ T cp_Machine_ins cp_Machine_outs cm_Machine_reactions ki_Machine hsys cdv A outer s H E hr hgd)) (F.binds fun _ _ _ _ _ _ us hl => match us, hl with | [_], _ => rfl)
  have c_is_below : KD P w K mg base "is_below" f_is_below ["value", "limit"] 3 := by
    obtain ⟨f, fd, hn, F⟩ := c.defk 26 rfl
    exact kd_mk F sc_is_below (PySem.W.mg_of KX G hn) (F.binds fun _ _ _ _ _ _ us hl => match us, hl with | [_, _], _ => rfl) (fun cdv A outer s H E hr hgd => b_is_below T c_is_count cdv A outer s H E hr hgd)
  have c_is_worth : KD P w K mg base "is_worth" f_is_worth ["value"] 3 := by
    obtain ⟨f, fd, hn, F⟩ := c.defk 27 rfl
    exact kd_mk F sc_is_worth (PySem.W.mg_of KX G hn) (F.binds fun _ _ _ _ _ _ us hl => match us, hl with | [_], _ => rfl) (fun cdv A outer s H E hr hgd => b_is_worth T c_is_count g_MOST_WORTH cdv A outer s H E hr hgd)
  have c_check_ins : KD P w K mg base "check_ins" f_check_ins ["ins"] 3 := by
    obtain ⟨f, fd, hn, F⟩ := c.defk 28 rfl
    exact kd_mk F sc_check_ins (PySem.W.mg_of KX G hn) (F.binds fun _ _ _ _ _ _ us hl => match us, hl with | [_], _ => rfl) (fun cdv A outer s H E hr hgd => b_check_ins T c_is_list c_wrong_name c_InvalidIns c_TooMany g_MOST_INS cdv A outer s H E hr hgd)
  have c_check_outs : KD P w K mg base "check_outs" f_check_outs ["ins", "outs"] 3 := by
    obtain ⟨f, fd, hn, F⟩ := c.defk 29 rfl
    exact kd_mk F sc_check_outs (PySem.W.mg_of KX G hn) (F.binds fun _ _ _ _ _ _ us hl => match us, hl with | [_, _], _ => rfl) (fun cdv A outer s H E hr hgd => b_check_outs T c_is_list c_wrong_name c_InvalidOuts c_TooMany g_MOST_OUTS cdv A outer s H E hr hgd)
  have c_law_names : KD P w K mg base "_law_names" f_law_names ["_law_pot_here", "_law_many", "_law_taken"] 3 := by
    obtain ⟨f, fd, hn, F⟩ := c.defk 30 rfl
    exact kd_mk F sc_law_names (PySem.W.mg_of KX G hn) (F.binds fun _ _ _ _ _ _ us hl => match us, hl with | [_, _, _], _ => rfl) (fun cdv A outer s H E hr hgd => b_law_names T c_law_draw c_law_pick cdv A outer s H E hr hgd)
  have c_law_worths : KD P w K mg base "_law_worths" f_law_worths ["_law_pot_here", "_law_lines", "_law_worths_here", "_law_least"] 3 := by
    obtain ⟨f, fd, hn, F⟩ := c.defk 31 rfl
    exact kd_mk F sc_law_worths (PySem.W.mg_of KX G hn) (F.binds fun _ _ _ _ _ _ us hl => match us, hl with | [_, _, _, _], _ => rfl) (fun cdv A outer s H E hr hgd => b_law_worths T c_law_draw c_law_pick cdv A outer s H E hr hgd)
  have c_are_worths : KD P w K mg base "are_worths" f_are_worths ["value", "lines"] 4 := by
    obtain ⟨f, fd, hn, F⟩ := c.defk 32 rfl
    exact kd_mk F sc_are_worths (PySem.W.mg_of KX G hn) (F.binds fun _ _ _ _ _ _ us hl => match us, hl with | [_, _], _ => rfl) (fun cdv A outer s H E hr hgd => b_are_worths T c_is_line c_is_worth cdv A outer s H E hr hgd)
  have c_check_number : KD P w K mg base "check_number" f_check_number ["machine", "number"] 4 := by
    obtain ⟨f, fd, hn, F⟩ := c.defk 33 rfl
    exact kd_mk F sc_check_number (PySem.W.mg_of KX G hn) (F.binds fun _ _ _ _ _ _ us hl => match us, hl with | [_, _], _ => rfl) (fun cdv A outer s H E hr hgd => b_check_number T cs_Machine___len__ c_is_below c_InvalidNumber cdv A outer s H E hr hgd)
  have c_law_row : KD P w K mg base "_law_row" f_law_row ["_law_pot_here", "_law_sheet_here", "_law_worths_here"] 4 := by
    obtain ⟨f, fd, hn, F⟩ := c.defk 34 rfl
    exact kd_mk F sc_law_row (PySem.W.mg_of KX G hn) (F.binds fun _ _ _ _ _ _ us hl => match us, hl with | [_, _, _], _ => rfl) (fun cdv A outer s H E hr hgd => b_law_row T c_law_draw c_law_worths cdv A outer s H E hr hgd)
  have c_packed : KD P w K mg base "packed" f_packed ["value", "ins", "outs", "standings"] 5 := by
    obtain ⟨f, fd, hn, F⟩ := c.defk 35 rfl
    exact kd_mk F sc_packed (PySem.W.mg_of KX G hn) (F.binds fun _ _ _ _ _ _ us hl => match us, hl with | [_, _, _, _], _ => rfl) (fun cdv A outer s H E hr hgd => b_packed T c_are_worths c_is_below c_is_tuple c_paired cdv A outer s H E hr hgd)
  have c_law_sheet : KD P w K mg base "_law_sheet" f_law_sheet ["_law_pot_here", "_law_sizes", "_law_worths_here"] 5 := by
    obtain ⟨f, fd, hn, F⟩ := c.defk 36 rfl
    exact kd_mk F sc_law_sheet (PySem.W.mg_of KX G hn) (F.binds fun _ _ _ _ _ _ us hl => match us, hl with | [_, _, _], _ => rfl) (fun cdv A outer s H E hr hgd => b_law_sheet T c_law_draw c_law_names c_law_row cdv A outer s H E hr hgd)
  have cs_Machine___getitem__ : KS P w K mg base "Machine" "__getitem__" f_Machine___getitem__ ["self", "at"] 5 := by
    obtain ⟨fd, F⟩ := c.fun_ 37 (x := "Machine") (w := .meth "__getitem__") rfl
    exact ks_of KX G (all_at t2 1 rfl) (all_at t2 2 rfl) (all_at t2 15 rfl) (fn_mk F sc_Machine___getitem__ (fun cdv A outer s H E hr hgd => b_Machine___getitem__ T c_check_number ki_Machine cdv A outer s H E hr hgd)) (F.binds fun _ _ _ _ _ _ us hl => match us, hl with | [_, _], _ => rfl)
  have c_packed_all : KD P w K mg base "packed_all" f_packed_all ["reactions", "ins", "outs", "standings", "limit"] 6 := by
    obtain ⟨f, fd, hn, F⟩ := c.defk 38 rfl
    exact kd_mk F sc_packed_all (PySem.W.mg_of KX G hn) (F.binds fun _ _ _ _ _ _ us hl => match us, hl with | [_, _, _, _, _], _ => rfl) (fun cdv A outer s H E hr hgd => b_packed_all T c_is_list c_packed c_InvalidReactions c_TooMany cdv A outer s H E hr hgd)
  have c_do_agree : KD P w K mg base "do_agree" f_do_agree ["machine", "one", "other"] 7 := by
    obtain ⟨f, fd, hn, F⟩ := c.defk 39 rfl
    exact kd_mk F sc_do_agree (PySem.W.mg_of KX G hn) (F.binds fun _ _ _ _ _ _ us hl => match us, hl with | [_, _, _], _ => rfl) (fun cdv A outer s H E hr hgd => b_do_agree T cs_Machine___getitem__ cdv A outer s H E hr hgd)
  have kk_do_agree_210 : KDK P w K mg base "do_agree" f_do_agree ["machine", "one", "other"] 7 ["other", "one", "machine"] [2, 1, 0] := by
    obtain ⟨f, fd, hn, F⟩ := c.defk 39 rfl
    exact kdk_of (PySem.W.mg_of KX G hn) (fn_mk F sc_do_agree (fun cdv A outer s H E hr hgd => b_do_agree T cs_Machine___getitem__ cdv A outer s H E hr hgd)) F (fun _ _ _ _ _ _ ws hl => match ws, hl with | [_, _, _], _ => rfl)
  have c_check_agreeing : KD P w K mg base "check_agreeing" f_check_agreeing ["machine", "one", "other"] 8 := by
    obtain ⟨f, fd, hn, F⟩ := c.defk 40 rfl
    exact kd_mk F sc_check_agreeing (PySem.W.mg_of KX G hn) (F.binds fun _ _ _ _ _ _ us hl => match us, hl with | [_, _, _], _ => rfl) (fun cdv A outer s H E hr hgd => b_check_agreeing T c_do_agree c_NotAgreeing cdv A outer s H E hr hgd)
  have ci_Machine___init__ : KMk P w K mg base "Machine" f_Machine___init__ ["self", "ins", "outs", "standings", "reactions"] 7 := by
    obtain ⟨fd, F⟩ := c.fun_ 41 (x := "Machine") (w := .meth "__init__") rfl
    exact kmk_of KX G (all_at t2 1 rfl) (all_at t2 16 rfl) (fn_mk F sc_Machine___init__ (fun cdv A outer s H E hr hgd => b_Machine___init__ T c_check_ins c_check_outs c_is_integer c_packed_all ki_Machine v_Machine_MOST_REACTIONS v_Machine_MOST_STANDINGS c_InvalidStandings cdv A outer s H E hr hgd)) (F.binds fun _ _ _ _ _ _ us hl => match us, hl with | [_, _, _, _, _], _ => rfl)
  have c_heads : KD P w K mg base "heads" f_heads ["machine", "one", "other"] 9 := by
    obtain ⟨f, fd, hn, F⟩ := c.defk 42 rfl
    exact kd_mk F sc_heads (PySem.W.mg_of KX G hn) (F.binds fun _ _ _ _ _ _ us hl => match us, hl with | [_, _, _], _ => rfl) (fun cdv A outer s H E hr hgd => b_heads T cs_Machine___getitem__ cp_Machine_ins c_check_agreeing cdv A outer s H E hr hgd)
  have kk_heads_210 : KDK P w K mg base "heads" f_heads ["machine", "one", "other"] 9 ["other", "one", "machine"] [2, 1, 0] := by
    obtain ⟨f, fd, hn, F⟩ := c.defk 42 rfl
    exact kdk_of (PySem.W.mg_of KX G hn) (fn_mk F sc_heads (fun cdv A outer s H E hr hgd => b_heads T cs_Machine___getitem__ cp_Machine_ins c_check_agreeing cdv A outer s H E hr hgd)) F (fun _ _ _ _ _ _ ws hl => match ws, hl with | [_, _, _], _ => rfl)
  have c_law_rig : KD P w K mg base "_law_rig" f_law_rig ["_law_sheet_here"] 9 := by
    obtain ⟨f, fd, hn, F⟩ := c.defk 43 rfl
    exact kd_mk F sc_law_rig (PySem.W.mg_of KX G hn) (F.binds fun _ _ _ _ _ _ us hl => match us, hl with | [_], _ => rfl) (fun cdv A outer s H E hr hgd => b_law_rig T ci_Machine___init__ cdv A outer s H E hr hgd)
  have c_law_two_right : KD P w K mg base "_law_two_right" f_law_two_right ["_law_sheet_here", "_law_rig_here", "_law_k", "_law_j"] 12 := by
    obtain ⟨f, fd, hn, F⟩ := c.defk 44 rfl
    exact kd_mkC F sc_law_two_right (PySem.W.mg_of KX G hn) (F.binds fun _ _ _ _ _ _ us hl => match us, hl with | [_, _, _, _], _ => rfl) (fun cdv hc => lamC_of KB GB hbt (all_at t2 17 rfl) F (PySem.W.mg_of KX G hn) hc) (fun cdv A outer s H E lc hr hgd => b_law_two_right T kl_law_told lc c_law_heads c_do_agree c_heads kk_heads_210 kk_do_agree_210 hsys A outer s H E hr hgd)
  have c_law_wrong_right : KD P w K mg base "_law_wrong_right" f_law_wrong_right ["_law_pot_here", "_law_rig_here"] 12 := by
    obtain ⟨f, fd, hn, F⟩ := c.defk 45 rfl
    exact kd_mkC F sc_law_wrong_right (PySem.W.mg_of KX G hn) (F.binds fun _ _ _ _ _ _ us hl => match us, hl with | [_, _], _ => rfl) (fun cdv hc => lamC_of KB GB hbt (all_at t2 18 rfl) F (PySem.W.mg_of KX G hn) hc) (fun cdv A outer s H E lc hr hgd => b_law_wrong_right T kl_law_met lc cs_Machine___len__ c_law_draw c_law_pick c_do_agree c_heads kk_heads_210 hsys A outer s H E hr hgd)
  have c_law_right : KD P w K mg base "_law_right" f_law_right ["_law_pot_here"] 13 := by
    obtain ⟨f, fd, hn, F⟩ := c.defk 46 rfl
    exact kd_mk F sc_law_right (PySem.W.mg_of KX G hn) (F.binds fun _ _ _ _ _ _ us hl => match us, hl with | [_], _ => rfl) (fun cdv A outer s H E hr hgd => b_law_right T cs_Machine___repr__ c_law_rig c_law_sheet c_law_two_right c_law_wrong_right hsys cdv A outer s H E hr hgd)
  exact fn_mk FL sc_law (fun cdv A outer s H E hr hgd => b_law T c_law_pot c_law_right cdv A outer s H E hr hgd)
theorem noLst_of {K : PySem.W.Frag} (c : SaysQ hB fns K) : noLst K = true := by
  obtain ⟨t0, u0⟩ := He.ba c.truth
  obtain ⟨t1, u1⟩ := He.ba u0
  have t2 := u1
  exact (all_at t0 1 rfl)
theorem tabs_of {K : PySem.W.Frag} (c : SaysQ hB fns K) : tabsB K = true := by
  obtain ⟨t0, u0⟩ := He.ba c.truth
  obtain ⟨t1, u1⟩ := He.ba u0
  have t2 := u1
  exact (all_at t0 2 rfl)
end
section
open PySem PySem.Spec PySem.W PySem.Calls PyProof.Rows L2 Lb
theorem run0 (w : World) (os : OsState) : (HandSHeadRun.endF (HandSHeadRun.stepQ (HandSHeadRun.denQ HandSHeadRun.tabQ) R.prog w) 20000 R.prog w os).map (fun s => (HandSHeadRun.looksF R.prog (boot_heap w.params) s.abs, HandSHeadRun.seenQ qv loose (importedModules R.prog.main.body) (fun s => xlAt qv [] s && recOk R.toRowW.records s) s.abs)) = some (true, openGood qv loose) := by
  kernel_rfl
theorem runT (w : World) (os : OsState) : (HandSHeadRun.endF (HandSHeadRun.stepQ (HandSHeadRun.denQ HandSHeadRun.tabQ) R.prog w) 20000 R.prog w os).map (fun s => lookT ads (HandSHeadRun.getT s)) = some true := by
  kernel_rfl
theorem runh0 (w : World) (os : OsState) : (HandSHeadRun.endF (HandSHeadRun.stepQ (HandSHeadRun.denQ HandSHeadRun.tabQ) R.prog w) 20000 R.prog w os).map (fun s => lookF ads hB0 fns0 (HandSHeadRun.getT s)) = some (valQ fns0) := by
  kernel_rfl
theorem runh1 (w : World) (os : OsState) : (HandSHeadRun.endF (HandSHeadRun.stepQ (HandSHeadRun.denQ HandSHeadRun.tabQ) R.prog w) 20000 R.prog w os).map (fun s => lookF ads hB1 fns1 (HandSHeadRun.getT s)) = some (valQ fns1) := by
  kernel_rfl
theorem runh2 (w : World) (os : OsState) : (HandSHeadRun.endF (HandSHeadRun.stepQ (HandSHeadRun.denQ HandSHeadRun.tabQ) R.prog w) 20000 R.prog w os).map (fun s => lookF ads hB2 fns2 (HandSHeadRun.getT s)) = some (valQ fns2) := by
  kernel_rfl
theorem run (w : World) : HandSHeadRun.RunEq R qv hk ob 20000 loose w := fun os => run_join (run0 w os) (runQ_tab (runT w os) (runQ_and (runh0 w os) (runQ_and (runh1 w os) (runh2 w os))))
end
end Law
open PySem PySem.W PyProof.Rows in
theorem PySem.Challenge.cw_loosebeats_k15_whole_reactions_that_agre_holds : PySem.Challenge.rw_loosebeats_k15_whole_reactions_that_agre.Holds := by
  w_on; o_law
  refine HandSHeadRun.head_any (r := Law.R) (q := Law.qv) (H := Law.hk) (ob := Law.ob) (M := 20000) (loose := Law.loose) (d := HandSHeadRun.topDef Law.R.prog 59) (kwd := []) Law.ob_eq
    (by kernel_rfl) (fun s => by kernel_rfl) Law.run (by kernel_rfl) (by kernel_rfl) (by kernel_rfl) (by rfl) (by first | assumption | decide +kernel) (by decide +kernel) ⟨rfl, rfl, rfl, rfl, rfl, by decide +kernel⟩ ?hw ?hc
  case hw => w_witness2
  case hc =>
    refine Lb.walkQ (l := PySem.Challenge.rw_loosebeats_k15_whole_reactions_that_agre) (k := 14) (b := Law.hB) (fn := Law.fns) (x := "_law_script") (f := Law.f_law) rfl (by kernel_rfl) (by decide +kernel) ⟨rfl, by decide, by decide⟩ (fun K => Law.noLst_of) (fun K => Law.tabs_of) (fun _ _ Y => Y) ?F Law.pure_law
    intro w mg fa h K KX c G hmg0
    have hmg : mg ("law" : PySem.Str) = some (.ref fa) := by
      have e : (HandSHeadRun.topDef Law.R.prog 59).name = ("law" : PySem.Str) := by kernel_rfl
      rw [← e]
      exact hmg0
    exact Law.the_law KX G (P := PySem.Challenge.rw_loosebeats_k15_whole_reactions_that_agre.prog) (w := w) c hmg
